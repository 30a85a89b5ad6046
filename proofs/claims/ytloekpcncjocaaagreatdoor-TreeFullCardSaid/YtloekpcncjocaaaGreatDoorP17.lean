/- Elder texts, cut down and merged (17). -/
import Derived.Test.YtloekpcncjocaaaGreatDoorP16
import Derived.Test.YtloekpcncjocaaaGreatDoorP9
import Derived.Test.YtloekpcncjocaaaGreatDoorP15
import Derived.Test.YtloekpcncjocaaaGreatDoorP13
import Derived.Test.YtloekpcncjocaaaGreatDoorPTk
set_option maxRecDepth 100000
set_option maxHeartbeats 8000000
namespace Go.Proofs.YtloekpcncjocaaaGreatDoor
namespace Tr
abbrev bt:=List (Tx×Tx)
def put (l:bt) (key v:Tx):bt:=l.filter (fun p=>lt p.1 key)++(key,v)::l.filter (fun p=>lt key p.1)
def del (l:bt) (key:Tx):bt:=l.filter (fun p=>p.1 !=key)
def got (l:bt) (key:Tx):Option Tx:=(l.find? fun p=>p.1==key).map (·.2)
abbrev aP (l:bt):Prop:=l.Pairwise fun a b=>lt a.1 b.1=true
theorem filter_all {l:bt} {f:Tx×Tx→Bool} (h:∀p∈l,f p=true):l.filter f=l:=List.filter_eq_self.2 h
theorem gW {l:bt} {f:Tx×Tx→Bool} (h:∀p∈l,f p=false):l.filter f=[]:=List.filter_eq_nil_iff.2 fun p hp=>by rw[h p hp];decide
section
variable {pre lf post:bt} {key v:Tx}
theorem yj (h1:∀p∈pre,lt p.1 key=true) (h2:∀p∈post,lt key p.1=true):put (pre++lf++post) key v=pre++put lf key v++post:=by
 unfold put
 rw[List.filter_append,List.filter_append,List.filter_append,List.filter_append,filter_all h1,gW (l:=post) (f:=fun p=>lt p.1 key) fun p hp=>lt_asymm (h2 p hp),gW (l:=pre) (f:=fun p=>lt key p.1) fun p hp=>lt_asymm (h1 p hp),filter_all h2]
 simp
theorem Le (h1:∀p∈pre,lt p.1 key=true) (h2:∀p∈post,lt key p.1=true):del (pre++lf++post) key=pre++del lf key++post:=by
 unfold del
 rw[List.filter_append,List.filter_append,filter_all (l:=pre) fun p hp=>bne_iff_ne.2 (ne_of_lt (h1 p hp)),filter_all (l:=post) fun p hp=>bne_iff_ne.2 (ne_of_lt (h2 p hp)).symm]
theorem lF {l:bt} (h:∀p∈l,p.1≠key):got l key=none:=by
 unfold got
 rw[List.find?_eq_none.2 fun p hp=>by simpa using h p hp]
 rfl
theorem j3 {a b:bt} (h:∀p∈a,p.1≠key):got (a++b) key=got b key:=by
 unfold got
 rw[List.find?_append,List.find?_eq_none.2 fun p hp=>by simpa using h p hp]
 rfl
theorem wC {a b:bt} (h:∀p∈b,p.1≠key):got (a++b) key=got a key:=by
 have hb:b.find? (fun p=>p.1==key)=none:=List.find?_eq_none.2 fun p hp=>by simpa using h p hp
 unfold got
 rw[List.find?_append,hb,Option.or_none]
theorem Dn (h1:∀p∈pre,lt p.1 key=true) (h2:∀p∈post,lt key p.1=true):got (pre++lf++post) key=got lf key:=by
 rw[wC fun p hp=>(ne_of_lt (h2 p hp)).symm,j3 fun p hp=>ne_of_lt (h1 p hp)]
theorem Cr (h:aP lf):lf.takeWhile (fun p=>lt p.1 key)=lf.filter (fun p=>lt p.1 key)∧lf.dropWhile (fun p=>lt p.1 key)=lf.filter (fun p=> !lt p.1 key):=by
 induction lf with
 |nil=>exact⟨rfl,rfl⟩
 |cons a l ih=>
  obtain⟨ha,hl⟩:=List.pairwise_cons.1 h
  cases e:lt a.1 key with
  |true=>
   have:=ih hl
   rw[List.takeWhile_cons,List.dropWhile_cons,List.filter_cons,List.filter_cons]
   simp only[e,if_true,Bool.not_true,Bool.false_eq_true,if_false]
   exact⟨by rw[this.1],this.2⟩
  |false=>
   have hno:∀p∈l,lt p.1 key=false:=fun p hp=>by
    cases e2:lt p.1 key with
    |false=>rfl
    |true=>have:=lt_trans (ha p hp) e2;rw[e] at this;cases this
   rw[List.takeWhile_cons,List.dropWhile_cons,List.filter_cons,List.filter_cons]
   simp only[e,if_false,Bool.not_false,if_true,Bool.false_eq_true]
   refine⟨(gW hno).symm, ?_⟩
   rw[filter_all (l:=l) fun p hp=>by rw[hno p hp];rfl]
theorem gX (h:aP lf) {p:Nat} (hp:p=(lf.takeWhile fun x=>lt x.1 key).length):lf.take p=lf.filter (fun x=>lt x.1 key)∧lf.drop p=lf.filter (fun x=> !lt x.1 key):=by
 obtain⟨h1,h2⟩:=Cr (key:=key) h
 have e:lf=lf.takeWhile (fun x=>lt x.1 key)++lf.dropWhile (fun x=>lt x.1 key):=(List.takeWhile_append_dropWhile).symm
 have hg:∀A B:bt,lf=A++B→lf.take A.length=A∧lf.drop A.length=B:=by
  rintro A B rfl
  exact⟨List.take_left,List.drop_left⟩
 obtain⟨g1,g2⟩:=hg _ _ e
 rw[←hp] at g1 g2
 exact⟨g1.trans h1,g2.trans h2⟩
theorem IM (h:aP lf) {p:Nat} (hp:p=(lf.takeWhile fun x=>lt x.1 key).length) (hn:∀x∈lf,x.1≠key):lf.take p++(key,v)::lf.drop p=put lf key v:=by
 obtain⟨h1,h2⟩:=gX h hp
 unfold put
 rw[h1,h2]
 congr 2
 refine List.filter_congr fun x hx=> ?_
 cases e:lt key x.1 with
 |true=>rw[lt_asymm e];rfl
 |false=>
  cases e2:lt x.1 key with
  |true=>rfl
  |false=>exact absurd (ff _ _ e2 e) (hn x hx)
theorem tZ (h:aP lf) {p:Nat} (hp:p=(lf.takeWhile fun x=>lt x.1 key).length) (hl:p<lf.length) (hk:(lf[p]).1=key):lf.drop (p+1)=lf.filter (fun x=>lt key x.1)∧lf.drop p=lf[p]::lf.drop (p+1):=by
 obtain⟨h1,h2⟩:=gX h hp
 have hd:lf.drop p=lf[p]::lf.drop (p+1):=List.drop_eq_getElem_cons hl
 refine⟨?_,hd⟩
 have hr:(lf.drop p).Pairwise fun a b=>lt a.1 b.1=true:=h.sublist (List.drop_sublist _ _)
 rw[hd] at hr
 have h3:=(List.pairwise_cons.1 hr).1
 have e:lf=lf.take p++lf[p]::lf.drop (p+1):=by rw[←hd,List.take_append_drop]
 conv=>rhs;rw[e]
 rw[List.filter_append,List.filter_cons,h1,gW (l:=lf.filter _) (f:=fun x=>lt key x.1) fun x hx=>lt_asymm (by simpa using (List.mem_filter.1 hx).2),hk,lt_irrefl]
 simp only[Bool.false_eq_true,if_false,List.nil_append]
 exact (filter_all fun x hx=>by rw[←hk];exact h3 x hx).symm
theorem IP (h:aP lf) {p:Nat} (hp:p=(lf.takeWhile fun x=>lt x.1 key).length) (hl:p<lf.length) (hk:(lf[p]).1=key):lf.set p (key,v)=put lf key v:=by
 obtain⟨h1,h2⟩:=tZ h hp hl hk
 unfold put
 rw[←h1,←(gX h hp).1,List.set_eq_take_append_cons_drop,if_pos hl]
theorem IQ (h:aP lf) {p:Nat} (hp:p=(lf.takeWhile fun x=>lt x.1 key).length) (hl:p<lf.length) (hk:(lf[p]).1=key):lf.take p++lf.drop (p+1)=del lf key:=by
 obtain⟨h1,h2⟩:=tZ h hp hl hk
 have h3:=(gX h hp).1
 unfold del
 have e:lf=lf.take p++lf[p]::lf.drop (p+1):=by rw[←h2,List.take_append_drop]
 conv=>rhs;rw[e]
 rw[List.filter_append,List.filter_cons,hk]
 simp only[bne_self_eq_false,Bool.false_eq_true,if_false]
 rw[filter_all (l:=lf.take p) fun x hx=>bne_iff_ne.2 (ne_of_lt (by rw[h3] at hx;simpa using (List.mem_filter.1 hx).2)),filter_all (l:=lf.drop (p+1)) fun x hx=>bne_iff_ne.2 (ne_of_lt (by rw[h1] at hx;simpa using (List.mem_filter.1 hx).2)).symm]
theorem Au (h:aP lf) {p:Nat} (hp:p=(lf.takeWhile fun x=>lt x.1 key).length) (hl:p<lf.length) (hk:(lf[p]).1=key):got lf key=some (lf[p]).2:=by
 obtain⟨_,h2⟩:=tZ h hp hl hk
 have h3:=(gX h hp).1
 have e:lf=lf.take p++lf[p]::lf.drop (p+1):=by rw[←h2,List.take_append_drop]
 have e2:got lf key=got (lf.take p++lf[p]::lf.drop (p+1)) key:=by rw[←e]
 rw[e2,j3 fun x hx=>ne_of_lt (by rw[h3] at hx;simpa using (List.mem_filter.1 hx).2)]
 unfold got
 rw[List.find?_cons,show (lf[p].1==key)=true from by rw[hk];simp]
 rfl
theorem IU {l:bt} (h:aP l) (hm:(key,v)∈l):put l key v=l:=by
 obtain⟨a,b,rfl⟩:=List.append_of_mem hm
 have h1:=List.pairwise_append.1 h
 have h2:=List.pairwise_cons.1 h1.2.1
 unfold put
 rw[List.filter_append,List.filter_append,List.filter_cons,List.filter_cons]
 simp only[lt_irrefl,Bool.false_eq_true,if_false]
 rw[filter_all (l:=a) fun p hp=>h1.2.2 p hp (key,v) List.mem_cons_self,gW (l:=b) (f:=fun p=>lt p.1 key) fun p hp=>lt_asymm (h2.1 p hp),gW (l:=a) (f:=fun p=>lt key p.1) fun p hp=>lt_asymm (h1.2.2 p hp (key,v) List.mem_cons_self),filter_all h2.1]
 simp
theorem Ord.put {lo:Tx} {h:Option Tx} {l:bt} (o:Ord lo h l) (h1:le lo key) (h2:qB key h) (h3:key.length≤96) (h4:v.length≤56):Ord lo h (put l key v):=by
 have hm:∀p∈Tr.put l key v,p∈l∨p=(key,v):=fun p hp=>by
  unfold Tr.put at hp
  rcases List.mem_append.1 hp with hp|hp
  ·exact .inl (List.mem_filter.1 hp).1
  ·rcases List.mem_cons.1 hp with rfl|hp
   ·exact .inr rfl
   ·exact .inl (List.mem_filter.1 hp).1
 refine⟨?_,fun p hp=> ?_,fun p hp=> ?_,fun p hp=> ?_,fun p hp=> ?_⟩
 ·unfold Tr.put
  refine List.pairwise_append.2 ⟨o.iZ.sublist List.filter_sublist,List.pairwise_cons.2 ⟨fun p hp=>by simpa using (List.mem_filter.1 hp).2,o.iZ.sublist List.filter_sublist⟩,fun p hp q hq=> ?_⟩
  have e1:lt p.1 key=true:=by simpa using (List.mem_filter.1 hp).2
  rcases List.mem_cons.1 hq with rfl|hq
  ·exact e1
  ·exact lt_trans e1 (by simpa using (List.mem_filter.1 hq).2)
 ·rcases hm p hp with hp|rfl
  ·exact o.low p hp
  ·exact h1
 ·rcases hm p hp with hp|rfl
  ·exact o.high p hp
  ·exact h2
 ·rcases hm p hp with hp|rfl
  ·exact o.keys p hp
  ·exact h3
 ·rcases hm p hp with hp|rfl
  ·exact o.vals p hp
  ·exact h4
theorem Ord.del {lo:Tx} {h:Option Tx} {l:bt} (o:Ord lo h l):Ord lo h (del l key):=
 ⟨o.iZ.sublist List.filter_sublist,fun p hp=>o.low p (List.mem_filter.1 hp).1,fun p hp=>o.high p (List.mem_filter.1 hp).1,fun p hp=>o.keys p (List.mem_filter.1 hp).1,fun p hp=>o.vals p (List.mem_filter.1 hp).1⟩
theorem Dp {h:Option Tx}:∀{l:bt} {lo:Tx},Ord lo h l→bT (Ok 0) (cut 0) h (l:List (Tx×E 0))
 |[],_,_=>trivial
 |[a],_,o=>⟨o.vals a List.mem_cons_self,o.high a List.mem_cons_self⟩
 |a::b::r,lo,o=>by
  have h1:=List.pairwise_cons.1 o.iZ
  have o':Ord lo h (b::r):=⟨h1.2,fun p hp=>o.low p (List.mem_cons_of_mem _ hp),fun p hp=>o.high p (List.mem_cons_of_mem _ hp),fun p hp=>o.keys p (List.mem_cons_of_mem _ hp),fun p hp=>o.vals p (List.mem_cons_of_mem _ hp)⟩
  exact⟨⟨o.vals a List.mem_cons_self,h1.1 b List.mem_cons_self⟩,⟨h1.1 b List.mem_cons_self,o.keys b (List.mem_cons_of_mem _ List.mem_cons_self),trivial⟩,Dp o'⟩
theorem IV {lo:Tx} {h:Option Tx} {l:bt} (o:Ord lo h l):Rw 0 lo h (l:List (Tx×E 0)):=by
 refine⟨fun p hp=> ?_, ?_⟩
 ·rw[if_pos rfl]
  exact⟨o.low p (List.mem_of_mem_head? hp),o.keys p (List.mem_of_mem_head? hp)⟩
 ·exact (show bT (Ok 0) (cut 0) h (pI (k:=0) lo l) from Dp o)
theorem qg (f:Tx×Tx→Bool):∀l:bt,sz 0 ((l.filter f:bt):List (Tx×E 0))≤sz 0 (l:List (Tx×E 0))
 |[]=>Nat.le_refl _
 |a::l=>by
  have ih:=qg f l
  rw[List.filter_cons]
  split
  ·show gh 0 a+sz 0 _≤gh 0 a+sz 0 _
   omega
  ·show _≤gh 0 a+sz 0 _
   omega
theorem IW (f g:Tx×Tx→Bool) (h:∀p,¬(f p=true∧g p=true)):∀l:bt,sz 0 ((l.filter f:bt):List (Tx×E 0))+sz 0 ((l.filter g:bt):List (Tx×E 0))≤sz 0 (l:List (Tx×E 0))
 |[]=>Nat.le_refl _
 |a::l=>by
  have ih:=IW f g h l
  have hl:sz 0 ((a::l:bt):List (Tx×E 0))=gh 0 a+sz 0 (l:List (Tx×E 0)):=rfl
  rw[List.filter_cons,List.filter_cons,hl]
  have hc:∀r:bt,sz 0 ((a::r:bt):List (Tx×E 0))=gh 0 a+sz 0 (r:List (Tx×E 0)):=fun _=>rfl
  cases e1:f a<;>cases e2:g a
  ·simp only[Bool.false_eq_true,if_false];omega
  ·simp only[Bool.false_eq_true,if_false,if_true,hc];omega
  ·simp only[Bool.false_eq_true,if_false,if_true,hc];omega
  ·exact absurd ⟨e1,e2⟩ (h a)
theorem IX (l:bt):sz 0 (put l key v:List (Tx×E 0))≤sz 0 (l:List (Tx×E 0))+(2+key.length+v.length):=by
 have h1:=IW (fun p=>lt p.1 key) (fun p=>lt key p.1) (fun p h=>by have:=lt_asymm h.1;rw[h.2] at this;cases this) l
 have h2:sz 0 (put l key v:List (Tx×E 0))=sz 0 ((l.filter (fun p=>lt p.1 key):bt):List (Tx×E 0))+((2+key.length+v.length)+sz 0 ((l.filter (fun p=>lt key p.1):bt):List (Tx×E 0))):=by
  exact b9 0 (l.filter (fun p=>lt p.1 key):bt) ((key,v)::l.filter (fun p=>lt key p.1):bt)
 omega
end
end Tr
end Go.Proofs.YtloekpcncjocaaaGreatDoor
namespace Go.Proofs.YtloekpcncjocaaaGreatDoor
open Go.RowKit Lib
def cQ:Elem (Tr.Tx×Tr.Tx):=⟨fun p=>[.string (bs p.1),.string (bs p.2)],2,by decide,fun _=>rfl,by
 intro a u hu
 simp only[List.mem_cons,List.not_mem_nil,or_false] at hu
 rcases hu with rfl|rfl<;>rfl⟩
theorem pe:cI Tryz.prog 36 63 cQ.size:=cI.of (size:=2) (bytes:=32) (z:=.agg #[.string .empty,.string .empty]) Tryz.underlying36 (by kernel_rfl) rfl (by decide)
abbrev bR (B:Nat) (w:World) (v:Value) (l:Tr.bt):Prop:=Own cQ 63 B w v l
def aX (lim:Int) (lo hi:Tr.Tx) (s:Tr.bt) (p:Tr.Tx×Tr.Tx):Tr.bt:=if (s.length:Int)<lim∧hasB lo hi p.1=true then s++[p] else s
structure Sn (cb:Nat) (w0:World) (v0:Value) (s:Tr.bt) (v:Value) (X:World):Prop where
 blk:aG X cb 36 [v]
 own:bR 0 X v s
 but:aj (fun b=>b=cb∨v0.ownBlock=some b) w0 X
 new:v.ownBlock=v0.ownBlock∨∀b,v.ownBlock=some b→w0.heap.size≤b
theorem Sn.below {cb:Nat} {w0 X X':World} {v0 v:Value} {s:Tr.bt} (h:Sn cb w0 v0 s v X) (hb:Below X.heap.size X X'):Sn cb w0 v0 s v X':=
 ⟨h.blk.below hb h.blk.lt,Own.below h.own hb (Nat.le_refl _),h.but.trans (aj.aq hb (fun _=>False)) (fun _ _ f=>f.elim),h.new⟩
theorem Sn.lit {cb:Nat} {w0 X:World} {v0 v:Value} {s:Tr.bt} (h:Sn cb w0 v0 s v X) (kx vx:List UInt8):Sn cb w0 v0 s v (X.alloc (.cells #[.string (bs kx),.string (bs vx)] 63))∧aJ cQ (X.alloc (.cells #[.string (bs kx),.string (bs vx)] 63)) X.heap.size 0 [(kx,vx)]:=
 ⟨h.below ((Below.refl _ X).alloc (Nat.le_refl _) _),aJ.dI (aG.new X _ _) rfl⟩
structure Sa (cb:Nat) (w0:World) (v0:Value) (s:Tr.bt) (v v':Value) (X:World):Prop where
 blk:aG X cb 36 [v]
 own:bR 0 X v' s
 but:aj (fun b=>b=cb∨v0.ownBlock=some b) w0 X
 new:v'.ownBlock=v0.ownBlock∨∀b,v'.ownBlock=some b→w0.heap.size≤b
theorem Sn.app {cb:Nat} {w0 X X':World} {v0 v v':Value} {s s':Tr.bt} (h:Sn cb w0 v0 s v X) (ho:bR 0 X' v' s') (hg:X.grownBy X' v.ownBlock) (hw:v'.ownBlock=v.ownBlock∨∀k,v'.ownBlock=some k→X.heap.size≤k):Sa cb w0 v0 s' v v' X':=by
 have hb:aj (fun k=>v.ownBlock=some k) X X':=(aj.refl _ X).grown hg fun k e _=>e
 have h0:=h.but.size
 refine⟨h.blk.but hb (Own.bK h.own h.blk (by decide)),ho,h.but.trans hb fun b hlt e=> ?_, ?_⟩
 ·rcases h.new with h1|h1
  ·exact .inr (by rw[←h1];exact e)
  ·have:=h1 b e;omega
 ·rcases hw with e|e
  ·rw[e];exact h.new
  ·exact .inr fun b aC=>by have:=e b aC;omega
theorem Sa.fin {cb:Nat} {w0 X:World} {v0 v v':Value} {s:Tr.bt} (h:Sa cb w0 v0 s v v' X):Sn cb w0 v0 s v' (X.setCell ⟨cb,0,none⟩ v'):=
 ⟨h.blk.set 0 _,Own.but h.own ((aj.refl (fun b=>b=cb) X).setCell _ _ fun _=>rfl) (fun g hg e=>Own.bK h.own h.blk (by decide) (by rw[hg,e])),h.but.setCell _ _ fun _=>.inl rfl,h.new⟩
structure Sb (cb lb kb q:Nat) (lo hi:ByteArray) (lim:Int) (n:NV) (w0:World) (v0:Value):Prop where
 lim:w0.cell? ⟨lb,0,none⟩=some (.int .i64 lim)
 ks:aG w0 kb 88 [.string lo,.string hi]
 nd:Nd w0 q n
 n1:∀b,(b=cb∨v0.ownBlock=some b)→b≠lb∧b≠kb∧b≠q∧b≠n.rg
theorem Dq {N i:Nat} {its:List It} {s s1:Tr.bt} {lim:Int} {lo hi:Tr.Tx} (hN:N=its.length) (hi1:i<N) (h:s1=((its.take i).map fun i=>((i.key,i.val):Tr.Tx×Tr.Tx)).foldl (aX lim lo hi) s) (hc:¬(s1.length:Int)<lim∨hasB lo hi (its[i]'(by omega)).key=false):s1=((its.take (i+1)).map fun i=>((i.key,i.val):Tr.Tx×Tr.Tx)).foldl (aX lim lo hi) s:=by
 rw[List.take_succ_eq_append_getElem (by omega),List.map_append,List.foldl_append,←h]
 show s1=aX lim lo hi s1 _
 unfold aX
 rw[if_neg]
 rintro⟨h1,h2⟩
 rcases hc with hc|hc
 ·exact hc h1
 ·rw[hc] at h2;cases h2
theorem IY {N i:Nat} {its:List It} {s s1:Tr.bt} {lim:Int} {lo hi:Tr.Tx} (hN:N=its.length) (hi1:i<N) (h:s1=((its.take i).map fun i=>((i.key,i.val):Tr.Tx×Tr.Tx)).foldl (aX lim lo hi) s) (h1:(s1.length:Int)<lim) (h2:hasB lo hi (its[i]'(by omega)).key=true):s1++[((its[i]'(by omega)).key,(its[i]'(by omega)).val)]=((its.take (i+1)).map fun i=>((i.key,i.val):Tr.Tx×Tr.Tx)).foldl (aX lim lo hi) s:=by
 rw[List.take_succ_eq_append_getElem (by omega),List.map_append,List.foldl_append,←h]
 show _=aX lim lo hi s1 _
 unfold aX
 rw[if_pos ⟨h1,h2⟩]
theorem IZ (w0:World) (cb lb kb q:Nat) (v0:Value) (s:Tr.bt) (lo hi:List UInt8) (lim:Int) (n:NV) (hB:Sb cb lb kb q (bs lo) (bs hi) lim n w0 v0) (hS:Sn cb w0 v0 s v0 w0) (hs:s.length≤100000000):
  Calls Tryz.prog 39 #[ptr q,ptr cb,ptr lb,ptr kb] w0 fun e w'=>∃v s',e=.returned (.bool (decide ((s'.length:Int)<lim)))∧s'=(if n.level=0 then (n.its.map fun i=>((i.key,i.val):Tr.Tx×Tr.Tx)).foldl (aX lim lo hi) s else s)∧Sn cb w0 v0 s' v w':=by
 have HB:=aa hB
 have HS:=aa hS
 have Be:=hB.nd.small.len
 have fK:=aa (g9 hB.nd)
 have YY:=aa Be
 have c0:=hS.blk.cell (j:=0) rfl
 clear hB hS Be c0
 unfold ptr at fK ⊢
 by_cases h0:n.level=0
 ·simp only[h0,if_true] at fK ⊢
  obtain⟨N,hN⟩:∃N,N=n.its.length:=⟨_,rfl⟩
  have G8:(N:Int)≤400:=by have:=YY.out;omega
  have HN:=aa hN
  rw[←hN] at fK
  have XW:=aa (show N≤n.cap by rw[hN];exact HB.out.nd.small.cap.1)
  have aaJ:(N:Int)≤n.cap:=by have:=XW.out;omega
  clear hN
  go_enter Tryz.func39,Tryz.ntmps39
  go_wp2_with fail
  refine fK.out.mono ?_
  rintro e w1 ⟨rfl,rfl⟩
  go_wp2_with fail
  go_loopw [11] (fun iv wr=>∃(i:Nat) (s1:Tr.bt) (v1:Value),i≤N∧iv=.int .i64 i∧Hid (Sn cb w1 v0 s1 v1 wr∧s1.length≤s.length+i∧s1=((n.its.take i).map fun i=>((i.key,i.val):Tr.Tx×Tr.Tx)).foldl (aX lim lo hi) s)) (fun iv _=>N-(RowKit.intOf iv).toNat)
  case atStart=>exact⟨0,s,v0,Nat.zero_le _,rfl,aa ⟨HS.out,Nat.le_refl _,by rw[List.take_zero];rfl⟩⟩
  case round=>
   obtain⟨i,s1,v1,hi4,rfl,hR⟩:=hrel
   have ig:=hR.out.1.but
   have cl:=ig.cell HB.out.lim (fun h=>(HB.out.n1 _ h).1 rfl)
   have hks:=HB.out.ks.but ig (fun h=>(HB.out.n1 _ h).2.1 rfl)
   have hnd:=HB.out.nd.but ig (fun h=>(HB.out.n1 _ h).2.2.1 rfl) (fun h=>(HB.out.n1 _ h).2.2.2 rfl)
   obtain⟨a1,cp1,JI,hc1⟩:=Own.slice hR.out.1.own
   obtain⟨L1,zC⟩:∃L1,L1=s1.length:=⟨_,rfl⟩
   rw[←zC] at JI hc1
   subst JI
   have JJ:=aa zC
   have cc:=hR.out.1.blk.cell (j:=0) rfl
   have fc:=hR.out.1.blk.frozen 0
   have Wo:(L1:Int)≤100001000:=by have:=hR.out.2.1;have:=YY.out;omega
   have k0:=hks.cell (j:=0) rfl
   have Wp:=hR.out.1.blk.lt
   have RI:=hks.lt
   have Lf:=World.block_lt_of_cell? _ _ cl
   have k1:=hks.cell (j:=1) rfl
   by_cases hlt:i<N
   ·have hI:(i:Int)<N:=by omega
    obtain⟨i0,i1,i2⟩:=aH hnd.row i (by rw[←HN.out];exact hlt)
    obtain⟨kx,jq⟩:∃kx,kx=(n.its[i]'(by rw[←HN.out];exact hlt)).key:=⟨_,rfl⟩
    obtain⟨vx,mS⟩:∃vx,vx=(n.its[i]'(by rw[←HN.out];exact hlt)).val:=⟨_,rfl⟩
    rw[←jq] at i0
    rw[←mS] at i1
    have py:=aa (And.intro jq mS)
    have RJ:=aa (show kx.length≤200∧vx.length≤200 by rw[jq,mS];exact hnd.small.each _ (List.getElem_mem _))
    have Pd:=aa (And.intro hnd hks)
    clear ig hnd hks jq mS hc1 zC
    by_cases hlim:(L1:Int)<lim
    ·go_wp2_with fail
     obtain⟨W,hW⟩:∃W,W=wr.alloc (.cells #[.string (bs kx),.string (bs vx),.pointer (pa (n.its[i]'(by rw[←HN.out];exact hlt)).node)] 95):=⟨_,rfl⟩
     obtain⟨ib,hib⟩:∃ib,ib=wr.heap.size:=⟨_,rfl⟩
     have hbW:Below wr.heap.size wr W:=by rw[hW];exact (Below.refl _ wr).alloc (Nat.le_refl _) _
     have Wq:aG W ib 95 [.string (bs kx),.string (bs vx),.pointer (pa (n.its[i]'(by rw[←HN.out];exact hlt)).node)]:=by rw[hW,hib];exact aG.new wr _ _
     rw[←hW,←hib]
     have YZ:=hR.out.1.below hbW
     refine (kS W lo hi kx).mono ?_
     rintro e w2 ⟨rfl,aC⟩
     have HO:=aa (YZ.below aC)
     have Kj:=Wq.below aC Wq.lt
     have HI:=aa Kj
     have HR:=aa hR.out.2
     have hne:cb≠ib:=by omega
     have j0:=Kj.cell (j:=0) rfl
     have j1:=Kj.cell (j:=1) rfl
     clear hW hib hbW Wq YZ aC Kj hR cc cl k0 k1 i0 i1 i2 fc Wp RI Lf
     generalize FC:(!Tr.lt kx lo&& !(!hi.isEmpty&& !Tr.lt kx hi))=b
     cases b with
     |false=>
      go_wp2_with fail
      go_roundw
      case rel=>exact⟨i+1,s1,_,hlt,by go_num,aa ⟨HO.out,by have:=HR.out.1;omega,Dq HN.out hlt HR.out.2 (.inr (by rw[←py.out.1];exact FC))⟩⟩
      case measure=>simp[RowKit.intOf];omega
     |true=>
      go_wp2_with fail
      go_wp2_with (refine wp_region_held_drew (S:=(fun X=>X.cell? ⟨ib,0,none⟩=some (.string (bs kx))∧X.cell? ⟨ib,1,none⟩=some (.string (bs vx)))) (by kernel_rfl) ?_ (fun aE=> ?_);focus skip;rotate_left;refine Hid.out ?_)
      refine aa ?_
      ·first|trivial|exact⟨j0,j1⟩
      replace HO:=aa (HO.out.below (Below.refl _ _).drew)
      replace HI:=aa (HI.out.drew)
      refine aF 1 aE ?_
      refine aF 2 aE ?_
      refine aF 3 aE ?_
      refine aF 5 aE ?_
      refine aF 6 aE ?_
      refine aF 7 aE ?_
      try simp only[Act.put,List.setIfInBounds_toArray,List.set_cons_succ,List.set_cons_zero]
      refine j7 [0,4] (AllReadyH.cons rfl (fun K hK=> ?_) (j8 fun K hK=> ?_))
      focus
       have c0:=HO.out.blk.cell (j:=0) rfl
       go_simp
       refine hK.out _ _ aE (fun aE=> ?_);clear hK K c0
       refine j7 [4] (j8 fun K hK=> ?_)
       go_simp
       refine (fT (bs kx) _ (by rw[aB];have:=RJ.out;omega)).mono ?_
       rintro e w' ⟨rfl,hb⟩
       replace HO:=aa (HO.out.below hb)
       replace HI:=aa (HI.out.below hb HI.out.lt)
       refine hK.out _ _ ⟨HI.out.cell (j:=0) rfl,HI.out.cell (j:=1) rfl⟩ (fun aE=> ?_);clear hK K hb
       refine j7 [8] (j8 fun K hK=> ?_)
       go_simp
       refine (fT (bs vx) _ (by rw[aB];have:=RJ.out;omega)).mono ?_
       rintro e w' ⟨rfl,hb⟩
       replace HO:=aa (HO.out.below hb)
       replace HI:=aa (HI.out.below hb HI.out.lt)
       refine hK.out _ _ ⟨HI.out.cell (j:=0) rfl,HI.out.cell (j:=1) rfl⟩ (fun aE=> ?_);clear hK K hb
       refine j7 [9] (j8 fun K hK=> ?_)
       go_simp
       refine hK.out _ _ aE (fun aE=> ?_);clear hK K
       refine j7 [10] (j8 fun K hK=> ?_)
       go_simp
       have cB:=aa (HO.out.lit kx vx)
       replace HO:=aa cB.out.1
       have Dr:=aa cB.out.2
       replace HI:=aa (HI.out.alloc (.cells #[.string (bs kx),.string (bs vx)] 63))
       clear cB
       refine hK.out _ _ ⟨HI.out.cell (j:=0) rfl,HI.out.cell (j:=1) rfl⟩ (fun aE=> ?_);clear hK K
       refine j7 [11] (j8 fun K hK=> ?_)
       refine dN (K:=cQ) pe _ _ rfl rfl HO.out.own (Nat.zero_le _) _ 0 1 1 [(kx,vx)] rfl rfl Dr.out (by have:=JJ.out;show s1.length+1≤1000000000;omega) ?_
       intro v5 w5 iB eN vL
       have HA:=aa (HO.out.app iB eN vL)
       replace HI:=aa (HI.out.but ((aj.refl _ _).grown eN (fun k e _=>e)) (Own.bK HO.out.own HI.out (by decide)))
       clear eN vL Dr
       obtain⟨a5,jR,qX,qY⟩:=Own.slice iB
       clear iB HO
       generalize Lh:(s1++[(kx,vx)]).length=N5 at qX qY
       clear Lh qY
       subst qX
       refine hK.out _ _ ⟨HI.out.cell (j:=0) rfl,HI.out.cell (j:=1) rfl⟩ (fun aE=> ?_);clear hK K
       refine j7 [12] (j8 fun K hK=> ?_)
       have c5:=HA.out.blk.cell (j:=0) rfl
       have f5:=HA.out.blk.frozen 0
       go_simp
       have HO:=aa HA.out.fin
       replace HI:=aa (HI.out.but ((aj.refl (fun b=>b=cb) _).setCell ⟨cb,0,none⟩ (.slice a5 N5 jR) fun _=>rfl) fun e=>hne e.symm)
       refine hK.out _ _ ⟨HI.out.cell (j:=0) rfl,HI.out.cell (j:=1) rfl⟩ (fun aE=> ?_);clear hK K c5 f5 HA
      rotate_left
      focus
       go_simp
       refine (fT (bs kx) _ (by rw[aB];have:=RJ.out;omega)).mono ?_
       rintro e w' ⟨rfl,hb⟩
       replace HO:=aa (HO.out.below hb)
       replace HI:=aa (HI.out.below hb HI.out.lt)
       refine hK.out _ _ ⟨HI.out.cell (j:=0) rfl,HI.out.cell (j:=1) rfl⟩ (fun aE=> ?_);clear hK K hb
       refine j7 [0,8] (AllReadyH.cons rfl (fun K hK=> ?_) (j8 fun K hK=> ?_))
       focus
        have c0:=HO.out.blk.cell (j:=0) rfl
        go_simp
        refine hK.out _ _ aE (fun aE=> ?_);clear hK K c0
        refine j7 [8] (j8 fun K hK=> ?_)
        go_simp
        refine (fT (bs vx) _ (by rw[aB];have:=RJ.out;omega)).mono ?_
        rintro e w' ⟨rfl,hb⟩
        replace HO:=aa (HO.out.below hb)
        replace HI:=aa (HI.out.below hb HI.out.lt)
        refine hK.out _ _ ⟨HI.out.cell (j:=0) rfl,HI.out.cell (j:=1) rfl⟩ (fun aE=> ?_);clear hK K hb
        refine j7 [9] (j8 fun K hK=> ?_)
        go_simp
        refine hK.out _ _ aE (fun aE=> ?_);clear hK K
        refine j7 [10] (j8 fun K hK=> ?_)
        go_simp
        have cB:=aa (HO.out.lit kx vx)
        replace HO:=aa cB.out.1
        have Dr:=aa cB.out.2
        replace HI:=aa (HI.out.alloc (.cells #[.string (bs kx),.string (bs vx)] 63))
        clear cB
        refine hK.out _ _ ⟨HI.out.cell (j:=0) rfl,HI.out.cell (j:=1) rfl⟩ (fun aE=> ?_);clear hK K
        refine j7 [11] (j8 fun K hK=> ?_)
        refine dN (K:=cQ) pe _ _ rfl rfl HO.out.own (Nat.zero_le _) _ 0 1 1 [(kx,vx)] rfl rfl Dr.out (by have:=JJ.out;show s1.length+1≤1000000000;omega) ?_
        intro v5 w5 iB eN vL
        have HA:=aa (HO.out.app iB eN vL)
        replace HI:=aa (HI.out.but ((aj.refl _ _).grown eN (fun k e _=>e)) (Own.bK HO.out.own HI.out (by decide)))
        clear eN vL Dr
        obtain⟨a5,jR,qX,qY⟩:=Own.slice iB
        clear iB HO
        generalize Lh:(s1++[(kx,vx)]).length=N5 at qX qY
        clear Lh qY
        subst qX
        refine hK.out _ _ ⟨HI.out.cell (j:=0) rfl,HI.out.cell (j:=1) rfl⟩ (fun aE=> ?_);clear hK K
        refine j7 [12] (j8 fun K hK=> ?_)
        have c5:=HA.out.blk.cell (j:=0) rfl
        have f5:=HA.out.blk.frozen 0
        go_simp
        have HO:=aa HA.out.fin
        replace HI:=aa (HI.out.but ((aj.refl (fun b=>b=cb) _).setCell ⟨cb,0,none⟩ (.slice a5 N5 jR) fun _=>rfl) fun e=>hne e.symm)
        refine hK.out _ _ ⟨HI.out.cell (j:=0) rfl,HI.out.cell (j:=1) rfl⟩ (fun aE=> ?_);clear hK K c5 f5 HA
       rotate_left
       focus
        go_simp
        refine (fT (bs vx) _ (by rw[aB];have:=RJ.out;omega)).mono ?_
        rintro e w' ⟨rfl,hb⟩
        replace HO:=aa (HO.out.below hb)
        replace HI:=aa (HI.out.below hb HI.out.lt)
        refine hK.out _ _ ⟨HI.out.cell (j:=0) rfl,HI.out.cell (j:=1) rfl⟩ (fun aE=> ?_);clear hK K hb
        refine j7 [0,9] (AllReadyH.cons rfl (fun K hK=> ?_) (j8 fun K hK=> ?_))
        focus
         have c0:=HO.out.blk.cell (j:=0) rfl
         go_simp
         refine hK.out _ _ aE (fun aE=> ?_);clear hK K c0
         refine j7 [9] (j8 fun K hK=> ?_)
         go_simp
         refine hK.out _ _ aE (fun aE=> ?_);clear hK K
         refine j7 [10] (j8 fun K hK=> ?_)
         go_simp
         have cB:=aa (HO.out.lit kx vx)
         replace HO:=aa cB.out.1
         have Dr:=aa cB.out.2
         replace HI:=aa (HI.out.alloc (.cells #[.string (bs kx),.string (bs vx)] 63))
         clear cB
         refine hK.out _ _ ⟨HI.out.cell (j:=0) rfl,HI.out.cell (j:=1) rfl⟩ (fun aE=> ?_);clear hK K
         refine j7 [11] (j8 fun K hK=> ?_)
         refine dN (K:=cQ) pe _ _ rfl rfl HO.out.own (Nat.zero_le _) _ 0 1 1 [(kx,vx)] rfl rfl Dr.out (by have:=JJ.out;show s1.length+1≤1000000000;omega) ?_
         intro v5 w5 iB eN vL
         have HA:=aa (HO.out.app iB eN vL)
         replace HI:=aa (HI.out.but ((aj.refl _ _).grown eN (fun k e _=>e)) (Own.bK HO.out.own HI.out (by decide)))
         clear eN vL Dr
         obtain⟨a5,jR,qX,qY⟩:=Own.slice iB
         clear iB HO
         generalize Lh:(s1++[(kx,vx)]).length=N5 at qX qY
         clear Lh qY
         subst qX
         refine hK.out _ _ ⟨HI.out.cell (j:=0) rfl,HI.out.cell (j:=1) rfl⟩ (fun aE=> ?_);clear hK K
         refine j7 [12] (j8 fun K hK=> ?_)
         have c5:=HA.out.blk.cell (j:=0) rfl
         have f5:=HA.out.blk.frozen 0
         go_simp
         have HO:=aa HA.out.fin
         replace HI:=aa (HI.out.but ((aj.refl (fun b=>b=cb) _).setCell ⟨cb,0,none⟩ (.slice a5 N5 jR) fun _=>rfl) fun e=>hne e.symm)
         refine hK.out _ _ ⟨HI.out.cell (j:=0) rfl,HI.out.cell (j:=1) rfl⟩ (fun aE=> ?_);clear hK K c5 f5 HA
        rotate_left
        focus
         go_simp
         refine hK.out _ _ aE (fun aE=> ?_);clear hK K
         refine j7 [0,10] (AllReadyH.cons rfl (fun K hK=> ?_) (j8 fun K hK=> ?_))
         focus
          have c0:=HO.out.blk.cell (j:=0) rfl
          go_simp
          refine hK.out _ _ aE (fun aE=> ?_);clear hK K c0
          refine j7 [10] (j8 fun K hK=> ?_)
          go_simp
          have cB:=aa (HO.out.lit kx vx)
          replace HO:=aa cB.out.1
          have Dr:=aa cB.out.2
          replace HI:=aa (HI.out.alloc (.cells #[.string (bs kx),.string (bs vx)] 63))
          clear cB
          refine hK.out _ _ ⟨HI.out.cell (j:=0) rfl,HI.out.cell (j:=1) rfl⟩ (fun aE=> ?_);clear hK K
          refine j7 [11] (j8 fun K hK=> ?_)
          refine dN (K:=cQ) pe _ _ rfl rfl HO.out.own (Nat.zero_le _) _ 0 1 1 [(kx,vx)] rfl rfl Dr.out (by have:=JJ.out;show s1.length+1≤1000000000;omega) ?_
          intro v5 w5 iB eN vL
          have HA:=aa (HO.out.app iB eN vL)
          replace HI:=aa (HI.out.but ((aj.refl _ _).grown eN (fun k e _=>e)) (Own.bK HO.out.own HI.out (by decide)))
          clear eN vL Dr
          obtain⟨a5,jR,qX,qY⟩:=Own.slice iB
          clear iB HO
          generalize Lh:(s1++[(kx,vx)]).length=N5 at qX qY
          clear Lh qY
          subst qX
          refine hK.out _ _ ⟨HI.out.cell (j:=0) rfl,HI.out.cell (j:=1) rfl⟩ (fun aE=> ?_);clear hK K
          refine j7 [12] (j8 fun K hK=> ?_)
          have c5:=HA.out.blk.cell (j:=0) rfl
          have f5:=HA.out.blk.frozen 0
          go_simp
          have HO:=aa HA.out.fin
          replace HI:=aa (HI.out.but ((aj.refl (fun b=>b=cb) _).setCell ⟨cb,0,none⟩ (.slice a5 N5 jR) fun _=>rfl) fun e=>hne e.symm)
          refine hK.out _ _ ⟨HI.out.cell (j:=0) rfl,HI.out.cell (j:=1) rfl⟩ (fun aE=> ?_);clear hK K c5 f5 HA
         rotate_left
         focus
          go_simp
          have cB:=aa (HO.out.lit kx vx)
          replace HO:=aa cB.out.1
          have Dr:=aa cB.out.2
          replace HI:=aa (HI.out.alloc (.cells #[.string (bs kx),.string (bs vx)] 63))
          clear cB
          refine hK.out _ _ ⟨HI.out.cell (j:=0) rfl,HI.out.cell (j:=1) rfl⟩ (fun aE=> ?_);clear hK K
          refine j7 [0] (j8 fun K hK=> ?_)
          have c0:=HO.out.blk.cell (j:=0) rfl
          go_simp
          refine hK.out _ _ aE (fun aE=> ?_);clear hK K c0
          refine j7 [11] (j8 fun K hK=> ?_)
          refine dN (K:=cQ) pe _ _ rfl rfl HO.out.own (Nat.zero_le _) _ 0 1 1 [(kx,vx)] rfl rfl Dr.out (by have:=JJ.out;show s1.length+1≤1000000000;omega) ?_
          intro v5 w5 iB eN vL
          have HA:=aa (HO.out.app iB eN vL)
          replace HI:=aa (HI.out.but ((aj.refl _ _).grown eN (fun k e _=>e)) (Own.bK HO.out.own HI.out (by decide)))
          clear eN vL Dr
          obtain⟨a5,jR,qX,qY⟩:=Own.slice iB
          clear iB HO
          generalize Lh:(s1++[(kx,vx)]).length=N5 at qX qY
          clear Lh qY
          subst qX
          refine hK.out _ _ ⟨HI.out.cell (j:=0) rfl,HI.out.cell (j:=1) rfl⟩ (fun aE=> ?_);clear hK K
          refine j7 [12] (j8 fun K hK=> ?_)
          have c5:=HA.out.blk.cell (j:=0) rfl
          have f5:=HA.out.blk.frozen 0
          go_simp
          have HO:=aa HA.out.fin
          replace HI:=aa (HI.out.but ((aj.refl (fun b=>b=cb) _).setCell ⟨cb,0,none⟩ (.slice a5 N5 jR) fun _=>rfl) fun e=>hne e.symm)
          refine hK.out _ _ ⟨HI.out.cell (j:=0) rfl,HI.out.cell (j:=1) rfl⟩ (fun aE=> ?_);clear hK K c5 f5 HA
      all_goals
       refine wpAnyH_done (by kernel_rfl) ?_ _
       try simp only[Act.put,List.setIfInBounds_toArray,List.set_cons_succ,List.set_cons_zero]
       go_wp2_with fail
       go_roundw
       case rel=>exact⟨i+1,_,_,hlt,by go_num,aa ⟨HO.out,by have:=HR.out.1;rw[List.length_append,List.length_singleton];omega,by have e1:=py.out.1;have e2:=py.out.2;have:=IY HN.out hlt HR.out.2 (by rw[←JJ.out];exact hlim) (by rw[←e1];exact FC);rw[←e1,←e2] at this;exact this⟩⟩
       case measure=>simp[RowKit.intOf];omega
    ·go_wp2_with fail
     go_roundw
     case rel=>exact⟨i+1,s1,_,hlt,by go_num,aa ⟨hR.out.1.below ((Below.refl _ wr).alloc (Nat.le_refl _) _),by have:=hR.out.2.1;omega,Dq HN.out hlt hR.out.2.2 (.inl (by rw[←JJ.out];exact hlim))⟩⟩
     case measure=>simp[RowKit.intOf];omega
   ·obtain rfl:i=N:=by omega
    have hI:¬(i:Int)<i:=by omega
    go_wp2_with fail
    go_ret
    refine⟨_,s1, ?_, ?_,hR.out.1⟩
    ·rw[←JJ.out];rfl
    ·have h5:=hR.out.2.2
     rw[List.take_of_length_le (by rw[←HN.out];exact Nat.le_refl _)] at h5
     exact h5
 ·simp only[h0,if_false] at fK ⊢
  obtain⟨a1,cp1,JI,hc1⟩:=Own.slice HS.out.own
  obtain⟨L1,zC⟩:∃L1,L1=s.length:=⟨_,rfl⟩
  rw[←zC] at JI hc1
  subst JI
  have JJ:=aa zC
  have Wo:(L1:Int)≤100001000:=by omega
  have cc:=HS.out.blk.cell (j:=0) rfl
  have cl:=HB.out.lim
  clear zC hc1
  go_enter Tryz.func39,Tryz.ntmps39
  go_wp2_with fail
  refine fK.out.mono ?_
  rintro e w1 ⟨rfl,rfl⟩
  go_wp2_with fail
  go_loopw [11] (fun iv wr=>iv=.int .i64 0∧Hid (wr=w1)) (fun _ _=>0)
  case atStart=>exact⟨rfl,aa rfl⟩
  case round=>
   obtain⟨rfl,hwr⟩:=hrel
   have hwr:=hwr.out
   subst hwr
   go_wp2_with fail
   go_ret
   exact⟨_,s,by rw[←JJ.out];rfl,rfl,HS.out⟩
section
variable {w:World} {tb:Nat}
theorem uW {lo hi:ByteArray} {fn:Nat} {caps:Array Value} {G:World→Prop}
  (hR:∀W,W=w.alloc (.cells #[.string lo,.string hi] 88)→Calls Tryz.prog 57 #[ptr tb] W fun e X=>(e=.returned (.tuple #[.pointer none,.int .i64 0])∧G X)∨
   ∃q,e=.returned (.tuple #[ptr q,.int .i64 0])∧X.cell? ⟨w.heap.size,0,none⟩=some (.string lo)∧X.cell? ⟨w.heap.size,1,none⟩=some (.string hi)∧
    Calls Tryz.prog 71 #[ptr tb,ptr q,.agg #[.string lo,.string hi],.func (.func fn) #[] caps] X fun e X'=>∃b,e=.returned (.tuple #[.bool b,.int .i64 0])∧G X'):
  Calls Tryz.prog 38 #[ptr tb,.agg #[.string lo,.string hi],.func (.func fn) #[] caps] w fun e w'=>e=.returned (.int .i64 0)∧G w':=by
 obtain⟨W0,kC⟩:∃W0,W0=w.alloc (.cells #[.string lo,.string hi] 88):=⟨_,rfl⟩
 have HR:=aa (hR W0 kC)
 clear hR
 unfold ptr at HR ⊢
 go_enter Tryz.func38,Tryz.ntmps38
 go_wp2_with fail
 rw[←kC]
 refine HR.out.mono ?_
 rintro e X (⟨rfl,hG⟩|⟨q,rfl,s0,s1,bJ⟩)
 ·have HG:=aa hG
  clear hG kC
  go_wp2_with fail
  go_ret
  exact⟨rfl,HG.out⟩
 ·have HC:=aa bJ
  clear bJ kC
  go_wp2_with fail
  refine HC.out.mono ?_
  rintro e w9 ⟨b,rfl,hG⟩
  have HG:=aa hG
  clear hG s0 s1
  go_wp2_with fail
  go_ret
  exact⟨rfl,HG.out⟩
end
section
variable {E:Ev} {X0 X X' X1 X2 Y V w:World} {R0 R R' R1 R2:Nat→Prop} {ps:List (Nat×List UInt8)} {pg:List (Option Wl.Text)} {rt:List Nat} {M M' M1 M2:Nat→Option NV} {σ:Type} {s s1 s2:σ} {J:σ→(Nat→Prop)→(Nat→Option NV)→World→Prop} {f:(k:Nat)→Tr.E (k+1)→σ→σ×Bool} {fn:Nat} {caps:Array Value} {sz:σ→Nat} {lo hi:Tr.Tx}
theorem ML:∀(k:Nat) (c:Tr.E (k+1)) {lo:Tr.Tx} {h:Option Tr.Tx},bM pg (k+1) c→Tr.Ok (k+1) lo h c→tw k c≤256*(Tr.bg (k+1) c).length
 |0,c,lo,h,hs,ho=>by
  obtain⟨page,hp,_⟩:=hs.1
  have h2:2*(Tr.its c).length≤Tr.sz 0 (Tr.its c):=Tr.fX 0 (Tr.its c)
  have h3:Tr.sz 0 (Tr.its c)≤510:=ho.2.1
  rw[Tr.aK,hp]
  show 1+(Tr.its c).length≤256*(([page]:List Nat)++_).length
  rw[List.length_append,List.length_singleton]
  omega
 |k+1,c,lo,h,hs,ho=>by
  obtain⟨page,hp,_⟩:=hs.1
  have h2:=Tr.fX (k+1) (Tr.its c)
  have h3:=ho.2.1
  have key:∀l:List (Tr.Tx×Tr.E (k+1)),(∀p∈l,bM pg (k+1) p.2∧∃lo h,Tr.Ok (k+1) lo h p.2)→IC l≤256*(Tr.b_ (k+1) l).length:=by
   intro l
   induction l with
   |nil=>intro _;exact Nat.zero_le _
   |cons p l ih=>
    intro hl
    obtain⟨h4,lo',h',h5⟩:=hl p List.mem_cons_self
    have h6:=ML k p.2 h4 h5
    have h7:=ih fun x hx=>hl x (List.mem_cons_of_mem _ hx)
    rw[o_,Tr.dB,List.length_append]
    omega
  have h4:=key (Tr.its c) fun p hp=>⟨hs.2.2 p hp,mj ho p hp⟩
  rw[Tr.aK,hp]
  show 1+(Tr.its c).length+IC (Tr.its c)≤256*(([page]:List Nat)++_).length
  rw[List.length_append,List.length_singleton]
  omega
def Seen (J:σ→(Nat→Prop)→(Nat→Option NV)→World→Prop) (f:(k:Nat)→Tr.E (k+1)→σ→σ×Bool) (lo hi:Tr.Tx) (R:Nat→Prop) (M:Nat→Option NV) (s:σ) (l:List (Tr.Tx×Tr.Tx)) (pages:List Nat) (X X':World):Prop:=
 (l=[]∧pages=[]∧yH J R M X s X')∨∃(K:Nat) (T:Tr.E (K+1)),l=Tr.bE K (Tr.its T)∧pages=Tr.bg (K+1) T∧pages.Nodup∧Tr.Ok (K+1) [] none T∧bM pg (K+1) T∧yH J R M X (visit f lo hi K T s).1 X'
theorem t_ (A:Acc E X0 R0 ps pg rt fn caps f sz J) (hj:J s R M X) {l:List (Tr.Tx×Tr.Tx)} {pages:List Nat} (hm:eC pg (rt.getD E.place 0) l pages) (bY:E.place<16) (hB:sz s≤1000000):
  Calls Tryz.prog 38 #[ptr E.tb,.agg #[.string (bs lo),.string (bs hi)],.func (.func fn) #[] caps] X fun e X'=>e=.returned (.int .i64 0)∧Seen (pg:=pg) J f lo hi R M s l pages X X':=by
 refine uW fun W hW=> ?_
 have hbW:Below X.heap.size X W:=by rw[hW];exact (Below.refl _ X).alloc (Nat.le_refl _) _
 have hts:=A.ts _ _ _ _ hj
 have Li:=hts.still hbW (fun _ h=>h) (fun _ h=>.inl h)
 have RF:=A.grow _ _ _ _ R M W hj Li hbW (fun _ h=>.inl h) (fun _ h=>h)
 have Om:aG W X.heap.size 88 [.string (bs lo),.string (bs hi)]:=by rw[hW];exact aG.new X _ _
 have hmm:=hm
 rcases hm with⟨h0,h1,h2⟩|⟨K,T,page,h1,h2,h3,h4,h5,h6,h7,h8⟩
 ·refine (lq Li bY h0).mono ?_
  rintro e X1 ⟨rfl,hb⟩
  exact .inl ⟨rfl,.inl ⟨h1,h2,A.below (yH.of hj) (hbW.trans (hb.mono hbW.size))⟩⟩
 ·have jx:=eP (lo:=[]) (hi:=[]) h3 h4 h2 h5
  have Wr:page<pg.length:=aY (by rw[jx.page];rfl)
  refine (lz Li bY page K (af K (Tr.its T)) h1 jx Wr).mono ?_
  rintro e X1 ⟨p,rg,cap,R',rfl,Ol,hb,hp,uy,hR,vI⟩
  have hmb:∀b,MB (upd M p (NV.got K (af K (Tr.its T)) rg cap page [] [])) b→MB M b∨W.heap.size≤b:=by
   rintro b ⟨r,y,hr,hkk⟩
   rcases ak hr with⟨rfl,rfl⟩|⟨_,hr⟩
   ·right
    rcases hkk with rfl|rfl<;>assumption
   ·exact .inl ⟨r,y,hr,hkk⟩
  have On:=A.grow _ _ _ _ R' _ X1 RF Ol hb hmb hR
  have hx1:=Om.below hb Om.lt
  refine .inr ⟨p,rfl,hx1.cell (j:=0) rfl,hx1.cell (j:=1) rfl,(ID A lo hi K T _ p s R' _ X1 h3 On (aM _ _ _) ⟨rfl,rfl,by rw[h2];rfl,h4,h5⟩ (by have:=ML K T h4 h5;have:=cT (h7▸h8) fun x hx=>aY (eT hmm x (by rw[h7];exact hx));have:=hts.rm.rep.few;omega)).mono ?_⟩
  rintro e X2 ⟨rfl,R5,M5,Wi,cH,h51,h52,h53⟩
  refine⟨_,rfl,.inr ⟨K,T,h6,h7,h8,h5,h4,R5,M5,Wi, ?_,fun b hb=>h51 b (hR b hb),fun b aC=> ?_,fun r y hr=>h53 r y ?_⟩⟩
  ·refine ((aj.aq (hbW.trans (hb.mono hbW.size)) (fun b=>R b))).trans cH fun b hlt h=> ?_
   rcases vI b h with h|h
   ·exact h
   ·have:=hbW.size;omega
  ·have:=hbW.size
   have:=hb.size
   rcases h52 b aC with h|h
   ·exact (vI b h).imp_right fun h=>by omega
   ·right;omega
  ·rw[aA (fun e=> ?_)]
   ·exact hr
   ·have:=(Li.mem.lt hr).1
    omega
end
theorem Oq (x:Tr.Tx):Tr.lt x []=false:=by cases x<;>rfl
theorem Lj {its:List It} (h0:0<its.length) (hk:(its[0]).key=[]):mN its []=0:=by
 have hp:posOf its []=0:=by
  unfold posOf
  cases its with
  |nil=>rfl
  |cons a l=>rw[List.takeWhile_cons_of_neg (by rw[Oq];decide)];rfl
 have ht:cE its []=true:=by
  unfold cE
  rw[hp,List.getElem?_eq_getElem h0]
  exact decide_eq_true hk
 unfold mN
 rw[if_pos ht,hp]
 rfl
theorem uc {σ:Type} {k:Nat} {v:Tr.E (k+1)→σ→σ×Bool} {act:(Tr.Tx×Tr.E (k+1))→σ→σ}:∀{l:List (Tr.Tx×Tr.E (k+1))},(∀p∈l,∀s,v p.2 s=(act p s,true))→∀s,dA v [] l s=(l.foldl (fun s p=>act p s) s,true)
 |[],_,s=>rfl
 |p::l,h,s=>by
  unfold dA
  rw[if_neg (by simp),h p List.mem_cons_self s,if_pos rfl,List.foldl_cons]
  exact uc (fun x hx=>h x (List.mem_cons_of_mem _ hx)) _
theorem wD {σ:Type} {f:(k:Nat)→Tr.E (k+1)→σ→σ×Bool} {k:Nat} {c:Tr.E (k+1+1)} {lo:Tr.Tx} {h:Option Tr.Tx} (ho:Tr.Ok (k+1+1) lo h c) {s s1:σ} (h1:f (k+1) c s=(s1,true)) {act:(Tr.Tx×Tr.E (k+1))→σ→σ} (hv:∀p∈Tr.its c,∀s,visit f [] [] k p.2 s=(act p s,true)):visit f [] [] (k+1) c s=((Tr.its c).foldl (fun s p=>act p s) s1,true):=by
 have hne:0<(Tr.its c).length:=List.length_pos_iff.2 ho.1
 have hl:(af (k+1) (Tr.its c)).length=(Tr.its c).length:=List.length_map _
 have mK:((af (k+1) (Tr.its c))[0]'(by omega)).key=[]:=by
  have h2:=ho.2.2.1 ((Tr.its c)[0]) (by rw[List.head?_eq_getElem?,List.getElem?_eq_getElem hne])
  rw[if_neg (Nat.succ_ne_zero k)] at h2
  rw[←h2]
  unfold af
  rw[List.getElem_map]
 unfold visit
 rw[h1,if_pos rfl,Lj (by omega) mK]
 exact uc hv s1
def fC (k:Nat) (c:Tr.E (k+1)) (s:Nat):Nat×Bool:=(s+(if k=0 then (Tr.its c).length else 0),true)
theorem qM:∀(k:Nat) (c:Tr.E (k+1)) {lo:Tr.Tx} {h:Option Tr.Tx},Tr.Ok (k+1) lo h c→∀s,visit fC [] [] k c s=(s+(Tr.bE k (Tr.its c)).length,true)
 |0,c,_,_,_,s=>rfl
 |k+1,c,lo,h,ho,s=>by
  rw[wD ho (s1:=s) rfl (act:=fun p s=>s+(Tr.bE k (Tr.its p.2)).length) fun p hp s=>by
   obtain⟨lo',h',ho'⟩:=mj ho p hp
   exact qM k p.2 ho' s]
  congr 1
  have:∀(l:List (Tr.Tx×Tr.E (k+1))) (s:Nat),l.foldl (fun s p=>s+(Tr.bE k (Tr.its p.2)).length) s=s+(Tr.bE (k+1) l).length:=by
   intro l
   induction l with
   |nil=>intro s;rfl
   |cons p l ih=>
    intro s
    rw[List.foldl_cons,ih]
    show _=s+((p::l).flatMap fun p=>Tr.bE k (Tr.its p.2)).length
    rw[List.flatMap_cons,List.length_append]
    show s+_+(l.flatMap fun p=>Tr.bE k (Tr.its p.2)).length=_
    omega
  exact this _ s
def fP (k:Nat) (c:Tr.E (k+1)) (s:List Int):List Int×Bool:=(s++[oQ (Tr.hd c).page],true)
theorem qN {pg:List (Option Wl.Text)}:∀(k:Nat) (c:Tr.E (k+1)) {lo:Tr.Tx} {h:Option Tr.Tx},Tr.Ok (k+1) lo h c→bM pg (k+1) c→∀s,visit fP [] [] k c s=(s++(Tr.bg (k+1) c).map (fun n:Nat=>(n:Int)),true)
 |0,c,_,_,_,hs,s=>by
  obtain⟨page,hp,_⟩:=hs.1
  have h0:Tr.b_ 0 (Tr.its c)=[]:=by
   unfold Tr.b_
   exact List.flatMap_eq_nil_iff.2 fun _ _=>rfl
  rw[Tr.aK,h0,hp]
  show (s++[oQ (Tr.hd c).page],true)=_
  rw[hp]
  rfl
 |k+1,c,lo,h,ho,hs,s=>by
  obtain⟨page,hp,_⟩:=hs.1
  rw[wD ho (s1:=s++[oQ (Tr.hd c).page]) rfl (act:=fun p s=>s++(Tr.bg (k+1) p.2).map (fun n:Nat=>(n:Int))) fun p hp s=>by
   obtain⟨lo',h',ho'⟩:=mj ho p hp
   exact qN k p.2 ho' (hs.2.2 p hp) s]
  congr 1
  have:∀(l:List (Tr.Tx×Tr.E (k+1))) (s:List Int),l.foldl (fun s p=>s++(Tr.bg (k+1) p.2).map (fun n:Nat=>(n:Int))) s=s++(Tr.b_ (k+1) l).map (fun n:Nat=>(n:Int)):=by
   intro l
   induction l with
   |nil=>intro s;exact (List.append_nil s).symm
   |cons p l ih=>intro s;rw[List.foldl_cons,ih,Tr.dB,List.map_append,List.append_assoc]
  rw[this,Tr.aK,hp,List.append_assoc]
  rfl
section
variable {E:Ev} {X0 X X' w:World} {R0 R R':Nat→Prop} {ps:List (Nat×List UInt8)} {pg:List (Option Wl.Text)} {rt:List Nat} {M M':Nat→Option NV} {cb:Nat}
structure JC (E:Ev) (X0:World) (R0:Nat→Prop) (ps:List (Nat×List UInt8)) (pg:List (Option Wl.Text)) (rt:List Nat) (cb:Nat) (s:Nat) (R:Nat→Prop) (M:Nat→Option NV) (X:World):Prop where
 ts:TS E X0 R0 R ps pg rt M X
 blk:aG X cb 3 [.int .i64 s]
 own:R cb∧X0.heap.size≤cb∧¬MB M cb
theorem Av (W:World) (args:Array Value):Sem.run Tryz.prog (callFunc 50 args) W=.ok (.enter 50 args) W:=by
 simp[callFunc,go_sem,Tryz.f50]
theorem Aw (W:World) (args:Array Value):Sem.run Tryz.prog (callFunc 42 args) W=.ok (.enter 42 args) W:=by
 simp[callFunc,go_sem,Tryz.f42]
theorem Fb:Acc E X0 R0 ps pg rt 50 #[ptr cb] fC id (JC E X0 R0 ps pg rt cb):=by
 refine⟨fun k c s=> ?_,Av,fun _ _ _ _ h=>h.ts,fun s R M X R' M' X' h hts hb hmb hR=>⟨hts,h.blk.below hb h.blk.lt,hR _ h.own.1,h.own.2.1,fun hm=> ?_⟩,fun s R M X q k m c h hm hn hs=> ?_⟩
 ·show s+_≤s+(1+(Tr.its c).length)
  split<;>omega
 ·rcases hmb _ hm with h1|h1
  ·exact h.own.2.2 h1
  ·have:=h.blk.lt;omega
 ·have hnd:=h.ts.mem.nd q m hm
  have hlen:m.its.length=(Tr.its c).length:=(tY hn).2.1
  refine (Fa X cb q s m h.blk hnd hs (by omega)).mono ?_
  rintro e X' ⟨rfl,hk,hb⟩
  rw[hn.level,hlen] at hk
  refine⟨rfl,R,⟨h.ts.own hb (fun b _ e=>by rw[e];exact⟨h.own.1,h.own.2.1⟩) (h.ts.mem.keep hb fun b hm2 e=>h.own.2.2 (by rw[←e];exact hm2)) h.ts.gM (fun _ h=>h) (fun _ h=>.inl h),hk,h.own⟩,hb.mono fun b _ e=>by rw[e];exact h.own.1,fun _ h=>h,fun _ h=>.inl h⟩
structure JP (E:Ev) (X0:World) (R0:Nat→Prop) (ps:List (Nat×List UInt8)) (pg:List (Option Wl.Text)) (rt:List Nat) (cb:Nat) (s:List Int) (R:Nat→Prop) (M:Nat→Option NV) (X:World):Prop where
 ts:TS E X0 R0 R ps pg rt M X
 own:R cb∧X0.heap.size≤cb∧¬MB M cb
 row:∃sv,aG X cb 56 [sv]∧eo 0 X sv s∧∀b,sv.ownBlock=some b→R b∧X0.heap.size≤b∧¬MB M b
theorem Fc:Acc E X0 R0 ps pg rt 42 #[ptr cb] fP List.length (JP E X0 R0 ps pg rt cb):=by
 refine⟨fun k c s=> ?_,Aw,fun _ _ _ _ h=>h.ts,fun s R M X R' M' X' h hts hb hmb hR=> ?_,fun s R M X q k m c h hm hn hs=> ?_⟩
 ·show (s++[_]).length≤_
  rw[List.length_append,List.length_singleton];omega
 ·obtain⟨sv,hk,ho,nH⟩:=h.row
  refine⟨hts,⟨hR _ h.own.1,h.own.2.1,fun hm=> ?_⟩,sv,hk.below hb hk.lt,Own.below ho hb (Nat.le_refl _),fun b aC=>⟨hR _ (nH b aC).1,(nH b aC).2.1,fun hm=> ?_⟩⟩
  ·rcases hmb _ hm with h1|h1
   ·exact h.own.2.2 h1
   ·have:=hk.lt;omega
  ·rcases hmb _ hm with h1|h1
   ·exact (nH b aC).2.2 h1
   ·have:=(Own.block ho b aC).2;omega
 ·obtain⟨sv,hk,ho,nH⟩:=h.row
  have hnd:=h.ts.mem.nd q m hm
  refine (E_ X cb q sv s m hk ho hnd hs).mono ?_
  rintro e X' ⟨rfl,cM,hk',ho',hb,hw⟩
  rw[hn.page] at ho'
  have hx0:=h.ts.but.size
  have hnew:∀b,cM.ownBlock=some b→(R b∧X0.heap.size≤b∧¬MB M b)∨X.heap.size≤b:=fun b aC=>by
   rcases hw with e|e
   ·rw[e] at aC;exact .inl (nH b aC)
   ·exact .inr (e b aC)
  have I3:∀b,(b=cb∨sv.ownBlock=some b)→R b∧X0.heap.size≤b∧¬MB M b:=fun b aC=>by
   rcases aC with rfl|aC
   ·exact h.own
   ·exact nH b aC
  refine⟨rfl,fun b=>R b∨cM.ownBlock=some b,⟨h.ts.own hb (fun b _ e=>⟨(I3 b e).1,(I3 b e).2.1⟩) (h.ts.mem.keep hb fun b hm2 e=>(I3 b e).2.2 hm2) (fun b hm2=>⟨.inl (h.ts.gM b hm2).1,(h.ts.gM b hm2).2⟩) (fun _ h=>.inl h) (fun b aC=> ?_),⟨.inl h.own.1,h.own.2⟩,cM,hk',ho',fun b aC=> ?_⟩,hb.mono fun b _ e=>(I3 b e).1,fun _ h=>.inl h,fun b aC=> ?_⟩
  ·rcases aC with aC|aC
   ·exact .inl aC
   ·exact (hnew b aC).imp (fun h=>h.1) fun h=>⟨h,(Own.block ho' b aC).2⟩
  ·refine⟨.inr aC, ?_⟩
   rcases hnew b aC with h1|h1
   ·exact h1.2
   ·exact⟨by omega,fun hm2=>by have:=h.ts.mem.iN hm2;omega⟩
  ·rcases aC with aC|aC
   ·exact .inl aC
   ·exact (hnew b aC).imp_left fun h=>h.1
end
def fS (lim:Int) (lo hi:Tr.Tx) (k:Nat) (c:Tr.E (k+1)) (s:Tr.bt):Tr.bt×Bool:=
 ((if k=0 then ((af k (Tr.its c)).map fun i=>((i.key,i.val):Tr.Tx×Tr.Tx)).foldl (aX lim lo hi) s else s),decide (((if k=0 then ((af k (Tr.its c)).map fun i=>((i.key,i.val):Tr.Tx×Tr.Tx)).foldl (aX lim lo hi) s else s).length:Int)<lim))
theorem ud (lim:Int) (lo hi:Tr.Tx):∀(l:Tr.bt) (s:Tr.bt),(l.foldl (aX lim lo hi) s).length≤s.length+l.length
 |[],s=>Nat.le_refl _
 |p::l,s=>by
  rw[List.foldl_cons]
  have h1:=ud lim lo hi l (aX lim lo hi s p)
  have h2:(aX lim lo hi s p).length≤s.length+1:=by
   unfold aX
   split
   ·rw[List.length_append];exact Nat.le_refl _
   ·omega
  rw[List.length_cons]
  omega
section
variable {E:Ev} {X0 X X' w:World} {R0 R R':Nat→Prop} {ps:List (Nat×List UInt8)} {pg:List (Option Wl.Text)} {rt:List Nat} {M M':Nat→Option NV} {cb lb kb:Nat} {lim:Int} {lo hi:Tr.Tx}
structure JS (E:Ev) (X0:World) (R0:Nat→Prop) (ps:List (Nat×List UInt8)) (pg:List (Option Wl.Text)) (rt:List Nat) (cb lb kb:Nat) (lim:Int) (lo hi:Tr.Tx) (s:Tr.bt) (R:Nat→Prop) (M:Nat→Option NV) (X:World):Prop where
 ts:TS E X0 R0 R ps pg rt M X
 own:R cb∧X0.heap.size≤cb∧¬MB M cb
 lim:X.cell? ⟨lb,0,none⟩=some (.int .i64 lim)
 ks:aG X kb 88 [.string (bs lo),.string (bs hi)]
 n1:lb≠cb∧kb≠cb
 row:∃v,aG X cb 36 [v]∧bR 0 X v s∧∀b,v.ownBlock=some b→R b∧X0.heap.size≤b∧¬MB M b∧b≠lb∧b≠kb
theorem Cs (W:World) (args:Array Value):Sem.run Tryz.prog (callFunc 39 args) W=.ok (.enter 39 args) W:=by
 simp[callFunc,go_sem,Tryz.f39]
theorem I4:Acc E X0 R0 ps pg rt 39 #[ptr cb,ptr lb,ptr kb] (fS lim lo hi) List.length (JS E X0 R0 ps pg rt cb lb kb lim lo hi):=by
 refine⟨fun k c s=> ?_,Cs,fun _ _ _ _ h=>h.ts,fun s R M X R' M' X' h hts hb hmb hR=> ?_,fun s R M X q k m c h hm hn hs=> ?_⟩
 ·show (if k=0 then _ else s).length≤_
  split
  ·have:=ud lim lo hi ((af k (Tr.its c)).map fun i=>((i.key,i.val):Tr.Tx×Tr.Tx)) s
   have h2:((af k (Tr.its c)).map fun i=>((i.key,i.val):Tr.Tx×Tr.Tx)).length=(Tr.its c).length:=by rw[List.length_map];exact List.length_map _
   omega
  ·omega
 ·obtain⟨v,hk,ho,hv⟩:=h.row
  refine⟨hts,⟨hR _ h.own.1,h.own.2.1,fun hm=> ?_⟩,(hb.cell (World.block_lt_of_cell? _ _ h.lim)).trans h.lim,h.ks.below hb h.ks.lt,h.n1,v,hk.below hb hk.lt,Own.below ho hb (Nat.le_refl _),fun b aC=>⟨hR _ (hv b aC).1,(hv b aC).2.1,fun hm=> ?_,(hv b aC).2.2.2⟩⟩
  ·rcases hmb _ hm with h1|h1
   ·exact h.own.2.2 h1
   ·have:=hk.lt;omega
  ·rcases hmb _ hm with h1|h1
   ·exact (hv b aC).2.2.1 h1
   ·have:=(Own.block ho b aC).2;omega
 ·obtain⟨v,hk,ho,hv⟩:=h.row
  have hnd:=h.ts.mem.nd q m hm
  have I3:∀b,(b=cb∨v.ownBlock=some b)→R b∧X0.heap.size≤b∧¬MB M b:=fun b aC=>by
   rcases aC with rfl|aC
   ·exact h.own
   ·exact⟨(hv b aC).1,(hv b aC).2.1,(hv b aC).2.2.1⟩
  have hsb:Sb cb lb kb q (bs lo) (bs hi) lim m X v:=⟨h.lim,h.ks,hnd,fun b aC=>by
   refine⟨?_, ?_,fun e=>(I3 b aC).2.2 ⟨q,m,hm,.inl e⟩,fun e=>(I3 b aC).2.2 ⟨q,m,hm,.inr e⟩⟩
   ·rcases aC with rfl|aC
    ·exact h.n1.1.symm
    ·exact (hv b aC).2.2.2.1
   ·rcases aC with rfl|aC
    ·exact h.n1.2.symm
    ·exact (hv b aC).2.2.2.2⟩
  refine (IZ X cb lb kb q v s lo hi lim m hsb ⟨hk,ho,aj.refl _ _,.inl rfl⟩ hs).mono ?_
  rintro e X' ⟨v',s',rfl,hs',Ei⟩
  have RK:m.level=k:=hn.level
  have iU:s'=(fS lim lo hi k c s).1:=by
   rw[hs',RK,hn.its];rfl
  have hx0:=h.ts.but.size
  have hb:=Ei.but
  have Lf:=World.block_lt_of_cell? _ _ h.lim
  have RI:=h.ks.lt
  have Lf:lb<X.heap.size:=Lf
  have hnew:∀b,v'.ownBlock=some b→(R b∧X0.heap.size≤b∧¬MB M b∧b≠lb∧b≠kb)∨X.heap.size≤b:=fun b aC=>by
   rcases Ei.new with e|e
   ·rw[e] at aC;exact .inl (hv b aC)
   ·exact .inr (e b aC)
  refine⟨by rw[iU];rfl,fun b=>R b∨v'.ownBlock=some b,⟨h.ts.own hb (fun b _ e=>⟨(I3 b e).1,(I3 b e).2.1⟩) (h.ts.mem.keep hb fun b hm2 e=>(I3 b e).2.2 hm2) (fun b hm2=>⟨.inl (h.ts.gM b hm2).1,(h.ts.gM b hm2).2⟩) (fun _ h=>.inl h) (fun b aC=> ?_),⟨.inl h.own.1,h.own.2⟩,hb.cell h.lim (fun e=>(hsb.n1 _ e).1 rfl),h.ks.but hb (fun e=>(hsb.n1 _ e).2.1 rfl),h.n1,v',Ei.blk,by rw[←iU];exact Ei.own,fun b aC=> ?_⟩,hb.mono fun b _ e=>(I3 b e).1,fun _ h=>.inl h,fun b aC=> ?_⟩
  ·rcases aC with aC|aC
   ·exact .inl aC
   ·exact (hnew b aC).imp (fun h=>h.1) fun h=>⟨h,(Own.block Ei.own b aC).2⟩
  ·refine⟨.inr aC, ?_⟩
   rcases hnew b aC with h1|h1
   ·exact h1.2
   ·exact⟨by omega,fun hm2=>by have:=h.ts.mem.iN hm2;omega,by omega,by omega⟩
  ·rcases aC with aC|aC
   ·exact .inl aC
   ·exact (hnew b aC).imp_left fun h=>h.1
end
section
variable {w:World} {tb:Nat}
theorem Fe {lo hi:ByteArray} {lim:Int} {Q:Value→World→Prop}
  (hE:∀W,W=((w.alloc (.cells #[.int .i64 lim] 3)).alloc (.cells #[.slice none 0 0] 36)).alloc (.cells #[.string lo,.string hi] 88)→Calls Tryz.prog 38 #[ptr tb,.agg #[.string lo,.string hi],.func (.func 39) #[] #[ptr (w.heap.size+1),ptr w.heap.size,ptr (w.heap.size+2)]] W fun e X=>e=.returned (.int .i64 0)∧∃(a:Option Addr) (n c:Nat),X.cell? ⟨w.heap.size+1,0,none⟩=some (.slice a n c)∧Q (.slice a n c) X):
  Calls Tryz.prog 19 #[ptr tb,.string lo,.string hi,.int .i64 lim] w fun e w'=>∃v,e=.returned (.tuple #[v,.int .i64 0])∧Q v w':=by
 obtain⟨W0,kC⟩:∃W0,W0=((w.alloc (.cells #[.int .i64 lim] 3)).alloc (.cells #[.slice none 0 0] 36)).alloc (.cells #[.string lo,.string hi] 88):=⟨_,rfl⟩
 have HE:=aa (hE W0 kC)
 clear hE
 unfold ptr at HE ⊢
 go_enter Tryz.func19,Tryz.ntmps19
 go_wp2_with fail
 rw[←kC]
 refine HE.out.mono ?_
 rintro e X ⟨rfl,a,n,c,c0,hQ⟩
 have HQ:=aa hQ
 clear hQ kC
 go_wp2_with fail
 go_ret2
 exact⟨_,rfl,HQ.out⟩
end
structure Ws (tb:Nat) (key:ByteArray) (vl:List UInt8) (L:Nat→Nat→Nat→Nat→World→Prop) (G:Int→World→Prop):Prop where
 search:∀q pr n cap X,L q pr n cap X→X.cell? ⟨pr,n,none⟩=some (.pointer (some ⟨q,0,none⟩))∧n≤100∧Calls Tryz.prog 33 #[ptr q,.string key] X fun e X'=>
  (∃a:Nat,e=.returned (.tuple #[.int .i64 a,.bool false])∧a≤400∧∃rv rn rc,X'.cell? ⟨q,1,none⟩=some (.slice rv rn rc)∧∀W ib,W=X'.alloc (.cells #[.string key,.string ⟨#[]⟩,.pointer none] 95)→ib=X'.heap.size→Calls Tryz.prog 34 #[.slice rv rn rc,.int .i64 a,.slice (some ⟨ib,0,none⟩) 1 1] W fun e eu=>
   ∃g n' c',e=.returned (.slice (some ⟨g,0,none⟩) n' c')∧a<n'∧n'≤c'∧n'≤401∧(∃v,eu.cell? ⟨q,1,none⟩=some v)∧eu.frozen? ⟨q,1,none⟩=false∧(∃v,eu.cell? ⟨g,a*3+1,none⟩=some v)∧eu.frozen? ⟨g,a*3+1,none⟩=false∧g≠q∧
    Calls Tryz.prog 35 #[ptr tb,.slice (some ⟨pr,0,none⟩) (n+1) cap] ((eu.setCell ⟨q,1,none⟩ (.slice (some ⟨g,0,none⟩) n' c')).setCell ⟨g,a*3+1,none⟩ (.string (bs vl))) fun e w'=>∃c:Int,e=.returned (.int .i64 c)∧G c w')∨
  (∃(a g o n' c':Nat) (v0:List UInt8),e=.returned (.tuple #[.int .i64 a,.bool true])∧a<n'∧n'≤400∧X'.cell? ⟨q,1,none⟩=some (.slice (some ⟨g,o,none⟩) n' c')∧X'.cell? ⟨g,o+a*3+1,none⟩=some (.string (bs v0))∧X'.frozen? ⟨g,o+a*3+1,none⟩=false∧(v0=vl→G 0 X')∧
   (v0≠vl→Calls Tryz.prog 35 #[ptr tb,.slice (some ⟨pr,0,none⟩) (n+1) cap] (X'.setCell ⟨g,o+a*3+1,none⟩ (.string (bs vl))) fun e w'=>∃c:Int,e=.returned (.int .i64 c)∧G c w'))
section
variable {w:World} {tb:Nat}
theorem I5 {key:ByteArray} {vl:List UInt8} {L:Nat→Nat→Nat→Nat→World→Prop} {G:Int→World→Prop} (hW:Ws tb key vl L G) (hk:key.size≤96) (hv:vl.length≤56)
  (hF:Calls Tryz.prog 32 #[ptr tb,.string key] w fun e X=>(e=.returned (.tuple #[.slice none 0 0,.int .i64 0])∧∀W,W=(X.alloc (.cells #[.int .i64 0,.slice none 0 0,.int .i64 (-1),.string ⟨#[]⟩,.string ⟨#[]⟩,.int .i64 0,.int .i64 0,.bool false] 90)).alloc (.cells #[.pointer (some ⟨X.heap.size,0,none⟩)] 85)→L X.heap.size (X.heap.size+1) 0 1 W)∨
   ∃q pr n cap,e=.returned (.tuple #[.slice (some ⟨pr,0,none⟩) (n+1) cap,.int .i64 0])∧L q pr n cap X):
  Calls Tryz.prog 13 #[ptr tb,.string key,.string (bs vl)] w fun e w'=>∃c:Int,e=.returned (.int .i64 c)∧G c w':=by
 have HW:=aa hW
 have HF:=aa hF
 have pH:¬(key.size:Int)>96:=by omega
 have Jx:¬((bs vl).size:Int)>56:=by rw[aB];omega
 clear hW hF hk hv
 unfold ptr at HW HF ⊢
 go_enter Tryz.func13,Tryz.ntmps13
 go_wp2_with fail
 refine HF.out.mono ?_
 rintro e X (⟨rfl,hL⟩|⟨q,pr,n,cap,rfl,hL⟩)
 ·obtain⟨W0,kC⟩:∃W0,W0=(X.alloc (.cells #[.int .i64 0,.slice none 0 0,.int .i64 (-1),.string ⟨#[]⟩,.string ⟨#[]⟩,.int .i64 0,.int .i64 0,.bool false] 90)).alloc (.cells #[.pointer (some ⟨X.heap.size,0,none⟩)] 85):=⟨_,rfl⟩
  have G3:=hL W0 kC
  obtain⟨p0,Dm,vA⟩:=HW.out.search _ _ _ _ _ G3
  simp only[Nat.zero_add] at vA
  have ES:=aa vA
  have Y0:=aa kC
  clear hL G3 vA p0 Dm kC
  go_wp2_with fail
  rw[←Y0.out]
  obtain⟨pr,Cl⟩:∃pr,pr=X.heap.size+1:=⟨_,rfl⟩
  rw[←Cl] at ES ⊢
  clear Cl Y0
  obtain⟨q,hq⟩:∃q,q=X.heap.size:=⟨_,rfl⟩
  rw[←hq] at ES ⊢
  clear hq
  refine ES.out.mono ?_
  rintro e X2 (⟨a,rfl,ha,rv,rn,rc,c1,hins⟩|⟨a,g,o,n',c',v0,rfl,RG,Be,c1,i1,fz,heq,hne⟩)
  ·have Jt:(a:Int)≤400:=by omega
   obtain⟨W2,lY⟩:∃W2,W2=X2.alloc (.cells #[.string key,.string ⟨#[]⟩,.pointer none] 95):=⟨_,rfl⟩
   obtain⟨ib,hib⟩:∃ib,ib=X2.heap.size:=⟨_,rfl⟩
   have Wt:=aa (hins W2 ib lY hib)
   clear hins
   go_wp2_with fail
   rw[←lY,←hib]
   clear lY hib
   refine Wt.out.mono ?_
   rintro e X3 ⟨g,n',c',rfl,RG,hnc,Be,⟨v1,d1⟩,f1,⟨v2,d2⟩,f2,Ff,hst⟩
   have IJ:(a:Int)<n':=by omega
   have IK:(n':Int)≤401:=by omega
   obtain⟨X4,Fg⟩:∃X4,X4=X3.setCell ⟨q,1,none⟩ (.slice (some ⟨g,0,none⟩) n' c'):=⟨_,rfl⟩
   have e1:X4.cell? ⟨q,1,none⟩=some (.slice (some ⟨g,0,none⟩) n' c'):=by rw[Fg];exact World.cell?_setCell_same _ _ _ d1
   have e2:X4.cell? ⟨g,a*3+1,none⟩=some v2:=by rw[Fg,World.cell?_setCell_other _ _ _ _ (by intro e;injection e with e;exact Ff e.symm)];exact d2
   have hbk:X4.heap[g]?=X3.heap[g]?:=by rw[Fg];exact ((aj.refl (fun b=>b=q) X3).setCell ⟨q,1,none⟩ _ fun _=>rfl).block g (World.block_lt_of_cell? _ _ d2) Ff
   have e3:X4.frozen? ⟨g,a*3+1,none⟩=false:=by unfold World.frozen? at f2 ⊢;rw[hbk];exact f2
   rw[←Fg] at hst
   have nU:=aa hst
   clear hst
   go_wp2_with fail
   rw[←Fg]
   clear Fg d1 f1 d2 f2 c1
   go_wp2_with fail
   refine nU.out.mono ?_
   rintro e w9 ⟨c,rfl,hG⟩
   have HG:=aa hG
   clear hG
   go_wp2_with fail
   go_ret
   exact⟨c,rfl,HG.out⟩
  ·have IJ:(a:Int)<n':=by omega
   have IK:(n':Int)≤400:=by omega
   by_cases hv:v0=vl
   ·have HG:=aa (heq hv)
    have BJ:(bs v0).toList=(bs vl).toList:=by rw[hv]
    clear heq hne
    go_wp2_with fail
    go_ret
    exact⟨0,rfl,HG.out⟩
   ·have nU:=aa (hne hv)
    have BJ:((bs v0).toList==(bs vl).toList)=false:=by rw[az,az];exact beq_eq_false_iff_ne.2 hv
    clear heq hne hv
    go_wp2_with fail
    refine nU.out.mono ?_
    rintro e w9 ⟨c,rfl,hG⟩
    have HG:=aa hG
    clear hG
    go_wp2_with fail
    go_ret
    exact⟨c,rfl,HG.out⟩
 ·have HL:=aa hL
  clear hL
  obtain⟨p0,Dm,vA⟩:=HW.out.search _ _ _ _ _ HL.out
  have LX:(n:Int)≤100:=by omega
  have ES:=aa vA
  clear vA
  go_wp2_with fail
  clear p0
  refine ES.out.mono ?_
  rintro e X2 (⟨a,rfl,ha,rv,rn,rc,c1,hins⟩|⟨a,g,o,n',c',v0,rfl,RG,Be,c1,i1,fz,heq,hne⟩)
  ·have Jt:(a:Int)≤400:=by omega
   obtain⟨W2,lY⟩:∃W2,W2=X2.alloc (.cells #[.string key,.string ⟨#[]⟩,.pointer none] 95):=⟨_,rfl⟩
   obtain⟨ib,hib⟩:∃ib,ib=X2.heap.size:=⟨_,rfl⟩
   have Wt:=aa (hins W2 ib lY hib)
   clear hins
   go_wp2_with fail
   rw[←lY,←hib]
   clear lY hib
   refine Wt.out.mono ?_
   rintro e X3 ⟨g,n',c',rfl,RG,hnc,Be,⟨v1,d1⟩,f1,⟨v2,d2⟩,f2,Ff,hst⟩
   have IJ:(a:Int)<n':=by omega
   have IK:(n':Int)≤401:=by omega
   obtain⟨X4,Fg⟩:∃X4,X4=X3.setCell ⟨q,1,none⟩ (.slice (some ⟨g,0,none⟩) n' c'):=⟨_,rfl⟩
   have e1:X4.cell? ⟨q,1,none⟩=some (.slice (some ⟨g,0,none⟩) n' c'):=by rw[Fg];exact World.cell?_setCell_same _ _ _ d1
   have e2:X4.cell? ⟨g,a*3+1,none⟩=some v2:=by rw[Fg,World.cell?_setCell_other _ _ _ _ (by intro e;injection e with e;exact Ff e.symm)];exact d2
   have hbk:X4.heap[g]?=X3.heap[g]?:=by rw[Fg];exact ((aj.refl (fun b=>b=q) X3).setCell ⟨q,1,none⟩ _ fun _=>rfl).block g (World.block_lt_of_cell? _ _ d2) Ff
   have e3:X4.frozen? ⟨g,a*3+1,none⟩=false:=by unfold World.frozen? at f2 ⊢;rw[hbk];exact f2
   rw[←Fg] at hst
   have nU:=aa hst
   clear hst
   go_wp2_with fail
   rw[←Fg]
   clear Fg d1 f1 d2 f2 c1
   go_wp2_with fail
   refine nU.out.mono ?_
   rintro e w9 ⟨c,rfl,hG⟩
   have HG:=aa hG
   clear hG
   go_wp2_with fail
   go_ret
   exact⟨c,rfl,HG.out⟩
  ·have IJ:(a:Int)<n':=by omega
   have IK:(n':Int)≤400:=by omega
   by_cases hv:v0=vl
   ·have HG:=aa (heq hv)
    have BJ:(bs v0).toList=(bs vl).toList:=by rw[hv]
    clear heq hne
    go_wp2_with fail
    go_ret
    exact⟨0,rfl,HG.out⟩
   ·have nU:=aa (hne hv)
    have BJ:((bs v0).toList==(bs vl).toList)=false:=by rw[az,az];exact beq_eq_false_iff_ne.2 hv
    clear heq hne hv
    go_wp2_with fail
    refine nU.out.mono ?_
    rintro e w9 ⟨c,rfl,hG⟩
    have HG:=aa hG
    clear hG
    go_wp2_with fail
    go_ret
    exact⟨c,rfl,HG.out⟩
end
section
variable {E:Ev} {X0 X X' Y V w:World} {R0 R R':Nat→Prop} {ps:List (Nat×List UInt8)} {pg:List (Option Wl.Text)} {rt:List Nat} {M M':Nat→Option NV} {K:Nat} {T:Tr.E (K+1)} {key vl:List UInt8} {q pr n cap:Nat} {pw:Value} {m:NV} {c:Tr.E 1} {path out:List Nat} {pre post:List (Tr.Tx×Tr.Tx)}
theorem ep.still {lv:Nat} {c:Tr.E (lv+1)} {rl:List Nat} (f:ep E X0 R0 ps pg rt key K T lv q pw X R M m c path pre post out rl) (hb:Below X.heap.size X X'):ep E X0 R0 ps pg rt key K T lv q pw X' R M m c path pre post out rl:=
 ⟨f.ts.still hb (fun _ h=>h) (fun _ h=>.inl h),f.above,f.i_,f.jA,f.its,f.own,f.was,f.st,f.ok,f.nd,Own.below f.row hb (Nat.le_refl _),f.yg,f.Og,f.Oh,f.uP,f.Lb,f.Lc⟩
theorem nL (l:Tr.bt):af 0 l=l.map fun p:Tr.Tx×Tr.Tx=>(⟨p.1,p.2,none⟩:It):=rfl
theorem pz (l:Tr.bt) (key:List UInt8):posOf (af 0 l) key=(l.takeWhile fun x=>Tr.lt x.1 key).length:=by
 rw[nL]
 unfold posOf
 rw[List.takeWhile_map,List.length_map]
 rfl
theorem nM {l:Tr.bt} {key:List UInt8} (hs:Tr.aP l):(cE (af 0 l) key=false→∀x∈l,x.1≠key)∧(cE (af 0 l) key=true→∃h:posOf (af 0 l) key<l.length,(l[posOf (af 0 l) key]).1=key):=by
 have hp:=pz l key
 constructor
 ·intro ht x hx e
  obtain⟨h1,h2⟩:=Tr.gX hs hp
  have hd:x∈l.drop (posOf (af 0 l) key):=by rw[h2];exact List.mem_filter.2 ⟨hx,by rw[e,Tr.lt_irrefl];rfl⟩
  have hlt:posOf (af 0 l) key<l.length:=by
   rcases Nat.lt_or_ge (posOf (af 0 l) key) l.length with h|h
   ·exact h
   ·rw[List.drop_eq_nil_of_le h] at hd;cases hd
  have hk:(l[posOf (af 0 l) key]).1=key:=by
   have hc:l.drop (posOf (af 0 l) key)=l[posOf (af 0 l) key]::l.drop (posOf (af 0 l) key+1):=List.drop_eq_getElem_cons hlt
   rw[hc] at hd
   have hr:(l.drop (posOf (af 0 l) key)).Pairwise fun a b=>Tr.lt a.1 b.1=true:=hs.sublist (List.drop_sublist _ _)
   rw[hc] at hr
   rcases List.mem_cons.1 hd with rfl|hd
   ·exact e
   ·have h3:=(List.pairwise_cons.1 hr).1 x hd
    rw[e] at h3
    have h4:l[posOf (af 0 l) key]∈l.filter (fun x=> !Tr.lt x.1 key):=by rw[←h2,hc];exact List.mem_cons_self
    have h5:=(List.mem_filter.1 h4).2
    rw[h3] at h5;cases h5
  have hg:(af 0 l)[posOf (af 0 l) key]?=some ⟨(l[posOf (af 0 l) key]).1,(l[posOf (af 0 l) key]).2,none⟩:=by
   simp only[nL] at hlt ⊢
   rw[List.getElem?_map,List.getElem?_eq_getElem hlt];rfl
  unfold cE at ht
  rw[hg] at ht
  have:decide ((l[posOf (af 0 l) key]).1=key)=false:=ht
  rw[hk] at this
  simp at this
 ·intro ht
  unfold cE at ht
  rcases Nat.lt_or_ge (posOf (af 0 l) key) l.length with h|h
  ·have hg:(af 0 l)[posOf (af 0 l) key]?=some ⟨(l[posOf (af 0 l) key]).1,(l[posOf (af 0 l) key]).2,none⟩:=by
    simp only[nL] at h ⊢
    rw[List.getElem?_map,List.getElem?_eq_getElem h];rfl
   rw[hg] at ht
   exact⟨h,of_decide_eq_true ht⟩
  ·have hg:(af 0 l)[posOf (af 0 l) key]?=none:=List.getElem?_eq_none (by rw[nL,List.length_map];exact h)
   rw[hg] at ht
   cases ht
theorem Ot (f:ep E X0 R0 ps pg rt key K T 0 q (.slice (some ⟨pr,0,none⟩) n cap) X R M m c path pre post out (q::path).reverse) {S:Nat→Prop} (hb:aj S X Y) (hS:∀b,S b→b=q∨b=m.rg) {l:List (Tr.Tx×Tr.E 0)} {g c':Nat} {m':NV} (hm':m'=⟨m.level,af 0 l,g,0,c',m.page,m.lo,m.hi,m.was,m.at_,m.fresh,true⟩) (hnd:Nd Y q m') (how:aD 0 Y (.slice (some ⟨g,0,none⟩) (af 0 l).length c') (af 0 l)) (hg:g=m.rg∨X.heap.size≤g)
  (iq:Tr.Ord m.lo (gD m.hi) (l:Tr.bt)) (hsz:Tr.sz 0 l≤664) (htk:(Tr.bg (K+1) T).Nodup) (htn:∀x∈Tr.bg (K+1) T,(pg.getD x none).isSome=true):
  ∃R',Dj E X0 R0 R' ps pg rt (upd M q m') Y q m' c l K T path pre post out pr:=by
 have wu:=f.ts.mem
 have hmb:∀b,MB (upd M q m') b→MB M b∨b=g:=by
  rintro b ⟨r,y,hr,hk⟩
  rcases ak hr with⟨rfl,rfl⟩|⟨_,hr⟩
  ·rcases hk with rfl|hk
   ·exact .inl ⟨_,m,f.i_,.inl rfl⟩
   ·rw[hm'] at hk;exact .inr hk
  ·exact .inl ⟨r,y,hr,hk⟩
 have Y3:∀b,S b→MB M b:=fun b hb=>by
  rcases hS b hb with e|e
  ·exact⟨q,m,f.i_,.inl e⟩
  ·exact⟨q,m,f.i_,.inr e⟩
 have hmem:Mem Y (upd M q m'):=wu.renew f.i_ m' hb (fun b hb=>(hS b hb).imp_right fun e=>⟨e,f.own⟩) hnd (by rw[hm']) (by rw[hm'];exact how) (by
  rw[hm']
  rcases hg with e|e
  ·exact .inl ⟨e,f.own⟩
  ·exact .inr e)
 have rF:g<Y.heap.size:=(Own.block how g rfl).2
 have hts:TS E X0 R0 (fun b=>R b∨b=g) ps pg rt (upd M q m') Y:=f.ts.own hb (fun b _ hb=>f.ts.gM b (Y3 b hb)) hmem (fun b hb=>by
  rcases hmb b hb with h|rfl
  ·exact⟨.inl (f.ts.gM b h).1,(f.ts.gM b h).2⟩
  ·refine⟨.inr rfl, ?_⟩
   rcases hg with e|e
   ·rw[e];exact (f.ts.gM _ ⟨q,m,f.i_,.inr rfl⟩).2
   ·exact Nat.le_trans f.ts.but.size e) (fun _ h=>.inl h) (fun b hb=>by
  rcases hb with hb|rfl
  ·exact .inl hb
  ·rcases hg with e|e
   ·rw[e];exact .inl (f.ts.gM _ ⟨q,m,f.i_,.inr rfl⟩).1
   ·exact .inr ⟨e,rF⟩)
 have Wu:q∉path:=fun h=>(List.nodup_append.1 f.nd).2.2 q h q List.mem_cons_self rfl
 have Cl:=f.yg pr rfl
 have Wd:=(Own.block f.row pr rfl).2
 obtain⟨page,bD,-⟩:=f.st.1
 have hlo:m'.lo=m.lo∧m'.hi=m.hi:=by rw[hm'];exact⟨rfl,rfl⟩
 refine⟨_,hts, ?_,aM _ _ _,by rw[hm'];exact f.jA.level,by rw[hm'],by rw[hm'];exact f.jA.page,by rw[hm'];exact f.was,⟨hsz,by rw[hlo.1,hlo.2];exact Tr.IV iq⟩,.inl (by rw[bD];rfl),f.nd, ?_,⟨.inl Cl.1,fun hm=> ?_⟩,htk,htn,f.uP⟩
 ·rw[hlo.1,hlo.2]
  exact f.above.frame fun r hr=>aA fun e=>Wu (by rw[←e];exact hr)
 ·exact (Own.lies f.row).but hb fun hs=>Cl.2 (Y3 _ hs)
 ·rcases hmb _ hm with hm|hm
  ·exact Cl.2 hm
  ·rcases hg with e|e
   ·exact Cl.2 (by rw[hm,e];exact⟨q,m,f.i_,.inr rfl⟩)
   ·omega
end
section
variable {E:Ev} {X0 X X' Y V w:World} {R0 R R':Nat→Prop} {ps:List (Nat×List UInt8)} {pg:List (Option Wl.Text)} {rt:List Nat} {M M':Nat→Option NV} {K:Nat} {T:Tr.E (K+1)} {key vl:List UInt8} {q pr cap:Nat} {m:NV} {c:Tr.E 1} {path out:List Nat} {pre post:List (Tr.Tx×Tr.Tx)}
def ue (p:Tr.Tx×Tr.Tx):It:=⟨p.1,p.2,none⟩
theorem Fh {lo:Tr.Tx} {h:Option Tr.Tx} {l:Tr.bt} (o:Tr.Ord lo h l):∀i∈af 0 l,i.key.length≤200∧i.val.length≤200:=by
 intro i hi
 rw[nL] at hi
 obtain⟨p,hp,rfl⟩:=List.mem_map.1 hi
 exact⟨Nat.le_trans (o.keys p hp) (by decide),Nat.le_trans (o.vals p hp) (by decide)⟩
theorem Ll (l:Tr.bt):2*l.length≤Tr.sz 0 (l:List (Tr.Tx×Tr.E 0)):=Tr.fX 0 (l:List (Tr.Tx×Tr.E 0))
theorem Ct (l:Tr.bt):(af 0 l).length=l.length:=by rw[nL,List.length_map]
theorem qh {n:Nat} (hrow:aJ bU X pr 0 (q::path).reverse) (hn:path.length=n):X.cell? ⟨pr,n,none⟩=some (.pointer (some ⟨q,0,none⟩)):=by
 subst hn
 have Pc:(q::path).reverse.getD path.length 0=q:=jC (path:=path) (by rw[List.take_of_length_le (by simp)]) rfl
 have hjl:path.length<(q::path).reverse.length:=by simp
 have:=hrow.at path.length 0 (by decide) hjl (.pointer (some ⟨(q::path).reverse[path.length],0,none⟩)) rfl
 rw[show 0+(path.length*bU.size+0)=path.length from by show 0+(path.length*1+0)=path.length;omega] at this
 rw[List.getD_eq_getElem?_getD,List.getElem?_eq_getElem hjl] at Pc
 have e:(q::path).reverse[path.length]=q:=Pc
 rw[e] at this
 exact this
theorem qi (f:ep E X0 R0 ps pg rt key K T 0 q (.slice (some ⟨pr,0,none⟩) (path.length+1) cap) X R M m c path pre post out (q::path).reverse) {S:Nat→Prop} (hb:aj S X Y) (hS:∀b,S b→b=q∨b=m.rg) {l:Tr.bt} {g c':Nat} (hblk:aG Y q 90 (m.cells.set 1 (.slice (some ⟨g,0,none⟩) l.length c'))) (how:aD 0 Y (.slice (some ⟨g,0,none⟩) l.length c') (af 0 l)) (hg:g=m.rg∨X.heap.size≤g)
  (iq:Tr.Ord m.lo (gD m.hi) l) (hsz:Tr.sz 0 (l:List (Tr.Tx×Tr.E 0))≤664) (htk:(Tr.bg (K+1) T).Nodup) (htn:∀x∈Tr.bg (K+1) T,(pg.getD x none).isSome=true) (hq:ps.length≤60000000) (bY:E.place<16):
  Calls Tryz.prog 35 #[ptr E.tb,.slice (some ⟨pr,0,none⟩) (path.length+1) cap] Y fun e w'=>∃c:Int,e=.returned (.int .i64 c)∧Done E X0 R0 ps pg rt (pre++l++post) (Tr.bg (K+1) T) c w'∧(Tr.sz 0 (l:List (Tr.Tx×Tr.E 0))≤510→c=0):=by
 obtain⟨m',hm'⟩:∃m':NV,m'=⟨m.level,af 0 l,g,0,c',m.page,m.lo,m.hi,m.was,m.at_,m.fresh,true⟩:=⟨_,rfl⟩
 have hcap:=eZ how
 have hlen:=Ct l
 have hl2:=Ll l
 have hnd:Nd Y q m':=by
  refine⟨?_,by rw[hm'];exact Own.lies how, ?_⟩
  ·rw[hm']
   have e:NV.cells ⟨m.level,af 0 l,g,0,c',m.page,m.lo,m.hi,m.was,m.at_,m.fresh,true⟩=m.cells.set 1 (.slice (some ⟨g,0,none⟩) l.length c'):=by
    unfold NV.cells
    simp only[hlen]
    rfl
   rw[e]
   exact hblk
  ·rw[hm']
   exact⟨by show (af 0 l).length≤400;omega,Fh iq,by show (af 0 l).length≤c'∧_;rw[hlen];exact hcap.2⟩
 rw[←hlen] at how
 obtain⟨R',s⟩:=Ot f hb hS hm' hnd how hg iq hsz htk htn
 refine (tV s hq bY).mono ?_
 rintro e w' ⟨z,rfl,h1,h2⟩
 obtain⟨page,bD,-⟩:=f.st.1
 exact⟨z,rfl,h1,fun h=>h2 h (by rw[bD];rfl)⟩
theorem qj (f:ep E X0 R0 ps pg rt key K T 0 q (.slice (some ⟨pr,0,none⟩) (path.length+1) cap) X R M m c path pre post out (q::path).reverse):∃lf:Tr.bt,m.its=lf.map ue∧Tr.Ord m.lo (gD m.hi) lf∧Tr.sz 0 (lf:List (Tr.Tx×Tr.E 0))≤510∧Gf m.its∧Tr.bE K (Tr.its T)=pre++lf++post∧lf.length≤255∧m.ro=0∧aD 0 X (.slice (some ⟨m.rg,0,none⟩) m.its.length m.cap) m.its:=by
 have h1:Tr.Ord m.lo (gD m.hi) (Tr.bE 0 (Tr.its c)):=Tr.nK f.ok
 have h2:Tr.sz 0 (Tr.its c)≤510:=f.ok.2.1
 have h3:2*(Tr.its c).length≤Tr.sz 0 (Tr.its c):=Tr.fX 0 (Tr.its c)
 have h4:=f.ts.mem.own q m f.i_ f.own
 have h5:(Tr.its c).length≤255:=by omega
 exact⟨(Tr.its c:Tr.bt),f.its,h1,h2,sZ (by rw[f.its,bV];exact (fD f.ok.2.2).1),f.above.bE,h5,h4.1,h4.2⟩
theorem Lm (f:ep E X0 R0 ps pg rt key K T 0 q (.slice (some ⟨pr,0,none⟩) (path.length+1) cap) X R M m c path pre post out (q::path).reverse) (hk:key.length≤96) (hv:vl.length≤56) (hm:eC pg (rt.getD E.place 0) (Tr.bE K (Tr.its T)) (Tr.bg (K+1) T)) (htk:(Tr.bg (K+1) T).Nodup) (hq:ps.length≤60000000) (bY:E.place<16):
  Calls Tryz.prog 33 #[ptr q,.string (bs key)] X fun e X'=>
  (∃a:Nat,e=.returned (.tuple #[.int .i64 a,.bool false])∧a≤400∧∃rv rn rc,X'.cell? ⟨q,1,none⟩=some (.slice rv rn rc)∧∀W ib,W=X'.alloc (.cells #[.string (bs key),.string ⟨#[]⟩,.pointer none] 95)→ib=X'.heap.size→Calls Tryz.prog 34 #[.slice rv rn rc,.int .i64 a,.slice (some ⟨ib,0,none⟩) 1 1] W fun e eu=>
   ∃g n' c',e=.returned (.slice (some ⟨g,0,none⟩) n' c')∧a<n'∧n'≤c'∧n'≤401∧(∃v,eu.cell? ⟨q,1,none⟩=some v)∧eu.frozen? ⟨q,1,none⟩=false∧(∃v,eu.cell? ⟨g,a*3+1,none⟩=some v)∧eu.frozen? ⟨g,a*3+1,none⟩=false∧g≠q∧
    Calls Tryz.prog 35 #[ptr E.tb,.slice (some ⟨pr,0,none⟩) (path.length+1) cap] ((eu.setCell ⟨q,1,none⟩ (.slice (some ⟨g,0,none⟩) n' c')).setCell ⟨g,a*3+1,none⟩ (.string (bs vl))) fun e w'=>∃c:Int,e=.returned (.int .i64 c)∧Done E X0 R0 ps pg rt (Tr.put (Tr.bE K (Tr.its T)) key vl) (Tr.bg (K+1) T) c w')∨
  (∃(a g o n' c':Nat) (v0:List UInt8),e=.returned (.tuple #[.int .i64 a,.bool true])∧a<n'∧n'≤400∧X'.cell? ⟨q,1,none⟩=some (.slice (some ⟨g,o,none⟩) n' c')∧X'.cell? ⟨g,o+a*3+1,none⟩=some (.string (bs v0))∧X'.frozen? ⟨g,o+a*3+1,none⟩=false∧(v0=vl→Done E X0 R0 ps pg rt (Tr.put (Tr.bE K (Tr.its T)) key vl) (Tr.bg (K+1) T) 0 X')∧
   (v0≠vl→Calls Tryz.prog 35 #[ptr E.tb,.slice (some ⟨pr,0,none⟩) (path.length+1) cap] (X'.setCell ⟨g,o+a*3+1,none⟩ (.string (bs vl))) fun e w'=>∃c:Int,e=.returned (.int .i64 c)∧Done E X0 R0 ps pg rt (Tr.put (Tr.bE K (Tr.its T)) key vl) (Tr.bg (K+1) T) c w')):=by
 obtain⟨lf,dM,iq,hsz,Ao,oY,Gv,hro,hown⟩:=qj f
 have hlen:m.its.length=lf.length:=by rw[dM,List.length_map]
 have htn:=eT hm
 have hnd:=f.ts.mem.nd q m f.i_
 have mT:posOf m.its key=(lf.takeWhile fun x=>Tr.lt x.1 key).length:=by rw[dM];exact pz lf key
 have La:=su m.its key
 have Ax:Tr.put (Tr.bE K (Tr.its T)) key vl=pre++Tr.put lf key vl++post:=by rw[oY];exact Tr.yj f.Og f.Oh
 have MM:=iq.put (v:=vl) f.Lb f.Lc hk hv
 have RM:Tr.sz 0 (Tr.put lf key vl:List (Tr.Tx×Tr.E 0))≤664:=by
  have:=Tr.IX (key:=key) (v:=vl) lf
  omega
 have vM:m.rg≠q:=by have:=f.ts.mem.BO f.i_ f.i_;exact this
 refine (iL hnd Ao key).mono ?_
 rintro e X' ⟨rfl,hb⟩
 have f':=f.still hb
 have lC:=hnd.still hb
 have hown':aD 0 X' (.slice (some ⟨m.rg,0,none⟩) m.its.length m.cap) m.its:=Own.below hown hb (Nat.le_refl _)
 have Da:=(f'.ts.mem.lt f.i_)
 have hc1:=lC.c1
 rw[hro] at hc1
 have iy:=nM (key:=key) iq.iZ
 rw[←show m.its=af 0 lf from dM] at iy
 obtain⟨a,ha⟩:∃a,a=posOf m.its key:=⟨_,rfl⟩
 rw[←ha] at mT La ⊢
 have RN:=Tr.IP (v:=vl) iq.iZ mT
 cases ht:cE m.its key with
 |false=>
  have hno:=iy.1 ht
  have hput:=Tr.IM (v:=vl) iq.iZ mT hno
  left
  refine⟨a,rfl,by omega,_,_,_,hc1,fun W ib hW hib=> ?_⟩
  have hbW:Below X'.heap.size X' W:=by rw[hW];exact (Below.refl _ X').alloc (Nat.le_refl _) _
  have hbk:aG W ib 95 [.string (bs key),.string ⟨#[]⟩,.pointer none]:=by rw[hW,hib];exact aG.new X' _ _
  have gz:aJ ah W ib 0 [⟨key,[],none⟩]:=aJ.dI hbk rfl
  have RO:aD 0 W (.slice (some ⟨m.rg,0,none⟩) m.its.length m.cap) m.its:=Own.below hown' hbW (Nat.le_refl _)
  refine (tJ RO (Nat.zero_le _) (by omega) gz (fun k hk=> ?_) ⟨_,hbk⟩ La).mono ?_
  ·have e:m.rg=k:=Option.some.inj hk
   have:=Da.2
   omega
  rintro e eu ⟨v',rfl,ho,Fz,Rg,nH⟩
  obtain⟨gB,Dt⟩:∃gB,gB=m.its.take a++⟨key,[],none⟩::m.its.drop a:=⟨_,rfl⟩
  rw[←Dt] at ho
  have Y4:gB.length=m.its.length+1:=by rw[Dt,List.length_append,List.length_cons,List.length_take,List.length_drop];omega
  obtain⟨g,c',rfl,-,rF,Wv⟩:=Own.form ho (by omega)
  have Te:g=m.rg∨W.heap.size≤g:=by
   rcases Rg with e|e
   ·left;exact Option.some.inj e
   ·exact .inr (e g rfl)
  have hsW:=hbW.size
  have Ff:g≠q:=by
   rcases Te with e|e
   ·rw[e];exact vM
   ·have:=Da.1;omega
  have hnb:¬(Value.slice (some ⟨m.rg,0,none⟩) m.its.length m.cap).ownBlock=some q:=fun e=>vM (Option.some.inj e)
  have Cu:aG eu q 90 m.cells:=(lC.blk.below hbW Da.1).but Fz hnb
  have hal:a<gB.length:=by omega
  have fV:gB[a]=⟨key,[],none⟩:=by
   have e:gB[a]?=some ⟨key,[],none⟩:=by rw[Dt,List.getElem?_append_right (by rw[List.length_take];omega),List.length_take,Nat.min_eq_left (by omega),Nat.sub_self];rfl
   rw[List.getElem?_eq_getElem hal] at e
   exact Option.some.inj e
  have hit:=aH (Own.lies ho) a hal
  have hcells:=sO gB a 1 hal (by decide) ⟨key,vl,none⟩ (.string (bs vl)) (by rw[fV];rfl)
  have Ay:gB.set a ⟨key,vl,none⟩=(Tr.put lf key vl).map ue:=by
   rw[←hput,Dt,List.set_append_right _ _ (by rw[List.length_take];omega),List.length_take,Nat.min_eq_left (by omega),Nat.sub_self,List.set_cons_zero]
   rw[dM,←List.map_take,←List.map_drop,List.map_append]
   rfl
  have hl2:(Tr.put lf key vl).length=gB.length:=by rw[←List.length_map (f:=ue),←Ay,List.length_set]
  obtain⟨Y1,Cv⟩:∃Y1,Y1=eu.setCell ⟨q,1,none⟩ (.slice (some ⟨g,0,none⟩) gB.length c'):=⟨_,rfl⟩
  have Cw:aj (fun b=>b=q) eu Y1:=by rw[Cv];exact (aj.refl (fun b=>b=q) eu).setCell _ _ fun _=>rfl
  have Ou:aD 0 Y1 (.slice (some ⟨g,0,none⟩) gB.length c') gB:=Own.but ho Cw fun b hb e=>Ff (by have e2:g=b:=Option.some.inj hb;rw[e2,e])
  have Fi:aD 0 (Y1.setCell ⟨g,a*3+1,none⟩ (.string (bs vl))) (.slice (some ⟨g,0,none⟩) (Tr.put lf key vl).length c') ((Tr.put lf key vl).map ue):=by
   have h1:=(World.ownsRow.stored Ou (a*3+1) (.string (bs vl))).1
   rw[←Ay,hl2]
   unfold aD Own
   rw[hcells,List.length_set]
   exact h1
  have Ov:aG (Y1.setCell ⟨g,a*3+1,none⟩ (.string (bs vl))) q 90 (m.cells.set 1 (.slice (some ⟨g,0,none⟩) (Tr.put lf key vl).length c')):=by
   rw[hl2]
   have h1:aG Y1 q 90 (m.cells.set 1 (.slice (some ⟨g,0,none⟩) gB.length c')):=by rw[Cv];exact Cu.set 1 _
   exact h1.but ((aj.refl (fun b=>b=g) Y1).setCell _ _ fun _=>rfl) fun e=>Ff e.symm
  refine⟨g,gB.length,c',rfl,hal,Wv,by omega,⟨_,Cu.cell (j:=1) rfl⟩,Cu.frozen 1,⟨_,by have:=hit.2.1;rw[Nat.zero_add] at this;exact this⟩,Own.frozen ho _,Ff, ?_⟩
  rw[←Cv,Ax]
  have KC:aj (fun b=>b=q∨b=m.rg) X' Y1:=((aj.aq hbW (fun b=>b=q∨b=m.rg)).trans Fz (fun b _ e=>.inr (Option.some.inj e).symm)).trans Cw fun b _ e=>.inl e
  refine (qi f' (KC.trans ((aj.refl (fun b=>b=g) Y1).setCell ⟨g,a*3+1,none⟩ (.string (bs vl)) fun _=>rfl) (fun b hlt e=> ?_)) (fun b h=>h) Ov Fi (Te.imp_right fun h=>Nat.le_trans hsW h) MM RM htk htn hq bY).mono fun _ _ h=>h.imp fun _ h=>⟨h.1,h.2.1⟩
  rcases Te with e2|e2
  ·exact .inr (by rw[e,e2])
  ·have e3:b=g:=e
   omega
 |true=>
  right
  obtain⟨gQ,hkk⟩:=iy.2 ht
  rw[←ha] at gQ
  have hkk':(lf[a]'gQ).1=key:=by
   have h:=hkk
   simp only[←ha] at h
   exact h
  have hal:a<m.its.length:=by omega
  have hput:=RN gQ hkk'
  have fV:m.its[a]=⟨key,(lf[a]'gQ).2,none⟩:=by
   have e:m.its[a]?=some ⟨(lf[a]'gQ).1,(lf[a]'gQ).2,none⟩:=by
    rw[dM,List.getElem?_map,List.getElem?_eq_getElem gQ];rfl
   rw[List.getElem?_eq_getElem hal] at e
   rw[Option.some.inj e,hkk']
  have hit:=aH lC.row a hal
  rw[fV,hro] at hit
  obtain⟨cur,jH⟩:=f'.ts.mem.ty q m f.i_
  refine⟨a,m.rg,0,m.its.length,m.cap,(lf[a]'gQ).2,rfl,hal,by omega,hc1,hit.2.1,by simp[World.frozen?,jH],fun he=> ?_,fun _=> ?_⟩
  ·have hmem:(key,vl)∈Tr.bE K (Tr.its T):=by
    rw[oY,←he,←hkk']
    exact List.mem_append.2 (.inl (List.mem_append.2 (.inr (List.getElem_mem gQ))))
   have hris:Tr.aP (Tr.bE K (Tr.its T)):=by
    have h5:=hm
    rcases h5 with⟨_,e,_⟩|⟨k',t',_,_,_,_,_,h6,h7,_⟩
    ·rw[e];exact .nil
    ·rw[h7];exact (Tr.nK h6).iZ
   refine .inl ⟨rfl,R,M,ps,pg,rt.getD E.place 0,Tr.bg (K+1) T, ?_,by omega, ?_,⟨rfl,fun _ _ _=>rfl,fun x h1 h2=>absurd h1 h2,fun x h1 h2=>absurd h1 h2,rfl⟩⟩
   ·rw[dH rfl (by rw[f'.ts.rm.rep.pQ];exact bY)]
    exact f'.ts
   ·rw[Tr.IU hris hmem];exact hm
  ·have Ay:m.its.set a ⟨key,vl,none⟩=(Tr.put lf key vl).map ue:=by
    rw[←hput,dM,List.map_set]
    rfl
   have hl2:(Tr.put lf key vl).length=m.its.length:=by rw[←List.length_map (f:=ue),←Ay,List.length_set]
   have hcells:=sO m.its a 1 hal (by decide) ⟨key,vl,none⟩ (.string (bs vl)) (by rw[fV];rfl)
   rw[show 0+a*3+1=a*3+1 by omega,Ax]
   have Ww:aD 0 (X'.setCell ⟨m.rg,a*3+1,none⟩ (.string (bs vl))) (.slice (some ⟨m.rg,0,none⟩) (Tr.put lf key vl).length m.cap) ((Tr.put lf key vl).map ue):=by
    have h1:=(World.ownsRow.stored hown' (a*3+1) (.string (bs vl))).1
    rw[←Ay,hl2]
    unfold aD Own
    rw[hcells,List.length_set]
    exact h1
   have Mc:aj (fun b=>b=m.rg) X' (X'.setCell ⟨m.rg,a*3+1,none⟩ (.string (bs vl))):=(aj.refl (fun b=>b=m.rg) X').setCell _ _ fun _=>rfl
   have Ov:aG (X'.setCell ⟨m.rg,a*3+1,none⟩ (.string (bs vl))) q 90 (m.cells.set 1 (.slice (some ⟨m.rg,0,none⟩) (Tr.put lf key vl).length m.cap)):=by
    have e:m.cells.set 1 (.slice (some ⟨m.rg,0,none⟩) (Tr.put lf key vl).length m.cap)=m.cells:=by
     rw[hl2]
     unfold NV.cells
     rw[hro]
     rfl
    rw[e]
    exact lC.blk.but Mc fun e=>vM e.symm
   exact (qi f' Mc (fun b e=>.inr e) Ov Ww (.inl rfl) MM RM htk htn hq bY).mono fun _ _ h=>h.imp fun _ h=>⟨h.1,h.2.1⟩
end
end Go.Proofs.YtloekpcncjocaaaGreatDoor
