/- Elder texts, cut down and merged (20). -/
import Derived.Test.YtloekpcncjocaaaGreatDoorP19
import Derived.Test.YtloekpcncjocaaaGreatDoorP18
import Derived.Deep.CutBlock
import Derived.Deep.DeepCutAuto
import Derived.Test.YtloekpcncjocaaaGreatDoorPTk
set_option maxRecDepth 100000
set_option maxHeartbeats 8000000
namespace Go.Proofs.YtloekpcncjocaaaGreatDoor
open Go.RowKit Lib
def two {α:Type} (a b:α):Nat→α:=fun k=>if k=0 then a else b
theorem Jn {w X:World} {A:Nat→Prop} {g b xb n:Nat} (h:C1 A 200 g 1 b xb (Wl.bO n) [] X) (hA:∀k,k<w.heap.size→A k) (hb:Below w.heap.size w X) (h1:3≤n) (h2:n≤4098):
  T2 w X.heap.size n (two (X.heap.size+1) (X.heap.size+2)) (two 0 15) (fun _=>[]) 0 [] 0 [] (((X.alloc (.cells #[ptr xb] 75)).alloc (.cells #[ptr X.heap.size,.int .i64 0] 81)).alloc (.cells #[ptr X.heap.size,.int .i64 15] 81)):=by
 have hm:=AI h h1 h2 (show 0<16 by decide)
 generalize gP:(X.alloc (.cells #[ptr xb] 75))=W1 at*
 have hs1:W1.heap.size=X.heap.size+1:=by rw[←gP];exact World.size_alloc _ _
 generalize lY:(W1.alloc (.cells #[ptr X.heap.size,.int .i64 (0:Nat)] 81))=W2 at hm
 have iU:W2.heap.size=X.heap.size+2:=by rw[←lY,World.size_alloc,hs1]
 have aQ:Below w.heap.size w W1:=by rw[←gP];exact hb.alloc hb.size _
 have aC:Below w.heap.size w W2:=by rw[←lY];exact aQ.alloc (by have:=hb.size;omega) _
 have cC:Below w.heap.size w (W2.alloc (.cells #[ptr X.heap.size,.int .i64 15] 81)):=aC.alloc (by have:=hb.size;omega) _
 have qt:Below W2.heap.size W2 (W2.alloc (.cells #[ptr X.heap.size,.int .i64 15] 81)):=(Below.refl _ W2).alloc (Nat.le_refl _) _
 have hm0:=hm.hold (R':=fun k=>((A k∨k=X.heap.size)∨k=X.heap.size+1)∨k=X.heap.size+2) qt (fun k hk=>hk.imp_right fun e=>by rw[e,World.size_alloc,iU];omega) (.inl (.inl (.inr rfl))) (.inl (.inr rfl))
 have hblk:=aG.new W2 #[ptr X.heap.size,.int .i64 15] 81
 rw[iU] at hblk
 refine⟨⟨g,b,xb,fun k=>((A k∨k=X.heap.size)∨k=X.heap.size+1)∨k=X.heap.size+2,[],List.replicate (n-2) none,List.replicate 16 0,fun _=>[],fun k hk=> ?_,Nat.le_refl _,List.length_replicate,pG _,⟨fun k hk=>.inl (.inl (.inl (hA k hk))),cC,fun p hp=>(by cases hp),fun p hp=>(by cases hp)⟩⟩,(by decide)⟩
 rcases (show k=0∨k=1 by omega) with rfl|rfl
 ·exact hm0
 ·refine⟨hm0.rm,hblk,.inr rfl,(by decide:15<16),.inl ⟨?_,rfl,rfl⟩,List.nodup_nil,fun x hx=>(by cases hx),pG _⟩
  rw[List.getD_eq_getElem?_getD,List.getElem?_replicate]
  rfl
section
variable {w X:World} {rb n B U:Nat} {tb pl:Nat→Nat} {l:Nat→Tr.bt} {vs:Nat→Value} {V:List (Value×Tr.bt)} {v':Value} {L':Tr.bt} {gw k:Nat} {tw:TypeId} {A A0:List (Nat×TypeId×List Value)}
theorem LM {α:Type} (f:Nat→α) (a:α) (hk:k<2):[f 0,f 1].set k a=[kK f k a 0,kK f k a 1]:=by
 rcases (show k=0∨k=1 by omega) with rfl|rfl<;>rfl
theorem CH {α:Type} (f:Nat→α) (hk:k<2):[f 0,f 1][k]?=some (f k):=by
 rcases (show k=0∨k=1 by omega) with rfl|rfl<;>rfl
theorem wM (h:T2 w rb n tb pl (kK l k L') B ((v',L')::[(vs 0,l 0),(vs 1,l 1)]) U A X) (hk:k<2) (hg:(gw,tw,[vs 0,vs 1])∈A) (mA:w.heap.size≤gw) (h1':tw≠81) (h2':tw≠75) (h3':63≠tw) (JK:∀p∈A0,p∈A∧p.1≠gw):
  T2 w rb n tb pl (kK l k L') B [(kK vs k v' 0,kK l k L' 0),(kK vs k v' 1,kK l k L' 1)] U ((gw,tw,[kK vs k v' 0,kK vs k v' 1])::A0) (X.setCell ⟨gw,k,none⟩ v'):=by
 have hs:T2 w rb n tb pl (kK l k L') B ((v',L')::[(vs 0,l 0),(vs 1,l 1)]) U ((gw,tw,[vs 0,vs 1].set k v')::A0) (X.setCell ⟨gw,k,none⟩ v'):=h.store hg mA k v' h1' h2' h3' fun p hp=>by
  rcases List.mem_cons.1 hp with rfl|hp
  ·exact .inr rfl
  ·exact .inl (JK p hp)
 rw[LM vs v' hk] at hs
 refine hs.less (fun p hp=> ?_) fun _ h=>h
 have hm:∀j,j<2→(kK vs k v' j,kK l k L' j)∈(v',L')::[(vs 0,l 0),(vs 1,l 1)]:=fun j hj=>by
  by_cases e:j=k
  ·subst e
   rw[fI,fI]
   exact List.mem_cons_self
  ·rw[gd _ _ e,gd _ _ e]
   rcases (show j=0∨j=1 by omega) with rfl|rfl
   ·exact List.mem_cons_of_mem _ List.mem_cons_self
   ·exact List.mem_cons_of_mem _ (List.mem_cons_of_mem _ List.mem_cons_self)
 rcases List.mem_cons.1 hp with rfl|hp
 ·exact hm 0 (by decide)
 ·rcases List.mem_cons.1 hp with rfl|hp
  ·exact hm 1 (by decide)
  ·cases hp
theorem DA (h:T2 w rb n tb pl l B V U A X) {f:Nat→Value} (hg:(gw,tw,[f 0,f 1])∈A) (hk:k<2):X.cell? ⟨gw,k,none⟩=some (f k):=(h.blk hg).cell (CH f hk)
end
theorem nQ {w X:World} {rb n B U k:Nat} {tb pl:Nat→Nat} {l M:Nat→Tr.bt} {vs:Nat→Value} {V:List (Value×Tr.bt)} {A:List (Nat×TypeId×List Value)} (h:T2 w rb n tb pl l B V U A X) (h0:(vs 0,M 0)∈V) (h1:(vs 1,M 1)∈V) (hk:k<2):bR w.heap.size X (vs k) (M k):=by
 rcases (show k=0∨k=1 by omega) with rfl|rfl
 ·exact h.row h0
 ·exact h.row h1
theorem DB (L:Nat→Tr.bt) {k:Nat} (hk:k<2) (l:Tr.bt) (h:l.length≤(L k).length+1):(kK L k l 0).length+(kK L k l 1).length≤(L 0).length+(L 1).length+1:=by
 rcases (show k=0∨k=1 by omega) with rfl|rfl
 ·rw[fI,gd L l (by decide:(1:Nat)≠0)];omega
 ·rw[fI,gd L l (by decide:(0:Nat)≠1)];omega
theorem Jo {p:Tr.Tx×Tr.Tx} {l:Tr.bt} (h:Tr.aP (p::l)):Tr.del (p::l) p.1=l∧(Tr.got (p::l) p.1).isSome=true:=by
 have h1:=List.pairwise_cons.1 h
 refine⟨?_,by rw[Tr.qQ rfl];rfl⟩
 unfold Tr.del
 rw[List.filter_cons,bne_self_eq_false]
 simp only[Bool.false_eq_true,if_false]
 exact Tr.filter_all fun q hq=>bne_iff_ne.2 (Tr.ne_of_lt (h1.1 q hq)).symm
theorem gY {l:Tr.bt} {lim:Int} {lo hi:List UInt8} {i:Nat} (hi1:i<l.length):(l.take (i+1)).foldl (aX lim lo hi) []=aX lim lo hi ((l.take i).foldl (aX lim lo hi) []) l[i]:=by
 rw[List.take_succ_eq_append_getElem hi1,List.foldl_append]
 rfl
theorem wN (lim:Int) (lo hi:Tr.Tx) (l s:Tr.bt):(l.foldl (aX lim lo hi) s).length≤s.length+l.length:=ud lim lo hi l s
theorem yC (w:World) {B:Nat} {v:Value} {l:Tr.bt} (h:bR B w v l) (hl:l.length≤100000) (lo hi:List UInt8) (lim:Int):
  Calls Tryz.prog 21 #[v,.string (bs lo),.string (bs hi),.int .i64 lim] w fun e w'=>∃v',e=.returned v'∧bR w.heap.size w' v' (l.foldl (aX lim lo hi) [])∧Below w.heap.size w w':=by
 obtain⟨a,cp,rfl,hc⟩:=Own.slice h
 have HO:=aa h
 obtain⟨N,hN⟩:∃N,N=l.length:=⟨_,rfl⟩
 rw[←hN]
 have G8:(N:Int)≤100000:=by omega
 have vB:(N:Int)≤cp:=by omega
 have HN:=aa hN
 have HL:=aa hl
 clear h hN hc hl
 go_enter Tryz.func21,Tryz.ntmps21
 go_wp2_with fail
 go_loopw [9,10] (fun ov iv wr=>∃i:Nat,i≤N∧iv=.int .i64 i∧Hid (bR w.heap.size wr ov ((l.take i).foldl (aX lim lo hi) [])∧Below w.heap.size w wr)) (fun _ iv _=>N-(RowKit.intOf iv).toNat)
 case atStart=>exact⟨0,Nat.zero_le _,rfl,aa ⟨Own.nil _ _ _ _,Below.refl _ _⟩⟩
 case round=>
  rename_i ov iv wr
  obtain⟨i,hiN,rfl,hR⟩:=hrel
  by_cases hlt:i<N
  ·have hI:(i:Int)<N:=by omega
   have hil:i<l.length:=by rw[←HN.out];exact hlt
   obtain⟨g,cap',e,hBg,rF,hlc⟩:=Own.form HO.out (by omega)
   have e1:a=some ⟨g,0,none⟩:=by injection e
   subst e1
   obtain⟨c0,c1⟩:=kH (Own.lies (Own.below HO.out hR.out.2 (Nat.le_refl _))) i hil
   rw[Nat.zero_add] at c0 c1
   obtain⟨kx,jq⟩:∃kx,kx=(l[i]).1:=⟨_,rfl⟩
   obtain⟨vx,mS⟩:∃vx,vx=(l[i]).2:=⟨_,rfl⟩
   rw[←jq] at c0
   rw[←mS] at c1
   have py:=aa jq
   have Fm:=aa mS
   clear jq mS e hBg rF hlc
   have hdl:((l.take i).foldl (aX lim lo hi) []).length≤i:=by
    have:=wN lim lo hi (l.take i) []
    rw[List.length_take] at this
    have e:([]:Tr.bt).length=0:=rfl
    omega
   have aaQ:=aa hdl
   obtain⟨a8,c8,AU,G9⟩:=Own.slice hR.out.1
   subst AU
   have hdI:((((l.take i).foldl (aX lim lo hi) []).length:Nat):Int)≤100000:=by have:=HL.out;omega
   clear hdl
   cases aQ:Op.bytesLess (bs kx).toList (bs lo).toList with
   |true=>
    have hno:¬((((l.take i).foldl (aX lim lo hi) []).length:Int)<lim∧hasB lo hi kx=true):=fun h2=>by
     rw[az,az,Tr.lt_eq] at aQ
     have:=h2.2;unfold hasB at this;rw[aQ] at this;cases this
    have HE:=aa (show (l.take (i+1)).foldl (aX lim lo hi) []=(l.take i).foldl (aX lim lo hi) [] by rw[gY hil,aX,if_neg fun h2=>hno ⟨h2.1,by rw[py.out];exact h2.2⟩])
    clear py Fm hno
    go_wp2_with fail
    go_roundw
    case rel=>exact⟨i+1,hlt,by go_num,aa ⟨by rw[HE.out];exact hR.out.1,hR.out.2⟩⟩
    case measure=>simp[RowKit.intOf];omega
   |false=>
    have kg:Tr.lt kx lo=false:=by rw[az,az,Tr.lt_eq] at aQ;exact aQ
    by_cases hh:hi=[]
    ·have hb:hasB lo hi kx=true:=by unfold hasB;rw[kg,hh];rfl
     have hhb:(bs hi).toList.isEmpty=true:=by rw[hh,az];rfl
     clear hh
     by_cases hlim:((((l.take i).foldl (aX lim lo hi) []).length:Nat):Int)<lim
     ·have Az:=hb
      have HE:=aa (show (l.take (i+1)).foldl (aX lim lo hi) []=(l.take i).foldl (aX lim lo hi) []++[(kx,vx)] by rw[gY hil,aX,if_pos ⟨hlim,by rw[←py.out];exact Az⟩,py.out,Fm.out])
      have p8:=aa (show bR w.heap.size (wr.alloc (.cells #[.string (bs kx),.string (bs vx)] 63)) (.slice a8 ((l.take i).foldl (aX lim lo hi) []).length c8) ((l.take i).foldl (aX lim lo hi) [])∧aJ cQ (wr.alloc (.cells #[.string (bs kx),.string (bs vx)] 63)) wr.heap.size 0 [(kx,vx)]∧((l.take i).foldl (aX lim lo hi) []).length+1≤1000000000∧w.heap.size≤(wr.alloc (.cells #[.string (bs kx),.string (bs vx)] 63)).heap.size∧Below w.heap.size w (wr.alloc (.cells #[.string (bs kx),.string (bs vx)] 63)) from
       ⟨hR.out.1.alloc _,aJ.dI (aG.new wr _ _) rfl,by have:=HL.out;omega,by have:=hR.out.2.size;rw[World.size_alloc];omega,hR.out.2.alloc hR.out.2.size _⟩)
      clear py Fm hR G9 Az
      generalize MQ:((l.take i).foldl (aX lim lo hi) []).length=DL at*
      have Sd:=aa MQ
      clear MQ
      go_wp2_with (at_builtin;refine Hid.out ?_)
      refine aa ?_
      refine bB (K:=cQ) pe rfl _ _ rfl rfl p8.out.1 p8.out.2.2.2.1 wr.heap.size 0 1 1 [(kx,vx)] rfl rfl p8.out.2.1 (by rw[Sd.out];exact p8.out.2.2.1) ?_
      intro v2 w5 cR cP gy
      have HP:=aa (show bR w.heap.size w5 v2 ((l.take (i+1)).foldl (aX lim lo hi) [])∧Below w.heap.size w w5 from⟨by rw[HE.out];exact cR,p8.out.2.2.2.2.trans (((aj.refl _ _).grown cP (fun k e _=>e)).below p8.out.2.2.2.1 fun k hk e=>by have:=(Own.block p8.out.1 k e).1;omega)⟩)
      clear cR cP gy
      go_wp2_with fail
      go_roundw
      case rel=>exact⟨i+1,hlt,by go_num,HP⟩
      case measure=>simp[RowKit.intOf];omega
     ·have hno:¬((((l.take i).foldl (aX lim lo hi) []).length:Int)<lim∧hasB lo hi kx=true):=fun h2=>hlim h2.1
      have HE:=aa (show (l.take (i+1)).foldl (aX lim lo hi) []=(l.take i).foldl (aX lim lo hi) [] by rw[gY hil,aX,if_neg fun h2=>hno ⟨h2.1,by rw[py.out];exact h2.2⟩])
      clear py Fm hno
      go_wp2_with fail
      go_roundw
      case rel=>exact⟨i+1,hlt,by go_num,aa ⟨by rw[HE.out];exact hR.out.1,hR.out.2⟩⟩
      case measure=>simp[RowKit.intOf];omega
    ·have hhb:(bs hi).toList.isEmpty=false:=by rw[az];cases hi with
      |nil=>exact absurd rfl hh
      |cons a r=>rfl
     cases aC:Op.bytesLess (bs kx).toList (bs hi).toList with
     |false=>
      have hno:¬((((l.take i).foldl (aX lim lo hi) []).length:Int)<lim∧hasB lo hi kx=true):=fun h2=>by
       rw[az,az,Tr.lt_eq] at aC
       have h3:=h2.2
       unfold hasB at h3
       rw[aC,kg] at h3
       cases hi with
       |nil=>exact hh rfl
       |cons a r=>cases h3
      have HE:=aa (show (l.take (i+1)).foldl (aX lim lo hi) []=(l.take i).foldl (aX lim lo hi) [] by rw[gY hil,aX,if_neg fun h2=>hno ⟨h2.1,by rw[py.out];exact h2.2⟩])
      clear py Fm hno
      go_wp2_with fail
      go_roundw
      case rel=>exact⟨i+1,hlt,by go_num,aa ⟨by rw[HE.out];exact hR.out.1,hR.out.2⟩⟩
      case measure=>simp[RowKit.intOf];omega
     |true=>
      have hb:hasB lo hi kx=true:=by
       rw[az,az,Tr.lt_eq] at aC
       unfold hasB;rw[kg,aC];simp
      by_cases hlim:((((l.take i).foldl (aX lim lo hi) []).length:Nat):Int)<lim
      ·have Az:=hb
       have HE:=aa (show (l.take (i+1)).foldl (aX lim lo hi) []=(l.take i).foldl (aX lim lo hi) []++[(kx,vx)] by rw[gY hil,aX,if_pos ⟨hlim,by rw[←py.out];exact Az⟩,py.out,Fm.out])
       have p8:=aa (show bR w.heap.size (wr.alloc (.cells #[.string (bs kx),.string (bs vx)] 63)) (.slice a8 ((l.take i).foldl (aX lim lo hi) []).length c8) ((l.take i).foldl (aX lim lo hi) [])∧aJ cQ (wr.alloc (.cells #[.string (bs kx),.string (bs vx)] 63)) wr.heap.size 0 [(kx,vx)]∧((l.take i).foldl (aX lim lo hi) []).length+1≤1000000000∧w.heap.size≤(wr.alloc (.cells #[.string (bs kx),.string (bs vx)] 63)).heap.size∧Below w.heap.size w (wr.alloc (.cells #[.string (bs kx),.string (bs vx)] 63)) from
        ⟨hR.out.1.alloc _,aJ.dI (aG.new wr _ _) rfl,by have:=HL.out;omega,by have:=hR.out.2.size;rw[World.size_alloc];omega,hR.out.2.alloc hR.out.2.size _⟩)
       clear py Fm hR G9 Az
       generalize MQ:((l.take i).foldl (aX lim lo hi) []).length=DL at*
       have Sd:=aa MQ
       clear MQ
       go_wp2_with (at_builtin;refine Hid.out ?_)
       refine aa ?_
       refine bB (K:=cQ) pe rfl _ _ rfl rfl p8.out.1 p8.out.2.2.2.1 wr.heap.size 0 1 1 [(kx,vx)] rfl rfl p8.out.2.1 (by rw[Sd.out];exact p8.out.2.2.1) ?_
       intro v2 w5 cR cP gy
       have HP:=aa (show bR w.heap.size w5 v2 ((l.take (i+1)).foldl (aX lim lo hi) [])∧Below w.heap.size w w5 from⟨by rw[HE.out];exact cR,p8.out.2.2.2.2.trans (((aj.refl _ _).grown cP (fun k e _=>e)).below p8.out.2.2.2.1 fun k hk e=>by have:=(Own.block p8.out.1 k e).1;omega)⟩)
       clear cR cP gy
       go_wp2_with fail
       go_roundw
       case rel=>exact⟨i+1,hlt,by go_num,HP⟩
       case measure=>simp[RowKit.intOf];omega
      ·have hno:¬((((l.take i).foldl (aX lim lo hi) []).length:Int)<lim∧hasB lo hi kx=true):=fun h2=>hlim h2.1
       have HE:=aa (show (l.take (i+1)).foldl (aX lim lo hi) []=(l.take i).foldl (aX lim lo hi) [] by rw[gY hil,aX,if_neg fun h2=>hno ⟨h2.1,by rw[py.out];exact h2.2⟩])
       clear py Fm hno
       go_wp2_with fail
       go_roundw
       case rel=>exact⟨i+1,hlt,by go_num,aa ⟨by rw[HE.out];exact hR.out.1,hR.out.2⟩⟩
       case measure=>simp[RowKit.intOf];omega
  ·obtain rfl:i=N:=by omega
   have hI:¬(i:Int)<i:=by omega
   have HE:=aa (show l.take i=l from List.take_of_length_le (by rw[←HN.out];exact Nat.le_refl _))
   go_wp2_with fail
   go_ret
   exact⟨_,rfl,by have:=hR.out.1;rw[HE.out] at this;exact this,hR.out.2⟩
theorem Jp (m:Int):∃k:Nat,k<2∧bits .and .i64 m 1=(k:Int):=by
 have h1:(BitVec.ofInt 64 1).toNat=1:=by decide
 have h2:(BitVec.ofInt 64 m).toNat&&&1≤1:=Nat.and_le_right
 refine⟨(BitVec.ofInt 64 m).toNat&&&1,by omega, ?_⟩
 show IntKind.i64.wrap (((BitVec.ofInt 64 m&&&BitVec.ofInt 64 1).toNat:Nat):Int)=_
 rw[BitVec.toNat_and,h1,IntKind.wrap_i64]
 omega
theorem LN (u v:Value) (w:World):(Instr.index 37 (.agg #[u,v]) (.int .i64 0)).run Tryz.prog w=.ok u w:=by kernel_rfl
theorem LP (u v:Value) (w:World):(Instr.index 37 (.agg #[u,v]) (.int .i64 1)).run Tryz.prog w=.ok v w:=by kernel_rfl
theorem DC {α:Type} (f:Nat→α) (k:Nat) (a b:α):kK (kK f k a) k b=kK f k b:=by
 funext j
 unfold kK
 by_cases h:j=k
 ·rw[if_pos h,if_pos h]
 ·rw[if_neg h,if_neg h,if_neg h]
def jE (L:Nat→Tr.bt) (k:Nat):Nat→Tr.bt:=fun j=>if j<k then [] else L j
theorem CI (L:Nat→Tr.bt):jE L 0=L:=funext fun j=>if_neg (Nat.not_lt_zero j)
theorem AP (L:Nat→Tr.bt) (k:Nat):jE L k k=L k:=if_neg (Nat.lt_irrefl k)
theorem uw (L:Nat→Tr.bt) (k:Nat):kK (jE L k) k []=jE L (k+1):=by
 funext j
 unfold kK jE
 by_cases h:j=k
 ·rw[if_pos h,if_pos (by omega)]
 ·rw[if_neg h]
  by_cases h2:j<k
  ·rw[if_pos h2,if_pos (by omega)]
  ·rw[if_neg h2,if_neg (by omega)]
theorem wO {l:Tr.bt} (h:Tr.aP l) {i:Nat} (hi:i<l.length):Tr.del (l.drop i) (l[i]).1=l.drop (i+1)∧(Tr.got (l.drop i) (l[i]).1).isSome=true:=by
 have h1:Tr.aP (l.drop i):=h.sublist (List.drop_sublist _ _)
 rw[List.drop_eq_getElem_cons hi] at h1 ⊢
 exact Jo h1
theorem yD (w:World) (v:Value) (l:List lI) (hl:Dy w v l):
  Calls Tryz.prog 3 #[v] w fun e w'=>e=.returned (.bool true)∧Below w.heap.size w w':=by
 have HL:=aa hl
 obtain⟨al,cl,rfl⟩:=hl.slice
 clear hl
 go_enter Tryz.func3,Tryz.ntmps3
 go_wp2_with fail
 refine (nO w).mono ?_
 rintro e w1 ⟨rfl,aQ⟩
 have H1:=aa aQ
 clear aQ
 go_wp2_with fail
 refine (uo w1 (HL.out.below H1.out)).mono ?_
 rintro e w2 ⟨b,rfl,qU,aC⟩
 have H2:=aa (show Below w.heap.size w w2 from H1.out.trans (aC.mono H1.out.size))
 cases b with
 |false=>
  clear qU aC
  go_wp2_with fail
  go_ret
  exact⟨rfl,H2.out⟩
 |true=>
  have OC:=aa (qU rfl)
  clear qU aC
  go_wp2_with fail
  refine (pF w2 800 (by decide) (by decide)).mono ?_
  rintro e w3 ⟨g,b,rfl,KS,cC⟩
  have H3:=aa (And.intro KS cC)
  clear KS cC
  go_wp2_with fail
  refine (oH H3.out.1).mono ?_
  rintro e w4 ⟨xb,rfl,h4,hb4⟩
  have H4:=aa (And.intro h4 (H3.out.2.trans (hb4.mono H3.out.2.size)))
  clear h4 hb4
  go_wp2_with fail
  refine (rN w4 xb).mono ?_
  rintro e w5 ⟨rfl,rfl⟩
  have H5:=aa (Jn (w:=w2) H4.out.1 (fun k hk=>hk) H4.out.2 (by decide) (by decide))
  obtain⟨rb,hrb⟩:∃rb,rb=w4.heap.size:=⟨_,rfl⟩
  obtain⟨W,hW⟩:∃W,W=w4.alloc (.cells #[ptr xb] 75):=⟨_,rfl⟩
  have FH:W.heap.size=rb+1:=by rw[hW,hrb,World.size_alloc]
  rw[←hW,←hrb] at H5
  have Qv:=aa (show w2.heap.size≤rb by rw[hrb];exact H4.out.2.size)
  rw[←hrb,←hW]
  clear hrb hW H3 H4
  go_wp2_with fail
  refine (iz W rb 0).mono ?_
  rintro e w6 ⟨rfl,rfl⟩
  rw[FH]
  obtain⟨W6,FI⟩:∃W6,W6=W.alloc (.cells #[ptr rb,.int .i64 0] 81):=⟨_,rfl⟩
  have OI:W6.heap.size=rb+2:=by rw[FI,World.size_alloc,FH]
  rw[←FI] at H5
  rw[←FI]
  clear FI FH
  go_wp2_with fail
  refine (iz W6 rb 15).mono ?_
  rintro e w7 ⟨rfl,rfl⟩
  rw[OI]
  obtain⟨W7,Th⟩:∃W7,W7=W6.alloc (.cells #[ptr rb,.int .i64 15] 81):=⟨_,rfl⟩
  have LQ:W7.heap.size=rb+3:=by rw[Th,World.size_alloc,OI]
  rw[←Th] at H5
  obtain⟨tb,htb⟩:∃tb:Nat→Nat,tb=two (rb+1) (rb+2):=⟨_,rfl⟩
  have L6:rb+1=tb 0:=by rw[htb];rfl
  have ht1:rb+2=tb 1:=by rw[htb];rfl
  rw[←htb] at H5
  rw[←Th,L6,ht1]
  clear Th OI htb
  obtain⟨W8,Ti⟩:∃W8,W8=W7.alloc (.cells #[.pointer (some ⟨tb 0,0,none⟩),.pointer (some ⟨tb 1,0,none⟩)] 35):=⟨_,rfl⟩
  have Sh:W8.heap.size=rb+4:=by rw[Ti,World.size_alloc,LQ]
  obtain⟨W9,nu⟩:∃W9,W9=W8.alloc (.cells #[.slice none 0 0,.slice none 0 0] 37):=⟨_,rfl⟩
  obtain⟨gb,hgb⟩:∃gb,gb=rb+3:=⟨_,rfl⟩
  obtain⟨gw,Ze⟩:∃gw,gw=rb+4:=⟨_,rfl⟩
  have HG:=aa (show gb≠gw∧w2.heap.size≤gw∧gb<gw by have:=Qv.out;omega)
  have H9:=aa (show T2 w2 rb 800 tb (two 0 15) (fun _=>[]) (30000*0) [(.slice none 0 0,[]),(.slice none 0 0,[])] 0 [(gw,37,[.slice none 0 0,.slice none 0 0]),(gb,35,[ptr (tb 0),ptr (tb 1)])] W9 by
   have h8:=H5.out.box #[.pointer (some ⟨tb 0,0,none⟩),.pointer (some ⟨tb 1,0,none⟩)] 35
   rw[LQ,←hgb,←Ti] at h8
   have h9:=h8.box #[.slice none 0 0,.slice none 0 0] 37
   rw[Sh,←Ze,←nu] at h9
   exact (h9.hold (Below.refl _ _) (Own.nil _ _ _ _)).hold (Below.refl _ _) (Own.nil _ _ _ _))
  have Si:=aa (And.intro Ti (And.intro nu (And.intro (LQ.trans hgb.symm) (show gb+1=gw by omega))))
  have Qp:(l.length:Int)≤150:=by have:=OC.out.1;omega
  clear Ti nu hgb Ze LQ Sh L6 ht1 H5 Qv
  unfold ptr
  go_upto_block 1 with fail
  rw[←Si.out.1,←Si.out.2.1,Si.out.2.2.1,Si.out.2.2.2]
  clear Si
  go_loopw [63] (fun iv wr=>∃(k:Nat) (L:Nat→Tr.bt) (vs:Nat→Value) (U:Nat),k≤l.length∧iv=.int .i64 k∧Hid (T2 w2 rb 800 tb (two 0 15) L (30000*k) [(vs 0,L 0),(vs 1,L 1)] U [(gw,37,[vs 0,vs 1]),(gb,35,[ptr (tb 0),ptr (tb 1)])] wr∧(L 0).length+(L 1).length≤k)) (fun iv _=>l.length-(RowKit.intOf iv).toNat)
  case atStart=>exact⟨0,fun _=>[],fun _=>.slice none 0 0,0,Nat.zero_le _,rfl,aa ⟨H9.out,Nat.le_refl _⟩⟩
  case round=>
   clear H9
   obtain⟨k,L,vs,U,hk,rfl,hR⟩:=hrel
   by_cases hlt:k<l.length
   ·have hI:(k:Int)<l.length:=by omega
    obtain⟨gp,op,rfl,hok,c0,c1,c2,c3,c4,c5,c6⟩:=Dy.at HL.out (H2.out.trans (hR.out.1.below.mono H2.out.size)) hlt
    have Sf:=aa hok
    have yA:=aa (OC.out.2 _ (List.getElem_mem hlt))
    have dP:=aa (show k<l.length∧k≤150 by omega)
    clear hk hok
    generalize l[k]=x at*
    clear hlt
    obtain⟨what,map,an,long,key,val,till⟩:=x
    simp only at c0 c1 c2 c3 c4 c5 c6 Sf
    obtain⟨vl,rfl⟩:∃vl,val=bs vl:=⟨val.data.toList,rfl⟩
    obtain⟨tl,rfl⟩:∃tl,till=bs tl:=⟨till.data.toList,rfl⟩
    obtain⟨Y,hY⟩:∃Y,Y=wr.alloc (.cells #[.int .i64 what,.int .i64 map,.int .i64 an,.int .i64 long,.string key,.string (bs vl),.string (bs tl)] 39):=⟨_,rfl⟩
    obtain⟨ab,hab⟩:∃ab,ab=wr.heap.size:=⟨_,rfl⟩
    have HY:=aa (show T2 w2 rb 800 tb (two 0 15) L (30000*k) [(vs 0,L 0),(vs 1,L 1)] U [(ab,39,[.int .i64 what,.int .i64 map,.int .i64 an,.int .i64 long,.string key,.string (bs vl),.string (bs tl)]),(gw,37,[vs 0,vs 1]),(gb,35,[ptr (tb 0),ptr (tb 1)])] Y∧(L 0).length+(L 1).length≤k by
     rw[hY,hab]
     exact⟨hR.out.1.box _ _,hR.out.2⟩)
    have HAB:=aa (show gb≠ab∧gw≠ab by
     have h1:=(hR.out.1.blk List.mem_cons_self).lt
     have h2:=(hR.out.1.blk (List.mem_cons_of_mem _ List.mem_cons_self)).lt
     simp only at h1 h2
     rw[hab];omega)
    have CF:=aa (And.intro hY hab)
    clear hY hab hR
    obtain⟨kk,hk2,hand⟩:=Jp map
    have pH:(kk:Int)<2:=by omega
    have HK:=aa hk2
    go_upto_block 2 with fail
    rw[←CF.out.1,←CF.out.2]
    have b0:Y.cell? ⟨gb,kk,none⟩=some (.pointer (some ⟨tb kk,0,none⟩)):=DA (f:=fun j=>ptr (tb j)) HY.out.1 (List.mem_cons_of_mem _ (List.mem_cons_of_mem _ List.mem_cons_self)) HK.out
    have b1:Y.cell? ⟨gw,kk,none⟩=some (vs kk):=DA (f:=vs) HY.out.1 (List.mem_cons_of_mem _ List.mem_cons_self) HK.out
    have hrow:bR w2.heap.size Y (vs kk) (L kk):=by
     rcases (show kk=0∨kk=1 by have:=HK.out;omega) with rfl|rfl
     ·exact HY.out.1.row (p:=(vs 0,L 0)) List.mem_cons_self
     ·exact HY.out.1.row (p:=(vs 1,L 1)) (List.mem_cons_of_mem _ List.mem_cons_self)
    obtain⟨av,cv,Tj,-⟩:=Own.slice hrow
    obtain⟨nv,WU⟩:∃nv,nv=(L kk).length:=⟨_,rfl⟩
    rw[←WU] at Tj
    have OJ:=aa (And.intro Tj WU)
    rw[Tj] at b1
    clear c0 c1 c2 c3 c4 c5 c6 CF hrow Tj WU hk2 hand
    go_region
    obtain⟨Y1,Cv⟩:∃Y1,Y1=Y.drew:=⟨_,rfl⟩
    rw[←Cv]
    have Tk:=aa (show T2 w2 rb 800 tb (two 0 15) L (30000*k) [(vs 0,L 0),(vs 1,L 1)] U [(ab,39,[.int .i64 what,.int .i64 map,.int .i64 an,.int .i64 long,.string key,.string (bs vl),.string (bs tl)]),(gw,37,[vs 0,vs 1]),(gb,35,[ptr (tb 0),ptr (tb 1)])] Y1∧(L 0).length+(L 1).length≤k by
     rw[Cv]
     exact⟨HY.out.1.still (Below.refl _ _).drew,HY.out.2⟩)
    have kJ:=Tk.out.1.blk List.mem_cons_self
    have y0:=kJ.cell (j:=0) rfl
    have y3:=kJ.cell (j:=3) rfl
    have y4:=kJ.cell (j:=4) rfl
    have y5:=kJ.cell (j:=5) rfl
    simp only at y0 y3 y4 y5
    clear Cv HY b0 b1 kJ pH
    go_wp2_with fail
    refine (wI Y1 key long (by have:=yA.out.1;simp only at this;omega)).mono ?_
    rintro e w7 ⟨rfl,fG⟩
    obtain⟨KK,OD⟩:∃KK,KK=nP key long:=⟨_,rfl⟩
    rw[←OD]
    have hks:(bs KK).size=KK.length:=aB _
    have hvs:(bs vl).size=vl.length:=aB _
    have gH:KK.length≤240:=by
     rw[OD]
     have h1:=uq key long
     have h2:=yA.out.1
     simp only at h2
     omega
    have hvl:vl.length≤120:=by
     have h2:=yA.out.2.1
     simp only at h2
     rw[aB] at h2
     exact h2
    have H7:=aa (show T2 w2 rb 800 tb (two 0 15) L (30000*k) [(vs 0,L 0),(vs 1,L 1)] U [(ab,39,[.int .i64 what,.int .i64 map,.int .i64 an,.int .i64 long,.string key,.string (bs vl),.string (bs tl)]),(gw,37,[vs 0,vs 1]),(gb,35,[ptr (tb 0),ptr (tb 1)])] w7∧(L 0).length+(L 1).length≤k from⟨Tk.out.1.still fG,Tk.out.2⟩)
    have kJ:=H7.out.1.blk List.mem_cons_self
    have z0:=kJ.cell (j:=0) rfl
    have z2:=kJ.cell (j:=2) rfl
    have z5:=kJ.cell (j:=5) rfl
    have z6:=kJ.cell (j:=6) rfl
    simp only at z0 z2 z5 z6
    have L0:=aa (show (L kk).length≤150 by
     have h1:=H7.out.2
     have h2:=dP.out
     rcases (show kk=0∨kk=1 by have:=HK.out;omega) with rfl|rfl<;>omega)
    clear y0 y3 y4 y5 fG Tk yA Sf OD kJ
    by_cases h0:what=0
    ·subst h0
     clear z2 z6
     by_cases kI:96<KK.length∨56<vl.length
     ·have Sj:=aa kI
      by_cases aQ:96<KK.length
      ·have g1:(96:Int)<(bs KK).size:=by omega
       clear kI hks hvs gH hvl aQ
       go_wp2_with fail
       refine (Jl (key:=KK) (vl:=vl) H7.out.1 HK.out Sj.out).mono ?_
       rintro e w8 ⟨rfl,h8⟩
       have HX:=aa (And.intro h8 H7.out.2)
       clear h8 H7 z0 z5
       have HZ:=aa (show T2 w2 rb 800 tb (two 0 15) L (30000*(k+1)) [(vs 0,L 0),(vs 1,L 1)] U [(gw,37,[vs 0,vs 1]),(gb,35,[ptr (tb 0),ptr (tb 1)])] _∧(L 0).length+(L 1).length≤k+1 from⟨(HX.out.1.less (fun _ h=>h) (fun _ h=>List.mem_cons_of_mem _ h)).more (by omega),by have:=HX.out.2;omega⟩)
       clear HX
       go_wp2_with fail
       go_roundw
       case rel=>exact⟨k+1,_,_,_,dP.out.1,by go_num,HZ⟩
       case measure=>have:=dP.out;simp[RowKit.intOf];omega
      ·have g1:¬(96:Int)<(bs KK).size:=by omega
       have g2:(56:Int)<(bs vl).size:=by omega
       clear kI hks hvs gH hvl aQ
       go_wp2_with fail
       refine (Jl (key:=KK) (vl:=vl) H7.out.1 HK.out Sj.out).mono ?_
       rintro e w8 ⟨rfl,h8⟩
       have HX:=aa (And.intro h8 H7.out.2)
       have kJ:=h8.blk List.mem_cons_self
       have q5:=kJ.cell (j:=5) rfl
       simp only at q5
       clear h8 H7 kJ z0 z5
       have HZ:=aa (show T2 w2 rb 800 tb (two 0 15) L (30000*(k+1)) [(vs 0,L 0),(vs 1,L 1)] U [(gw,37,[vs 0,vs 1]),(gb,35,[ptr (tb 0),ptr (tb 1)])] _∧(L 0).length+(L 1).length≤k+1 from⟨(HX.out.1.less (fun _ h=>h) (fun _ h=>List.mem_cons_of_mem _ h)).more (by omega),by have:=HX.out.2;omega⟩)
       clear HX
       go_wp2_with fail
       go_roundw
       case rel=>exact⟨k+1,_,_,_,dP.out.1,by go_num,HZ⟩
       case measure=>have:=dP.out;simp[RowKit.intOf];omega
     ·have Hs:=aa (show KK.length≤96∧vl.length≤56 by omega)
      have g1:¬(96:Int)<(bs KK).size:=by omega
      have g2:¬(56:Int)<(bs vl).size:=by omega
      clear kI hks hvs gH hvl
      go_wp2_with fail
      refine (OG (key:=KK) (vl:=vl) H7.out.1 HK.out Hs.out.1 Hs.out.2 (by have:=dP.out;omega) (by have h1:=H7.out.1.gO;have:=H7.out.2;have:=dP.out;omega)).mono ?_
      rintro e w8 ⟨rfl,U8,h8⟩
      have HX:=aa (And.intro h8 H7.out.2)
      have Jk:=aa (H7.out.1.rising HK.out)
      have fM:=aa (nQ (vs:=vs) (M:=L) h8 List.mem_cons_self (List.mem_cons_of_mem _ List.mem_cons_self) HK.out)
      rw[OJ.out.1] at fM
      have kJ:=h8.blk List.mem_cons_self
      have q5:=kJ.cell (j:=5) rfl
      simp only at q5
      clear h8 H7 kJ z0 z5
      go_wp2_with fail
      refine (qT w8 fM.out (by have:=L0.out;omega) Jk.out KK vl).mono ?_
      rintro e w10 ⟨v10,rfl,qo,lH⟩
      have uC:=aa (show (kK L kk (Tr.put (L kk) KK vl) 0).length+(kK L kk (Tr.put (L kk) KK vl) 1).length≤k+1 by have:=DB L HK.out (Tr.put (L kk) KK vl) (Tr.jc _ _ _);have:=HX.out.2;omega)
      clear fM Jk q5
      obtain⟨a10,c10,Jq,-⟩:=Own.slice qo
      generalize OK:List.length _=n10 at Jq
      subst Jq
      have hS:=HX.out.1.hold lH qo
      have HS:=aa (wM (A0:=[(gb,35,[ptr (tb 0),ptr (tb 1)])]) (gw:=gw) (tw:=37) hS HK.out (List.mem_cons_of_mem _ List.mem_cons_self) HG.out.2.1 (by decide) (by decide) (by decide) (fun p hp=>by
       rw[List.mem_singleton.1 hp]
       exact⟨List.mem_cons_of_mem _ (List.mem_cons_of_mem _ List.mem_cons_self),HG.out.1⟩))
      have hgb:=hS.blk (List.mem_cons_of_mem _ List.mem_cons_self)
      have x0:=hgb.cell (CH vs HK.out)
      have x1:=hgb.frozen kk
      simp only at x0 x1
      rw[OJ.out.1] at x0
      have pH:(kk:Int)<2:=by have:=HK.out;omega
      clear qo lH hS hgb HX OK
      go_wp2_with fail
      go_roundw
      case rel=>exact⟨k+1,_,_,_,dP.out.1,by go_num,aa ⟨HS.out.more (by omega),uC.out⟩⟩
      case measure=>have:=dP.out;simp[RowKit.intOf];omega
    by_cases h1:what=1
    ·subst h1
     clear z2 z6 z5 hks hvs gH hvl
     have fM:=aa (nQ (vs:=vs) (M:=L) H7.out.1 List.mem_cons_self (List.mem_cons_of_mem _ List.mem_cons_self) HK.out)
     rw[OJ.out.1] at fM
     go_wp2_with fail
     rw[show (Value.slice av nv cv)=.slice av nv cv from rfl]
     refine (lG w7 fM.out (by have:=L0.out;omega) KK).mono ?_
     rintro e w8 ⟨rfl,kL⟩
     have H8:=aa (And.intro (H7.out.1.still kL) H7.out.2)
     obtain⟨sv,nH⟩:∃sv,sv=bs ((Tr.got (L kk) KK).getD []):=⟨_,rfl⟩
     rw[←nH]
     obtain⟨th,Dx⟩:∃th,th=(Tr.got (L kk) KK).isSome:=⟨_,rfl⟩
     rw[←Dx]
     have Sg:=aa Dx
     clear kL H7 fM nH z0 Dx
     go_wp2_with fail
     refine (CG (key:=KK) H8.out.1 HK.out (by have:=dP.out;omega)).mono ?_
     rintro e w9 ⟨rfl,U9,h9⟩
     rw[←Sg.out]
     have HX:=aa (And.intro h9 H8.out.2)
     have fM:=aa (nQ (vs:=vs) (M:=L) h9 List.mem_cons_self (List.mem_cons_of_mem _ List.mem_cons_self) HK.out)
     rw[OJ.out.1] at fM
     clear h9 H8 Sg
     cases th<;>
     ·go_wp2_with fail
      refine (qS w9 fM.out (by have:=L0.out;omega) KK).mono ?_
      rintro e w10 ⟨v10,rfl,qo,lH⟩
      have uC:=aa (show (kK L kk (Tr.del (L kk) KK) 0).length+(kK L kk (Tr.del (L kk) KK) 1).length≤k+1 by have:=DB L HK.out (Tr.del (L kk) KK) (by have:=Tr.mV (L kk) KK;omega);have:=HX.out.2;omega)
      clear fM
      obtain⟨a10,c10,Jq,-⟩:=Own.slice qo
      generalize OK:List.length _=n10 at Jq
      subst Jq
      have hS:=HX.out.1.hold lH qo
      have HS:=aa (wM (A0:=[(gb,35,[ptr (tb 0),ptr (tb 1)])]) (gw:=gw) (tw:=37) hS HK.out (List.mem_cons_of_mem _ List.mem_cons_self) HG.out.2.1 (by decide) (by decide) (by decide) (fun p hp=>by
       rw[List.mem_singleton.1 hp]
       exact⟨List.mem_cons_of_mem _ (List.mem_cons_of_mem _ List.mem_cons_self),HG.out.1⟩))
      have hgb:=hS.blk (List.mem_cons_of_mem _ List.mem_cons_self)
      have x0:=hgb.cell (CH vs HK.out)
      have x1:=hgb.frozen kk
      simp only at x0 x1
      rw[OJ.out.1] at x0
      have pH:(kk:Int)<2:=by have:=HK.out;omega
      clear qo lH hS hgb HX OK
      go_wp2_with fail
      go_roundw
      case rel=>exact⟨k+1,_,_,_,dP.out.1,by go_num,aa ⟨HS.out.more (by omega),uC.out⟩⟩
      case measure=>have:=dP.out;simp[RowKit.intOf];omega
    by_cases h2:what=2
    ·subst h2
     clear z2 z6 z5 hks hvs gH hvl
     go_wp2_with fail
     refine (OH (key:=KK) H7.out.1 HK.out).mono ?_
     rintro e w8 ⟨rfl,h8⟩
     have fM:=aa (nQ (vs:=vs) (M:=L) h8 List.mem_cons_self (List.mem_cons_of_mem _ List.mem_cons_self) HK.out)
     rw[OJ.out.1] at fM
     have LR:=aa (lG w8 fM.out (by have:=L0.out;omega) KK)
     obtain⟨sv,nH⟩:∃sv,sv=bs ((Tr.got (L kk) KK).getD []):=⟨_,rfl⟩
     rw[←nH] at LR ⊢
     obtain⟨th,Dx⟩:∃th,th=(Tr.got (L kk) KK).isSome:=⟨_,rfl⟩
     rw[←Dx] at LR ⊢
     have H8:=aa (And.intro h8 H7.out.2)
     clear h8 H7 fM nH Dx z0
     go_wp2_with fail
     refine LR.out.mono ?_
     rintro e w9 ⟨rfl,gI⟩
     have HX:=aa (And.intro (H8.out.1.still gI) H8.out.2)
     clear gI H8 LR
     have HZ:=aa (show T2 w2 rb 800 tb (two 0 15) L (30000*(k+1)) [(vs 0,L 0),(vs 1,L 1)] U [(gw,37,[vs 0,vs 1]),(gb,35,[ptr (tb 0),ptr (tb 1)])] _∧(L 0).length+(L 1).length≤k+1 from⟨(HX.out.1.less (fun _ h=>h) (fun _ h=>List.mem_cons_of_mem _ h)).more (by omega),by have:=HX.out.2;omega⟩)
     clear HX
     go_wp2_with fail
     go_roundw
     case rel=>exact⟨k+1,_,_,_,dP.out.1,by go_num,HZ⟩
     case measure=>have:=dP.out;simp[RowKit.intOf];omega
    by_cases h3:what=3
    ·subst h3
     clear z5 hks hvs gH hvl
     go_wp2_with fail
     refine (LJ H7.out.1 HK.out KK tl an).mono ?_
     rintro e w8 ⟨u,rfl,h8⟩
     have fM:=aa (nQ (vs:=vs) (M:=L) h8 (List.mem_cons_of_mem _ List.mem_cons_self) (List.mem_cons_of_mem _ (List.mem_cons_of_mem _ List.mem_cons_self)) HK.out)
     rw[OJ.out.1] at fM
     have HU:=aa (h8.row List.mem_cons_self)
     have hlen:=wN an KK tl (L kk) []
     have HLS:=aa (show ((L kk).foldl (aX an KK tl) []).length≤100000 by have:=L0.out;have e:([]:Tr.bt).length=0:=rfl;omega)
     have H8:=aa (And.intro h8 H7.out.2)
     have kJ:=h8.blk List.mem_cons_self
     have q2:=kJ.cell (j:=2) rfl
     have q6:=kJ.cell (j:=6) rfl
     simp only at q2 q6
     clear h8 H7 kJ hlen z0 z2 z6
     go_wp2_with fail
     refine (yC w8 fM.out (by have:=L0.out;omega) KK tl an).mono ?_
     rintro e w9 ⟨v9,rfl,Zf,gI⟩
     have WV:=aa (And.intro (Own.below HU.out gI (Nat.le_refl _)) Zf)
     have H9:=aa (And.intro (H8.out.1.still gI) H8.out.2)
     clear gI Zf H8 fM HU q2 q6
     go_wp2_with fail
     refine (j6 w9 WV.out.1 WV.out.2 HLS.out).mono ?_
     rintro e w10 ⟨rfl,lH⟩
     have HX:=aa (show T2 w2 rb 800 tb (two 0 15) L (30000*k) [(vs 0,L 0),(vs 1,L 1)] U _ w10∧(L 0).length+(L 1).length≤k from⟨(H9.out.1.still lH).less (fun _ h=>List.mem_cons_of_mem _ h) (fun _ h=>h),H9.out.2⟩)
     clear lH H9 WV
     have HZ:=aa (show T2 w2 rb 800 tb (two 0 15) L (30000*(k+1)) [(vs 0,L 0),(vs 1,L 1)] U [(gw,37,[vs 0,vs 1]),(gb,35,[ptr (tb 0),ptr (tb 1)])] _∧(L 0).length+(L 1).length≤k+1 from⟨(HX.out.1.less (fun _ h=>h) (fun _ h=>List.mem_cons_of_mem _ h)).more (by omega),by have:=HX.out.2;omega⟩)
     clear HX
     go_wp2_with fail
     go_roundw
     case rel=>exact⟨k+1,_,_,_,dP.out.1,by go_num,HZ⟩
     case measure=>have:=dP.out;simp[RowKit.intOf];omega
    ·have f0:(what==0)=false:=beq_eq_false_iff_ne.2 h0
     have f1:(what==1)=false:=beq_eq_false_iff_ne.2 h1
     have f2:(what==2)=false:=beq_eq_false_iff_ne.2 h2
     have f3:(what==3)=false:=beq_eq_false_iff_ne.2 h3
     have HX:=H7
     clear H7 z2 z5 z6 hks hvs gH hvl
     have HZ:=aa (show T2 w2 rb 800 tb (two 0 15) L (30000*(k+1)) [(vs 0,L 0),(vs 1,L 1)] U [(gw,37,[vs 0,vs 1]),(gb,35,[ptr (tb 0),ptr (tb 1)])] _∧(L 0).length+(L 1).length≤k+1 from⟨(HX.out.1.less (fun _ h=>h) (fun _ h=>List.mem_cons_of_mem _ h)).more (by omega),by have:=HX.out.2;omega⟩)
     clear HX
     go_wp2_with fail
     go_roundw
     case rel=>exact⟨k+1,_,_,_,dP.out.1,by go_num,HZ⟩
     case measure=>have:=dP.out;simp[RowKit.intOf];omega
   ·obtain rfl:k=l.length:=by omega
    have hI:¬((l.length:Nat):Int)<l.length:=by omega
    have HX:=hR
    have Tl:=aa (show (L 0).length≤150∧(L 1).length≤150 by have:=HX.out.2;omega)
    have Zg:=aa (HX.out.1.row (p:=(vs 0,L 0)) List.mem_cons_self)
    have SN:=aa (HX.out.1.row (p:=(vs 1,L 1)) (List.mem_cons_of_mem _ List.mem_cons_self))
    obtain⟨a0,c0,RH,-⟩:=Own.slice Zg.out
    obtain⟨a1,c1,JI,-⟩:=Own.slice SN.out
    obtain⟨n0,hn0⟩:∃n0,n0=(L 0).length:=⟨_,rfl⟩
    obtain⟨n1,hn1⟩:∃n1,n1=(L 1).length:=⟨_,rfl⟩
    simp only at RH JI
    rw[←hn0] at RH
    rw[←hn1] at JI
    have MT:=aa (And.intro RH (And.intro JI (And.intro hn0 hn1)))
    clear hR hlt hk Zg SN RH JI hn0 hn1
    have key:∀X,T2 w2 rb 800 tb (two 0 15) L (30000*l.length) [(vs 0,L 0),(vs 1,L 1)] U [(gw,37,[vs 0,vs 1]),(gb,35,[ptr (tb 0),ptr (tb 1)])] X→X.cell? ⟨gb,0,none⟩=some (.pointer (some ⟨tb 0,0,none⟩))∧X.cell? ⟨gb,1,none⟩=some (.pointer (some ⟨tb 1,0,none⟩))∧X.cell? ⟨gw,0,none⟩=some (.slice a0 n0 c0)∧X.cell? ⟨gw,1,none⟩=some (.slice a1 n1 c1):=fun X h=>by
     have h1:=h.blk List.mem_cons_self
     have h2:=h.blk (List.mem_cons_of_mem _ List.mem_cons_self)
     rw[←MT.out.1,←MT.out.2.1]
     exact⟨h2.cell (j:=0) rfl,h2.cell (j:=1) rfl,h1.cell (j:=0) rfl,h1.cell (j:=1) rfl⟩
    have Jr:=aa key
    obtain⟨p0,p1,p2,p3⟩:=key _ HX.out.1
    clear key
    go_wp2_with fail
    refine (Dz (v:=.slice a0 n0 c0) HX.out.1 (k:=0) (by decide) (by rw[←MT.out.1];exact List.mem_cons_self) (by have:=Tl.out;omega)).mono ?_
    rintro e x2 ⟨rfl,h2⟩
    have H2':=aa (And.intro h2 HX.out.2)
    clear HX p0 p1 p2 p3
    obtain⟨p0,p1,p2,p3⟩:=Jr.out _ h2
    clear h2
    go_wp2_with fail
    refine (Dz (v:=.slice a1 n1 c1) H2'.out.1 (k:=1) (by decide) (by rw[←MT.out.2.1];exact List.mem_cons_of_mem _ List.mem_cons_self) (by have:=Tl.out;omega)).mono ?_
    rintro e x3 ⟨rfl,h3⟩
    obtain⟨pg,pages,R3,Zh⟩:=h3.open
    have H3:=aa (And.intro Zh H2'.out.2)
    clear H2' p0 p1 p2 p3
    obtain⟨p0,p1,-,-⟩:=Jr.out _ h3
    clear h3 Zh
    go_wp2_with fail
    refine (wL H3.out.1 (k:=0) (by decide)).mono ?_
    rintro e x4 ⟨vx,R4,rfl,Bt,h4,Zi,GK⟩
    have H4:=aa (And.intro h4 (And.intro Bt GK))
    have HS4:=aa (show w2.heap.size≤x3.heap.size from H3.out.1.hl.below.size)
    obtain⟨ax,cx,mS,-⟩:=Own.slice Bt
    obtain⟨nx,WW⟩:∃nx,nx=(aZ (pages 0)).length:=⟨_,rfl⟩
    rw[←WW] at mS
    subst mS
    have Pd:=aa WW
    clear p0 p1
    obtain⟨p0,p1,-,-⟩:=Jr.out _ h4.shut
    have Zj:=aa (show x3.heap.size≤x4.heap.size from Zi.but.size)
    clear h4 Bt GK Zi WW
    go_wp2_with fail
    refine (wL H4.out.1 (k:=1) (by decide)).mono ?_
    rintro e x5 ⟨vy,R5,rfl,iB,h5,Tm,qX⟩
    have H5':=aa (And.intro h5 (And.intro (Own.but H4.out.2.1 Tm.but fun x hx hn=>hn (H4.out.2.2 x hx)) (And.intro (fun b hb=>Tm.sub b (H4.out.2.2 b hb)) iB)))
    obtain⟨ay,cy,Zk,-⟩:=Own.slice iB
    obtain⟨ny,WX⟩:∃ny,ny=(aZ (pages 1)).length:=⟨_,rfl⟩
    rw[←WX] at Zk
    subst Zk
    have Sk:=aa WX
    have Zl:=aa (show x3.heap.size≤x5.heap.size from Nat.le_trans Zj.out Tm.but.size)
    clear p0 p1 h5 iB qX Tm WX H4 Zj
    go_wp2_with fail
    refine (Jm H5'.out.1).mono ?_
    rintro e x6 ⟨rfl,qZ⟩
    have H6:=aa (show yB w2 rb 800 tb (two 0 15) L (30000*l.length) [(vs 0,L 0),(vs 1,L 1)] U [(gw,37,[vs 0,vs 1]),(gb,35,[ptr (tb 0),ptr (tb 1)])] pg pages R5 x6∧eo x3.heap.size x6 (.slice ax nx cx) (aZ (pages 0))∧(∀b,(Value.slice ax nx cx).ownBlock=some b→R5 b)∧eo 0 x6 (.slice ay ny cy) (aZ (pages 1)) from
     ⟨H5'.out.1.still qZ,Own.below H5'.out.2.1 qZ (Nat.le_refl _),H5'.out.2.2.1,Own.mono (Own.below H5'.out.2.2.2 qZ (Nat.le_refl _)) (Nat.zero_le _)⟩)
    have Ir:=H5'.out.1.count
    have LW:=H5'.out.1.few (k:=0) (by decide)
    have N2:=H5'.out.1.few (k:=1) (by decide)
    rw[←eF,←eF (pages 1),←Pd.out,←Sk.out] at Ir
    rw[←eF,←Pd.out] at LW
    rw[←eF,←Sk.out] at N2
    have HF:=aa (show nx≤1000∧ny≤1000 by have:=Tl.out;omega)
    have WY:(nx:Int)≤1000:=by have:=HF.out;omega
    have WZ:(ny:Int)≤1000:=by have:=HF.out;omega
    have Zd:(U:Int)=nx+ny:=by omega
    have Zm:=aa (show x3.heap.size≤x6.heap.size from Nat.le_trans Zl.out qZ.size)
    clear qZ H5' Ir LW N2 Zl
    go_wp2_with (at_builtin;refine Hid.out ?_)
    refine aa ?_
    refine wpList_plain rfl fun _ hK=>AY BP _ _ rfl rfl H6.out.2.1 Zm.out (.slice ay ny cy) 0 _ rfl H6.out.2.2.2 (by rw[←Pd.out,←Sk.out];have:=HF.out;omega) fun v7 x7 eO Zo=>hK _ _ ?_
    clear hK
    have Sl:x6.grownBy x7 (Value.slice ax nx cx).ownBlock:=Zo
    have H7:=aa (show yB w2 rb 800 tb (two 0 15) L (30000*l.length) [(vs 0,L 0),(vs 1,L 1)] U [(gw,37,[vs 0,vs 1]),(gb,35,[ptr (tb 0),ptr (tb 1)])] pg pages R5 x7∧eo x3.heap.size x7 v7 (aZ (pages 0)++aZ (pages 1)) from
     ⟨H6.out.1.grow H6.out.2.1 HS4.out H6.out.2.2.1 Sl (fun p hp=>by
      rcases List.mem_cons.1 hp with rfl|hp
      ·show 37≠3;decide
      ·rw[List.mem_singleton.1 hp];show 35≠3;decide),eO⟩)
    have Zp:(aZ (pages 0)++aZ (pages 1)).length≤2000:=by
     rw[List.length_append,←Pd.out,←Sk.out]
     have:=HF.out
     omega
    generalize hsp:aZ (pages 0)++aZ (pages 1)=sp at eO Zp
    have R_:=aa hsp
    obtain⟨a7,c7,Zq,-⟩:=Own.slice eO
    obtain⟨n7,Ri⟩:∃n7,n7=sp.length:=⟨_,rfl⟩
    rw[←Ri] at Zq
    subst Zq
    have aaR:(n7:Int)≤2000:=by omega
    have W3:=aa Ri
    clear eO Zo Sl Zp hsp Ri H6 Zm WY WZ Zd
    go_wp2_with fail
    go_loopw [236] (fun iv wr=>∃i:Nat,i≤n7∧iv=.int .i64 i∧Hid (Below x7.heap.size x7 wr)) (fun iv _=>n7-(RowKit.intOf iv).toNat)
    case atStart=>exact⟨0,Nat.zero_le _,rfl,aa (Below.refl _ _)⟩
    case round=>
     obtain⟨i,hi,rfl,hB⟩:=hrel
     by_cases hlt:i<n7
     ·have hI7:(i:Int)<n7:=by omega
      have eO:=H7.out.2
      rw[R_.out] at eO
      have OA:=Own.below eO hB.out (Nat.le_refl _)
      obtain⟨g7,cap,e,-,-,-⟩:=Own.form OA (by rw[←W3.out];omega)
      have e1:a7=some ⟨g7,0,none⟩:=by injection e
      subst e1
      have hil:i<sp.length:=by rw[←W3.out];exact hlt
      have q1:=yy OA i hil
      obtain⟨x,hx⟩:∃x,x=sp[i]:=⟨_,rfl⟩
      rw[←hx] at q1
      have Sq:=aa (LL (H7.out.1.still hB.out) (i:=i) (x:=x) (by rw[R_.out,List.getElem?_eq_getElem hil,hx]))
      have Sr:=aa hlt
      clear eO OA e hil hx hi hlt
      go_wp2_with fail
      refine Sq.out.mono ?_
      rintro e x8 ⟨rfl,kL⟩
      have H8:=aa (hB.out.trans (kL.mono hB.out.size))
      clear kL Sq q1
      go_wp2_with fail
      go_roundw
      case rel=>exact⟨i+1,Sr.out,by go_num,H8⟩
      case measure=>have:=Sr.out;simp[RowKit.intOf];omega
     ·obtain rfl:i=n7:=by omega
      have hI7:¬(i:Int)<i:=by omega
      have HX:=aa (show T2 w2 rb 800 tb (two 0 15) L (30000*l.length) [(vs 0,L 0),(vs 1,L 1)] U [(gw,37,[vs 0,vs 1]),(gb,35,[ptr (tb 0),ptr (tb 1)])] wr∧Tr.aP (L 0)∧Tr.aP (L 1) from⟨(H7.out.1.still hB.out).shut,H7.out.1.shut.rising (by decide),H7.out.1.shut.rising (by decide)⟩)
      obtain⟨p0,p1,p2,p3⟩:=Jr.out _ HX.out.1
      have HKY:=aa (show ∀X l' B' U',T2 w2 rb 800 tb (two 0 15) l' B' [(vs 0,L 0),(vs 1,L 1)] U' [(gw,37,[vs 0,vs 1]),(gb,35,[ptr (tb 0),ptr (tb 1)])] X→X.cell? ⟨gb,0,none⟩=some (.pointer (some ⟨tb 0,0,none⟩))∧X.cell? ⟨gb,1,none⟩=some (.pointer (some ⟨tb 1,0,none⟩)) from fun X l' B' U' h=>
       ⟨(h.blk (List.mem_cons_of_mem _ List.mem_cons_self)).cell (j:=0) rfl,(h.blk (List.mem_cons_of_mem _ List.mem_cons_self)).cell (j:=1) rfl⟩)
      have HN:=aa (And.intro MT.out.2.2.1 MT.out.2.2.2)
      have Pg:=aa (show n0≤150∧n1≤150 by rw[HN.out.1,HN.out.2];exact Tl.out)
      have aaS:(n0:Int)≤150:=by have:=Pg.out;omega
      have aaT:(n1:Int)≤150:=by have:=Pg.out;omega
      have Zs:=aa (show T2 w2 rb 800 tb (two 0 15) (jE L 0) (30000*l.length) [(vs 0,L 0),(vs 1,L 1)] U [(gw,37,[vs 0,vs 1]),(gb,35,[ptr (tb 0),ptr (tb 1)])] wr by rw[CI];exact HX.out.1)
      have Zt:=aa HX.out.2
      clear H7 H3 hlt hi hB HX W3 R_ Pd Sk HF Jr
      go_wp2_with fail
      go_loopw [254] (fun iv wr=>∃(k:Nat) (U:Nat),(k=0∧iv=.int .i64 0∨k=1∧iv=.int .i64 1∨k=2∧iv=.int .i64 2)∧Hid (T2 w2 rb 800 tb (two 0 15) (jE L k) (30000*(l.length+150*k)) [(vs 0,L 0),(vs 1,L 1)] U [(gw,37,[vs 0,vs 1]),(gb,35,[ptr (tb 0),ptr (tb 1)])] wr)) (fun iv _=>2-(RowKit.intOf iv).toNat)
      case atStart=>exact⟨0,U,.inl ⟨rfl,rfl⟩,aa (Zs.out.more (by omega))⟩
      case round=>
       clear Zs p0 p1 p2 p3
       obtain⟨k,U2,hkv,hR⟩:=hrel
       rcases hkv with⟨rfl,rfl⟩|⟨rfl,rfl⟩|⟨rfl,rfl⟩
       ·have hx:=LN (.slice a0 n0 c0) (.slice a1 n1 c1) wr
        go_wp2_with fail
        go_loopw [260] (fun iv wr=>∃(i:Nat) (U:Nat),i≤n0∧iv=.int .i64 i∧Hid (T2 w2 rb 800 tb (two 0 15) (kK (jE L 0) 0 ((L 0).drop i)) (30000*(l.length+150*0+i)) [(vs 0,L 0),(vs 1,L 1)] U [(gw,37,[vs 0,vs 1]),(gb,35,[ptr (tb 0),ptr (tb 1)])] wr)) (fun iv _=>n0-(RowKit.intOf iv).toNat)
        case atStart=>clear hx;exact⟨0,U2,Nat.zero_le _,rfl,aa (by rw[List.drop_zero,←AP L 0,uu];exact hR.out)⟩
        case round=>
         clear hR hx
         obtain⟨i,U3,hi,rfl,hR⟩:=hrel
         by_cases hlt:i<n0
         ·have W_:(i:Int)<n0:=by omega
          have hil:i<(L 0).length:=by rw[←HN.out.1];exact hlt
          have ho:=nQ (vs:=vs) (M:=L) hR.out List.mem_cons_self (List.mem_cons_of_mem _ List.mem_cons_self) (k:=0) (by decide)
          rw[MT.out.1] at ho
          obtain⟨gr,cap,e,-,-,-⟩:=Own.form ho (by omega)
          have e1:a0=some ⟨gr,0,none⟩:=by injection e
          subst e1
          obtain⟨d0,d1⟩:=kH (Own.lies ho) i hil
          rw[Nat.zero_add] at d0 d1
          have OL:=wO Zt.out.1 hil
          obtain⟨kx,jq⟩:∃kx,kx=((L 0)[i]).1:=⟨_,rfl⟩
          obtain⟨vx,mS⟩:∃vx,vx=((L 0)[i]).2:=⟨_,rfl⟩
          rw[←jq] at d0 OL
          rw[←mS] at d1
          obtain⟨Y,hY⟩:∃Y,Y=wr.alloc (.cells #[.string (bs kx),.string (bs vx)] 63):=⟨_,rfl⟩
          obtain⟨ab,hab⟩:∃ab,ab=wr.heap.size:=⟨_,rfl⟩
          have HY:=aa (show T2 w2 rb 800 tb (two 0 15) (kK (jE L 0) 0 ((L 0).drop i)) (30000*(l.length+150*0+i)) [(vs 0,L 0),(vs 1,L 1)] U3 ((ab,63,[.string (bs kx),.string (bs vx)])::[(gw,37,[vs 0,vs 1]),(gb,35,[ptr (tb 0),ptr (tb 1)])]) Y by rw[hY,hab];exact hR.out.box _ _)
          have OM:=aa OL
          have dP:=aa hlt
          have CF:=aa (And.intro hY hab)
          clear ho e jq mS OL hil hR hlt hi hY hab
          go_wp2_with fail
          rw[←CF.out.1,←CF.out.2]
          have b0:=(HY.out.blk (List.mem_cons_of_mem _ (List.mem_cons_of_mem _ List.mem_cons_self))).cell (j:=0) rfl
          have b1:=(HY.out.blk List.mem_cons_self).cell (j:=0) rfl
          simp only at b0 b1
          have HD:=aa (fun W (hb:Below Y.heap.size Y W)=>CG (key:=kx) (HY.out.still hb) (k:=0) (by decide) (by have:=dP.out;have:=Pg.out;have:=OC.out.1;omega))
          rw[fI,OM.out.2,OM.out.1,DC] at HD
          unfold ptr at b0 HD
          clear HY CF OM d0 d1
          go_wp2_with (refine wp_region_any (by kernel_rfl) ?_;refine Hid.out ?_)
          refine aa ?_
          try (change wpAny _ _ _ _ _ _ _ (World.drew _))
          refine tk 0 ?_
          refine tk 1 ?_
          refine tk 3 ?_
          try simp only[Act.put,List.setIfInBounds_toArray,List.set_cons_succ,List.set_cons_zero]
          refine rd [2,4] (AllReady.cons rfl (fun K hK=> ?_) (rn fun K hK=> ?_))
          focus
           go_simp
           refine hK _ _ ?_;clear hK K
           refine rd [4] (rn fun K hK=> ?_)
           go_simp
           refine hK _ _ ?_;clear hK K
           refine rd [5] (rn fun K hK=> ?_)
           go_simp
           refine (HD.out _ (Below.refl _ Y).drew).mono ?_
           rintro e x8 ⟨rfl,U4,h8⟩
           have H8:=aa (h8.less (fun _ h=>h) (fun _ h=>List.mem_cons_of_mem _ h))
           refine hK _ _ ?_;clear hK K h8 HD b0 b1
          rotate_left
          focus
           go_simp
           refine hK _ _ ?_;clear hK K
           refine rd [2] (rn fun K hK=> ?_)
           go_simp
           refine hK _ _ ?_;clear hK K
           refine rd [5] (rn fun K hK=> ?_)
           go_simp
           refine (HD.out _ (Below.refl _ Y).drew).mono ?_
           rintro e x8 ⟨rfl,U4,h8⟩
           have H8:=aa (h8.less (fun _ h=>h) (fun _ h=>List.mem_cons_of_mem _ h))
           refine hK _ _ ?_;clear hK K h8 HD b0 b1
          all_goals
           try simp only[Act.put,List.setIfInBounds_toArray,List.set_cons_succ,List.set_cons_zero]
           refine tk 6 ?_
           refine tk 7 ?_
           refine tk 8 ?_
           refine tk 9 ?_
           refine tk 10 ?_
           refine wpAny_done (by kernel_rfl) ?_ _
           go_wp2_with fail
           go_roundw
           case rel=>exact⟨i+1,U4,dP.out,by go_num,aa (H8.out.more (by omega))⟩
           case measure=>have:=dP.out;simp[RowKit.intOf];omega
         ·obtain rfl:i=n0:=by omega
          have W_:¬(i:Int)<i:=by omega
          have Eb:=aa (show T2 w2 rb 800 tb (two 0 15) (jE L (0+1)) (30000*(l.length+150*(0+1))) [(vs 0,L 0),(vs 1,L 1)] U3 [(gw,37,[vs 0,vs 1]),(gb,35,[ptr (tb 0),ptr (tb 1)])] wr by
           have h:=hR.out
           rw[List.drop_eq_nil_of_le (by rw[←HN.out.1];exact Nat.le_refl _),uw] at h
           exact h.more (by have:=Pg.out;omega))
          clear hlt hi hR
          go_wp2_with fail
          go_roundw
          case rel=>exact⟨0+1,U3,.inr (.inl ⟨rfl,rfl⟩),Eb⟩
          case measure=>simp[RowKit.intOf]
       ·have hx:=LP (.slice a0 n0 c0) (.slice a1 n1 c1) wr
        go_wp2_with fail
        go_loopw [260] (fun iv wr=>∃(i:Nat) (U:Nat),i≤n1∧iv=.int .i64 i∧Hid (T2 w2 rb 800 tb (two 0 15) (kK (jE L 1) 1 ((L 1).drop i)) (30000*(l.length+150*1+i)) [(vs 0,L 0),(vs 1,L 1)] U [(gw,37,[vs 0,vs 1]),(gb,35,[ptr (tb 0),ptr (tb 1)])] wr)) (fun iv _=>n1-(RowKit.intOf iv).toNat)
        case atStart=>clear hx;exact⟨0,U2,Nat.zero_le _,rfl,aa (by rw[List.drop_zero,←AP L 1,uu];exact hR.out)⟩
        case round=>
         clear hR hx
         obtain⟨i,U3,hi,rfl,hR⟩:=hrel
         by_cases hlt:i<n1
         ·have W_:(i:Int)<n1:=by omega
          have hil:i<(L 1).length:=by rw[←HN.out.2];exact hlt
          have ho:=nQ (vs:=vs) (M:=L) hR.out List.mem_cons_self (List.mem_cons_of_mem _ List.mem_cons_self) (k:=1) (by decide)
          rw[MT.out.2.1] at ho
          obtain⟨gr,cap,e,-,-,-⟩:=Own.form ho (by omega)
          have e1:a1=some ⟨gr,0,none⟩:=by injection e
          subst e1
          obtain⟨d0,d1⟩:=kH (Own.lies ho) i hil
          rw[Nat.zero_add] at d0 d1
          have OL:=wO Zt.out.2 hil
          obtain⟨kx,jq⟩:∃kx,kx=((L 1)[i]).1:=⟨_,rfl⟩
          obtain⟨vx,mS⟩:∃vx,vx=((L 1)[i]).2:=⟨_,rfl⟩
          rw[←jq] at d0 OL
          rw[←mS] at d1
          obtain⟨Y,hY⟩:∃Y,Y=wr.alloc (.cells #[.string (bs kx),.string (bs vx)] 63):=⟨_,rfl⟩
          obtain⟨ab,hab⟩:∃ab,ab=wr.heap.size:=⟨_,rfl⟩
          have HY:=aa (show T2 w2 rb 800 tb (two 0 15) (kK (jE L 1) 1 ((L 1).drop i)) (30000*(l.length+150*1+i)) [(vs 0,L 0),(vs 1,L 1)] U3 ((ab,63,[.string (bs kx),.string (bs vx)])::[(gw,37,[vs 0,vs 1]),(gb,35,[ptr (tb 0),ptr (tb 1)])]) Y by rw[hY,hab];exact hR.out.box _ _)
          have OM:=aa OL
          have dP:=aa hlt
          have CF:=aa (And.intro hY hab)
          clear ho e jq mS OL hil hR hlt hi hY hab
          go_wp2_with fail
          rw[←CF.out.1,←CF.out.2]
          have b0:=(HY.out.blk (List.mem_cons_of_mem _ (List.mem_cons_of_mem _ List.mem_cons_self))).cell (j:=1) rfl
          have b1:=(HY.out.blk List.mem_cons_self).cell (j:=0) rfl
          simp only at b0 b1
          have HD:=aa (fun W (hb:Below Y.heap.size Y W)=>CG (key:=kx) (HY.out.still hb) (k:=1) (by decide) (by have:=dP.out;have:=Pg.out;have:=OC.out.1;omega))
          rw[fI,OM.out.2,OM.out.1,DC] at HD
          unfold ptr at b0 HD
          clear HY CF OM d0 d1
          go_wp2_with (refine wp_region_any (by kernel_rfl) ?_;refine Hid.out ?_)
          refine aa ?_
          try (change wpAny _ _ _ _ _ _ _ (World.drew _))
          refine tk 0 ?_
          refine tk 1 ?_
          refine tk 3 ?_
          try simp only[Act.put,List.setIfInBounds_toArray,List.set_cons_succ,List.set_cons_zero]
          refine rd [2,4] (AllReady.cons rfl (fun K hK=> ?_) (rn fun K hK=> ?_))
          focus
           go_simp
           refine hK _ _ ?_;clear hK K
           refine rd [4] (rn fun K hK=> ?_)
           go_simp
           refine hK _ _ ?_;clear hK K
           refine rd [5] (rn fun K hK=> ?_)
           go_simp
           refine (HD.out _ (Below.refl _ Y).drew).mono ?_
           rintro e x8 ⟨rfl,U4,h8⟩
           have H8:=aa (h8.less (fun _ h=>h) (fun _ h=>List.mem_cons_of_mem _ h))
           refine hK _ _ ?_;clear hK K h8 HD b0 b1
          rotate_left
          focus
           go_simp
           refine hK _ _ ?_;clear hK K
           refine rd [2] (rn fun K hK=> ?_)
           go_simp
           refine hK _ _ ?_;clear hK K
           refine rd [5] (rn fun K hK=> ?_)
           go_simp
           refine (HD.out _ (Below.refl _ Y).drew).mono ?_
           rintro e x8 ⟨rfl,U4,h8⟩
           have H8:=aa (h8.less (fun _ h=>h) (fun _ h=>List.mem_cons_of_mem _ h))
           refine hK _ _ ?_;clear hK K h8 HD b0 b1
          all_goals
           try simp only[Act.put,List.setIfInBounds_toArray,List.set_cons_succ,List.set_cons_zero]
           refine tk 6 ?_
           refine tk 7 ?_
           refine tk 8 ?_
           refine tk 9 ?_
           refine tk 10 ?_
           refine wpAny_done (by kernel_rfl) ?_ _
           go_wp2_with fail
           go_roundw
           case rel=>exact⟨i+1,U4,dP.out,by go_num,aa (H8.out.more (by omega))⟩
           case measure=>have:=dP.out;simp[RowKit.intOf];omega
         ·obtain rfl:i=n1:=by omega
          have W_:¬(i:Int)<i:=by omega
          have Eb:=aa (show T2 w2 rb 800 tb (two 0 15) (jE L (1+1)) (30000*(l.length+150*(1+1))) [(vs 0,L 0),(vs 1,L 1)] U3 [(gw,37,[vs 0,vs 1]),(gb,35,[ptr (tb 0),ptr (tb 1)])] wr by
           have h:=hR.out
           rw[List.drop_eq_nil_of_le (by rw[←HN.out.2];exact Nat.le_refl _),uw] at h
           exact h.more (by have:=Pg.out;omega))
          clear hlt hi hR
          go_wp2_with fail
          go_roundw
          case rel=>exact⟨1+1,U3,.inr (.inr ⟨rfl,rfl⟩),Eb⟩
          case measure=>simp[RowKit.intOf]
       ·have Zu:=hR
        clear hR
        go_wp2_with fail
        refine (LK Zu.out).mono ?_
        rintro e x9 ⟨rfl,h9⟩
        obtain rfl:=h9.Ft rfl rfl
        have H9:=aa h9
        clear h9 Zu
        go_wp2_with fail
        go_ret
        exact⟨rfl,H2.out.trans (H9.out.below.mono H2.out.size)⟩
end Go.Proofs.YtloekpcncjocaaaGreatDoor
