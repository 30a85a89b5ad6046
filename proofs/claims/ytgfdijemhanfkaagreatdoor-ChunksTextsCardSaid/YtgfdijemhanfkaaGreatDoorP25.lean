/- Elder texts, cut down and merged (25). -/
import Derived.Test.YtgfdijemhanfkaaGreatDoorP23
import Derived.Test.YtgfdijemhanfkaaGreatDoorP11
import Derived.Test.YtgfdijemhanfkaaGreatDoorP21
import Derived.Test.YtgfdijemhanfkaaGreatDoorP10
import Derived.Test.YtgfdijemhanfkaaGreatDoorP4
import Derived.Test.YtgfdijemhanfkaaGreatDoorP24
import Derived.BigRegion
import Derived.Lib.MinMax
import Derived.Test.YtgfdijemhanfkaaGreatDoorPTk
set_option linter.unusedSimpArgs false
set_option linter.unusedVariables false
set_option maxRecDepth 100000
set_option maxHeartbeats 8000000
namespace Go.Proofs.YtgfdijemhanfkaaGreatDoor
open _root_.Go.Proofs.Tryz
open IntKind renaming i64→ct
open Value renaming tuple→ec,int→bf,slice→cx,string→cu,pointer→dr,agg→eU,bool→ey
open Ending renaming returned→c8
open Option renaming some→av,none→aK
open Obj renaming cells→dg
open Or renaming inl→cS,inr→dc
open World renaming drew->bu,size_alloc->aY
open List renaming setIfInBounds_toArray->aC,set_cons_succ->aB,set_cons_zero->ay,drop_eq_getElem_cons->cE,drop_eq_nil_of_le->gj,length_cons->a_,take_of_length_le->bD,length_drop->aS,length_take->aJ,getElem_mem->bp,length_set->bV,getD_eq_getElem?_getD->bC,getElem?_map->cY,getElem?_eq_getElem->aI,append_nil->bh,length_eq_zero_iff->ff,length_append->aq,mem_cons_self->au,mem_cons_of_mem->aH,map_cons->bI,length_map->aL,pairwise_singleton->pZ,mem_singleton->bB,pairwise_cons->cC,mem_cons->aM,getElem_map->gS,mem_map->bY,flatten_cons->dy,mem_append->ah,map_append->bM,nodup_cons->cA,flatten_append->dI,nodup_append->aP
open Nat renaming zero_le->aA,le_refl->af,lt_or_ge->ep,lt_succ_self->lK,zero_add->bG,le_trans->aN,sub_self->dm
section
open Go.RowKit Lib
theorem Yj:dx prog 65 3 (eo ct).size:=dx.of (size:=1) (bytes:=8) (z:=.int ct 0) underlying65 η rfl ξ
def lI (w:World) (sb tb:Nat) (sv:Value) (l:List Int) (e:Ending) (w':World):Prop:=
 e=c8 (ec #[])/\∃fI,aW w' sb 226 [ptr tb,fI]/\p8 0 w' fI l/\aE (fun k=>k=sb\/sv.ownBlock=av k) w w'/\(fI.ownBlock=sv.ownBlock\/∀k,fI.ownBlock=av k->w.heap.size<=k)
theorem jO (w:World) (sb tb p:Nat) (sv:Value) (l:List Int) (n:NV) (hs:aW w sb 226 [ptr tb,sv]) (g:p8 0 w sv l) (hn:Nd w p n) (hl:l.length<=1000000):
  Calls prog 193 #[ptr sb,ptr p] w fun e w'=>lI w sb tb sv (l++[n.page]) e w':=by
 obtain⟨S,b,rfl,i⟩:=Own.slice g;obtain⟨s,O⟩:=ξx l.length;rw[<-O] at hs g |-;have c1:=hs.cell (j:=1) rfl;have f1:=hs.frozen 1;have E:=hn.c2;have F:=hs.lt;have I:=hn.blk.lt;have c:=aa (And.intro g (And.intro hs (And.intro hn hl)));clear hs g hn i O hl;go_enter func193,ntmps193;unfold ptr;go_wp2_with (refine wp_region_any η ?_;refine Hid.o ?_);refine aa ?_;try (change wpAny _ _ _ _ _ _ _ (bu _))
 refine tk 0 ?_;refine tk 1 ?_;refine tk 2 ?_;refine tk 3 ?_;refine tk 5 ?_;refine tk 6 ?_;refine tk 7 ?_;try simp only[Act.put,aC,aB,ay]
 refine rd [4,8] (AllReady.cons rfl (fun K H=> ?_) (rn fun K H=> ?_))
 focus
  go_simp
  refine H _ _ ?_;clear H K
  refine rd [8] (rn fun K H=> ?_)
  go_simp
  refine H _ _ ?_;clear H K
  refine rd [9] (rn fun K H=> ?_)
  go_simp
  refine H _ _ ?_;clear H K
 rotate_left
 focus
  go_simp
  refine H _ _ ?_;clear H K
  refine rd [4,9] (AllReady.cons rfl (fun K H=> ?_) (rn fun K H=> ?_))
  focus
   go_simp
   refine H _ _ ?_;clear H K
   refine rd [9] (rn fun K H=> ?_)
   go_simp
   refine H _ _ ?_;clear H K
  rotate_left
  focus
   go_simp
   refine H _ _ ?_;clear H K
   refine rd [4] (rn fun K H=> ?_)
   go_simp
   refine H _ _ ?_;clear H K
 all_goals
  try simp only[Act.put,aC,aB,ay]
  have d:p8 0 (w.drew.alloc (dg #[bf ct n.page] 3)) (cx S s b) l:=Own.alloc (show p8 0 w.drew (cx S s b) l from c.o.1) _
  have q:bg (eo ct) (w.drew.alloc (dg #[bf ct n.page] 3)) w.drew.heap.size 0 [n.page]:=bg.dZ (aW.new w.drew _ _) rfl
  have r:aW (w.drew.alloc (dg #[bf ct n.page] 3)) sb 226 [ptr tb,cx S s b]:=aW.alloc (show aW w.drew sb _ _ from c.o.2.1) _
  have t:=aa (And.intro d (And.intro q r))
  clear d q r
  refine rd [10] (rn fun K H=> ?_)
  refine ia (K:=eo ct) Yj _ _ rfl rfl t.o.1 (aA _) w.drew.heap.size 0 1 1 [n.page] rfl rfl t.o.2.1 (show l.length+1<=1000000000 by have:=c.o.2.2.2;omega) ?_;intro v W P G x
  refine H _ _ ?_;clear H K
  have N:World.grownBy _ W (Value.slice S s b).ownBlock:=G
  have A:v.ownBlock=(Value.slice S s b).ownBlock\/∀k,v.ownBlock=av k->w.heap.size<=k:=x.imp_right fun h k m=>by have:=h k m;simp only[World.size_drew,aY] at this;omega
  have Z:aE (fun k=>(Value.slice S s b).ownBlock=av k) w (w.drew.alloc (dg #[bf ct n.page] 3)):=((aE.refl _ w).drew).alloc _
  have D:=Z.grown N fun k e _=>e
  have f:=Own.dh c.o.1 c.o.2.1 ξ
  have a:=c.o.2.1.but D f
  obtain⟨y,Q,u,z⟩:=Own.slice P
  have R:=Own.dh P a ξ
  generalize (l++[n.page]).length=B at u z
  subst u
  have c5:=a.cell (j:=1) rfl
  have J:=a.frozen 1
  have C:=aa (show lI w sb tb (cx S s b) (l++[n.page]) (c8 (ec #[])) (W.setCell ⟨sb,1,aK⟩ (cx y B Q)) from
   ⟨rfl,_,a.set 1 _,Own.but P ((aE.refl (fun k=>k=sb) W).setCell _ _ fun _=>rfl) (fun k m e=>R (by rw[m,e])),(D.mono (fun k _ e=>dc e)).setCell _ _ (fun _=>cS rfl),A⟩)
  clear P G N x A Z D f a R
  try simp only[Act.put,aC,aB,ay]
  refine tk 11 ?_
  refine tk 12 ?_
  try simp only[Act.put,aC,aB,ay]
  refine rd [13] (rn fun K H=> ?_)
  go_simp
  refine H _ _ ?_;clear H K
  refine wpAny_done η ?_ _
  refine bodyPost_end (results_none rfl _ _ _) rfl ?_
  exact C.o
theorem Rz {fn:Func} {p:Tmp} (h:fn.results=#[.cell p 175]) (tmps:Array Value) (w:World) (g:Nat) (x y z:Value) (fr:Nat×Nat)
  (hp:tmps.getD p undef=.pointer (av ⟨g,0,aK⟩)) (hg:w.heap[g]?=av (dg #[x,y,z] 175 fr)):
  (results fn tmps).run prog w=.ok (.agg #[x,y,z]) w:=
 results_cell_row h tmps w g _ _ fr _ hp hg underlying175 rfl η
theorem lJ (w:World) (key:ByteArray) (q:Nat):
  Calls prog 195 #[cu key,ptr q] w fun e w'=>e=c8 (eU #[cu key,cu (bs (pv 0)),ptr q])/\Below w.heap.size w w':=by
 obtain⟨w1,h⟩:=ξx (w.alloc (dg #[cu ⟨#[]⟩,cu ⟨#[]⟩,dr aK] 175));obtain⟨g,hg⟩:=ξx w.heap.size;have a:=aa (show aW w1 g 175 [cu ⟨#[]⟩,cu ⟨#[]⟩,dr aK]/\Below w.heap.size w w1/\g=w.heap.size from⟨by rw[h,hg];exact aW.new w _ _,by rw[h];exact (Below.refl _ w).alloc (af _) _,hg⟩);have b:=aa (gW w1 0 ξ);generalize bs (pv 0)=p at*;go_enter func195,ntmps195;unfold ptr;go_wp2_with fail;rw[<-h,<-hg];refine b.o.mono ?_;rintro e W ⟨rfl,A⟩;have H:=aa (show aW W g 175 [cu ⟨#[]⟩,cu ⟨#[]⟩,dr aK]/\Below w.heap.size w W from⟨a.o.1.below A a.o.1.lt,a.o.2.1.trans (A.mono a.o.2.1.size)⟩);have d:=H.o.1.cell (j:=0) rfl;have D:=H.o.1.cell (j:=1) rfl;have c:=H.o.1.cell (j:=2) rfl;have f:=H.o.1.frozen 0;have f1:=H.o.1.frozen 1;have f2:=H.o.1.frozen 2;clear h hg A;go_wp2;refine bodyPost_ret (Rz rfl _ _ g _ _ _ (0,0) rfl (((H.o.1.set 0 _).set 1 _).set 2 _)) rfl ?_;have N:w.heap.size<=g:=Nat.le_of_eq a.o.2.2.symm;exact⟨rfl,((H.o.2.setCell N _).setCell N _).setCell N _⟩
def fT (tot:Nat):Nat->List It->Nat
 |_,[]=>0
 |_,[_]=>0
 |s,i::j::r=>if 2*s<tot then fT tot (s+jY i) (j::r)+1 else 0
theorem uX (w:World) (a:Option Addr) (n c:Nat) (h:n<=c) (hn:n<=1000000) (hc:(c:Int)<=9223372036854775807):Calls prog 242 #[cx a n c] w fun e w'=>e=c8 (cx a n n)/\w'=w:=by
 have H:(n:Int)<=c:=κ
 have b:(0:Int)<=n:=κ
 go_enter func242,ntmps242;go_wp2;go_ret;exact⟨rfl,rfl⟩
theorem xC (tot s:Nat) (i j:It) (r:List It):fT tot s (i::j::r)=if 2*s<tot then fT tot (s+jY i) (j::r)+1 else 0:=rfl
theorem Gm {tot s h:Nat} {l:List It} (hh:h+1<l.length) (hs:2*s<tot):h+fT tot s (l.drop h)=h+1+fT tot (s+jY l[h]) (l.drop (h+1)):=by rw[cE (show h<l.length by omega),cE hh,xC,if_pos hs];omega
theorem xD {tot s h:Nat} {l:List It} (hh:¬h+1<l.length\/¬2*s<tot):fT tot s (l.drop h)=0:=by grind [ep,cE,fT,gj]
theorem rB (tot:Nat):∀(l:List It) (s:Nat),l≠[]->fT tot s l<l.length
 |[],_,h=>absurd rfl h
 |[_],_,_=>by simp[fT]
 |i::j::r,s,_=>by
  unfold fT
  split
  ·have:=rB tot (j::r) (s+jY i) ν;simp only[a_] at this |-;omega
  ·grind
theorem bg.parts {g o:Nat} {its:List It} {X:World} (h:bg aj X g o its) (k:Nat) (H:k<=its.length):bg aj X g o (its.take k)/\bg aj X g (o+k*3) (its.drop k):=by
 constructor;·have:=bg.part h 0 k (aA _);rw[Nat.zero_mul,Nat.add_zero,List.drop_zero] at this;exact this
 ·have:=bg.part h k (its.length-k) H;rw[bD (by rw[aS];exact af _)] at this;exact this
theorem Mem.part {X X':World} {M:Nat->Option NV} {p q:Nat} {n low up:NV} (h:Mem X M) (hp:M p=av n) (o:¬MB M q) (k:Nat) (g:k<=n.its.length)
  (hl:low.its=n.its.take k/\low.rg=n.rg/\low.ro=n.ro/\low.cap=k/\low.own=false)
  (hu:up.its=n.its.drop k/\up.rg=n.rg/\up.ro=n.ro+k*3/\up.cap=n.cap-k/\up.own=false)
  (b:aE (fun j=>j=p\/j=q) X X') (w:aW X' p 170 low.cells) (z:aW X' q 170 up.cells):
  Mem X' (upd (upd M p low) q up):=by
 obtain⟨l,L,A,B,N⟩:=hl;obtain⟨u,U,D,E,P⟩:=hu;have hn:=h.nd p n hp;have F:p≠q:=fun e=>o ⟨p,n,hp,cS e.symm⟩;have C:∀x m,M x=av m->¬(m.rg=p\/m.rg=q):=by
  rintro x m H (e|e);·exact h.JL H hp e
  ·exact o ⟨x,m,H,dc e.symm⟩
 have c:=hn.row.but b (C p n hp);obtain⟨rl,R⟩:=c.parts k g;have r:low.its.length=k:=by rw[l,aJ];omega
 have s:up.its.length=n.its.length-k:=by rw[u,aS]
 have sm:=hn.small;have old:∀x m,upd (upd M p low) q up x=av m->(x=q/\m=up)\/(x=p/\m=low)\/(x≠q/\x≠p/\M x=av m):=by grind [aO]
 have t:∃cur,X'.heap[n.rg]?=av (dg cur 175 (0,0)):=by obtain⟨cur,hc⟩:=h.ty p n hp;exact⟨cur,by rw[b.block n.rg (h.lt hp).2 (C p n hp)];exact hc⟩
 have Q:∀x m,M x=av m->x≠p->n.rg≠m.rg\/(m.own=false/\(n.ro+3*n.its.length<=m.ro\/m.ro+3*m.its.length<=n.ro)):=by
  intro x m H a;rcases h.apart p x n m hp H (fun e=>a e.symm) with e|⟨_,G,I⟩;·exact cS e
  ·exact dc ⟨G,I⟩
 refine⟨fun x m H=> ?_,fun x m H=> ?_,fun x y m v H hy a=> ?_,fun x m H hown=> ?_⟩
 ·rcases old x m H with⟨rfl,rfl⟩|⟨rfl,rfl⟩|⟨d,f,h3⟩;·exact⟨z,by rw[U,D,u];exact R,⟨by rw[s];have:=sm.len;omega,fun i hi=>sm.each i (by rw[u] at hi;exact List.mem_of_mem_drop hi),by rw[s,E];have:=sm.cap;omega⟩⟩
  ·exact⟨w,by rw[L,A,l];exact rl,⟨by rw[r];have:=sm.len;omega,fun i hi=>sm.each i (by rw[l] at hi;exact List.mem_of_mem_take hi),by rw[r,B];have:=sm.cap;omega⟩⟩
  ·exact (h.nd x m h3).but b (fun e=>e.elim f d) (C x m h3)
 ·rcases old x m H with⟨rfl,rfl⟩|⟨rfl,rfl⟩|⟨d,f,h3⟩;·rw[U];exact t
  ·rw[L];exact t
  ·obtain⟨cur,hc⟩:=h.ty x m h3;exact⟨cur,by rw[b.block m.rg (h.lt h3).2 (C x m h3)];exact hc⟩
 ·rcases old x m H with⟨rfl,rfl⟩|⟨rfl,rfl⟩|⟨d,f,h3⟩<;>rcases old y v hy with⟨rfl,rfl⟩|⟨rfl,rfl⟩|⟨S,T,J⟩;·exact absurd rfl a
  ·grind
  ·grind
  ·grind
  ·exact absurd rfl a
  ·grind
  ·grind
  ·grind
  ·exact h.apart x y m v h3 J a
 ·rcases old x m H with⟨rfl,rfl⟩|⟨rfl,rfl⟩|⟨d,f,h3⟩;·grind
  ·grind
  ·obtain⟨O,K⟩:=h.own x m h3 hown;exact⟨O,Own.but K b fun k g=>by have e:av m.rg=av k:=g;injection e with e;rw[<-e];exact C x m h3⟩
section
variable {E:Ev} {X0 X X':World} {R0 R R' S:Φ} {ps ps':Γ} {pg cy:Ξ} {rt rt':Δ} {M M':Nat->Option NV} {p q:Nat} {n m:NV}
def yg:List It->List It
 |[]=>[]
 |i::l=>{i with key:=[]}::l
def between (n:NV) (h:Nat):List UInt8:=if n.level=0 then Tr.cQ ((n.its.map It.key).getD (h-1) []) ((n.its.map It.key).getD h []) else (n.its.map It.key).getD h []
def iz (n:NV) (h:Nat):NV:={n with its:=n.its.take h,cap:=h,hi:=between n h,fresh:=true,own:=false}
def ku (n:NV) (h:Nat):NV:=⟨n.level,if n.level=0 then n.its.drop h else yg (n.its.drop h),n.rg,n.ro+h*3,n.cap-h,-1,between n h,n.hi,0,0,true,false⟩
def Lx (X:World) (M:Nat->Option NV) (p:Nat) (n:NV) (h:Nat) (e:Ending) (X':World):Prop:=
 ∃q,e=c8 (ec #[ptr q,cu (bs (between n h))])/\Mem X' (upd (upd M p (iz n h)) q (ku n h))/\X.heap.size<=q/\aE (fun k=>k=p\/k=n.rg) X X'
end
section
variable {X:World} {M:Nat->Option NV} {p:Nat} {n:NV}
structure kC (X:World) (M:Nat->Option NV) (p:Nat) (n:NV) (k L q:Nat) (w3:World) (M3:Nat->Option NV) (n3:NV):Prop where
 mem:Mem w3 M3
 at3:M3 p=av n3
 other:∀x,x≠p->M3 x=M x
 same:n3.level=n.level/\n3.rg=n.rg/\n3.ro=n.ro/\n3.cap=n.cap/\n3.page=n.page/\n3.lo=n.lo/\n3.was=n.was/\n3.at_=n.at_
 hi:n3.hi=n.hi
 len:n3.its.length=L
 take:n3.its.take k=n.its.take k
 drop:n3.its.drop k=(ku n k).its
 blk:aW w3 q 170 [bf ct n.level,cx (av ⟨n.rg,n.ro+k*3,aK⟩) (L-k) (n.cap-k),bf ct (-1),cu ⟨#[]⟩,cu ⟨#[]⟩,bf ct 0,bf ct 0,ey true]
 but:aE (fun k=>k=p\/k=n.rg) X w3
 not:¬MB M3 q
theorem kC.nd {w3:World} {M3:Nat->Option NV} {n3:NV} {k L q:Nat} (h:kC X M p n k L q w3 M3 n3):Nd w3 p n3:=h.mem.nd p n3 h.at3
theorem kC.pq {w3:World} {M3:Nat->Option NV} {n3:NV} {k L q:Nat} (h:kC X M p n k L q w3 M3 n3):p≠q:=fun e=>h.not ⟨p,n3,h.at3,cS e.symm⟩
theorem kC.rq {w3:World} {M3:Nat->Option NV} {n3:NV} {k L q:Nat} (h:kC X M p n k L q w3 M3 n3):n3.rg≠q:=fun e=>h.not ⟨p,n3,h.at3,dc e.symm⟩
theorem kC.keys {w3:World} {M3:Nat->Option NV} {n3:NV} {k L q:Nat} (h:kC X M p n k L q w3 M3 n3) (_:M p=av n) (b:ByteArray):
  Nd ((w3.setCell ⟨q,3,aK⟩ (cu b)).setCell ⟨q,4,aK⟩ (cu (bs n.hi))) p n3/\
  aW ((w3.setCell ⟨q,3,aK⟩ (cu b)).setCell ⟨q,4,aK⟩ (cu (bs n.hi))) q 170 [bf ct n.level,cx (av ⟨n.rg,n.ro+k*3,aK⟩) (L-k) (n.cap-k),bf ct (-1),cu b,cu (bs n.hi),bf ct 0,bf ct 0,ey true]:=by
 refine⟨?_,(h.blk.set 3 _).set 4 _⟩;have H:aE (fun j=>j=q) w3 ((w3.setCell ⟨q,3,aK⟩ (cu b)).setCell ⟨q,4,aK⟩ (cu (bs n.hi))):=((aE.refl (fun j=>j=q) w3).setCell _ _ fun _=>rfl).setCell _ _ fun _=>rfl;exact h.nd.but H h.pq h.rq
theorem Ab {w w3:World} {k q:Nat} (c:Mem w M) (hp:M p=av n) {L:Nat} (d:L=n.its.length) (h:n.level=0) (H:Below w.heap.size w w3)
  (a:aW w q 170 [bf ct n.level,cx (av ⟨n.rg,n.ro+k*3,aK⟩) (L-k) (n.cap-k),bf ct (-1),cu ⟨#[]⟩,cu ⟨#[]⟩,bf ct 0,bf ct 0,ey true])
  (b:Below X.heap.size X w) (hn:¬MB M q):kC X M p n k L q w3 M n:=
 ⟨c.still H,hp,fun _ _=>rfl,⟨rfl,rfl,rfl,rfl,rfl,rfl,rfl,rfl⟩,rfl,d.symm,rfl,by unfold ku;rw[if_pos h],a.below H a.lt,aE.aF (b.trans (H.mono b.size)) _,hn⟩
theorem Cn {w:World} {k q:Nat} (c:Mem w M) (hp:M p=av n) {L:Nat} (f:L=n.its.length) (a:¬n.level=0) (H:k<n.its.length)
  (g:aW w q 170 [bf ct n.level,cx (av ⟨n.rg,n.ro+k*3,aK⟩) (L-k) (n.cap-k),bf ct (-1),cu ⟨#[]⟩,cu ⟨#[]⟩,bf ct 0,bf ct 0,ey true])
  (i:Below X.heap.size X w) (hn:¬MB M q):
  kC X M p n k L q (w.setCell ⟨n.rg,n.ro+k*3,aK⟩ (cu ⟨#[]⟩)) (upd M p {n with its:=n.its.set k {n.its[k] with key:=[]}}) {n with its:=n.its.set k {n.its[k] with key:=[]}}:=by
 have h:=c.item hp k 0 H ξ {n.its[k] with key:=[]} (cu ⟨#[]⟩) rfl ⟨aA _,((c.nd p n hp).small.each _ (bp H)).2⟩;rw[Nat.add_zero] at h;refine⟨h,bF _ _ _,fun x b=>aX b,⟨rfl,rfl,rfl,rfl,rfl,rfl,rfl,rfl⟩,rfl,by rw[f];exact bV,List.take_set_of_le (af _), ?_,g.other _ _ fun e=>hn ⟨p,n,hp,dc e⟩,(aE.aF i _).setCell _ _ fun _=>dc rfl, ?_⟩;·unfold ku;simp only[];rw[if_neg a,cE (show k<(n.its.set k _).length by rw[bV];exact H),List.getElem_set_self,List.drop_set_of_lt (lK k),cE H];rfl
 ·rintro⟨x,m,b,d⟩;rcases aO b with⟨rfl,rfl⟩|⟨_,j⟩;·exact hn ⟨x,n,hp,d⟩
  ·exact hn ⟨x,m,j,d⟩
theorem kC.done {w3:World} {M3:Nat->Option NV} {n3:NV} {k L q:Nat} (h:kC X M p n k L q w3 M3 n3) (hp:M p=av n) (b:k<=n.its.length) (c:L=n.its.length) (d:X.heap.size<=q):
  Lx X M p n k (c8 (ec #[ptr q,cu (bs (between n k))]))
   (((((w3.setCell ⟨q,3,aK⟩ (cu (bs (between n k)))).setCell ⟨q,4,aK⟩ (cu (bs n.hi))).setCell ⟨p,1,aK⟩ (cx (av ⟨n.rg,n.ro,aK⟩) k k)).setCell ⟨p,4,aK⟩ (cu (bs (between n k)))).setCell ⟨p,7,aK⟩ (ey true)):=by
 obtain⟨f,g⟩:=h.keys hp (bs (between n k))
 obtain⟨s1,s2,s,S,l,m,o,r⟩:=h.same
 have t:(n.its.take k).length=k:=zaE
 have H:aE (fun j=>j=p\/j=q) w3 (((((w3.setCell ⟨q,3,aK⟩ (cu (bs (between n k)))).setCell ⟨q,4,aK⟩ (cu (bs n.hi))).setCell ⟨p,1,aK⟩ (cx (av ⟨n.rg,n.ro,aK⟩) k k)).setCell ⟨p,4,aK⟩ (cu (bs (between n k)))).setCell ⟨p,7,aK⟩ (ey true)):=
  (((((aE.refl (fun j=>j=p\/j=q) w3).setCell _ _ fun _=>Or.inr rfl).setCell _ _ fun _=>Or.inr rfl).setCell _ _ fun _=>Or.inl rfl).setCell _ _ fun _=>Or.inl rfl).setCell _ _ fun _=>Or.inl rfl
 have u:=h.mem.part h.at3 h.not k (by rw[h.len,c];exact b) (low:=iz n k) (up:=ku n k)
  ⟨h.take.symm,s2.symm,s.symm,rfl,rfl⟩ ⟨h.drop.symm,s2.symm,by rw[s];rfl,by rw[S];rfl,rfl⟩ H
  (by
   have e:((n3.cells.set 1 (cx (av ⟨n.rg,n.ro,aK⟩) k k)).set 4 (cu (bs (between n k)))).set 7 (ey true)=(iz n k).cells:=(by unfold NV.cells;rw[s1,l,m,o,r];show _=[_,Value.slice _ (n.its.take k).length k,_,_,_,_,_,_];rw[t];rfl);rw[<-e];exact ((f.blk.set 1 _).set 4 _).set 7 _)
  (by
   have U:(ku n k).its.length=L-k:=(by rw[<-h.drop,aS,h.len]);have e:(ku n k).cells=[bf ct n.level,cx (av ⟨n.rg,n.ro+k*3,aK⟩) (L-k) (n.cap-k),bf ct (-1),cu (bs (between n k)),cu (bs n.hi),bf ct 0,bf ct 0,ey true]:=(by unfold NV.cells;rw[U];rfl);rw[e];exact ((g.other _ _ h.pq.symm).other _ _ h.pq.symm).other _ _ h.pq.symm)
 refine⟨q,rfl, ?_,d, ?_⟩
 ·have e:upd (upd M3 p (iz n k)) q (ku n k)=upd (upd M p (iz n k)) q (ku n k):=by
   funext x;unfold upd;by_cases a:x=q;·rw[if_pos a,if_pos a]
   ·rw[if_neg a,if_neg a];by_cases E:x=p;·rw[if_pos E,if_pos E]
    ·rw[if_neg E,if_neg E];exact h.other x E
  rw[<-e];exact u
 ·exact h.but.trans (H.mono fun i _ hi=>hi) fun i hi e=>e.elim cS fun e=>absurd hi κ
theorem zaa {G:Prop} (h:G:=by
 rw[<-K,<-A];have Q:Nd w p n:=b.still d.o.1;clear K A Y m l Z;have x1:=d.o.2.1.cell (j:=1) rfl;have Y:=Q.c0;have i0:=(bt Q.row k E).1;have i1:=(bt Q.row (k-1) t).1;have hrl:=yc Q.row E;have Z:=Q.blk.lt;have C:(n.its.map It.key).getD k []=n.its[k].key:=(by rw[bC,cY,aI E];rfl);have U:(n.its.map It.key).getD (k-1) []=n.its[k-1].key:=(by rw[bC,cY,aI t];rfl);by_cases i:n.level=0;·have Ac:¬(n.level:Int)>0:=κ;have hld:decide ((n.level:Int)>0)=false:=decide_eq_false Ac;have m:=Q.c1;rw[<-c.o.2] at m;have u:=g.o.2.2.2.2.1 i;rw[C,U] at u;have B:between n k=Tr.cQ n.its[k-1].key n.its[k].key:=(by unfold between;rw[if_pos i,C,U]);have hs1:=b.small.each _ (bp E);have P:=b.small.each _ (bp t);have J:=aa (fun W=>uw W _ _ u κ κ);rw[<-B] at J;have acR:(0:Int)<=(k:Int)-1:=κ;clear C U u B hs1 P;go_wp2_with fail;refine (J.o w).mono ?_;rintro e w3 ⟨rfl,B⟩;have a:=aa (Ab d.o.2.2.2.1 g.o.2.1 c.o.2 i B d.o.2.1 d.o.1 (fun h=>absurd (V.o.nA h) (Nat.not_lt.2 d.o.2.2.2.2.2)));clear x1 Y i0 i1 hrl Z Q m J B;obtain⟨v,r⟩:=ξx ((w3.setCell ⟨q,3,aK⟩ (cu (bs (between n k)))).setCell ⟨q,4,aK⟩ (cu (bs n.hi)));have R:=a.o.nd;have e4:w3.cell? ⟨p,4,aK⟩=av (cu (bs n.hi)):=a.o.hi▸R.c4;have m:w3.cell? ⟨p,1,aK⟩=av (cx (av ⟨n.rg,n.ro,aK⟩) L n.cap):=zbf;have q3:=a.o.blk.frozen 3;have q4:=a.o.blk.frozen 4;have x3:=a.o.blk.cell (j:=3) rfl;have x4:=a.o.blk.cell (j:=4) rfl;have f:=aa (a.o.keys g.o.2.1 (bs (between n k)));rw[<-r] at f;have g1:=f.o.1.c1;have g4:=f.o.1.c4;have g7:=f.o.1.c7;rw[a.o.len,a.o.same.2.1,a.o.same.2.2.1,a.o.same.2.2.2.1] at g1;have k1:=f.o.1.blk.frozen 1;have k4:=f.o.1.blk.frozen 4;have k7:=f.o.1.blk.frozen 7;have D:=aa (uX v (av ⟨n.rg,n.ro,aK⟩) k n.cap zaz zaz y);have F:=aa (a.o.done g.o.2.1 (Nat.le_of_lt E) c.o.2 d.o.2.2.1);rw[<-r] at F;have Ym:(k:Int)<=n.cap:=κ;generalize bs (between n k)=bw at*;clear R;go_wp2_with fail;rw[<-r];refine D.o.mono ?_;rintro e w5 ⟨rfl,rfl⟩;clear r e4 m q3 q4 x3 x4 D;go_wp2_with fail;refine bodyPost_ret (results_tmp2 rfl _ _ _) rfl ?_;exact F.o
 ·have Ac:(n.level:Int)>0:=κ;have hld:decide ((n.level:Int)>0)=true:=decide_eq_true Ac;have i0f:w.frozen? ⟨n.rg,n.ro+k*3,aK⟩=false:=(by obtain⟨cur,hc⟩:=d.o.2.2.2.1.ty p n g.o.2.1;simp[World.frozen?,hc]);have f3:=d.o.2.1.frozen 3;have f4:=d.o.2.1.frozen 4;have B:between n k=n.its[k].key:=(by unfold between;rw[if_neg i,C]);rw[<-B] at i0;obtain⟨w3,RA⟩:=ξx (w.setCell ⟨n.rg,n.ro+k*3,aK⟩ (cu ⟨#[]⟩));have a:=aa (Cn d.o.2.2.2.1 g.o.2.1 c.o.2 i E d.o.2.1 d.o.1 (fun h=>absurd (V.o.nA h) (Nat.not_lt.2 d.o.2.2.2.2.2)));rw[<-RA] at a;clear C U B i1 Q;obtain⟨v,r⟩:=ξx ((w3.setCell ⟨q,3,aK⟩ (cu (bs (between n k)))).setCell ⟨q,4,aK⟩ (cu (bs n.hi)));have R:=a.o.nd;have e4:w3.cell? ⟨p,4,aK⟩=av (cu (bs n.hi)):=a.o.hi▸R.c4;have m:w3.cell? ⟨p,1,aK⟩=av (cx (av ⟨n.rg,n.ro,aK⟩) L n.cap):=zbf;have q3:=a.o.blk.frozen 3;have q4:=a.o.blk.frozen 4;have x3:=a.o.blk.cell (j:=3) rfl;have x4:=a.o.blk.cell (j:=4) rfl;have f:=aa (a.o.keys g.o.2.1 (bs (between n k)));rw[<-r] at f;have g1:=f.o.1.c1;have g4:=f.o.1.c4;have g7:=f.o.1.c7;rw[a.o.len,a.o.same.2.1,a.o.same.2.2.1,a.o.same.2.2.2.1] at g1;have k1:=f.o.1.blk.frozen 1;have k4:=f.o.1.blk.frozen 4;have k7:=f.o.1.blk.frozen 7;have D:=aa (uX v (av ⟨n.rg,n.ro,aK⟩) k n.cap zaz zaz y);have F:=aa (a.o.done g.o.2.1 (Nat.le_of_lt E) c.o.2 d.o.2.2.1);rw[<-r] at F;have Ym:(k:Int)<=n.cap:=κ;generalize bs (between n k)=bw at*;clear R;subst RA;go_wp2_with fail;rw[<-r];refine D.o.mono ?_;rintro e w5 ⟨rfl,rfl⟩;clear r e4 m q3 q4 x3 x4 D;go_wp2_with fail;refine bodyPost_ret (results_tmp2 rfl _ _ _) rfl ?_;exact F.o):G:=h
theorem zam {G:Prop} (h:G:=by
 have S:=x.o;subst S;have V:=aa (g.o.1.still G.o);have l:Nd w1 p n:=b.still G.o;have Y:=l.c0;have m:=l.c1;rw[<-c.o.2] at m;have E:k<n.its.length:=g.o.2.2.2.2.2;have pY:=g.o.2.2.2.1;have hLc:L<=n.cap:=(by have:=b.small.cap.1;have:=c.o;omega);have y:(n.cap:Int)<=9223372036854775807:=(by have:=b.small.cap.2;unfold maxLen at this;omega);have hck:¬n.cap=k:=zaz;have acP:(0:Int)<(L:Int)-k:=zaz;have acQ:(k:Int)<=L:=κ;have t:k-1<n.its.length:=Nat.lt_of_le_of_lt (Nat.sub_le _ _) E;have Z:=l.blk.lt;have FA:(n.level:Int)≥0:=κ;clear O hw ya N x;obtain⟨w,K⟩:=ξx ((w1.alloc (dg #[bf ct n.level,cx (av ⟨n.rg,n.ro+k*3,aK⟩) (L-k) (n.cap-k),bf ct (-1),cu ⟨#[]⟩,cu ⟨#[]⟩,bf ct 0,bf ct 0,ey true] 170)).drew);obtain⟨q,A⟩:=ξx w1.heap.size
 have d:=aa (show Below X.heap.size X w/\aW w q 170 [bf ct n.level,cx (av ⟨n.rg,n.ro+k*3,aK⟩) (L-k) (n.cap-k),bf ct (-1),cu ⟨#[]⟩,cu ⟨#[]⟩,bf ct 0,bf ct 0,ey true]/\X.heap.size<=q/\Mem w M/\w1.heap.size<=w.heap.size/\w1.heap.size<=q from by
  have b2:Below w1.heap.size w1 w:=(by rw[K];exact ((Below.refl _ w1).alloc (af _) _).drew);exact⟨G.o.trans (b2.mono G.o.size),by rw[K,A];exact aW.drew (aW.new w1 _ _),by rw[A];exact G.o.size,V.o.still b2,b2.size,Nat.le_of_eq A.symm⟩)
 go_wp2_with fail
 go_region
 exact zaa):G:=h
theorem sZ (h:Mem X M) (hp:M p=av n) (H:Nat) (hH:H=fT (cJ n.its) 0 n.its) (h0:0<H) (hk:n.level=0->Tr.lt ((n.its.map It.key).getD (H-1) []) ((n.its.map It.key).getD H [])=true):
  Calls prog 194 #[ptr p] X fun e X'=>Lx X M p n H e X':=by
 have b:=h.nd p n hp;have c1:=b.c1;have ef:=b.blk.lt;have hl:=b.small.len;have jK:(n.its.length:Int)<=400:=κ
 have hne:n.its≠[]:=by rintro e;rw[e] at hH;rw[hH] at h0;exact absurd h0 ξ
 have hHl:H<n.its.length:=by rw[hH];exact rB _ _ _ hne
 have hts:=b.small.size;have g:=aa (And.intro h (And.intro hp (And.intro hH (And.intro h0 (And.intro hk hHl)))));have HS:=aa (fun (W:World) (hb:Below X.heap.size X W)=>iV (b.still hb));obtain⟨T,hT⟩:=ξx (cJ n.its);obtain⟨L,hL⟩:=ξx n.its.length;rw[<-hT] at HS hts;rw[<-hL] at c1 jK;have c:=aa (And.intro hT hL);clear h hp hH h0 hk hl hne hT hL hHl;go_enter func194,ntmps194;unfold ptr;go_wp2
 go_loopw [4,5] (fun hv sv wr=>∃k s:Nat,hv=bf ct k/\sv=bf ct s/\Hid (k<L/\s=cJ (n.its.take k)/\s<=160800/\k+fT T s (n.its.drop k)=H)/\Hid (Below X.heap.size X wr)) (fun hv _ _=>L-(RowKit.intOf hv).toNat)
 case atStart=>exact⟨0,0,rfl,rfl,aa ⟨by have:=g.o;have:=c.o;omega,rfl,aA _,by rw[g.o.2.2.1,c.o.1,List.drop_zero,bG]⟩,aa (Below.refl _ _)⟩
 case round=>
  obtain⟨k,s,rfl,rfl,N,O⟩:=hrel;have d1:=(O.o.cell (p:=⟨p,1,aK⟩) ef).trans c1;have hw:Nd wr p n:=b.still O.o;have ya:(k:Int)<L:=by have:=N.out.1;omega
  have A7:(s:Int)<=160800:=by have:=N.out.2.2.1;omega
  by_cases I:k+1<L
  ·have Yk:(k:Int)<(L:Int)-1:=κ;have hkd:decide ((k:Int)<(L:Int)-1)=true:=decide_eq_true Yk;have hsT:(T:Int)<=160800:=κ;unfold ptr at HS;go_wp2_with fail;refine (HS.o wr O.o).mono ?_;rintro e w1 ⟨rfl,aT⟩;have G:=aa (O.o.trans (aT.mono O.o.size));have d2:=(G.o.cell (p:=⟨p,1,aK⟩) ef).trans c1;clear aT;by_cases P:2*s<T
   ·have Yl:2*(s:Int)<T:=κ;have hsd:decide (2*(s:Int)<T)=true:=decide_eq_true Yl;have E:k<n.its.length:=zaz;obtain⟨a0,a1,a2⟩:=bt (eX b.row G.o) k E;have he:=b.small.each _ (bp E);have J:=aa (fun W=>B6 W n.its[k] ⟨κ,κ⟩);have HK:=aa (show k+1<L/\s+jY n.its[k]=cJ (n.its.take (k+1))/\k+1+fT T (s+jY n.its[k]) (n.its.drop (k+1))=H from⟨I,by rw[B7 _ _ E,N.out.2.1],by rw[<-N.out.2.2.2];exact (Gm zaz P).symm⟩);have hle:=b.small.part (k+1);rw[<-HK.o.2.1] at hle;generalize n.its[k]=it at*;clear I P E he;go_wp2_with fail;refine (J.o _).mono ?_;rintro e w ⟨rfl,aQ⟩;have pE:=aa (G.o.trans (aQ.mono G.o.size));clear aQ;generalize jY it=z at*;have hz:(s:Int)+z<=160800:=κ;go_wp2;go_roundw
    case rel=>exact⟨k+1,s+z,ς,ς,aa ⟨HK.o.1,HK.o.2.1,hle,HK.o.2.2⟩,pE⟩
    case measure=>have:=HK.o.1;simp[RowKit.intOf];omega
   ·have Yl:¬2*(s:Int)<T:=κ;have hsd:decide (2*(s:Int)<T)=false:=decide_eq_false Yl
    have x:=aa (show k=H by
     have:=N.out.2.2.2;rw[xD (dc P)] at this;omega)
    clear I P;exact zam
  ·have Yk:¬(k:Int)<(L:Int)-1:=κ;have hkd:decide ((k:Int)<(L:Int)-1)=false:=decide_eq_false Yk
   have x:=aa (show k=H by
    have:=N.out.2.2.2;rw[xD (cS zaz)] at this;omega)
   clear I;have G:=aa O.o
   rename World=>w1
   exact zam
end
theorem lI.back {w w1 w':World} {sb tb:Nat} {sv:Value} {l:List Int} {e:Ending} (H:Below w.heap.size w w1) (h:lI w1 sb tb sv l e w'):lI w sb tb sv l e w':=by obtain⟨a,fI,b,c,h3,h4⟩:=h;exact⟨a,fI,b,c,(aE.aF H _).trans h3 (fun _ _ h=>h),h4.imp_right fun h k d=>aN H.size (h k d)⟩
section
variable {w X:World} {M:Nat->Option NV} {p sb tb:Nat} {n:NV} {sv:Value} {l:List Int} {it:It}
def Yn (w:World) (sb tb:Nat) (sv:Value) (l:List Int) (e:Ending) (w':World):Prop:=e=c8 (cx aK 0 0)/\lI w sb tb sv l (c8 (ec #[])) w'
theorem JQ (hs:aW w sb 226 [ptr tb,sv]) (b:p8 0 w sv l) (h:Nd w p n) (hl:l.length<=1000000) (hn:n.its=[]):
  Calls prog 189 #[ptr sb,ptr p,eU #[cu (bs it.key),cu (bs it.val),dr (pa it.node)]] w fun e w'=>Yn w sb tb sv (l++[n.page]) e w':=by
 obtain⟨w1,H⟩:=ξx (w.alloc (dg #[cu (bs it.key),cu (bs it.val),dr (pa it.node)] 175));have a:Below w.heap.size w w1:=zbi
 have c:=h.still a;have c1:=h.c1;rw[hn] at c1;have C:w.cell? ⟨p,1,aK⟩=av (cx (av ⟨n.rg,n.ro,aK⟩) 0 n.cap):=c1;have E:=h.blk.lt;clear c1;have d:=aa (fun e w' (h:lI w1 sb tb sv (l++[n.page]) e w')=>h.back a);have f:=aa (jO w1 sb tb p sv l n (hs.below a hs.lt) (Own.below b a (af _)) c hl);clear c a h hs b;go_enter func189,ntmps189;unfold ptr;go_wp2_with fail;rw[<-H];refine f.o.mono ?_;intro e W g;have i:=aa (d.o _ _ g);obtain⟨rfl,-⟩:=g;clear H f d;go_wp2_with fail;go_ret;exact⟨rfl,i.o⟩
theorem wK (w:World) (l:List It) (c:List Value) (hc:c=aj.cells l) (hl:l.length<=400) {L:Nat} (h:L=l.length):bk w.heap.size (w.alloc (dg c.toArray 175)) (cx (av ⟨w.heap.size,0,aK⟩) L L) l:=by subst hc;exact gq (R:=[]) (by rw[bh];exact aW.new w _ _) (by rw[bh,aj.cm,h];rfl) h (af _) zat (af _)
def aa7 (w:World) (l:List It) (e:Ending) (w':World):Prop:=∃v,e=c8 v/\bk w.heap.size w' v l/\Below w.heap.size w w'
theorem NJ (h:Nd w p n) (hn:n.its≠[]) (k:cJ n.its<=510):
  Calls prog 189 #[ptr sb,ptr p,eU #[cu (bs it.key),cu (bs it.val),dr (pa it.node)]] w fun e w'=>aa7 w [it] e w':=by
 obtain⟨w1,H⟩:=ξx (w.alloc (dg #[cu (bs it.key),cu (bs it.val),dr (pa it.node)] 175));have A:Below w.heap.size w w1:=zbi
 have d:=h.still A;have c1:=h.c1;have E:=h.blk.lt;obtain⟨L,f⟩:=ξx n.its.length;rw[<-f] at c1;have R:((L:Int)==0)=false:=zaZ
 have i:=aa (jL d);obtain⟨g,hg⟩:=ξx w.heap.size;have b:=aa (show aW w1 g 175 [cu (bs it.key),cu (bs it.val),dr (pa it.node)]/\Below w.heap.size w w1 from⟨by rw[H,hg];exact aW.new w _ _,A⟩);clear d A h f;go_enter func189,ntmps189;unfold ptr;go_wp2_with fail;rw[<-H,<-hg];refine i.o.mono ?_;rintro e W ⟨rfl,c⟩;rw[decide_eq_true k];have a:=aa (show aW W g 175 [cu (bs it.key),cu (bs it.val),dr (pa it.node)]/\Below w.heap.size w W from⟨b.o.1.below c b.o.1.lt,b.o.2.trans (c.mono b.o.2.size)⟩);have k0:=a.o.1.cell (j:=0) rfl;have K:=a.o.1.cell (j:=1) rfl;have m:=a.o.1.cell (j:=2) rfl;have l:=aa (wK W [it] [cu (bs it.key),cu (bs it.val),dr (pa it.node)] rfl (show 1<=400 by decide) (L:=1) rfl);clear i c H hg;go_wp2_with fail;go_ret;exact⟨_,rfl,Own.mono l.o a.o.2.size,a.o.2.alloc a.o.2.size _⟩
def aa8 (X:World) (M:Nat->Option NV) (p:Nat) (n:NV) (h:Nat) (it:It) (e:Ending) (X':World):Prop:=
 ∃v q,e=c8 v/\bk X.heap.size X' v [it,⟨between n h,pv 0,av q⟩]/\Mem X' (upd (upd M p (iz n h)) q (ku n h))/\X.heap.size<=q/\aE (fun k=>k=p\/k=n.rg) X X'
theorem NK (h:Mem X M) (hp:M p=av n) (H:Nat) (u:H=fT (cJ n.its) 0 n.its) (v:0<H) (x:n.level=0->Tr.lt ((n.its.map It.key).getD (H-1) []) ((n.its.map It.key).getD H [])=true) (r:¬cJ n.its<=510):
  Calls prog 189 #[ptr sb,ptr p,eU #[cu (bs it.key),cu (bs it.val),dr (pa it.node)]] X fun e X'=>aa8 X M p n H it e X':=by
 have hn:n.its≠[]:=by rintro e;rw[e] at r;exact r ξ
 have f:=h.nd p n hp;obtain⟨w1,i⟩:=ξx (X.alloc (dg #[cu (bs it.key),cu (bs it.val),dr (pa it.node)] 175));have A:Below X.heap.size X w1:=by rw[i];exact (Below.refl _ X).alloc (af _) _
 have y:=f.still A;have c1:=f.c1;have N:=f.blk.lt;obtain⟨L,z⟩:=ξx n.its.length;rw[<-z] at c1;have R:((L:Int)==0)=false:=zaZ
 have C:=aa (jL y);obtain⟨g,hg⟩:=ξx X.heap.size;have m:=aa (show aW w1 g 175 [cu (bs it.key),cu (bs it.val),dr (pa it.node)]/\Below X.heap.size X w1 from⟨by rw[i,hg];exact aW.new X _ _,A⟩);have l:=aa (And.intro h (And.intro hp (And.intro u (And.intro v (And.intro x r)))));have O:=aa hg;clear y A h z hp u v x r hn f;go_enter func189,ntmps189;unfold ptr;go_wp2_with fail;rw[<-i,<-hg];refine C.o.mono ?_;rintro e E ⟨rfl,t⟩;rw[decide_eq_false l.o.2.2.2.2.2];have s:=aa (show aW E g 175 [cu (bs it.key),cu (bs it.val),dr (pa it.node)]/\Below X.heap.size X E from⟨m.o.1.below t m.o.1.lt,m.o.2.trans (t.mono m.o.2.size)⟩);have F:=aa (sZ (l.o.1.still s.o.2) l.o.2.1 H l.o.2.2.1 l.o.2.2.2.1 l.o.2.2.2.2.1);clear C t i hg m c1 R N;go_wp2_with fail;refine F.o.mono ?_;rintro e w3 ⟨q,rfl,G,I,B⟩;have T:¬(g=p\/g=n.rg):=by have:=l.o.1.lt l.o.2.1;have:=O.o;rintro (e|e)<;>omega
 have b:=aa (show aW w3 g 175 [cu (bs it.key),cu (bs it.val),dr (pa it.node)]/\Mem w3 (upd (upd M p (iz n H)) q (ku n H))/\X.heap.size<=q/\aE (fun k=>k=p\/k=n.rg) X w3 from⟨s.o.1.but B T,G,aN s.o.2.size I,(aE.aF s.o.2 _).trans B fun _ _ h=>h⟩);have k0:=b.o.1.cell (j:=0) rfl;have U:=b.o.1.cell (j:=1) rfl;have V:=b.o.1.cell (j:=2) rfl;clear F B G I T;have J:=aa (fun W=>lJ W (bs (between n H)) q);go_wp2_with fail;go_wp2_with (refine wp_region_any η ?_;refine Hid.o ?_);refine aa ?_;try (change wpAny _ _ _ _ _ _ _ (bu _))
 refine tk 1 ?_;refine tk 2 ?_;try simp only[Act.put,aC,aB,ay]
 refine rd [0,3] (AllReady.cons rfl (fun K a=> ?_) (rn fun K a=> ?_))
 focus
  go_simp
  refine a _ _ ?_;clear a K
  refine rd [3] (rn fun K a=> ?_)
  go_simp
  refine (J.o _).mono ?_
  rintro e w ⟨rfl,c⟩
  have D:Below w3.heap.size w3 w:=((Below.refl _ w3).drew).trans c
  have d:=aa (And.intro (b.o.1.below D b.o.1.lt) (And.intro (b.o.2.1.still D) (aE.trans b.o.2.2.2 (aE.aF D (fun _=>False)) fun _ _ h=>h.elim)))
  have Y:=d.o.1.cell (j:=0) rfl
  have P:=d.o.1.cell (j:=1) rfl
  have Q:=d.o.1.cell (j:=2) rfl
  refine a _ _ ?_;clear a K c D
 rotate_left
 focus
  go_simp
  refine (J.o _).mono ?_
  rintro e w ⟨rfl,c⟩
  have D:Below w3.heap.size w3 w:=((Below.refl _ w3).drew).trans c
  have d:=aa (And.intro (b.o.1.below D b.o.1.lt) (And.intro (b.o.2.1.still D) (aE.trans b.o.2.2.2 (aE.aF D (fun _=>False)) fun _ _ h=>h.elim)))
  have Y:=d.o.1.cell (j:=0) rfl
  have P:=d.o.1.cell (j:=1) rfl
  have Q:=d.o.1.cell (j:=2) rfl
  refine a _ _ ?_;clear a K c D
  refine rd [0] (rn fun K a=> ?_)
  go_simp
  refine a _ _ ?_;clear a K
 all_goals
  try simp only[Act.put,aC,aB,ay]
  have S:=aa (wK w [it,⟨between n H,pv 0,av q⟩] [cu (bs it.key),cu (bs it.val),dr (pa it.node),cu (bs (between n H)),cu (bs (pv 0)),ptr q] rfl (show 2<=400 by decide) (L:=2) rfl)
  refine rd [4] (rn fun K a=> ?_)
  go_simp
  refine a _ _ ?_;clear a K
  refine tk 5 ?_
  refine wpAny_done η ?_ _
  go_wp2
  go_ret
  exact⟨_,q,rfl,Own.mono S.o d.o.2.2.size,d.o.2.1.still ((Below.refl _ w).alloc (af _) _),b.o.2.2.1,d.o.2.2.alloc _⟩
end
section
variable {w:World} {B sb:Nat} {lv:Value} {ms:List It} {it:It}
def Co (B:Nat) (w:World) (v:Value) (l:List It) (e:Ending) (w':World):Prop:=
 ∃v',e=c8 (ec #[v',bf ct 0])/\bk B w' v' l/\aE (fun k=>v.ownBlock=av k) w w'/\(v'.ownBlock=v.ownBlock\/∀k,v'.ownBlock=av k->w.heap.size<=k)
theorem D3 (d:bk B w lv []) (g:B<=w.heap.size):
  Calls prog 190 #[ptr sb,lv,eU #[cu (bs it.key),cu (bs it.val),dr (pa it.node)]] w fun e w'=>Co B w lv [it] e w':=by
 obtain⟨a,c,rfl,-⟩:=Own.slice d;obtain⟨w1,H⟩:=ξx (w.alloc (dg #[cu (bs it.key),cu (bs it.val),dr (pa it.node)] 175));obtain⟨W,j⟩:=ξx (w1.alloc (dg #[cu (bs it.key),cu (bs it.val),dr (pa it.node)] 175));have A:Below w.heap.size w W:=by rw[j,H];exact ((Below.refl _ w).alloc (af _) _).alloc zbe _
 have n:bg aj W w1.heap.size 0 [it]:=by rw[j];exact bg.dZ (aW.new w1 _ _) rfl
 have G:bk B W (cx a 0 c) []:=Own.below d A (af _);have b:=aa (And.intro A (And.intro n (And.intro G g)));have f:=aa (And.intro H j);clear d g A n G H j;go_enter func190,ntmps190;unfold ptr;go_wp2_with (at_builtin;refine Hid.o ?_);refine aa ?_;rw[<-f.o.1,<-f.o.2];refine fB (K:=aj) zo rfl _ _ rfl rfl b.o.2.2.1 (aN b.o.2.2.2 b.o.1.size) (w.heap.size+1) 0 1 1 [it] rfl rfl (by have:=b.o.2.1;rw[f.o.1,aY] at this;exact this) (show ([]:List It).length+1<=1000000000 by decide) ?_;intro v w3 J E r
 have i:=aa (show Co B w (cx a 0 c) [it] (c8 (ec #[v,bf ct 0])) w3 from
  ⟨v,rfl,J,(aE.aF b.o.1 _).grown E (fun k e _=>e),r.imp_right fun h k l=>aN b.o.1.size (h k l)⟩)
 clear J E r;go_wp2_with fail
 go_ret2
 exact i.o
theorem D4 {p q:Nat} {n m:NV} {l:List It} {last:It} (t:bk B w lv (l++[last])) (N:B<=w.heap.size) (hl:l.length<=400) (hp:last.node=av p) (f:it.node=av q) (hn:Nd w p n) (O:Nd w q m) (u:it.key.length<=1000000)
  (hf:¬cJ n.its+cJ m.its+(if n.level=0 then 0 else it.key.length)<=510):
  Calls prog 190 #[ptr sb,lv,eU #[cu (bs it.key),cu (bs it.val),dr (pa it.node)]] w fun e w'=>Co B w lv (l++[last]++[it]) e w':=by
 obtain⟨g,c,rfl,y,Gd,z⟩:=Own.form t (by rw[aq];exact Nat.succ_pos _);obtain⟨w1,a⟩:=ξx (w.alloc (dg #[cu (bs it.key),cu (bs it.val),dr (pa it.node)] 175));obtain⟨G,I⟩:=ξx w.heap.size;have A:Below w.heap.size w w1:=by rw[a];exact (Below.refl _ w).alloc (af _) _
 have b:aW w1 G 175 [cu (bs it.key),cu (bs it.val),dr (pa it.node)]:=by rw[a,I];exact aW.new w _ _
 have v:=aa (mN (hn.still A) (O.still A) it.key u);rw[decide_eq_false hf] at v;have i:=(bt (Own.lies t) l.length (by rw[aq];exact lK _)).2.2;rw[List.getElem_append_right (af _)] at i;simp only[dm,List.getElem_cons_zero,hp,bG] at i;have H:(l++[last]).length=l.length+1:=by rw[aq];rfl
 have P:=aa (show bk B w (cx (av ⟨g,0,aK⟩) (l.length+1) c) (l++[last]) from by rw[<-H];exact t);rw[H];obtain⟨L,C⟩:=ξx l.length;rw[<-C] at i P hl |-;have jK:(L:Int)<=400:=κ
 have X:(L:Int)+1>0:=κ
 have r:=aa (And.intro A (And.intro b (And.intro N (And.intro C (And.intro I H)))));have D:w.cell? ⟨g,L*3+2,aK⟩=av (dr (av ⟨p,0,aK⟩)):=i;rw[f] at a;have Q:w1=w.alloc (dg #[cu (bs it.key),cu (bs it.val),dr (av ⟨q,0,aK⟩)] 175):=a;rw[f] at b;have E:=aa (show aW w1 G 175 [cu (bs it.key),cu (bs it.val),dr (av ⟨q,0,aK⟩)] from b);have Y:=aa (show pa it.node=av ⟨q,0,aK⟩ by rw[f];rfl);rw[f];show Calls _ _ #[_,_,eU #[cu (bs it.key),cu (bs it.val),dr (av ⟨q,0,aK⟩)]] w _;clear t N hp f hn O u hf H C A b a i y z hl;go_enter func190,ntmps190;unfold ptr at v |-;go_wp2_with fail;rw[<-Q,<-I];refine v.o.mono ?_;rintro e W ⟨rfl,F⟩;have U:Below w.heap.size w W:=r.o.1.trans (F.mono r.o.1.size);have d:=E.o.below F E.o.lt;have k0:=d.cell (j:=0) rfl;have k1:=d.cell (j:=1) rfl;have k2:=d.cell (j:=2) rfl;obtain⟨w3,R⟩:=ξx (W.alloc (dg #[cu (bs it.key),cu (bs it.val),dr (av ⟨q,0,aK⟩)] 175));obtain⟨x,J⟩:=ξx W.heap.size;have M:Below w.heap.size w w3:=by rw[R];exact U.alloc U.size _
 have S:bg aj w3 x 0 [it]:=by rw[R,J];exact bg.dZ (aW.new W _ _) (by show _=[Value.string (bs it.key),cu (bs it.val),dr (pa it.node)];rw[Y.o])
 have s:=aa (And.intro M (And.intro S (Own.below P.o M (af _))));clear F U d M S Q I v E D;go_wp2_with (at_builtin;refine Hid.o ?_);refine aa ?_;rw[<-R,<-J];refine fB (K:=aj) zo rfl _ _ rfl rfl s.o.2.2 (aN r.o.2.2.1 s.o.1.size) x 0 1 1 [it] rfl rfl s.o.2.1 (show (l++[last]).length+1<=1000000000 by rw[r.o.2.2.2.2.2];have:=r.o.2.2.2.1;omega) ?_;intro V Z oP iE T
 have HE:=aa (show Co B w (cx (av ⟨g,0,aK⟩) (L+1) c) (l++[last]++[it]) (c8 (ec #[V,bf ct 0])) Z from
  ⟨V,rfl,oP,(aE.aF s.o.1 _).grown iE (fun k e _=>e),T.imp_right fun h k u=>aN s.o.1.size (h k u)⟩)
 clear oP iE T R J;go_wp2_with fail
 go_ret2
 exact HE.o
theorem D5 {Q:Int->Ψ} {p q:Nat} {n m:NV} {l:List It} {last:It} (i:bk B w lv (l++[last])) (hl:l.length<=400) (hp:last.node=av p) (d:it.node=av q) (hn:Nd w p n) (z:Nd w q m) (C:it.key.length<=1000000)
  (hf:cJ n.its+cJ m.its+(if n.level=0 then 0 else it.key.length)<=510)
  (D:∀w1,Below w.heap.size w w1->Calls prog 239 #[ptr sb,ptr p,ptr q,cu (bs it.key)] w1 fun e w'=>∃x:Int,e=c8 (bf ct x)/\Q x w'):
  Calls prog 190 #[ptr sb,lv,eU #[cu (bs it.key),cu (bs it.val),dr (pa it.node)]] w fun e w'=>∃x:Int,e=c8 (ec #[lv,bf ct x])/\Q x w':=by
 obtain⟨g,c,rfl,r,P,s⟩:=Own.form i (by rw[aq];exact Nat.succ_pos _);obtain⟨w1,H⟩:=ξx (w.alloc (dg #[cu (bs it.key),cu (bs it.val),dr (pa it.node)] 175));obtain⟨G,I⟩:=ξx w.heap.size;have A:Below w.heap.size w w1:=zbi
 have a:aW w1 G 175 [cu (bs it.key),cu (bs it.val),dr (pa it.node)]:=by rw[H,I];exact aW.new w _ _
 have k:=aa (mN (hn.still A) (z.still A) it.key C);rw[decide_eq_true hf] at k;have E:=aa D;have f:=(bt (Own.lies i) l.length (by rw[aq];exact lK _)).2.2;rw[List.getElem_append_right (af _)] at f;simp only[dm,List.getElem_cons_zero,hp,bG] at f;have h:(l++[last]).length=l.length+1:=by rw[aq];rfl
 have M:=aa (show bk B w (cx (av ⟨g,0,aK⟩) (l.length+1) c) (l++[last]) from by rw[<-h];exact i);rw[h];obtain⟨L,t⟩:=ξx l.length;rw[<-t] at f M hl |-;have S:(L:Int)<=400:=κ
 have N:(L:Int)+1>0:=κ
 have F:=aa (And.intro A (And.intro a (And.intro t (And.intro I h))));have u:w.cell? ⟨g,L*3+2,aK⟩=av (dr (av ⟨p,0,aK⟩)):=f;rw[d] at H;have R:w1=w.alloc (dg #[cu (bs it.key),cu (bs it.val),dr (av ⟨q,0,aK⟩)] 175):=H;rw[d] at a;have v:=aa (show aW w1 G 175 [cu (bs it.key),cu (bs it.val),dr (av ⟨q,0,aK⟩)] from a);have T:=aa (show pa it.node=av ⟨q,0,aK⟩ by rw[d];rfl);rw[d];show Calls _ _ #[_,_,eU #[cu (bs it.key),cu (bs it.val),dr (av ⟨q,0,aK⟩)]] w _;clear D i hp d hn z C hf h t A a H f r s hl;go_enter func190,ntmps190;unfold ptr at k |-;go_wp2_with fail;rw[<-R,<-I];refine k.o.mono ?_;rintro e W ⟨rfl,y⟩;have U:Below w.heap.size w W:=F.o.1.trans (y.mono F.o.1.size);have b:=v.o.below y v.o.lt;have k0:=b.cell (j:=0) rfl;have V:=b.cell (j:=1) rfl;have X:=b.cell (j:=2) rfl;have J:=aa (E.o W U);clear y U b R I k v u E;unfold ptr at J;go_wp2_with fail;refine J.o.mono ?_;rintro e w3 ⟨x,rfl,K⟩;have O:=aa K;clear K;go_wp2_with fail
 go_ret2
 exact⟨x,rfl,O.o⟩
end
structure Ad (X:World) (g o j:Nat) (i:It):Prop where
 key:X.cell? ⟨g,o+j*3,aK⟩=av (cu (bs i.key))
 val:X.cell? ⟨g,o+j*3+1,aK⟩=av (cu (bs i.val))
 node:X.cell? ⟨g,o+j*3+2,aK⟩=av (dr (pa i.node))
 lt:g<X.heap.size
theorem Ad.of {X:World} {g o j:Nat} {l:List It} (h:bg aj X g o l) (H:j<l.length):Ad X g o j l[j]:=⟨(bt h j H).1,(bt h j H).2.1,(bt h j H).2.2,yc h H⟩
structure Steps (p q sb tb:Nat) (fr to rg ro NL cap:Nat) (P:Nat->Value->Ψ) (PB:Nat->Value->Nat->Ψ) (Q:Nat->Nat->Option Addr->Nat->Value->Ψ):Prop where
 cells:∀a lv X,P a lv X->X.cell? ⟨sb,0,aK⟩=av (ptr tb)/\X.cell? ⟨p,1,aK⟩=av (cx (av ⟨rg,ro,aK⟩) NL cap)
 still:∀a lv X V,P a lv X->Below X.heap.size X V->P a lv V
 below:∀a lv X,P a lv X->fr<=a->a<to->Calls prog 131 #[ptr tb,ptr p,bf ct a] X fun e X'=>∃n,e=c8 (ec #[ptr n,bf ct 0])/\PB a lv n X'
 acT:∀a lv n X V,PB a lv n X->Below X.heap.size X V->PB a lv n V
 RC:∀a lv n X,PB a lv n X->X.cell? ⟨p,1,aK⟩=av (cx (av ⟨rg,ro,aK⟩) NL cap)/\∃i,Ad X rg ro a i/\
  Calls prog 189 #[ptr sb,ptr n,eU #[cu (bs i.key),cu (bs i.val),dr (pa i.node)]] X fun e X'=>∃L ra rc,e=c8 (cx ra L rc)/\L<=1000/\Q a L ra 0 lv X'
 acU:∀a L ra j lv X V,Q a L ra j lv X->Below X.heap.size X V->Q a L ra j lv V
 step:∀a L ra j lv X,Q a L ra j lv X->j<L->∃g i,ra=av ⟨g,0,aK⟩/\Ad X g 0 j i/\∀V,Below X.heap.size X V->Calls prog 190 #[ptr sb,lv,eU #[cu (bs i.key),cu (bs i.val),dr (pa i.node)]] V fun e X'=>∃nB,e=c8 (ec #[nB,bf ct 0])/\Q a L ra (j+1) nB X'
 done:∀a L ra lv X,Q a L ra L lv X->P (a+1) lv X
structure Ends (p:Nat) (fr to rg ro NL cap:Nat) (P:Nat->Value->Ψ) (G:Ψ) (PF PG:Option Addr->Nat->Nat->Ψ):Prop where
 eq:∀lv X,P to lv X->∃la ln lc,lv=cx la ln lc/\ln<=1000/\Calls prog 191 #[cx la ln lc,cx (av ⟨rg,ro+fr*3,aK⟩) (to-fr) (cap-fr)] X fun e X'=>∃b,e=c8 (ey b)/\(b=true->G X')/\(b=false->PF la ln lc X')
 empty:∀la lc X,PF la 0 lc X->PG la 0 lc X
 first:∀la ln lc X,PF la ln lc X->0<ln->X.cell? ⟨p,1,aK⟩=av (cx (av ⟨rg,ro,aK⟩) NL cap)/\∃g kb k0,la=av ⟨g,0,aK⟩/\X.cell? ⟨rg,ro+fr*3,aK⟩=av (cu kb)/\X.cell? ⟨g,0,aK⟩=av (cu k0)/\X.frozen? ⟨g,0,aK⟩=false/\PG la ln lc (X.setCell ⟨g,0,aK⟩ (cu kb))
 new:∀la ln lc X,PG la ln lc X->X.cell? ⟨p,1,aK⟩=av (cx (av ⟨rg,ro,aK⟩) NL cap)/\Calls prog 192 #[cx (av ⟨rg,ro,aK⟩) NL cap,bf ct fr,bf ct to,cx la ln lc] X fun e X'=>∃a n c,e=c8 (cx a n c)/\(∃v,X'.cell? ⟨p,1,aK⟩=av v)/\(∃v,X'.cell? ⟨p,7,aK⟩=av v)/\X'.frozen? ⟨p,1,aK⟩=false/\X'.frozen? ⟨p,7,aK⟩=false/\G ((X'.setCell ⟨p,1,aK⟩ (cx a n c)).setCell ⟨p,7,aK⟩ (ey true))
section
variable {w:World} {p q sb tb:Nat} {m:NV}
theorem Gn {P:Nat->Value->Ψ} {PB:Nat->Value->Nat->Ψ} {Q:Nat->Nat->Option Addr->Nat->Value->Ψ} {at_ fr to rg ro NL cap:Nat} (h:Nd w q m) (hf:¬cJ m.its<=510)
  (c6:w.cell? ⟨p,6,aK⟩=av (bf ct at_)) (c1:w.cell? ⟨p,1,aK⟩=av (cx (av ⟨rg,ro,aK⟩) NL cap)) (hp:p<w.heap.size)
  (l:fr=at_-1) (n:to=min (at_+2) NL) (hN:NL<=400) (hat:at_<NL) (WC:∀V,Below w.heap.size w V->P fr (cx aK 0 0) V) (hS:Steps p q sb tb fr to rg ro NL cap P PB Q)
  {G:Ψ} {PF PG:Option Addr->Nat->Nat->Ψ} (hE:Ends p fr to rg ro NL cap P G PF PG) (Bn:NL<=cap):
  Calls prog 137 #[ptr sb,ptr p,ptr q] w fun e w'=>e=c8 (bf ct 0)/\G w':=by
 have N:=aa (fun V (D:Below w.heap.size w V)=>jL (h.still D));rw[decide_eq_false hf] at N;have f:=aa (Below.refl w.heap.size w);have HC:=aa (fun V (D:Below w.heap.size w V)=>And.intro ((D.cell (p:=⟨p,6,aK⟩) hp).trans c6) ((D.cell (p:=⟨p,1,aK⟩) hp).trans c1));have HP:=aa WC;have r:=aa hS;have I:=aa hE;have JG:(NL:Int)<=cap:=κ
 have s:fr<to/\to<=NL:=κ
 have E:=aa (And.intro l (And.intro n (And.intro hN (And.intro hat s))));unfold ptr at N;have Zu:(NL:Int)<=400:=κ
 have Qj:(at_:Int)<NL:=κ
 have q1:IntKind.i64.wrap ((at_:Int)-1)=(at_:Int)-1:=zaA
 have q2:IntKind.i64.wrap ((at_:Int)+2)=(at_:Int)+2:=zaA
 have e1:max ((at_:Int)-1) 0=(fr:Int):=κ
 have e2:min ((at_:Int)+2) (NL:Int)=(to:Int):=κ
 clear h hf c6 c1 WC l n hN hat hS s hE Bn;go_enter func137,ntmps137;unfold ptr;go_wp2_with (refine wp_region_any η ?_;refine Hid.o ?_);refine aa ?_;try (change wpAny _ _ _ _ _ _ _ (bu _))
 refine tk 0 ?_;refine rd [1] (rn fun K hK=> ?_);go_simp;refine (N.o _ ((Below.refl _ w).drew)).mono ?_;rintro e w1 ⟨rfl,A⟩;refine hK _ _ ?_;clear hK K;have f:=aa (((Below.refl w.heap.size w).drew).trans A);have c6:=(HC.o _ f.o).1;have c1:=(HC.o _ f.o).2;clear A;refine tk 2 ?_;try simp only[Act.put,aC,aB,ay]
 refine sk 3 ?_;refine sk 4 ?_;refine sk 5 ?_;refine sk 6 ?_;refine sk 7 ?_;refine sk 8 ?_;refine sk 9 ?_;try simp only[Act.put,aC,aB,ay]
 refine tk 10 ?_;refine wpAny_done η ?_ _;go_wp2_with (refine wp_region_held_drew (S:=(fun X=>X.cell? ⟨p,6,aK⟩=av (bf ct at_)/\X.cell? ⟨p,1,aK⟩=av (cx (av ⟨rg,ro,aK⟩) NL cap))) η ?_ (fun hS=> ?_);focus skip;rotate_left;refine Hid.o ?_);refine aa ?_;·exact⟨c6,c1⟩
 refine aR 0 hS ?_;refine aR 1 hS ?_;refine aR 2 hS ?_;refine aR 3 hS ?_;refine aR 4 hS ?_;refine aR 5 hS ?_;refine aR 6 hS ?_;refine aR 7 hS ?_;refine aR 8 hS ?_;refine aR 9 hS ?_;refine aR 10 hS ?_;refine aR 11 hS ?_;refine aR 12 hS ?_;refine aR 13 hS ?_;refine aR 14 hS ?_;refine aR 15 hS ?_;refine aR 16 hS ?_;refine aR 17 hS ?_;refine aR 18 hS ?_;refine wpAnyH_done η ?_ _;try simp only[Act.put,aC,aB,ay]
 have f:=aa (f.o.drew);clear c6 c1;go_wp2_with fail
 go_loopw [9,10,11,12,14] (fun lv O _ _ _ wr=>∃a:Nat,fr<=a/\a<=to/\O=bf ct a/\Hid (P a lv wr)) (fun _ O _ _ _ _=>to-(RowKit.intOf O).toNat)
 case atStart=>exact⟨fr,af _,by have:=E.o;omega,rfl,aa (HP.o _ f.o)⟩
 case round=>
  obtain⟨a,R,hat,rfl,T⟩:=hrel;obtain⟨c0,c1⟩:=r.o.cells a _ _ T.o;unfold ptr at c0;by_cases t:a<to
  ·have hI:(a:Int)<to:=κ;have haN:(a:Int)<NL:=(by have:=E.o;omega);go_wp2_with fail;refine (r.o.below a _ _ T.o R t).mono ?_;rintro e w2 ⟨nq,rfl,U⟩;unfold ptr;obtain⟨d1,it,H,c⟩:=r.o.RC a _ _ _ U;have F:=H.key;have J:=H.val;have M:=H.node;clear c0 c1;have u:=aa c;clear c;go_wp2_with fail;refine u.o.mono ?_;rintro e w3 ⟨L,ra,rc,rfl,hL,v⟩;have zJ:(L:Int)<=1000:=κ;have W:=aa v;clear v d1 F J M H;go_wp2_with fail
   go_loopw [9,12,14,73] (fun lv _ _ Y wq=>∃j:Nat,j<=L/\Y=bf ct j/\Hid (Q a L ra j lv wq)) (fun _ _ _ Y _=>L-(RowKit.intOf Y).toNat)
   case atStart=>exact⟨0,aA _,rfl,W⟩
   case round=>
    obtain⟨j,hj,rfl,v⟩:=hrel;by_cases oQ:j<L
    ·have I5:(j:Int)<L:=κ;obtain⟨g,i,rfl,H,c⟩:=r.o.step a L _ j _ _ v.o oQ;have F:=H.key;have J:=H.val;have M:=H.node;have u:=aa c;clear c;rw[bG] at F J M;obtain⟨W1,k⟩:=ξx (wr.alloc (dg #[cu (bs i.key),cu (bs i.val),dr (pa i.node)] 175));obtain⟨ib,d⟩:=ξx wr.heap.size;have k0:W1.cell? ⟨ib,0,aK⟩=av (cu (bs i.key)):=zbm;have Z:W1.cell? ⟨ib,1,aK⟩=av (cu (bs i.val)):=zbm;have k2:W1.cell? ⟨ib,2,aK⟩=av (dr (pa i.node)):=zbm;have x:Below wr.heap.size wr W1:=(by rw[k];exact (Below.refl _ wr).alloc (af _) _);have WD:=aa x;clear x;generalize pa i.node=nd at*;generalize bs i.key=kb at*;generalize bs i.val=vb at*;go_wp2_with fail;rw[<-k,<-d];clear k d F J M H;go_wp2_with fail;refine (u.o _ WD.o).mono ?_;rintro e w4 ⟨nB,rfl,y⟩;have HQ':=aa y;clear y k0 Z k2;go_wp2_with fail;go_roundw
     case rel=>exact⟨j+1,oQ,ς,HQ'⟩
     case measure=>simp[RowKit.intOf];omega
    ·obtain rfl:j=L:=by omega
     have I5:¬(j:Int)<j:=κ;have HD:=aa (r.o.done a j ra _ _ v.o);go_wp2_with fail;go_roundw
     case rel=>exact⟨a+1,κ,t,ς,HD⟩
     case measure=>simp[RowKit.intOf];omega
  ·obtain rfl:a=to:=by omega
   have hI:¬(a:Int)<a:=κ;have hI3:(a:Int)<=cap:=(by have:=E.o;omega);have hI4:(fr:Int)<=a:=κ;obtain⟨la,ln,lc,rfl,Nf,c⟩:=I.o.eq _ _ T.o;have u:=aa c;have Ng:(ln:Int)<=1000:=κ;clear c;go_wp2_with fail;refine u.o.mono ?_;rintro e w5 ⟨b,rfl,A,aQ⟩;cases b with
   |true=>
    have z:=aa (A rfl);clear A aQ;go_wp2_with fail;go_ret;exact⟨rfl,z.o⟩
   |false=>
    have B:=aa (aQ rfl);clear A aQ c0 c1;by_cases h0:ln=0;·subst h0;have hz:¬((0:Nat):Int)>0:=ξ;obtain⟨c1,c⟩:=I.o.new _ _ _ _ (I.o.empty _ _ _ B.o);have MY:=aa c;clear c;go_wp2_with fail;refine MY.o.mono ?_;rintro e w6 ⟨va,vn,vc,rfl,⟨v1,Z⟩,⟨v7,k7⟩,f1,f7,C⟩;have z:=aa C;clear C;go_wp2_with fail;go_ret;exact⟨rfl,z.o⟩
    ·have hpos:0<ln:=κ;have hz:(ln:Int)>0:=κ;obtain⟨c1,g,kb,k0,rfl,r0,g0,fz,Yo⟩:=I.o.first _ _ _ _ B.o hpos;obtain⟨X1,NM⟩:=ξx (w5.setCell ⟨g,0,aK⟩ (cu kb));rw[<-NM] at Yo;have Lf:=aa NM;clear NM;have hI5:(fr:Int)<NL:=(by have:=E.o;omega);go_wp2_with fail;rw[<-Lf.o];obtain⟨c1,c⟩:=I.o.new _ _ _ _ Yo;have MY:=aa c;clear c Yo r0 g0 fz;go_wp2_with fail;refine MY.o.mono ?_;rintro e w6 ⟨va,vn,vc,rfl,⟨v1,Z⟩,⟨v7,k7⟩,f1,f7,C⟩;have z:=aa C;clear C;go_wp2_with fail;go_ret;exact⟨rfl,z.o⟩
end
section
variable {E:Ev} {X0 X X':World} {R0 R R' S:Φ} {ps ps':Γ} {pg cy:Ξ} {rt rt':Δ} {M M':Nat->Option NV} {p q:Nat} {n m:NV}
structure UZ (pg:Ξ) (page level:Nat) (its:List It) (lo hi:List UInt8):Prop where
 page:pg.getD page aK=av (Dk.full (cT level its))
 sound:∀rg cap,Sound (NV.read level its rg cap)
 len:its.length<=255
 none:∀i∈its,i.node=aK
 size:cJ its<=510
 within:∀i∈(if level=0 then its else its.tail),hasB lo hi i.key=true
theorem qx (h:TS E X0 R0 R ps pg rt M X) (hp:M p=av n) (j:Nat) (l:j<n.its.length) (page:Nat) (O:page<65536) (v:n.its[j].val=pv page) (level:Nat) (m:n.level=level+1) (its:List It) (hh:UZ pg page level its (fP n j) (eM n j)):
  Calls prog 184 #[ptr E.tb,ptr p,bf ct j] X fun e X'=>uT E X0 R0 R ps pg rt M X (fun rg cap=>NV.got level its rg cap page (fP n j) (eM n j)) e X':=by
 have H:=h.mem.nd p n hp;have c1:=H.c1;have ef:=H.blk.lt;have hl:=H.small.len;have J:(n.its.length:Int)<=400:=κ
 have y:(j:Int)<n.its.length:=κ
 obtain⟨s1,s2,S⟩:=bt H.row j l;rw[v] at s2;have z:=aa h;have g:=aa (And.intro H (And.intro l hp));have a:=aa hh;have D:=aa (And.intro m O);obtain⟨L,w⟩:=ξx n.its.length;rw[<-w] at c1 J y;have q:=aa (Jd X page O);generalize F:bs (pv page)=P at*;clear h H hh v hl O w;go_enter func184,ntmps184;unfold ptr;go_wp2_with fail;refine q.o.mono ?_;rintro e X1 ⟨rfl,r⟩;have i:=aa (show TS E X0 R0 R ps pg rt M X1/\Below X.heap.size X X1 from⟨z.o.still r (fun _ h=>h) (fun _ h=>cS h),r⟩);clear r;go_wp2_with fail;refine (Fy (i.o.1.mem.nd p n g.o.2.2) j g.o.2.1).mono ?_;rintro e X2 ⟨rfl,s⟩;have b:=aa (show TS E X0 R0 R ps pg rt M X2/\Below X.heap.size X X2 from⟨i.o.1.still s (fun _ h=>h) (fun _ h=>cS h),i.o.2.trans (s.mono i.o.2.size)⟩);clear s;go_wp2_with fail;refine (Cj b.o.1 page level its (fP n j) (eM n j) a.o.page a.o.sound a.o.len a.o.none a.o.size a.o.within).mono ?_;rintro e X3 ⟨c,rg,cap,R3,rfl,h3,B,T,G,d,A⟩;unfold ptr;have I:p≠c:=fun e=>by have:=(b.o.1.mem.lt g.o.2.2).1;omega
 have K:=aa (show uT E X0 R0 R ps pg rt M X (fun rg cap=>NV.got level its rg cap page (fP n j) (eM n j)) (c8 (ec #[ptr c,bf ct 0])) X3 from⟨c,rg,cap,R3,rfl,h3,b.o.2.trans (B.mono b.o.2.size),by have:=b.o.2.size;omega,by have:=b.o.2.size;omega,d,fun k N=>(A k N).imp_right fun h=>by have:=b.o.2.size;omega⟩);have Q:=(h3.mem.nd c _ (bF _ _ _)).c0;have d1:=(h3.mem.nd p n ((aX I).trans g.o.2.2)).c0;have f:((NV.got level its rg cap page (fP n j) (eM n j)).level:Int)=level:=rfl;have t:(n.level:Int)-1=level:=by have:=D.o.1;omega
 have U:IntKind.i64.wrap ((n.level:Int)-1)=level:=by rw[t];exact bQ _ (by have:=(a.o.sound 0 0).level;have V:level<=15:=this;omega)
 rw[f] at Q;clear h3 B T G d A s1 s2 S c1 f l;have W:IntKind.i64.wrap (level:Int)=level:=bQ _ (by have:=(a.o.sound 0 0).level;have V:level<=15:=this;omega);go_wp2_with fail
 go_quiet (fail)
 have Y:=aa (show uT E X0 R0 R ps pg rt M X (fun rg cap=>NV.got level its rg cap page (fP n j) (eM n j)) (c8 (ec #[ptr c,bf ct 0])) (X3.drewN nq) from by
  obtain⟨Z,u,C,R',e,ht,x,h1,h2,h3,h4⟩:=K.o;exact⟨Z,u,C,R',e,ht.still (dF _ _) (fun _ h=>h) (fun _ h=>cS h),x.trans ((dF X3 nq).mono x.size),h1,h2,h3,h4⟩)
 go_wp2
 go_ret2
 exact Y.o
theorem xE (h:TS E X0 R0 R ps pg rt M X) (hp:M p=av n) (j:Nat) (b:j<n.its.length) (a:n.its[j].node=av q):
  Calls prog 131 #[ptr E.tb,ptr p,bf ct j] X fun e X'=>e=c8 (ec #[ptr q,bf ct 0])/\X'=X:=by
 have H:=h.mem.nd p n hp;have c1:=H.c1;have hl:=H.small.len;have J:(n.its.length:Int)<=400:=κ
 have m:(j:Int)<n.its.length:=κ
 obtain⟨s1,s2,s⟩:=bt H.row j b;rw[a] at s;have S:X.cell? ⟨n.rg,n.ro+j*3+2,aK⟩=av (dr (av ⟨q,0,aK⟩)):=s;clear h H a hl s hp;go_enter func131,ntmps131;unfold ptr;go_wp2
 go_ret2
 exact⟨rfl,rfl⟩
def Lz (E:Ev) (X0:World) (R0 R:Φ) (ps:Γ) (pg:Ξ) (rt:Δ) (M:Nat->Option NV) (X:World) (p j:Nat) (n:NV) (got:Nat->Nat->NV) (e:Ending) (X':World):Prop:=
 ∃c rg cap R',e=c8 (ec #[ptr c,bf ct 0])/\TS E X0 R0 R' ps pg rt (upd (upd M c (got rg cap)) p {n with its:=n.its.set j {(n.its.getD j ⟨[],[],aK⟩) with node:=av c}}) X'/\X.heap.size<=c/\X.heap.size<=rg/\aE (fun k=>k=n.rg) X X'/\(∀k,R k->R' k)/\∀k,R' k->R k\/X.heap.size<=k
theorem NN (h:TS E X0 R0 R ps pg rt M X) (hp:M p=av n) (j:Nat) (b:j<n.its.length) (got:Nat->Nat->NV) {c rg cap:Nat} {R1:Φ} {X1:World} (a:TS E X0 R0 R1 ps pg rt (upd M c (got rg cap)) X1) (l:Below X.heap.size X X1) (hc:X.heap.size<=c) (hr:X.heap.size<=rg) (o:∀k,R k->R1 k) (r:∀k,R1 k->R k\/X.heap.size<=k):
  Lz E X0 R0 R ps pg rt M X p j n got (c8 (ec #[ptr c,bf ct 0])) (X1.setCell ⟨n.rg,n.ro+(j*3+2),aK⟩ (dr (av ⟨c,0,aK⟩))):=by
 have t:=h.mem.lt hp;have d:p≠c:=κ
 have H:upd M c (got rg cap) p=av n:=(aX d).trans hp;have f:=h.mem.nd p n hp;have K:n.its.getD j ⟨[],[],aK⟩=n.its[j]:=by rw[bC,aI b];rfl
 refine⟨c,rg,cap,R1,rfl, ?_,hc,hr, ?_,o,r⟩
 ·rw[K];have s:=a.mem.item H j 2 b ξ {n.its[j] with node:=av c} (dr (av ⟨c,0,aK⟩)) rfl (by have:=f.small.each n.its[j] (bp b);exact this);refine a.own (S:=fun k=>k=n.rg) ((aE.refl (fun k=>k=n.rg) X1).setCell _ _ fun _=>rfl) (fun k _ e=>by rw[e];exact a.lT _ ⟨p,n,H,dc rfl⟩) s ?_ (fun _ h=>h) (fun _ h=>cS h);rintro k ⟨q,m,g,i⟩;rcases aO g with⟨rfl,rfl⟩|⟨_,g⟩;·exact a.lT k ⟨_,n,H,i⟩
  ·exact a.lT k ⟨q,m,g,i⟩
 ·exact ((aE.aF l (fun k=>k=n.rg)).trans ((aE.refl (fun k=>k=n.rg) X1).setCell _ _ fun _=>rfl) (fun _ _ h=>h))
theorem wL (h:TS E X0 R0 R ps pg rt M X) (hp:M p=av n) (j:Nat) (i:j<n.its.length) (m:n.its[j].node=aK) (page:Nat) (O:page<65536) (q:n.its[j].val=pv page) (level:Nat) (b:n.level=level+1) (its:List It) (hh:UZ pg page level its (fP n j) (eM n j)):
  Calls prog 131 #[ptr E.tb,ptr p,bf ct j] X fun e X'=>Lz E X0 R0 R ps pg rt M X p j n (fun rg cap=>NV.got level its rg cap page (fP n j) (eM n j)) e X':=by
 have H:=h.mem.nd p n hp;have c1:=H.c1;have hl:=H.small.len;have J:(n.its.length:Int)<=400:=κ
 have x:(j:Int)<n.its.length:=κ
 obtain⟨s1,s2,s⟩:=bt H.row j i;rw[m] at s;have S:X.cell? ⟨n.rg,n.ro+j*3+2,aK⟩=av (dr aK):=s;have r:=aa (qx h hp j i page O q level b its hh);have d:=aa (And.intro h hp);have t:=aa i;obtain⟨L,k⟩:=ξx n.its.length;rw[<-k] at c1 J x;unfold ptr at r;have y:=aa k;clear h H m hl s1 s2 s hp q b hh O k;go_enter func131,ntmps131;unfold ptr;go_wp2_with fail;refine r.o.mono ?_;rintro e X1 ⟨c,rg,cap,R1,rfl,f,u,g,v,Z,A⟩;unfold ptr;have l:p≠c:=by have:=d.o.1.mem.lt d.o.2;omega
 have a:=(aX (M:=M) (n:=NV.got level its rg cap page (fP n j) (eM n j)) l).trans d.o.2;have D:=(f.mem.nd p n a).c1;rw[<-y.o] at D;have z:=(bt (f.mem.nd p n a).row j t.o).2.2;have F:X1.frozen? ⟨n.rg,n.ro+j*3+2,aK⟩=false:=by obtain⟨cur,P⟩:=f.mem.ty p n a;simp[World.frozen?,P]
 have w:=aa (NN d.o.1 d.o.2 j t.o (fun rg cap=>NV.got level its rg cap page (fP n j) (eM n j)) f u g v Z A);rw[<-Nat.add_assoc] at w;clear f u g v Z A a S c1 i;go_wp2
 go_ret2
 exact w.o
end
section
variable {E:Ev} {X0 X:World} {R0 R:Φ} {ps:Γ} {pg:Ξ} {rt:Δ} {M:Nat->Option NV}
theorem qy (h:TS E X0 R0 R ps pg rt M X) (b:E.place<16) (c:rt.getD E.place 0=0):
  Calls prog 129 #[ptr E.tb] X fun e X'=>e=c8 (ec #[dr aK,bf ct 0])/\Below X.heap.size X X':=by
 have t:=h.tree.cell (j:=0) rfl;have T:=h.tree.cell (j:=1) rfl;have f:=h.tree.lt;have a:=aa (fun W (g:Below X.heap.size X W)=>rA (h.rm.still g) E.place b);rw[c] at a;clear h b c;go_enter func129,ntmps129;unfold ptr at t a |-;go_wp2_with fail;go_wp2_with (refine wp_region_any η ?_;refine Hid.o ?_);refine aa ?_;try (change wpAny _ _ _ _ _ _ _ (bu _))
 refine tk 0 ?_;refine tk 1 ?_;refine tk 2 ?_;refine tk 4 ?_;refine tk 5 ?_;refine tk 6 ?_;try simp only[Act.put,aC,aB,ay]
 refine rd [3,7] (AllReady.cons rfl (fun K H=> ?_) (rn fun K H=> ?_))
 focus
  go_simp
  refine H _ _ ?_;clear H K
  refine rd [7] (rn fun K H=> ?_)
  go_simp
  refine H _ _ ?_;clear H K
  refine rd [8] (rn fun K H=> ?_)
  go_simp
  refine (a.o _ ((Below.refl _ X).drew)).mono ?_
  rintro e w ⟨rfl,A⟩
  have d:=aa (show Below X.heap.size X w from ((Below.refl _ X).drew).trans A)
  refine H _ _ ?_;clear H K A a
 rotate_left
 focus
  go_simp
  refine H _ _ ?_;clear H K
  refine rd [3] (rn fun K H=> ?_)
  go_simp
  refine H _ _ ?_;clear H K
  refine rd [8] (rn fun K H=> ?_)
  go_simp
  refine (a.o _ ((Below.refl _ X).drew)).mono ?_
  rintro e w ⟨rfl,A⟩
  have d:=aa (show Below X.heap.size X w from ((Below.refl _ X).drew).trans A)
  refine H _ _ ?_;clear H K A a
 all_goals
  try simp only[Act.put,aC,aB,ay]
  refine tk 9 ?_
  refine tk 10 ?_
  refine tk 11 ?_
  refine tk 12 ?_
  refine tk 13 ?_
  refine wpAny_done η ?_ _
  go_wp2_with fail
  go_ret2
  exact⟨rfl,d.o⟩
theorem LA (n:Nat) (h:n<=1000000):IntKind.u64.wrap (n:Int)=n:=by unfold IntKind.wrap;simp[IntKind.bits,IntKind.signed];omega
theorem uT.back {X w:World} {got:Nat->Nat->NV} {e:Ending} {X':World} (H:Below X.heap.size X w) (h:uT E X0 R0 R ps pg rt M w got e X'):uT E X0 R0 R ps pg rt M X got e X':=by obtain⟨p,rg,cap,R',a,b,h3,h4,c,d,f⟩:=h;exact⟨p,rg,cap,R',a,b,H.trans (h3.mono H.size),aN H.size h4,aN H.size c,d,fun k g=>(f k g).imp_right fun h=>aN H.size h⟩
theorem qz (h:TS E X0 R0 R ps pg rt M X) (k:E.place<16) (page level:Nat) (its:List It) (l:rt.getD E.place 0=page+1) (hd:UZ pg page level its [] []) (O:page<pg.length):
  Calls prog 129 #[ptr E.tb] X fun e X'=>uT E X0 R0 R ps pg rt M X (fun rg cap=>NV.got level its rg cap page [] []) e X':=by
 have t:=h.tree.cell (j:=0) rfl;have T:=h.tree.cell (j:=1) rfl;have f:=h.tree.lt;have a:=aa (fun W (n:Below X.heap.size X W)=>rA (h.rm.still n) E.place k);rw[l] at a;have U:=h.rm.rep.few;have x:(page:Int)<pg.length:=κ
 have q:(pg.length:Int)<=1000000:=κ
 have b:=aa hd;have h:=aa h;clear k l hd O U;go_enter func129,ntmps129;unfold ptr at t a |-;go_wp2_with fail;go_wp2_with (refine wp_region_any η ?_;refine Hid.o ?_);refine aa ?_;try (change wpAny _ _ _ _ _ _ _ (bu _))
 refine tk 0 ?_;refine tk 1 ?_;refine tk 2 ?_;refine tk 4 ?_;refine tk 5 ?_;refine tk 6 ?_;try simp only[Act.put,aC,aB,ay]
 refine rd [3,7] (AllReady.cons rfl (fun K H=> ?_) (rn fun K H=> ?_))
 focus
  go_simp
  refine H _ _ ?_;clear H K
  refine rd [7] (rn fun K H=> ?_)
  go_simp
  refine H _ _ ?_;clear H K
  refine rd [8] (rn fun K H=> ?_)
  go_simp
  refine (a.o _ ((Below.refl _ X).drew)).mono ?_
  rintro e w ⟨rfl,A⟩
  have d:=aa (show Below X.heap.size X w from ((Below.refl _ X).drew).trans A)
  refine H _ _ ?_;clear H K A a
 rotate_left
 focus
  go_simp
  refine H _ _ ?_;clear H K
  refine rd [3] (rn fun K H=> ?_)
  go_simp
  refine H _ _ ?_;clear H K
  refine rd [8] (rn fun K H=> ?_)
  go_simp
  refine (a.o _ ((Below.refl _ X).drew)).mono ?_
  rintro e w ⟨rfl,A⟩
  have d:=aa (show Below X.heap.size X w from ((Below.refl _ X).drew).trans A)
  refine H _ _ ?_;clear H K A a
 all_goals
  try simp only[Act.put,aC,aB,ay]
  refine tk 9 ?_
  refine tk 10 ?_
  refine tk 11 ?_
  refine tk 12 ?_
  refine tk 13 ?_
  refine wpAny_done η ?_ _
  have m:=aa (h.o.still d.o (fun _ h=>h) (fun _ h=>cS h))
  have g:=aa (eu m.o.rm)
  have i:=aa (Cj m.o page level its [] [] b.o.page b.o.sound b.o.len b.o.none b.o.size b.o.within)
  have y:=(d.o.cell (p:=⟨E.tb,0,aK⟩) f).trans t
  unfold ptr at g i
  go_wp2_with fail
  refine g.o.mono ?_
  rintro e w3 ⟨rfl,rfl⟩
  have r:decide ((page:Int)+1>pg.length)=false:=decide_eq_false κ
  have s:¬(page:Int)+1>pg.length:=κ
  have u:IntKind.u64.wrap (pg.length:Int)=pg.length:=LA _ κ
  have J:IntKind.u64.wrap ((page:Int)+1-1)=page:=by rw[Int.add_sub_cancel];exact LA _ κ
  have z:IntKind.i64.wrap (page:Int)=page:=bQ _ κ
  clear g
  go_wp2_with fail
  refine i.o.mono ?_
  intro e B hg
  have v:=aa (hg.back d.o)
  obtain⟨c,rg,cap,C,rfl,-⟩:=id hg
  clear hg i
  go_wp2_with fail
  go_ret2
  exact v.o
end
def j8 (hi:List UInt8):Option Tr.Tx:=if hi=[] then aK else av hi
def eG:(k:Nat)->Tr.E k->List UInt8
 |0,v=>v
 |_+1,n=>pv ((Tr.hd n).page.getD 0)
def ak (k:Nat) (l:List (Tr.Tx×Tr.E k)):List It:=l.map fun p=>⟨p.1,eG k p.2,aK⟩
def cZ (pg:Ξ):(k:Nat)->Tr.E k->Prop
 |0,_=>True
 |k+1,n=>(∃page,(Tr.hd n).page=av page/\page<65536/\pg.getD page aK=av (Dk.full (cT k (ak k (Tr.its n)))))/\(Tr.hd n).fresh=false/\∀p∈Tr.its n,cZ pg k p.2
def Cq:Option Nat->Int
 |none=>-1
 |some p=>p
def j9 (pg:Ξ) (k:Nat) (R:Nat->Tr.E (k+1)->Δ->Prop) (i:It) (x:Tr.Tx×Tr.E (k+1)) (f:Δ):Prop:=
 i.key=x.1/\i.val.length=2/\((i.node=aK/\f=[]/\i.val=eG (k+1) x.2/\cZ pg (k+1) x.2)\/∃q,i.node=av q/\R q x.2 f)
def bz (pg:Ξ) (k:Nat) (R:Nat->Tr.E (k+1)->Δ->Prop):List It->List (Tr.Tx×Tr.E (k+1))->List (Δ)->Prop
 |[],[],[]=>True
 |i::is,x::xs,f::fs=>j9 pg k R i x f/\bz pg k R is xs fs
 |_,_,_=>False
structure lV (pg:Ξ) (k:Nat) (n:NV) (t:Tr.E (k+1)):Prop where
 level:n.level=k
 page:n.page=Cq (Tr.hd t).page
 fresh:n.fresh=(Tr.hd t).fresh
 near:Tr.jz k n.lo (j8 n.hi) t
 held:(Tr.hd t).fresh=false->∃page,(Tr.hd t).page=av page/\page<65536/\pg.getD page aK=av (Dk.full (cT k (ak k (Tr.its t))))/\(0<k->∀p∈Tr.its t,(match k,p.2 with|0,_=>True|_+1,c=>(Tr.hd c).page.isSome=true))
def dQ (M:Nat->Option NV) (pg:Ξ):(k:Nat)->Nat->Tr.E (k+1)->Δ->Prop
 |0,p,t,F=>∃n,M p=av n/\lV pg 0 n t/\n.its=ak 0 (Tr.its t)/\F=[p]
 |k+1,p,t,F=>∃n fs,M p=av n/\lV pg (k+1) n t/\bz pg k (dQ M pg k) n.its (Tr.its t) fs/\F=p::fs.flatten
section
variable {M M':Nat->Option NV} {pg:Ξ} {k:Nat} {R R':Nat->Tr.E (k+1)->Δ->Prop}
theorem j9.mono {i:It} {x:Tr.Tx×Tr.E (k+1)} {f:Δ} (h:j9 pg k R i x f) (b:∀q,i.node=av q->R q x.2 f->R' q x.2 f):j9 pg k R' i x f:=by
 obtain⟨H,a,h3⟩:=h;refine⟨H,a, ?_⟩;rcases h3 with h3|⟨q,c,h3⟩;·exact cS h3
 ·grind
theorem bz.mono:∀{is:List It} {xs:List (Tr.Tx×Tr.E (k+1))} {fs:List (Δ)},bz pg k R is xs fs->(∀q c f,f∈fs->R q c f->R' q c f)->bz pg k R' is xs fs
 |[],[],[],_,_=>trivial
 |_::_,_::_,f::_,h,hR=>⟨h.1.mono fun _ _ h'=>hR _ _ f au h',bz.mono h.2 fun q c g hg=>hR q c g (aH _ hg)⟩
 |[],[],_::_,h,_=>h.elim
 |[],_::_,_,h,_=>h.elim
 |_::_,[],_,h,_=>h.elim
 |_::_,_::_,[],h,_=>h.elim
theorem bz.len:∀{is:List It} {xs:List (Tr.Tx×Tr.E (k+1))} {fs:List (Δ)},bz pg k R is xs fs->is.length=xs.length/\fs.length=xs.length
 |[],[],[],_=>⟨rfl,rfl⟩
 |_::_,_::_,_::_,h=>by have:=bz.len h.2;simp only[a_];omega
 |[],[],_::_,h=>h.elim
 |[],_::_,_,h=>h.elim
 |_::_,[],_,h=>h.elim
 |_::_,_::_,[],h=>h.elim
theorem bz.append:∀{is:List It} {xs:List (Tr.Tx×Tr.E (k+1))} {fs:List (Δ)} {Z:List It} {x:List (Tr.Tx×Tr.E (k+1))} {f:List (Δ)},bz pg k R is xs fs->bz pg k R Z x f->bz pg k R (is++Z) (xs++x) (fs++f)
 |[],[],[],_,_,_,_,h=>h
 |_::_,_::_,_::_,_,_,_,h,h'=>⟨h.1,bz.append h.2 h'⟩
 |[],[],_::_,_,_,_,h,_=>h.elim
 |[],_::_,_,_,_,_,h,_=>h.elim
 |_::_,[],_,_,_,_,h,_=>h.elim
 |_::_,_::_,[],_,_,_,h,_=>h.elim
theorem bz.parts:∀{xs X:List (Tr.Tx×Tr.E (k+1))} {is:List It} {fs:List (Δ)},bz pg k R is (xs++X) fs->∃I a f1 f2,is=I++a/\fs=f1++f2/\bz pg k R I xs f1/\bz pg k R a X f2
 |[],_,is,fs,h=>⟨[],is,[],fs,rfl,rfl,trivial,h⟩
 |x::xs,X,i::is,f::fs,h=>by obtain⟨I,a,f1,f2,rfl,rfl,H,b⟩:=bz.parts (xs:=xs) h.2;exact⟨i::I,a,f::f1,f2,rfl,rfl,⟨h.1,H⟩,b⟩
 |_::_,_,[],_,h=>h.elim
 |_::_,_,_::_,[],h=>h.elim
theorem bz.cons_inv {x:Tr.Tx×Tr.E (k+1)} {xs:List (Tr.Tx×Tr.E (k+1))} {is:List It} {fs:List (Δ)} (h:bz pg k R is (x::xs) fs):∃i Z f F,is=i::Z/\fs=f::F/\j9 pg k R i x f/\bz pg k R Z xs F:=by
 match is,fs,h with
 |i::is,f::fs,h=>exact⟨i,is,f,fs,rfl,rfl,h.1,h.2⟩
 |[],_,h=>exact h.elim
 |_::_,[],h=>exact h.elim
theorem bz.yh {is:List It} {fs:List (Δ)} (h:bz pg k R is [] fs):is=[]/\fs=[]:=by
 match is,fs,h with
 |[],[],_=>exact⟨rfl,rfl⟩
 |_::_,_,h=>exact h.elim
 |[],_::_,h=>exact h.elim
end
section
variable {M M':Nat->Option NV} {pg:Ξ}
theorem dQ.head:∀{k p:Nat} {t:Tr.E (k+1)} {F:Δ},dQ M pg k p t F->∃n,M p=av n/\lV pg k n t/\p∈F
 |0,_,_,_,⟨n,h1,h2,_,h4⟩=>⟨n,h1,h2,zbl⟩
 |_+1,_,_,_,⟨n,_,h1,h2,_,h4⟩=>⟨n,h1,h2,zbl⟩
theorem dQ.frame:∀{k p:Nat} {t:Tr.E (k+1)} {F:Δ},dQ M pg k p t F->(∀q∈F,M' q=M q)->dQ M' pg k p t F
 |0,_,_,_,⟨n,h1,h2,h3,h4⟩,hF=>⟨n,by rw[hF _ zbl];exact h1,h2,h3,h4⟩
 |k+1,_,_,_,⟨n,fs,h1,h2,h3,h4⟩,hF=>⟨n,fs,by rw[hF _ zbl];exact h1,h2,h3.mono fun _ _ f hf hr=>dQ.frame hr fun q h=>hF q (by rw[h4];exact aH _ (List.mem_flatten.2 ⟨f,hf,h⟩)),h4⟩
theorem bz.frame {k:Nat} {is:List It} {xs:List (Tr.Tx×Tr.E (k+1))} {fs:List (Δ)} (h:bz pg k (dQ M pg k) is xs fs) (hF:∀q∈fs.flatten,M' q=M q):bz pg k (dQ M' pg k) is xs fs:=
 h.mono fun _ _ f hf hr=>dQ.frame hr fun q H=>hF q (List.mem_flatten.2 ⟨f,hf,H⟩)
end
theorem sx:∀(l:List (Tr.Tx×Tr.E 0)),cJ (ak 0 l)=Tr.sz 0 l
 |[]=>rfl
 |p::l=>by
  show 2+p.1.length+(eG 0 p.2).length+cJ (ak 0 l)=_;rw[sx l];rfl
theorem Yp (p:Nat):(pv p).length=2:=rfl
theorem sy (k:Nat):∀(l:List (Tr.Tx×Tr.E (k+1))),cJ (ak (k+1) l)=Tr.sz (k+1) l
 |[]=>rfl
 |p::l=>by
  show 2+p.1.length+(eG (k+1) p.2).length+cJ (ak (k+1) l)=_;rw[sy k l];rfl
theorem jo:∀(k:Nat) (l:List (Tr.Tx×Tr.E k)),cJ (ak k l)=Tr.sz k l
 |0,l=>sx l
 |k+1,l=>sy k l
theorem bz.sz {pg:Ξ} {k:Nat} {R:Nat->Tr.E (k+1)->Δ->Prop}:∀{is:List It} {xs:List (Tr.Tx×Tr.E (k+1))} {fs:List (Δ)},bz pg k R is xs fs->cJ is=Tr.sz (k+1) xs
 |[],[],[],_=>rfl
 |i::is,x::xs,_::fs,h=>by
  have I:=bz.sz h.2;show 2+i.key.length+i.val.length+cJ is=2+x.1.length+2+Tr.sz (k+1) xs;rw[I,h.1.1,h.1.2.1]
 |[],[],_::_,h=>h.elim
 |[],_::_,_,h=>h.elim
 |_::_,[],_,h=>h.elim
 |_::_,_::_,[],h=>h.elim
theorem bz.keys {pg:Ξ} {k:Nat} {R:Nat->Tr.E (k+1)->Δ->Prop}:∀{is:List It} {xs:List (Tr.Tx×Tr.E (k+1))} {fs:List (Δ)},bz pg k R is xs fs->is.map It.key=xs.map (·.1)
 |[],[],[],_=>rfl
 |i::is,x::xs,_::fs,h=>by rw[bI,bI,bz.keys h.2,h.1.1]
 |[],[],_::_,h=>h.elim
 |[],_::_,_,h=>h.elim
 |_::_,[],_,h=>h.elim
 |_::_,_::_,[],h=>h.elim
theorem dQ.sz {M:Nat->Option NV} {pg:Ξ}:∀{k p:Nat} {t:Tr.E (k+1)} {F:Δ} {n:NV},dQ M pg k p t F->M p=av n->cJ n.its=Tr.sz k (Tr.its t)/\n.its.map It.key=(Tr.its t).map (·.1)/\n.its.length=(Tr.its t).length
 |0,_,t,_,n,⟨n',h1,_,h3,_⟩,hn=>by rw[hn] at h1;injection h1 with h1;subst h1;rw[h3];exact⟨jo 0 _,by unfold ak;rw[List.map_map];rfl,by unfold ak;rw[aL]⟩
 |k+1,_,t,_,n,⟨n',fs,h1,_,h3,_⟩,hn=>by rw[hn] at h1;injection h1 with h1;subst h1;exact⟨h3.sz,h3.keys,h3.len.1⟩
namespace Tr
theorem Ae {α:Type} {O:Tx->Option Tx->α->Prop} {C:α->Tx->α->Prop} {h:Option Tx} (d:∀a u x,O a u x->xe a u):∀{l:List (Tx×α)},dz O C h l->(l.map (·.1)).Pairwise (fun a b=>lt a b=true)/\∀p∈l,xe p.1 h
 |[],_=>⟨List.Pairwise.nil,fun p hp=>by cases hp⟩
 |[a],s=>⟨pZ _ _,fun p hp=>by rw[bB.1 hp];exact d _ _ _ s⟩
 |a::b::r,s=>by
  obtain⟨H,e⟩:=Ae d (l:=b::r) s.2.2;refine⟨?_,fun p hp=> ?_⟩
  ·rw[bI,cC];refine⟨fun c hc=> ?_,H⟩;rw[bI] at hc H;rcases aM.1 hc with rfl|hc;·exact s.2.1.1
   ·exact lt_trans s.2.1.1 ((cC.1 H).1 c hc)
  ·rcases aM.1 hp with rfl|hp;·exact yP (le_of_lt s.2.1.1) (e b au)
   ·exact e p hp
theorem jP:∀(k:Nat) (l:List (Tx×E k)),2*l.length<=sz k l
 |_,[]=>aA _
 |k,p::l=>by
  have:=jP k l;rw[a_,sz];unfold jY;omega
end Tr
theorem Va {lo hi key:List UInt8} (H:Tr.le lo key) (h:Tr.xe key (j8 hi)):hasB lo hi key=true:=by
 unfold hasB;have e:Tr.lt key lo=false:=H;rw[e];by_cases hh:hi=[];·subst hh;rfl
 ·have E:Tr.lt key hi=true:=by unfold j8 at h;rw[if_neg hh] at h;exact h
  rw[E];simp
theorem jq {k:Nat} {lo:Tr.Tx} {h:Option Tr.Tx} {l:List (Tr.Tx×Tr.E k)} (j:Tr.Rw k lo h l):
  (l.map (·.1)).Pairwise (fun a b=>Tr.lt a b=true)/\(∀p∈(if k=0 then l else l.tail),Tr.le lo p.1/\Tr.xe p.1 h)/\∀p∈l,p.1.length<=96:=by
 obtain⟨m,H⟩:=j;have i:∀a u (x:Tr.E k),Tr.Ok k a u x->Tr.xe a u:=fun a u x=>Tr.Ok.lt;unfold Tr.vF at H;cases l with
 |nil=>exact⟨List.Pairwise.nil,(fun p hp=>by by_cases e:k=0<;>simp[e] at hp),fun p hp=>by cases hp⟩
 |cons a r=>
  have hh:=m a rfl;by_cases e:k=0
  ·rw[if_pos e] at H hh |-;obtain⟨K,f⟩:=Tr.Ae i H;refine⟨K,fun p hp=>⟨?_,f p hp⟩,fun p hp=> ?_⟩
   ·rcases aM.1 hp with rfl|hp;·exact hh.1
    ·rw[bI,cC] at K;exact Tr.le_trans hh.1 (Tr.le_of_lt (K.1 _ (List.mem_map_of_mem hp)))
   ·rcases aM.1 hp with rfl|hp;·exact hh.2
    ·exact Tr.dz.lens H p hp
  ·rw[if_neg e] at H hh |-;have d:Tr.dz (Tr.Ok k) (Tr.cut k) h ((lo,a.2)::r):=H;obtain⟨K,f⟩:=Tr.Ae i d;rw[bI,cC] at K;have g:∀p∈r,Tr.lt lo p.1=true:=fun p hp=>K.1 _ (List.mem_map_of_mem hp);refine⟨?_,fun p hp=>⟨Tr.le_of_lt (g p hp),f p (aH _ hp)⟩,fun p hp=> ?_⟩
   ·rw[bI,cC];refine⟨fun c hc=> ?_,K.2⟩;rw[hh];have:=K.1 c hc;cases c with
    |nil=>exact absurd this (by rw[show Tr.lt lo []=false from by cases lo<;>rfl];decide)
    |cons _ _=>rfl
   ·rcases aM.1 hp with rfl|hp;·grind
    ·exact Tr.dz.lens d p hp
theorem dB (k:Nat) (l:List (Tr.Tx×Tr.E k)):(ak k l).map It.key=l.map (·.1):=by unfold ak;rw[List.map_map];rfl
theorem Af {its:List It} (h:(its.map It.key).Pairwise (fun a b=>Tr.lt a b=true)):QA its:=by grind [QA]
theorem iX {pg:Ξ} {k page:Nat} {c:Tr.E (k+1)} {lo hi:List UInt8} (g:k<=15) (hs:cZ pg (k+1) c) (hp:(Tr.hd c).page=av page) (j:Tr.Ok (k+1) lo (j8 hi) c):UZ pg page k (ak k (Tr.its c)) lo hi:=by
 obtain⟨⟨W,b,_,B⟩,_,U⟩:=hs;rw[hp] at b;injection b with b;subst b;obtain⟨O,l,o⟩:=j;obtain⟨m,K,n⟩:=jq o;have d:=jo k (Tr.its c);have a:(ak k (Tr.its c)).length=(Tr.its c).length:=by unfold ak;rw[aL]
 refine⟨B,fun rg cap=>⟨g, ?_, ?_, ?_, ?_⟩, ?_, ?_,by rw[d];exact l, ?_⟩
 ·show ak k (Tr.its c)≠[];intro e;have:(ak k (Tr.its c)).length=0:=by rw[e];rfl
  rw[a] at this;exact O (List.eq_nil_of_length_eq_zero this)
 ·show 0<k->∀h:0<(ak k (Tr.its c)).length,(ak k (Tr.its c))[0].key=[];intro P h;have f:0<(Tr.its c).length:=by rw[<-a];exact h
  have hh:=o.1 ((Tr.its c)[0]) (by rw[List.head?_eq_getElem?,aI f]);rw[if_neg κ] at hh;have e:(ak k (Tr.its c))[0]=⟨((Tr.its c)[0]).1,eG k ((Tr.its c)[0]).2,aK⟩:=gS ..;rw[e];exact hh
 ·exact Af (by rw[show (NV.read k (ak k (Tr.its c)) rg cap).its=ak k (Tr.its c) from rfl,dB];exact m)
 ·show ∀i∈ak k (Tr.its c),i.key.length<=96/\i.val.length<=56/\(0<k->i.val.length=2);intro i H;unfold ak at H;obtain⟨p,A,rfl⟩:=bY.1 H;refine⟨n p A, ?_⟩
  match k,c,p,A,o with
  |0,c,p,A,o=>
   have q:Tr.dz (Tr.Ok 0) (Tr.cut 0) (j8 hi) (Tr.its c):=o.2;obtain⟨u,hu⟩:=q.each p A;exact⟨hu.1,fun h=>absurd h ξ⟩
  |k+1,c,p,_,_=>exact⟨(by show (pv _).length<=56;rw[Yp];decide),fun _=>rfl⟩
 ·rw[a];have:=Tr.jP k (Tr.its c);omega
 ·grind [ak]
 ·intro i H;have:∃p∈(if k=0 then Tr.its c else (Tr.its c).tail),i.key=p.1:=by
   by_cases P:k=0;·grind [ak]
   ·rw[if_neg P] at H |-;unfold ak at H;rw[<-List.map_tail] at H;obtain⟨p,A,rfl⟩:=bY.1 H;exact⟨p,A,rfl⟩
  obtain⟨p,A,e⟩:=this;rw[e];exact Va (K p A).1 (K p A).2
theorem dQ.dom {M:Nat->Option NV} {pg:Ξ}:∀{k p:Nat} {t:Tr.E (k+1)} {F:Δ},dQ M pg k p t F->∀q∈F,∃m,M q=av m
 |0,p,_,_,⟨n,h1,_,_,h4⟩,q,H=>by rw[h4] at H;rw[bB.1 H];exact⟨n,h1⟩
 |k+1,p,t,_,⟨n,fs,h1,_,h3,h4⟩,q,H=>by
  rw[h4] at H;rcases aM.1 H with rfl|H;·exact⟨n,h1⟩
  ·have key:∀{is:List It} {xs:List (Tr.Tx×Tr.E (k+1))} {fs:List (Δ)},bz pg k (dQ M pg k) is xs fs->∀q∈fs.flatten,∃m,M q=av m:=by
    intro is;induction is with
    |nil=>
     intro xs fs h q H;cases xs with
     |nil=>cases fs with
      |nil=>cases H
      |cons _ _=>exact h.elim
     |cons _ _=>exact h.elim
    |cons i is I=>
     intro xs fs h q H;cases xs with
     |nil=>exact h.elim
     |cons x xs=>cases fs with
      |nil=>exact h.elim
      |cons f fs=>
       rw[dy] at H;rcases ah.1 H with H|H
       ·obtain⟨⟨_,_,hi⟩,_⟩:=h;rcases hi with⟨_,e,_⟩|⟨r,_,hr⟩;·rw[e] at H;cases H
        ·exact dQ.dom hr q H
       ·exact I h.2 q H
   exact key h3 q H
theorem bz.dom {M:Nat->Option NV} {pg:Ξ} {k:Nat}:∀{is:List It} {xs:List (Tr.Tx×Tr.E (k+1))} {fs:List (Δ)},bz pg k (dQ M pg k) is xs fs->∀q∈fs.flatten,∃m,M q=av m
 |[],[],[],_,q,H=>by cases H
 |i::is,x::xs,f::fs,h,q,H=>by
  rw[dy] at H;rcases ah.1 H with H|H
  ·obtain⟨⟨_,_,hi⟩,_⟩:=h;rcases hi with⟨_,e,_⟩|⟨r,_,hr⟩;·rw[e] at H;cases H
   ·exact dQ.dom hr q H
  ·exact bz.dom h.2 q H
 |[],[],_::_,h,_,_=>h.elim
 |[],_::_,_,h,_,_=>h.elim
 |_::_,[],_,h,_,_=>h.elim
 |_::_,_::_,[],h,_,_=>h.elim
theorem iY {pg:Ξ} {k:Nat} {R:Nat->Tr.E (k+1)->Δ->Prop}:∀{l:List (Tr.Tx×Tr.E (k+1))},(∀p∈l,cZ pg (k+1) p.2)->bz pg k R (ak (k+1) l) l (l.map fun _=>[])
 |[],_=>trivial
 |p::l,h=>⟨⟨rfl,rfl,cS ⟨rfl,rfl,rfl,h p au⟩⟩,iY (l:=l) fun q H=>h q (aH _ H)⟩
theorem jr {α β:Type} (l:List α):(l.map fun _=>([]:List β)).flatten=[]:=by simp_all
theorem s9 {pg:Ξ} {k page:Nat} {c:Tr.E (k+1)} {lo hi:List UInt8} {rg cap:Nat} (hs:cZ pg (k+1) c) (hp:(Tr.hd c).page=av page) (b:Tr.Ok (k+1) lo (j8 hi) c):lV pg k (NV.got k (ak k (Tr.its c)) rg cap page lo hi) c:=by
 obtain⟨⟨W,h,H,B⟩,a,u⟩:=hs;rw[hp] at h;injection h with h;subst h;refine⟨rfl,by rw[hp];rfl,a.symm,b.near,fun _=>⟨page,hp,H,B,fun f p d=> ?_⟩⟩
 match k,c,p,u p d with
 |0,_,_,_=>trivial
 |k+1,_,_,hst=>obtain⟨⟨pq,e,_⟩,_⟩:=hst;show (Tr.hd _).page.isSome=true;rw[e];rfl
theorem LB {M:Nat->Option NV} {pg:Ξ} {k page p:Nat} {c:Tr.E (k+1)} {lo hi:List UInt8} {rg cap:Nat} (hs:cZ pg (k+1) c) (hp:(Tr.hd c).page=av page) (H:Tr.Ok (k+1) lo (j8 hi) c) (h:M p=av (NV.got k (ak k (Tr.its c)) rg cap page lo hi)):dQ M pg k p c [p]:=by
 have hown:=s9 (rg:=rg) (cap:=cap) hs hp H
 match k,c,hs,hp,H,h,hown with
 |0,c,hs,hp,H,h,hown=>exact⟨_,h,hown,rfl,rfl⟩
 |k+1,c,hs,hp,H,h,hown=>refine⟨_,(Tr.its c).map fun _=>[],h,hown,iY hs.2.2, ?_⟩;rw[jr]
theorem D6 {α:Type} {O:Tr.Tx->Option Tr.Tx->α->Prop} {C:α->Tr.Tx->α->Prop} {h:Option Tr.Tx} {A:List (Tr.Tx×α)} {x:Tr.Tx×α} {B:List (Tr.Tx×α)} (s:Tr.dz O C h (A++x::B)):O x.1 (Tr.x7 h B) x.2:=by
 have s2:=Tr.dz.behind s;cases B with
 |nil=>exact s2
 |cons b B=>exact s2.1
theorem xT {α:Type} (f:α->List UInt8) (A:List α) (b:α) (B:List α):((A++b::B).map f).getD A.length []=f b:=zaB
theorem nC {k:Nat} {n:NV} {t:Tr.E (k+2)} {A B:List (Tr.Tx×Tr.E (k+1))} {key:Tr.Tx} {c:Tr.E (k+1)} (hn:Tr.jz (k+1) n.lo (j8 n.hi) t) (g:Tr.its t=A++(key,c)::B) (i:n.its.map It.key=(Tr.its t).map (·.1)):
  Tr.Ok (k+1) (fP n A.length) (j8 (eM n A.length)) c:=by
 obtain⟨_,_,h4⟩:=hn;rw[Tr.dN,g] at h4;have f:n.its.length=(A++(key,c)::B).length:=by grind [List.length,aL]
 have H:fP n A.length=if A=[] then n.lo else key:=by simp_all[fP]
 have l:∀b B',B=b::B'->eM n A.length=b.1:=by simp_all[eM,aq]
 have T:B=[]->eM n A.length=n.hi:=by simp_all[eM]
 have j:Tr.Ok (k+1) (if A=[] then n.lo else key) (Tr.x7 (j8 n.hi) B) c/\(∀b B',B=b::B'->b.1≠[]):=by
  cases A with
  |nil=>
   have h:Tr.dz (Tr.Ok (k+1)) (Tr.cut (k+1)) (j8 n.hi) ([]++(n.lo,c)::B):=h4;refine⟨by rw[if_pos rfl];exact D6 h,fun b B' e=> ?_⟩;rw[e] at h;have:=h.2.1.1;intro d;rw[d] at this;rw[show Tr.lt n.lo []=false from by cases n.lo<;>rfl] at this;cases this
  |cons a A=>
   have h:Tr.dz (Tr.Ok (k+1)) (Tr.cut (k+1)) (j8 n.hi) (((n.lo,a.2)::A)++(key,c)::B):=h4;refine⟨by rw[if_neg ν];exact D6 h,fun b B' e=> ?_⟩;rw[e] at h;have:=(Tr.dz.append.1 h).2.1.1;intro d;rw[d] at this;rw[show Tr.lt key []=false from by cases key<;>rfl] at this;cases this
 rw[H];cases B with
 |nil=>rw[T rfl];exact j.1
 |cons b B'=>
  rw[l b B' rfl];have:j8 b.1=av b.1:=by unfold j8;rw[if_neg (j.2 b B' rfl)]
  rw[this];exact j.1
section
variable {M M':Nat->Option NV} {pg:Ξ} {k p q:Nat} {n:NV}
theorem Ah (k tot:Nat):∀(is:List It) (xs:List (Tr.Tx×Tr.E k)) (s:Nat),is.map jY=xs.map (Tr.jY k)->fT tot s is=(Tr.cI k tot s xs).1.length
 |[],[],_,_=>rfl
 |[],_::_,_,h=>χ
 |_::_,[],_,h=>χ
 |[_],[_],_,_=>rfl
 |[_],_::_::_,_,h=>by simp at h
 |_::_::_,[_],_,h=>by simp at h
 |i::j::r,x::y::z,s,h=>by
  have H:(j::r).map jY=(y::z).map (Tr.jY k):=(List.cons.inj h).2;have a:jY i=Tr.jY k x:=(List.cons.inj h).1;have I:=Ah k tot (j::r) (y::z) (s+jY i) H;unfold Tr.cI;rw[xC];by_cases hs:2*s<tot;·grind
  ·grind
theorem Gp {R:Nat->Tr.E (k+1)->Δ->Prop}:∀{is:List It} {xs:List (Tr.Tx×Tr.E (k+1))} {fs:List (Δ)},bz pg k R is xs fs->is.map jY=xs.map (Tr.jY (k+1))
 |[],[],[],_=>rfl
 |i::is,x::xs,_::fs,h=>by
  have I:=Gp h.2;rw[bI,bI,I];have e:jY i=Tr.jY (k+1) x:=by show 2+i.key.length+i.val.length=2+x.1.length+2;rw[h.1.1,h.1.2.1]
  rw[e]
 |[],[],_::_,h=>h.elim
 |[],_::_,_,h=>h.elim
 |_::_,[],_,h=>h.elim
 |_::_,_::_,[],h=>h.elim
theorem LC {t:Tr.E (k+1)} {F:Δ} (hr:dQ M pg k p t F) (hn:M p=av n):n.its.map jY=(Tr.its t).map (Tr.jY k):=by
 cases k with
 |zero=>obtain⟨n',h,_,hi,_⟩:=hr;rw[hn] at h;cases h;rw[hi];unfold ak;rw[List.map_map];rfl
 |succ k=>obtain⟨n',fs,h,_,H,_⟩:=hr;rw[hn] at h;cases h;exact Gp H
theorem JR {L U:List (Tr.Tx×Tr.E k)} (h:n.its.map It.key=(L++U).map (·.1)) (H:n.level=k) (b:L≠[]) (c:U≠[]):
  between n L.length=if k=0 then Tr.cQ (Tr.tT L) (Tr.cD U) else Tr.cD U:=by
 obtain⟨A,a,rfl⟩:=Tr.dX b;cases U with
 |nil=>exact absurd rfl c
 |cons u U=>
  have e:((A++[a]++u::U).map (·.1)).getD (A++[a]).length []=u.1:=xT (·.1) (A++[a]) u U;have d:((A++[a]++u::U).map (·.1)).getD ((A++[a]).length-1) []=a.1:=zaB
  unfold between;rw[h,H,e,d,Tr.tU];rfl
theorem NP {R:Nat->Tr.E (k+1)->Δ->Prop}:∀{is:List It} {xs:List (Tr.Tx×Tr.E (k+1))} {fs:List (Δ)},bz pg k R is xs fs->bz pg k R (yg is) (Tr.bH [] xs) fs
 |[],[],[],_=>trivial
 |_::_,_::_,_::_,h=>⟨⟨rfl,h.1.2⟩,h.2⟩
 |[],[],_::_,h=>h.elim
 |[],_::_,_,h=>h.elim
 |_::_,[],_,h=>h.elim
 |_::_,_::_,[],h=>h.elim
theorem Yq {x:Tr.Tx} (h:x≠[]):j8 x=av x:=by unfold j8;rw[if_neg h]
theorem Ai {t:Tr.E (k+1)} {F:Δ} {H:Nat} (hr:dQ M pg k p t F) (hn:M p=av n) (hF:F.Nodup) (D:q∉F) (z:510<Tr.sz k (Tr.its t)) (hH:H=fT (cJ n.its) 0 n.its) (G:M'=upd (upd M p (iz n H)) q (ku n H)):
  between n H=(Tr.part k t).key/\∃I J,dQ M' pg k p (Tr.part k t).low I/\dQ M' pg k q (Tr.part k t).up J/\(I++J).Nodup/\∀r∈I++J,r∈F\/r=q:=by
 obtain⟨n',i,d,ZI⟩:=hr.head;rw[hn] at i;cases i;have f:p≠q:=fun e=>D (by rw[<-e];exact ZI);have P:=Tr.qP k d.near z;have V:=hr.sz hn;have Y:H=(Tr.cI k (Tr.sz k (Tr.its t)) 0 (Tr.its t)).1.length:=by rw[hH,V.1];exact Ah k _ _ _ _ (LC hr hn)
 have a:=Tr.sE k (Tr.sz k (Tr.its t)) (Tr.its t) 0;have K:Tr.its t≠[]:=by intro e;rw[e] at z;exact absurd z (by simp[Tr.sz])
 have O:=Tr.nZ k (Tr.sz k (Tr.its t)) (Tr.its t) 0 K;have Q:=Tr.n_ k _ (Tr.its t) rfl (fun x hx=>by have:=d.near.2.size x hx;omega) z;have c:(Tr.part k t).key=if k=0 then Tr.cQ (Tr.tT (Tr.cI k (Tr.sz k (Tr.its t)) 0 (Tr.its t)).1) (Tr.cD (Tr.cI k (Tr.sz k (Tr.its t)) 0 (Tr.its t)).2) else Tr.cD (Tr.cI k (Tr.sz k (Tr.its t)) 0 (Tr.its t)).2:=rfl
 have w:(Tr.part k t).low=Tr.mk ⟨(Tr.hd t).page,true⟩ (Tr.cI k (Tr.sz k (Tr.its t)) 0 (Tr.its t)).1:=rfl;have N:(Tr.part k t).up=Tr.mk ⟨aK,true⟩ (if k=0 then (Tr.cI k (Tr.sz k (Tr.its t)) 0 (Tr.its t)).2 else Tr.bH [] (Tr.cI k (Tr.sz k (Tr.its t)) 0 (Tr.its t)).2):=rfl;generalize Tr.cI k (Tr.sz k (Tr.its t)) 0 (Tr.its t)=lu at Y a O Q c w N;obtain⟨L,U⟩:=lu;simp only at Y a O Q c w N;have j:=V.2.1;rw[<-a] at j;have A:between n H=(Tr.part k t).key:=by rw[Y,c];exact JR j d.level Q O
 have pY:between n H≠[]:=by rw[A];intro e;have B:=P.low.lt;rw[e] at B;have C:Tr.lt n.lo []=true:=B;cases hh:n.lo<;>rw[hh] at C<;>simp[Tr.lt] at C
 have l:M' p=av (iz n H):=by rw[G,aX f,bF]
 have m:M' q=av (ku n H):=by rw[G,bF]
 have R:∀r,r≠p->r≠q->M' r=M r:=fun r B C=>by rw[G,aX C,aX B]
 have ol:lV pg k (iz n H) (Tr.part k t).low:=by
  refine⟨d.level, ?_, ?_, ?_,fun hf=> ?_⟩;·rw[w];exact d.page
  ·rw[w];rfl
  ·show Tr.jz k n.lo (j8 (between n H)) _;rw[Yq pY,A];exact P.low.near
  ·simp_all
 have W:lV pg k (ku n H) (Tr.part k t).up:=by
  refine⟨d.level, ?_, ?_, ?_,fun hf=> ?_⟩;·rw[N];rfl
  ·rw[N];rfl
  ·show Tr.jz k (between n H) (j8 n.hi) _;rw[A];exact P.up.near
  ·simp_all
 refine⟨A, ?_⟩;cases k with
 |zero=>
  obtain⟨n',h,_,hi,o⟩:=hr;rw[hn] at h;cases h;rw[<-a] at hi;have u:n.its=ak 0 L++ak 0 U:=by rw[hi];unfold ak;rw[bM]
  have b:(ak 0 L).length=H:=by rw[Y];unfold ak;rw[aL]
  refine⟨[p],[q],⟨_,l,ol, ?_,rfl⟩,⟨_,m,W, ?_,rfl⟩,by simpa using f,fun r hr=> ?_⟩;·show n.its.take H=_;rw[u,w,<-b,List.take_left];rfl
  ·show (if n.level=0 then n.its.drop H else yg (n.its.drop H))=_;rw[if_pos d.level,u,N,<-b,List.drop_left];rfl
  ·grind
 |succ k=>
  obtain⟨n',fs,h,_,v,o⟩:=hr;rw[hn] at h;cases h;rw[<-a] at v;obtain⟨i1,i2,f1,f2,hi,rfl,Z,k2⟩:=v.parts;subst o;have b:i1.length=H:=by rw[Y];exact Z.len.1
  have g:=cA.1 hF;have y:∀r∈(f1++f2).flatten,M' r=M r:=fun r hr=>R r (fun e=>g.1 zaC) (fun e=>D (by rw[<-e];exact aH _ hr));have S:=Z.frame fun r hr=>y r (by rw[dI];exact ah.2 (cS hr));have T:=k2.frame fun r hr=>y r (by rw[dI];exact ah.2 (dc hr));have kE:=g.2;have X:=g.1;rw[dI] at kE X;refine⟨p::f1.flatten,q::f2.flatten,⟨_,f1,l,ol, ?_,rfl⟩,⟨_,f2,m,W, ?_,rfl⟩, ?_,fun r hr=> ?_⟩;·show bz pg k _ (n.its.take H) _ _;rw[hi,<-b,List.take_left,w];exact S
  ·show bz pg k _ (if n.level=0 then n.its.drop H else yg (n.its.drop H)) _ _;rw[if_neg (by rw[d.level];omega),hi,<-b,List.drop_left,N];exact NP T
  ·have O1:q∉f1.flatten++f2.flatten:=fun e=>D (aH _ (by rw[dI];exact e));have hd:=aP.1 kE;refine aP.2 ⟨cA.2 ⟨fun e=>X (ah.2 (cS e)),hd.1⟩,cA.2 ⟨fun e=>O1 (ah.2 (dc e)),hd.2.1⟩,fun r hr s hs e=> ?_⟩;subst e;rcases aM.1 hr with hr|hr
   ·rcases aM.1 hs with hs|hs;·exact f (hr.symm.trans hs)
    ·rw[hr] at hs;exact X (ah.2 (dc hs))
   ·rcases aM.1 hs with hs|hs;·rw[hs] at hr;exact O1 (ah.2 (cS hr))
    ·exact hd.2.2 r hr r hs rfl
  ·rw[dI];rcases ah.1 hr with hr|hr
   ·rcases aM.1 hr with hr|hr;·left;rw[hr];exact au
    ·exact cS (aH _ (ah.2 (cS hr)))
   ·rcases aM.1 hr with hr|hr;·exact dc hr
    ·exact cS (aH _ (ah.2 (dc hr)))
end
section
variable {E:Ev} {X0 X X':World} {R0 R R' S:Φ} {ps ps':Γ} {pg cy:Ξ} {rt rt':Δ} {M M':Nat->Option NV} {p q:Nat} {n m:NV}
structure D7 (E:Ev) (X0:World) (R0 R:Φ) (ps:Γ) (pg:Ξ) (rt:Δ) (M:Nat->Option NV) (X:World) (p:Nat) (n:NV) (k:Nat) (I1:List It) (i:It) (I2:List It) (A:List (Tr.Tx×Tr.E (k+1))) (c:Tr.E (k+1)) (B:List (Tr.Tx×Tr.E (k+1))) (f1 f2:List (Δ)) (f:Δ) (q:Nat) (M':Nat->Option NV) (R':Φ) (fq:Δ) (X':World):Prop where
 ts:TS E X0 R0 R' ps pg rt M' X'
 at_:M' p=av {n with its:=I1++{i with node:=av q}::I2}
 Cr:dQ M' pg k q c fq
 left:bz pg k (dQ M' pg k) I1 A f1
 right:bz pg k (dQ M' pg k) I2 B f2
 same:∀r m,r≠p->M r=av m->M' r=av m
 news:∀r∈fq,r∈f\/X.heap.size<=r
 nd:fq.Nodup
 size:X.heap.size<=X'.heap.size
 but:aE (fun b=>b=n.rg) X X'
 sub:∀b,R b->R' b
 new:∀b,R' b->R b\/X.heap.size<=b
 mb:∀b,MB M' b->MB M b\/X.heap.size<=b
theorem NQ {k:Nat} {t:Tr.E (k+2)} {I1 I2:List It} {i:It} {A B:List (Tr.Tx×Tr.E (k+1))} {key:Tr.Tx} {c:Tr.E (k+1)} {f1 f2:List (Δ)} {f:Δ}
  (h:TS E X0 R0 R ps pg rt M X) (hp:M p=av n) (L:lV pg (k+1) n t) (hi:n.its=I1++i::I2) (N:Tr.its t=A++(key,c)::B) (j:bz pg k (dQ M pg k) I1 A f1) (W:j9 pg k (dQ M pg k) i (key,c) f) (s:bz pg k (dQ M pg k) I2 B f2) (l:(p::(f1++f::f2).flatten).Nodup) (Y:k<=15):
  Calls prog 131 #[ptr E.tb,ptr p,bf ct A.length] X fun e X'=>∃q M' R' fq,e=c8 (ec #[ptr q,bf ct 0])/\D7 E X0 R0 R ps pg rt M X p n k I1 i I2 A c B f1 f2 f q M' R' fq X':=by
 have Z:=j.len.1;have O:A.length<n.its.length:=by rw[hi,aq,Z,a_];omega
 have K:n.its[A.length]=i:=zaB
 have xz:p∉(f1++f::f2).flatten:=(cA.1 l).1;have P:(f1++f::f2).flatten.Nodup:=(cA.1 l).2;obtain⟨v,w,JT⟩:=W;rcases JT with⟨H,x,hval,y⟩|⟨q,z,hr⟩
 ·obtain⟨⟨page,C,u,F⟩,a,U⟩:=y
  have Q:=nC L.near N (by
   have hh:bz pg k (dQ M pg k) n.its (Tr.its t) (f1++f::f2):=(by rw[hi,N];exact j.append ⟨⟨v,w,cS ⟨H,x,hval,⟨⟨page,C,u,F⟩,a,U⟩⟩⟩,s⟩);exact hh.keys)
  have nD:=iX Y ⟨⟨page,C,u,F⟩,a,U⟩ C Q;have hv:n.its[A.length].val=pv page:=by rw[K,hval];show pv ((Tr.hd c).page.getD 0)=_;rw[C];rfl
  refine (wL h hp A.length O (by rw[K];exact H) page u hv k L.level (ak k (Tr.its c)) nD).mono ?_;rintro e X' ⟨q,rg,cap,R',rfl,d,S,Vb,T,hR,EE⟩;have jk:n.its.set A.length {(n.its.getD A.length ⟨[],[],aK⟩) with node:=av q}=I1++{i with node:=av q}::I2:=zaB
  rw[jk] at d;obtain⟨M',D⟩:=ξx (upd (upd M q (NV.got k (ak k (Tr.its c)) rg cap page (fP n A.length) (eM n A.length))) p {n with its:=I1++{i with node:=av q}::I2});rw[<-D] at d;have ef:=(h.mem.lt hp).1;have G:q≠p:=κ
  have g:∀r m,r≠p->M r=av m->M' r=av m:=by intro r m hr V;have Cm:r≠q:=(by have:=(h.mem.lt V).1;omega);rw[D,aX hr,aX Cm];exact V
  have o:∀{fs:List (Δ)},(∀r∈fs.flatten,r∈(f1++f::f2).flatten/\∃m,M r=av m)->∀r∈fs.flatten,M' r=M r:=zaB
  refine⟨q,M',R',[q],rfl,⟨d,by rw[D,bF], ?_, ?_, ?_,g,fun r hr=>by rw[bB.1 hr];exact dc S,ν, ?_,T,hR,EE, ?_⟩⟩;·exact LB ⟨⟨page,C,u,F⟩,a,U⟩ C Q (by rw[D,aX G,bF])
  ·exact j.frame (o fun r hr=>⟨by rw[dI];exact ah.2 (cS hr),j.dom r hr⟩)
  ·exact s.frame (o fun r hr=>⟨by rw[dI,dy];exact ah.2 (dc (ah.2 (dc hr))),s.dom r hr⟩)
  ·exact T.size
  ·rintro b ⟨r,m,hr,I⟩;rw[D] at hr;rcases aO hr with⟨rfl,rfl⟩|⟨_,hr⟩;·exact cS ⟨_,n,hp,I⟩
   ·rcases aO hr with⟨rfl,rfl⟩|⟨_,hr⟩
    ·right;rcases I with rfl|rfl;·exact S
     ·exact Vb
    ·exact cS ⟨r,m,hr,I⟩
 ·refine (xE h hp A.length O (by rw[K];exact z)).mono ?_;rintro e X' ⟨rfl,rfl⟩;have J:{i with node:=av q}=i:=by cases i;simp only at z;subst z;rfl
  refine⟨q,M,R,f,rfl,⟨h, ?_,hr,j,s,fun _ _ _ h=>h,fun r hr=>cS hr, ?_,af _,aE.refl _ _,fun _ h=>h,fun _ h=>cS h,fun _ h=>cS h⟩⟩;·rw[J,<-hi];exact hp
  ·rw[dI,dy] at P;exact (aP.1 (aP.1 P).2.1).1
end
section
variable {E:Ev} {X0 X X':World} {R0 R R' S:Φ} {ps ps':Γ} {pg cy:Ξ} {rt rt':Δ} {M M':Nat->Option NV} {p q:Nat} {n m:NV}
theorem Mem.renew (h:Mem X M) (hp:M p=av n) (n':NV) (c:aE S X X') (hS:∀k,S k->k=p\/(k=n.rg/\n.own=true)) (hn:Nd X' p n') (d:n'.ro=0) (hown:bk 0 X' (cx (av ⟨n'.rg,0,aK⟩) n'.its.length n'.cap) n'.its) (hr:(n'.rg=n.rg/\n.own=true)\/X.heap.size<=n'.rg):Mem X' (upd M p n'):=by
 have D:∀r m,r≠p->M r=av m->¬S r/\¬S m.rg:=by
  intro r m hr a;refine⟨fun hs=> ?_,fun hs=> ?_⟩
  ·rcases hS r hs with e|⟨e,_⟩;·exact hr e
   ·exact h.JL hp a e.symm
  ·rcases hS m.rg hs with e|⟨e,b⟩;·exact h.JL a hp e
   ·rcases h.apart r p m n a hp hr with E|⟨_,E,_⟩;·exact E e
    ·rw[b] at E;cases E
 refine⟨fun r m hr=> ?_,fun r m hr=> ?_,fun r r' m i j N H=> ?_,fun r m hr b=> ?_⟩
 ·rcases aO hr with⟨rfl,rfl⟩|⟨H,T⟩;·exact hn
  ·exact (h.nd r m T).but c (D r m H T).1 (D r m H T).2
 ·rcases aO hr with⟨rfl,rfl⟩|⟨H,T⟩;·exact bk.ty hown
  ·obtain⟨cur,hc⟩:=h.ty r m T;exact⟨cur,by rw[c.block m.rg (h.lt T).2 (D r m H T).2];exact hc⟩
 ·have l:∀r m,r≠p->M r=av m->n'.rg≠m.rg:=by
   intro r m hr a;rcases o:hr with _;rcases ‹(n'.rg=n.rg/\n.own=true)\/X.heap.size<=n'.rg› with⟨e,b⟩|e
   ·rw[e];rcases h.apart p r n m hp a (fun e=>hr e.symm) with E|⟨E,_⟩;·exact E
    ·rw[b] at E;cases E
   ·have:=(h.lt a).2;omega
  rcases aO j with⟨rfl,rfl⟩|⟨A,f⟩;·grind [aO]
  ·rcases aO N with⟨rfl,rfl⟩|⟨x,g⟩;·grind
   ·exact h.apart r r' m i f g H
 ·rcases aO hr with⟨rfl,rfl⟩|⟨H,T⟩;·exact⟨d,hown⟩
  ·obtain⟨q,s⟩:=h.own r m T b;refine⟨q,Own.but s c fun k t=> ?_⟩;have e:av m.rg=av k:=t;injection e with e;rw[<-e];exact (D r m H T).2
def Dom (M M':Nat->Option NV):Prop:=∀r y,M r=av y->∃Y,M' r=av Y
theorem Dom.refl (M:Nat->Option NV):Dom M M:=fun _ y h=>⟨y,h⟩
theorem Dom.trans {M M1 M2:Nat->Option NV} (h:Dom M M1) (h':Dom M1 M2):Dom M M2:=fun r y hy=>by obtain⟨Y,H⟩:=h r y hy;exact h' r Y H
theorem Dom.upd (M:Nat->Option NV) (p:Nat) (n:NV):Dom M (upd M p n):=fun r y hy=>by
 by_cases e:r=p;·simp_all[bF]
 ·simp_all[aX]
theorem Dom.but {M M':Nat->Option NV} {p:Nat} {n:NV} (hp:M' p=av n) (h:∀r m,r≠p->M r=av m->M' r=av m):Dom M M':=fun r y hy=>by
 by_cases e:r=p;·subst e;exact⟨n,hp⟩
 ·exact⟨y,h r y e hy⟩
structure SS (E:Ev) (X0:World) (R0 R:Φ) (ps:Γ) (pg:Ξ) (rt:Δ) (M:Nat->Option NV) (X:World) (sb:Nat) (sv:Value) (l:List Int):Prop where
 ts:TS E X0 R0 R ps pg rt M X
 blk:aW X sb 226 [ptr E.tb,sv]
 sp:p8 0 X sv l
 yj:R sb/\X0.heap.size<=sb/\¬MB M sb
 Vc:∀k,sv.ownBlock=av k->R k/\X0.heap.size<=k/\¬MB M k
variable {sb:Nat} {sv:Value} {l:List Int}
theorem SS.still (h:SS E X0 R0 R ps pg rt M X sb sv l) (H:Below X.heap.size X X'):SS E X0 R0 R ps pg rt M X' sb sv l:=
 ⟨h.ts.still H (fun _ h=>h) (fun _ h=>cS h),h.blk.below H h.blk.lt,Own.below h.sp H (af _),h.yj,h.Vc⟩
theorem SS.nodes (h:SS E X0 R0 R ps pg rt M X sb sv l) (e:TS E X0 R0 R' ps pg rt M' X') (b:aE S X X') (hS:∀k,S k->MB M k) (c:∀k,R k->R' k) (d:∀k,MB M' k->MB M k\/X.heap.size<=k):SS E X0 R0 R' ps pg rt M' X' sb sv l:=by
 have f:=h.blk.lt;have g:=Own.block h.sp;refine⟨e,h.blk.but b fun hs=>h.yj.2.2 (hS _ hs),Own.but h.sp b fun k H hs=>(h.Vc k H).2.2 (hS _ hs),⟨c _ h.yj.1,h.yj.2.1,fun H=> ?_⟩,fun k H=>⟨c _ (h.Vc k H).1,(h.Vc k H).2.1,fun a=> ?_⟩⟩
 ·rcases d _ H with H|H;·exact h.yj.2.2 H
  ·omega
 ·rcases d _ a with a|a;·exact (h.Vc k H).2.2 a
  ·grind
theorem SS.left (h:SS E X0 R0 R ps pg rt M X sb sv l) {x:Int} {e:Ending} (hl:lI X sb E.tb sv (l++[x]) e X'):∃fI R',SS E X0 R0 R' ps pg rt M X' sb fI (l++[x])/\(∀k,R k->R' k)/\(∀k,R' k->R k\/X.heap.size<=k)/\aE (fun k=>k=sb\/sv.ownBlock=av k) X X'/\(∀k,fI.ownBlock=av k->sv.ownBlock=av k\/X.heap.size<=k):=by
 obtain⟨_,fI,c,b,h3,h4⟩:=hl;have hS:∀k,(k=sb\/sv.ownBlock=av k)->R k/\X0.heap.size<=k/\¬MB M k:=by
  intro k H;rcases H with rfl|H;·exact h.yj
  ·exact h.Vc k H
 have a:=h.ts.mem.keep h3 fun k H hs=>(hS k hs).2.2 H;have d:=Own.block b;have A:=Own.block h.sp;refine⟨fI,fun k=>R k\/(fI.ownBlock=av k),⟨h.ts.own h3 (fun k _ hs=>⟨(hS k hs).1,(hS k hs).2.1⟩) a (fun k H=>⟨cS (h.ts.lT k H).1,(h.ts.lT k H).2⟩) (fun k H=>cS H) (fun k H=> ?_),c,b,⟨cS h.yj.1,h.yj.2⟩,fun k H=>⟨dc H, ?_⟩⟩,fun k H=>cS H,fun k H=> ?_,h3,fun k H=> ?_⟩;·grind
 ·rcases h4 with h4|h4;·grind
  ·refine⟨aN h.ts.but.size (h4 k H),fun f=> ?_⟩;have:=h.ts.mem.nA f;have:=h4 k H;omega
 ·grind
 ·grind
end
namespace Tr
theorem Ok.mix:∀{k:Nat} {l L:Tx} {H h:Option Tx} {n:E (k+1)},Ok (k+1) l H n->Ok (k+1) L h n->Ok (k+1) l h n
 |0,_,_,_,_,_,o1,o2=>⟨o1.1,o1.2.1,o1.2.2.1,o2.2.2.2⟩
 |k+1,l,L,H,h,n,o1,o2=>by
  obtain⟨c,d,e,A⟩:=o1;obtain⟨_,_,_,B⟩:=o2;refine⟨c,d,e, ?_⟩;rw[dN] at A B |-;cases hi:its n with
  |nil=>trivial
  |cons a r=>
   rw[hi] at A B;cases r with
   |nil=>exact Ok.mix (show Ok (k+1) l H a.2 from A) (show Ok (k+1) L h a.2 from B)
   |cons b r=>exact⟨A.1,A.2.1,B.2.2⟩
end Tr
section
variable {E:Ev} {X0 X X':World} {R0 R R' S:Φ} {ps ps':Γ} {pg cy:Ξ} {rt rt':Δ} {M M':Nat->Option NV} {p q:Nat} {n m:NV} {sb:Nat} {sv:Value} {l:List Int}
def NV.mu (n:NV) (its:List It) (g c:Nat) (hi:List UInt8):NV:=⟨n.level,its,g,0,c,n.page,n.lo,hi,n.was,n.at_,true,true⟩
theorem SS.row (h:SS E X0 R0 R ps pg rt M X sb sv l) (hp:M p=av n) {f x:World} (z:Below X.heap.size X f) {its:List It} {g c:Nat} {hi:List UInt8} {hh:ByteArray} (s:bs hi=hh) (t:bk X.heap.size f (cx (av ⟨g,0,aK⟩) its.length c) its) (hl:its.length<=400) (B:∀i∈its,i.key.length<=200/\i.val.length<=200)
  {L:Nat} (C:L=its.length) (A:x=((f.setCell ⟨p,1,aK⟩ (cx (av ⟨g,0,aK⟩) L c)).setCell ⟨p,4,aK⟩ (cu hh)).setCell ⟨p,7,aK⟩ (ey true)):
  ∃R',SS E X0 R0 R' ps pg rt (upd M p (n.mu its g c hi)) x sb sv l/\(∀k,R k->R' k)/\(∀k,R' k->R k\/X.heap.size<=k)/\aE (fun k=>k=p) X x/\∀k,MB (upd M p (n.mu its g c hi)) k->MB M k\/X.heap.size<=k:=by
 subst C;have u:=h.still z;have a:X.heap.size<=g/\g<f.heap.size:=Own.block t g rfl;have F:=h.ts.mem.lt hp;have T:g≠p:=κ
 have N:aE (fun k=>k=p) f x:=by rw[A];exact (((aE.refl (fun k=>k=p) f).setCell _ _ fun _=>rfl).setCell _ _ fun _=>rfl).setCell _ _ fun _=>rfl
 have j:bk 0 x (cx (av ⟨g,0,aK⟩) its.length c) its:=Own.but (Own.mono t (aA _)) N fun k H e=>T (by have v:av g=av k:=H;injection v with v;rw[v,e]);have b:=jg t;have Y:=u.ts.mem.nd p n hp;have w:Nd x p (n.mu its g c hi):=by refine⟨?_,Own.lies j,⟨hl,B,b.2.1,b.2.2⟩⟩;rw[A,<-s];exact ((Y.blk.set 1 _).set 4 _).set 7 _
 have q:aE (fun k=>k=p) X x:=(aE.aF z (fun k=>k=p)).trans N fun _ _ h=>h;have o:Mem x (upd M p (n.mu its g c hi)):=h.ts.mem.renew hp _ q (fun k H=>cS H) w rfl j (dc a.1);have d:∀k,MB (upd M p (n.mu its g c hi)) k->MB M k\/k=g:=by
  rintro k ⟨r,m,hr,H⟩;rcases aO hr with⟨rfl,rfl⟩|⟨_,hr⟩
  ·rcases H with rfl|rfl;·exact cS ⟨_,n,hp,cS rfl⟩
   ·exact dc rfl
  ·exact cS ⟨r,m,hr,H⟩
 have D:X.heap.size<=X0.heap.size\/X0.heap.size<=X.heap.size:=Nat.le_total _ _;have y:TS E X0 R0 (fun k=>R k\/k=g) ps pg rt (upd M p (n.mu its g c hi)) x:=by
  refine h.ts.own q (fun k _ e=> ?_) o (fun k H=> ?_) (fun _ h=>cS h) (fun k H=> ?_);·rw[e];exact h.ts.lT p ⟨p,n,hp,cS rfl⟩
  ·rcases d k H with H|rfl;·exact⟨cS (h.ts.lT k H).1,(h.ts.lT k H).2⟩
   ·exact⟨dc rfl,aN h.ts.but.size a.1⟩
  ·rcases H with H|rfl;·exact cS H
   ·simp_all
 refine⟨fun k=>R k\/k=g,h.nodes y q (fun k e=>by rw[e];exact⟨p,n,hp,cS rfl⟩) (fun _ h=>cS h) (fun k H=> ?_),fun _ h=>cS h,fun k H=> ?_,q,fun k H=> ?_⟩
 ·rcases d k H with H|rfl;·exact cS H
  ·exact dc a.1
 ·grind
 ·rcases d k H with H|rfl;·exact cS H
  ·exact dc a.1
end
end
end Go.Proofs.YtgfdijemhanfkaaGreatDoor
