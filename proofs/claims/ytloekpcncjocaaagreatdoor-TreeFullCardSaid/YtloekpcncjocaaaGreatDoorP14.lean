/- Elder texts, cut down and merged (14). -/
import Derived.Test.YtloekpcncjocaaaGreatDoorP13
import Derived.Test.YtloekpcncjocaaaGreatDoorP8
import Derived.Test.YtloekpcncjocaaaGreatDoorP4
import Derived.Test.YtloekpcncjocaaaGreatDoorP9
import Derived.Test.YtloekpcncjocaaaGreatDoorP12
import Derived.Test.YtloekpcncjocaaaGreatDoorP5
import Derived.Test.YtloekpcncjocaaaGreatDoorP7
import Derived.Test.YtloekpcncjocaaaGreatDoorP10
import Derived.Test.YtloekpcncjocaaaGreatDoorPTk
set_option maxRecDepth 100000
set_option maxHeartbeats 8000000
namespace Go.Proofs.YtloekpcncjocaaaGreatDoor
open Go.RowKit Lib
inductive fH (M:Nat→Option NV) (pg:List (Option Wl.Text)):(k q:Nat)→(lo hi:List UInt8)→(c0:Tr.E (k+1))→(K:Nat)→(T:Tr.E (K+1))→(ps:List Nat)→(pre post:List (Tr.Tx×Tr.Tx))→(out:List Nat)→Prop
 |top {k q:Nat} {c0:Tr.E (k+1)}:fH M pg k q [] [] c0 k c0 [] [] [] []
 |up {k p q:Nat} {n:NV} {h:Tr.Hd} {A B:List (Tr.Tx×Tr.E (k+1))} {kc:Tr.Tx} {c0:Tr.E (k+1)} {K:Nat} {T:Tr.E (K+1)} {ps:List Nat} {pre post:List (Tr.Tx×Tr.Tx)} {out:List Nat} (hat:M p=some n) (dM:n.its=af (k+1) A++⟨kc,cg (k+1) c0,some q⟩::af (k+1) B) (fZ:∀x,x∈A∨x∈B→bM pg (k+1) x.2) (hown:n.own=true)
   (ko:iC pg (k+1) n (Tr.mk h (A++(kc,c0)::B))) (hidx:n.at_=A.length) (Ii:n.was=Tr.sz (k+1) (A++(kc,c0)::B)) (hfit:Tr.sz (k+1) (A++(kc,c0)::B)≤510) (hfresh:h.fresh=false) (hu:fH M pg (k+1) p n.lo n.hi (Tr.mk h (A++(kc,c0)::B)) K T ps pre post out):
   fH M pg k q (cZ n A.length) (cL n A.length) c0 K T (p::ps) (pre++Tr.bE (k+1) A) (Tr.bE (k+1) B++post) (h.page.toList++(Tr.b_ (k+1) A++Tr.b_ (k+1) B)++out)
section
variable {M M':Nat→Option NV} {pg:List (Option Wl.Text)} {k q K:Nat} {lo hi:List UInt8} {c0:Tr.E (k+1)} {T:Tr.E (K+1)} {ps:List Nat} {pre post:List (Tr.Tx×Tr.Tx)} {out:List Nat}
theorem fH.frame (h:fH M pg k q lo hi c0 K T ps pre post out) (hM:∀r∈ps,M' r=M r):fH M' pg k q lo hi c0 K T ps pre post out:=by
 induction h with
 |top=>exact .top
 |up hat dM fZ hown ko hidx Ii hfit hfresh hu ih=>exact .up (by rw[hM _ List.mem_cons_self];exact hat) dM fZ hown ko hidx Ii hfit hfresh (ih fun r hr=>hM r (List.mem_cons_of_mem _ hr))
theorem fH.level (h:fH M pg k q lo hi c0 K T ps pre post out):k+ps.length=K:=by
 induction h with
 |top=>rfl
 |up _ _ _ _ _ _ _ _ _ _ ih=>rw[List.length_cons];omega
theorem fH.dom (h:fH M pg k q lo hi c0 K T ps pre post out):∀r∈ps,∃n,M r=some n:=by
 induction h with
 |top=>intro r hr;cases hr
 |up hat _ _ _ _ _ _ _ _ _ ih=>
  intro r hr
  rcases List.mem_cons.1 hr with rfl|hr
  ·exact⟨_,hat⟩
  ·exact ih r hr
theorem fH.bE (h:fH M pg k q lo hi c0 K T ps pre post out):Tr.bE K (Tr.its T)=pre++Tr.bE k (Tr.its c0)++post:=by
 induction h with
 |top=>simp
 |up _ _ _ _ _ _ _ _ _ _ ih=>
  rw[ih,Tr.its_mk,Tr.aS,show ∀(x:Tr.Tx×Tr.E _) l,x::l=[x]++l from fun _ _=>rfl,Tr.aS,Tr.cD]
  simp only[List.append_assoc]
theorem fH.bg (h:fH M pg k q lo hi c0 K T ps pre post out):(out++Tr.bg (k+1) c0).Perm (Tr.bg (K+1) T):=by
 induction h with
 |top=>exact List.Perm.refl _
 |@up k p q n h A B kc c0 K T ps pre post out hat dM fZ hown ko hidx Ii hfit hfresh hu ih=>
  refine List.Perm.trans ?_ ih
  show (h.page.toList++(Tr.b_ (k+1) A++Tr.b_ (k+1) B)++out++Tr.bg (k+1) c0).Perm (out++(h.page.toList++Tr.b_ (k+1) (A++(kc,c0)::B)))
  rw[Tr.aT,Tr.dB]
  show (h.page.toList++(Tr.b_ (k+1) A++Tr.b_ (k+1) B)++out++Tr.bg (k+1) c0).Perm (out++(h.page.toList++(Tr.b_ (k+1) A++(Tr.bg (k+1) c0++Tr.b_ (k+1) B))))
  rw[List.perm_iff_count]
  intro a
  simp only[List.count_append]
  omega
end
section
variable {E:Ev} {X0 X X' V:World} {R0 R R':Nat→Prop} {ps:List (Nat×List UInt8)} {pg:List (Option Wl.Text)} {rt:List Nat} {M M':Nat→Option NV} {k q sb K:Nat} {sv:Value} {l0:List Int} {lo hi:List UInt8} {c0 c:Tr.E (k+1)} {T:Tr.E (K+1)} {path:List Nat} {pre post tgt:List (Tr.Tx×Tr.Tx)} {out F sp:List Nat} {d:Nat}
structure Zip (E:Ev) (X0:World) (R0 R:Nat→Prop) (ps:List (Nat×List UInt8)) (pg:List (Option Wl.Text)) (rt:List Nat) (M:Nat→Option NV) (X:World) (sb:Nat) (sv:Value) (k q:Nat) (lo hi:List UInt8) (c0 c:Tr.E (k+1)) (K:Nat) (T:Tr.E (K+1)) (path:List Nat) (pre post tgt:List (Tr.Tx×Tr.Tx)) (out F sp:List Nat) (d:Nat):Prop where
 ss:SS E X0 R0 R ps pg rt M X sb sv (ew sp)
 above:fH M pg k q lo hi c0 K T path pre post out
 vS:b8 M pg k q c F
 i_:∃m,M q=some m∧m.was=Tr.sz k (Tr.its c0)∧m.lo=lo∧m.hi=hi
 near:Tr.fJ k lo (gD hi) c
 page:(Tr.hd c).page=(Tr.hd c0).page
 old:path≠[]→Tr.Old (k+1) c
 nd:(path++F).Nodup
 bE:pre++Tr.bE k (Tr.its c)++post=tgt
 bg:(out++Tr.bg (k+1) c++sp).Perm (Tr.bg (K+1) T)
 dr:Tr.dr (k+1) c≤d+k
 few:(Tr.bg (K+1) T).length≤40000
 uP:K≤15
 quiet:d=0→Tr.dr (k+1) c=0∧Tr.sz k (Tr.its c)≤510
theorem nI {pg:List (Option Wl.Text)}:∀{k:Nat} {n:Tr.E (k+1)},bM pg (k+1) n→Tr.dr (k+1) n=0
 |0,n,h=>by
  obtain⟨⟨page,hp,_⟩,_,_⟩:=h
  rw[Tr.aV,hp]
  have:∀l:List (Tr.Tx×Tr.E 0),Tr.iA 0 l=0:=by
   intro l
   induction l with
   |nil=>rfl
   |cons x l ih=>rw[Tr.cV,ih];rfl
  rw[this];rfl
 |k+1,n,h=>by
  obtain⟨⟨page,hp,_⟩,_,hk⟩:=h
  rw[Tr.aV,hp]
  have:∀l:List (Tr.Tx×Tr.E (k+1)),(∀p∈l,bM pg (k+1) p.2)→Tr.iA (k+1) l=0:=by
   intro l
   induction l with
   |nil=>intro _;rfl
   |cons x l ih=>intro hl;rw[Tr.cV,ih (fun p hp=>hl p (List.mem_cons_of_mem _ hp)),nI (hl x List.mem_cons_self)]
  rw[this _ hk];rfl
theorem jZ {l:List (Tr.Tx×Tr.E (k+1))} (h:∀p∈l,bM pg (k+1) p.2):Tr.iA (k+1) l=0:=by
 induction l with
 |nil=>rfl
 |cons x l ih=>rw[Tr.cV,ih (fun p hp=>h p (List.mem_cons_of_mem _ hp)),nI (h x List.mem_cons_self)]
theorem Ij {p:Nat} (z:Zip E X0 R0 R ps pg rt M X sb sv k q lo hi c0 c K T (p::path) pre post tgt out F sp d):
  Calls Tryz.prog 65 #[ptr sb,ptr p,ptr q] X fun e X'=>e=.returned (.int .i64 0)∧∃R' M' cM lo' hi' c0' c' pre' post' out' F' sp',Zip E X0 R0 R' ps pg rt M' X' sb cM (k+1) p lo' hi' c0' c' K T path pre' post' tgt out' F' sp' d∧jF R M X sb sv R' M' cM X'∧(Tr.hd c').page.isSome=true:=by
 obtain⟨ss,above,vS,⟨m,i_,was,-,-⟩,near,page,old,nd,oY,tM,KZ,few,uP,quiet⟩:=z
 have ni:=above.level
 generalize S8:p::path=pp at above
 cases above with
 |top=>cases S8
 |@up _ p' _ n h A B kc _ _ _ ps' pre post out hat dM fZ hown ko hidx Ii hfit hfresh hu=>
  obtain⟨rfl,rfl⟩:=List.cons.inj S8
  have hnd:=List.nodup_cons.1 nd
  have Vr:(p::F).Nodup:=List.nodup_cons.2 ⟨fun hm=>hnd.1 (List.mem_append.2 (.inr hm)),(List.nodup_append.1 hnd.2).2.1⟩
  have ho:=old (by simp)
  have s:Slot pg M k p q n m h A B kc c0 c F:=⟨hat,dM,fZ,hown,ko,hidx,vS,i_,near,page,ho,was,hfit,hfresh,Vr⟩
  have hsp:sp.length≤40000:=by
   have:=tM.length_eq
   rw[List.length_append] at this
   omega
  rw[List.length_cons] at ni
  refine (q8 (l0:=[]) s ss (by omega) (by rw[List.length_nil];omega)).mono ?_
  rintro e X' ⟨rfl,R',M',cM,n',t',F',sp',hss,hst,Vs,⟨h1,h2,h3,h4⟩,Hw,bD,mC,lC,hnew,hsame⟩
  refine⟨rfl,R',M',cM,n.lo,n.hi,Tr.mk h (A++(kc,c0)::B),t',_,_,_,F',sp',⟨hss,hu.frame fun r hr=> ?_,Hw,⟨n',Vs,by rw[h3];exact Ii,h1,h2⟩,⟨?_,mC.row⟩,bD,fun hne=>⟨?_,fun x hx=> ?_⟩, ?_, ?_, ?_, ?_,few,uP,fun hd=> ?_⟩,hst, ?_⟩
  ·obtain⟨y,hy⟩:=hu.dom r hr
   rw[hy]
   refine hsame r y (fun hm=> ?_) hy
   rcases List.mem_cons.1 hm with rfl|hm
   ·exact hnd.1 (List.mem_append.2 (.inl hr))
   ·exact (List.nodup_append.1 hnd.2).2.2 r hr r hm rfl
  ·have hz:=mC.size
   have hb:=xW k kc c
   rw[xS (c0:=c0)] at hz
   omega
  ·obtain⟨bN,e,_⟩:=ko.held hfresh
   rw[bD]
   have e:h.page=some bN:=e
   rw[e];rfl
  ·refine mC.old (fun y hy=> ?_) x hx
   rcases List.mem_append.1 hy with hy|hy
   ·exact ij (fZ y (.inl hy))
   ·rcases List.mem_cons.1 hy with rfl|hy
    ·exact ho
    ·exact ij (fZ y (.inr hy))
  ·refine List.nodup_append.2 ⟨(List.nodup_append.1 hnd.2).1,lC,fun r hr r' hr' e=> ?_⟩
   subst e
   rcases hnew r hr' with hm|hm
   ·rcases List.mem_cons.1 hm with rfl|hm
    ·exact hnd.1 (List.mem_append.2 (.inl hr))
    ·exact (List.nodup_append.1 hnd.2).2.2 r hr r hm rfl
   ·obtain⟨y,hy⟩:=hu.dom r hr
    have:=(ss.ts.mem.lt hy).1
    omega
  ·rw[mC.bE,←oY,Tr.aS,show (kc,c)::B=[(kc,c)]++B from rfl,Tr.aS,Tr.cD]
   simp only[List.append_assoc]
  ·refine List.Perm.trans ?_ tM
   have e1:Tr.bg (k+1+1) t'=h.page.toList++Tr.b_ (k+1) (Tr.its t'):=by rw[Tr.aK,bD]
   rw[e1]
   have e2:=mC.bg
   rw[Tr.aT,Tr.dB] at e2
   rw[List.perm_iff_count] at e2 ⊢
   intro a
   have e3:=e2 a
   simp only[List.count_append] at e3 ⊢
   have e4:List.count a (Tr.bg (k+1) (kc,c).2)=List.count a (Tr.bg (k+1) c):=rfl
   omega
  ·have e1:=mC.dr
   rw[Tr.bF,Tr.cV,jZ (fun x hx=>fZ x (.inl hx)),jZ (fun x hx=>fZ x (.inr hx))] at e1
   have hb:=xW k kc c
   have hp':(Tr.hd t').page.isSome=true:=by
    obtain⟨bN,e,_⟩:=ko.held hfresh
    rw[bD]
    have e:h.page=some bN:=e
    rw[e];rfl
   rw[Tr.aV,if_pos hp']
   have e4:Tr.dr (k+1) (kc,c).2=Tr.dr (k+1) c:=rfl
   omega
  ·obtain⟨q1,q2⟩:=quiet hd
   have hb0:Tr.big k [(kc,c)]=0:=by
    unfold Tr.big
    rw[if_pos q2]
    rfl
   have hz:=mC.size
   rw[xS (c0:=c0),hb0] at hz
   have e1:=mC.dr
   rw[Tr.bF,Tr.cV,jZ (fun x hx=>fZ x (.inl hx)),jZ (fun x hx=>fZ x (.inr hx)),hb0] at e1
   have hp':(Tr.hd t').page.isSome=true:=by
    obtain⟨bN,e,_⟩:=ko.held hfresh
    rw[bD]
    have e:h.page=some bN:=e
    rw[e];rfl
   rw[Tr.aV,if_pos hp']
   have e4:Tr.dr (k+1) (kc,c).2=Tr.dr (k+1) c:=rfl
   exact⟨by omega,by omega⟩
  ·obtain⟨bN,e,_⟩:=ko.held hfresh
   rw[bD]
   have e:h.page=some bN:=e
   rw[e];rfl
end
section
variable {w:World} {p sb tb:Nat} {n:NV} {sv:Value} {l:List Int}
def N0 (w:World) (sb tb:Nat) (sv:Value) (l:List Int) (e:Ending) (w':World):Prop:=e=.returned (.tuple #[.pointer none,.int .i64 0])∧h_ w sb tb sv l (.returned (.tuple #[])) w'
theorem EM (hs:aG w sb 132 [ptr tb,sv]) (ho:eo 0 w sv l) (h:Nd w p n) (hl:l.length≤1000000) (hn:n.its=[]):
  Calls Tryz.prog 66 #[ptr sb,ptr p] w fun e w'=>N0 w sb tb sv (l++[n.page]) e w':=by
 have c1:=h.c1
 rw[hn] at c1
 have c1':w.cell? ⟨p,1,none⟩=some (.slice (some ⟨n.rg,n.ro,none⟩) 0 n.cap):=c1
 have HL:=aa (fU w sb tb p sv l n hs ho h hl)
 clear h hs ho c1
 go_enter Tryz.func66,Tryz.ntmps66
 unfold ptr at HL ⊢
 go_wp2_with fail
 refine HL.out.mono ?_
 intro e w2 h2
 have H2:=aa h2
 obtain⟨rfl,-⟩:=h2
 clear HL
 go_wp2_with fail
 go_ret2
 exact⟨rfl,H2.out⟩
theorem EN (h:Nd w p n) (hn:n.its≠[]) (h1:n.level=0∨n.its.length≠1) (hz:bz n.its≤510):
  Calls Tryz.prog 66 #[ptr sb,ptr p] w fun e w'=>e=.returned (.tuple #[ptr p,.int .i64 0])∧Below w.heap.size w w':=by
 have c0:=h.c0
 have c1:=h.c1
 have gz:(n.its.length:Int)≤400:=by have:=h.small.len;omega
 have HF:=aa (fR h)
 rw[decide_eq_true hz] at HF
 obtain⟨L,hL⟩:∃L,L=n.its.length:=⟨_,rfl⟩
 rw[←hL] at c1 gz h1
 have G3:((L:Int)==0)=false:=by rw[beq_eq_false_iff_ne];intro e;exact hn (List.length_eq_zero_iff.1 (by omega))
 clear h hn hL
 by_cases hv:n.level=0
 ·have Jx:decide ((n.level:Int)>0)=false:=decide_eq_false (by omega)
  have K0:¬(n.level:Int)>0:=by omega
  clear h1
  go_enter Tryz.func66,Tryz.ntmps66
  unfold ptr at HF ⊢
  go_wp2_with fail
  refine HF.out.mono ?_
  rintro e w2 ⟨rfl,aC⟩
  have H2:=aa aC
  clear aC HF
  go_wp2_with fail
  go_ret2
  exact⟨rfl,H2.out⟩
 ·have Jx:decide ((n.level:Int)>0)=true:=decide_eq_true (by omega)
  have K0:(n.level:Int)>0:=by omega
  have zC:((L:Int)==1)=false:=by rw[beq_eq_false_iff_ne];rcases h1 with e|e<;>omega
  clear h1
  go_enter Tryz.func66,Tryz.ntmps66
  unfold ptr at HF ⊢
  go_wp2_with fail
  refine HF.out.mono ?_
  rintro e w2 ⟨rfl,aC⟩
  have H2:=aa aC
  clear aC HF
  go_wp2_with fail
  go_ret2
  exact⟨rfl,H2.out⟩
theorem EO {Q:Value→Int→World→Prop} (hs:aG w sb 132 [ptr tb,sv]) (ho:eo 0 w sv l) (h:Nd w p n) (hl:l.length≤1000000) (hv:n.level≠0) (hn:n.its.length=1)
  (hj:∀w1,h_ w sb tb sv (l++[n.page]) (.returned (.tuple #[])) w1→Calls Tryz.prog 59 #[ptr tb,ptr p,.int .i64 (0:Nat)] w1 fun e w'=>∃(v:Value) (x:Int),e=.returned (.tuple #[v,.int .i64 x])∧Q v x w'):
  Calls Tryz.prog 66 #[ptr sb,ptr p] w fun e w'=>∃(v:Value) (x:Int),e=.returned (.tuple #[v,.int .i64 x])∧Q v x w':=by
 have c0:=h.c0
 have c1:=h.c1
 rw[hn] at c1
 have Jx:decide ((n.level:Int)>0)=true:=decide_eq_true (by omega)
 have K0:(n.level:Int)>0:=by omega
 have HL:=aa (fU w sb tb p sv l n hs ho h hl)
 have HJ:=aa hj
 clear h hs ho hl hj hn hv
 go_enter Tryz.func66,Tryz.ntmps66
 unfold ptr at HL HJ ⊢
 go_wp2_with fail
 refine HL.out.mono ?_
 intro e w2 h2
 obtain⟨rfl,cM,iU,h3⟩:=id h2
 have H2:=aa (HJ.out w2 h2)
 have s0:=iU.cell (j:=0) rfl
 unfold ptr at s0
 clear HL HJ h2 iU h3
 go_wp2_with fail
 refine H2.out.mono ?_
 rintro e w3 ⟨v,x,rfl,hQ⟩
 have H3:=aa hQ
 clear hQ
 go_wp2_with fail
 go_ret2
 exact⟨v,x,rfl,H3.out⟩
end
section
variable {X:World} {M:Nat→Option NV} {p sb:Nat} {n:NV}
def rootOf (n:NV) (p q rg H:Nat):NV:=⟨n.level+1,[⟨[],pv 0,some p⟩,⟨between n H,pv 0,some q⟩],rg,0,2,-1,[],[],0,0,true,true⟩
def Ik (X:World) (M:Nat→Option NV) (p:Nat) (n:NV) (H:Nat) (e:Ending) (X':World):Prop:=
 ∃r q rg,e=.returned (.tuple #[ptr r,.int .i64 0])∧Mem X' (upd (upd (upd M p (ec n H)) q (gK n H)) r (rootOf n p q rg H))∧X.heap.size≤q∧X.heap.size≤r∧X.heap.size≤rg∧aj (fun k=>k=p∨k=n.rg) X X'∧q<r
theorem z_ {q H:Nat} {w5:World} (h:Mem w5 (upd (upd M p (ec n H)) q (gK n H))) (hb:aj (fun k=>k=p∨k=n.rg) X w5) (hq:X.heap.size≤q) (qt:(between n H).length≤200):
  Ik X M p n H (.returned (.tuple #[ptr (w5.heap.size+1),.int .i64 0])) ((w5.alloc (.cells #[.string ⟨#[]⟩,.string (bs (pv 0)),ptr p,.string (bs (between n H)),.string (bs (pv 0)),ptr q] 95)).alloc (.cells #[.int .i64 ((n.level:Int)+1),.slice (some ⟨w5.heap.size,0,none⟩) 2 2,.int .i64 (-1),.string ⟨#[]⟩,.string ⟨#[]⟩,.int .i64 0,.int .i64 0,.bool true] 90)):=by
 have ho:=p6 w5 [⟨[],pv 0,some p⟩,⟨between n H,pv 0,some q⟩] [.string ⟨#[]⟩,.string (bs (pv 0)),ptr p,.string (bs (between n H)),.string (bs (pv 0)),ptr q] rfl (show 2≤400 by decide) (L:=2) rfl
 obtain⟨w6,No⟩:∃w6,w6=w5.alloc (.cells #[.string ⟨#[]⟩,.string (bs (pv 0)),ptr p,.string (bs (between n H)),.string (bs (pv 0)),ptr q] 95):=⟨_,rfl⟩
 have hs6:w6.heap.size=w5.heap.size+1:=by rw[No,World.size_alloc]
 have ho6:aD w5.heap.size w6 (.slice (some ⟨w5.heap.size,0,none⟩) 2 2) [⟨[],pv 0,some p⟩,⟨between n H,pv 0,some q⟩]:=by rw[No];exact ho
 have qZ:Below w5.heap.size w5 w6:=by rw[No];exact (Below.refl _ w5).alloc (Nat.le_refl _) _
 rw[←No,←hs6]
 have eO:=ho6.alloc (.cells #[.int .i64 ((n.level:Int)+1),.slice (some ⟨w5.heap.size,0,none⟩) 2 2,.int .i64 (-1),.string ⟨#[]⟩,.string ⟨#[]⟩,.int .i64 0,.int .i64 0,.bool true] 90)
 have fG:=qZ.alloc (show w5.heap.size≤w6.heap.size by omega) (.cells #[.int .i64 ((n.level:Int)+1),.slice (some ⟨w5.heap.size,0,none⟩) 2 2,.int .i64 (-1),.string ⟨#[]⟩,.string ⟨#[]⟩,.int .i64 0,.int .i64 0,.bool true] 90)
 have Ri:=aG.new w6 #[.int .i64 ((n.level:Int)+1),.slice (some ⟨w5.heap.size,0,none⟩) 2 2,.int .i64 (-1),.string ⟨#[]⟩,.string ⟨#[]⟩,.int .i64 0,.int .i64 0,.bool true] 90
 have hpv:(pv 0).length≤200:=by decide
 refine⟨_,q,w5.heap.size,rfl,h.add fG (by omega) (Nat.le_refl _) ⟨?_,Own.lies eO,⟨show 2≤400 by decide, ?_,show 2≤2∧2≤maxLen from⟨Nat.le_refl _,by unfold maxLen;omega⟩⟩⟩ ⟨rfl,Own.mono eO (Nat.zero_le _)⟩,hq, ?_,hb.size,hb.trans (aj.aq fG (fun _=>False)) (fun _ _ h=>h.elim),by have:=(h.lt (p:=q) (n:=gK n H) (aM _ _ _)).1;omega⟩
 ·exact Ri
 ·intro i hi
  have:i=⟨[],pv 0,some p⟩∨i=⟨between n H,pv 0,some q⟩:=by
   rcases List.mem_cons.1 hi with e|hi
   ·exact .inl e
   ·exact .inr (List.mem_singleton.1 hi)
  rcases this with rfl|rfl
  ·exact⟨Nat.zero_le _,hpv⟩
  ·exact⟨qt,hpv⟩
 ·have:=hb.size;omega
theorem Ca (h:Mem X M) (hp:M p=some n) (H:Nat) (hH:H=dm (bz n.its) 0 n.its) (h0:0<H) (hk:n.level=0→Tr.lt ((n.its.map It.key).getD (H-1) []) ((n.its.map It.key).getD H [])=true) (hz:¬bz n.its≤510) (hlv:n.level<15) (qt:(between n H).length≤200):
  Calls Tryz.prog 66 #[ptr sb,ptr p] X fun e X'=>Ik X M p n H e X':=by
 have hne:n.its≠[]:=by rintro e;rw[e] at hz;exact hz (by decide)
 have hlt:H<n.its.length:=by rw[hH];exact l9 _ _ _ hne
 have hnd:=h.nd p n hp
 have c0:=hnd.c0
 have c1:=hnd.c1
 have gz:(n.its.length:Int)≤400:=by have:=hnd.small.len;omega
 have HF:=aa (fR hnd)
 rw[decide_eq_false hz] at HF
 obtain⟨L,hL⟩:∃L,L=n.its.length:=⟨_,rfl⟩
 rw[←hL] at c1 gz hlt
 have G3:((L:Int)==0)=false:=by rw[beq_eq_false_iff_ne];omega
 have zC:((L:Int)==1)=false:=by rw[beq_eq_false_iff_ne];omega
 have aaB:((n.level:Int)==15)=false:=by rw[beq_eq_false_iff_ne];omega
 have y8:(n.level:Int)≤15:=by omega
 have HI:=aa (And.intro h (And.intro hp (And.intro hH (And.intro h0 (And.intro hk qt)))))
 obtain⟨b,hb⟩:∃b,b=decide ((n.level:Int)>0):=⟨_,rfl⟩
 clear h hp hH h0 hk hz hne hlt hL qt
 have Vt:b=true∨b=false:=by cases b<;>simp
 rcases Vt with rfl|rfl
 ·have Jx:decide ((n.level:Int)>0)=true:=hb.symm
  have K0:(n.level:Int)>0:=of_decide_eq_true Jx
  clear hb
  go_enter Tryz.func66,Tryz.ntmps66
  unfold ptr at HF ⊢
  go_wp2_with fail
  refine HF.out.mono ?_
  rintro e w2 ⟨rfl,aC⟩
  have HS:=aa (nw (HI.out.1.still aC) HI.out.2.1 H HI.out.2.2.1 HI.out.2.2.2.1 HI.out.2.2.2.2.1)
  have d0:=(hnd.still aC).c0
  have H2:=aa (show Below X.heap.size X w2 from aC)
  clear aC HF c0 c1
  unfold ptr at HS
  go_wp2_with fail
  refine HS.out.mono ?_
  rintro e w3 ⟨q,rfl,AQ,Mh,cC⟩
  have H3:=aa (show Mem w3 (upd (upd M p (ec n H)) q (gK n H))∧X.heap.size≤q∧aj (fun k=>k=p∨k=n.rg) X w3 from⟨AQ,Nat.le_trans H2.out.size Mh,(aj.aq H2.out _).trans cC fun _ _ h=>h⟩)
  have N1:=aa (ia w3 ⟨#[]⟩ p)
  have kT:=aa (fun W=>ia W (bs (between n H)) q)
  clear HS AQ Mh cC d0
  unfold ptr at N1 kT ⊢
  go_wp2_with fail
  refine N1.out.mono ?_
  rintro e w4 ⟨rfl,hb4⟩
  have H4:=aa hb4
  clear hb4 N1
  go_wp2_with fail
  refine (kT.out w4).mono ?_
  rintro e w5 ⟨rfl,cH⟩
  have Cb:Below w3.heap.size w3 w5:=H4.out.trans (cH.mono H4.out.size)
  have H5:=aa (show Mem w5 (upd (upd M p (ec n H)) q (gK n H))∧aj (fun k=>k=p∨k=n.rg) X w5 from⟨H3.out.1.still Cb,H3.out.2.2.trans (aj.aq Cb (fun _=>False)) fun _ _ h=>h.elim⟩)
  have hpq:p≠q:=by have:=(HI.out.1.lt HI.out.2.1).1;have:=H3.out.2.1;omega
  have d0:w5.cell? ⟨p,0,none⟩=some (.int .i64 n.level):=(H5.out.1.nd p (ec n H) ((aA hpq).trans (aM _ _ _))).c0
  have bY:p<w5.heap.size:=(H5.out.1.nd p (ec n H) ((aA hpq).trans (aM _ _ _))).blk.lt
  have HE:=aa (z_ H5.out.1 H5.out.2 H3.out.2.1 HI.out.2.2.2.2.2)
  unfold ptr at HE
  clear cH Cb kT hpq
  go_wp2_with fail
  go_ret2
  exact HE.out
 ·have Jx:decide ((n.level:Int)>0)=false:=hb.symm
  have K0:¬(n.level:Int)>0:=of_decide_eq_false Jx
  clear hb
  go_enter Tryz.func66,Tryz.ntmps66
  unfold ptr at HF ⊢
  go_wp2_with fail
  refine HF.out.mono ?_
  rintro e w2 ⟨rfl,aC⟩
  have HS:=aa (nw (HI.out.1.still aC) HI.out.2.1 H HI.out.2.2.1 HI.out.2.2.2.1 HI.out.2.2.2.2.1)
  have d0:=(hnd.still aC).c0
  have H2:=aa (show Below X.heap.size X w2 from aC)
  clear aC HF c0 c1
  unfold ptr at HS
  go_wp2_with fail
  refine HS.out.mono ?_
  rintro e w3 ⟨q,rfl,AQ,Mh,cC⟩
  have H3:=aa (show Mem w3 (upd (upd M p (ec n H)) q (gK n H))∧X.heap.size≤q∧aj (fun k=>k=p∨k=n.rg) X w3 from⟨AQ,Nat.le_trans H2.out.size Mh,(aj.aq H2.out _).trans cC fun _ _ h=>h⟩)
  have N1:=aa (ia w3 ⟨#[]⟩ p)
  have kT:=aa (fun W=>ia W (bs (between n H)) q)
  clear HS AQ Mh cC d0
  unfold ptr at N1 kT ⊢
  go_wp2_with fail
  refine N1.out.mono ?_
  rintro e w4 ⟨rfl,hb4⟩
  have H4:=aa hb4
  clear hb4 N1
  go_wp2_with fail
  refine (kT.out w4).mono ?_
  rintro e w5 ⟨rfl,cH⟩
  have Cb:Below w3.heap.size w3 w5:=H4.out.trans (cH.mono H4.out.size)
  have H5:=aa (show Mem w5 (upd (upd M p (ec n H)) q (gK n H))∧aj (fun k=>k=p∨k=n.rg) X w5 from⟨H3.out.1.still Cb,H3.out.2.2.trans (aj.aq Cb (fun _=>False)) fun _ _ h=>h.elim⟩)
  have hpq:p≠q:=by have:=(HI.out.1.lt HI.out.2.1).1;have:=H3.out.2.1;omega
  have d0:w5.cell? ⟨p,0,none⟩=some (.int .i64 n.level):=(H5.out.1.nd p (ec n H) ((aA hpq).trans (aM _ _ _))).c0
  have bY:p<w5.heap.size:=(H5.out.1.nd p (ec n H) ((aA hpq).trans (aM _ _ _))).blk.lt
  have HE:=aa (z_ H5.out.1 H5.out.2 H3.out.2.1 HI.out.2.2.2.2.2)
  unfold ptr at HE
  clear cH Cb kT hpq
  go_wp2_with fail
  go_ret2
  exact HE.out
end
section
variable {E:Ev} {X0 X X' V:World} {R0 R R':Nat→Prop} {ps:List (Nat×List UInt8)} {pg:List (Option Wl.Text)} {rt:List Nat} {M M':Nat→Option NV} {k q sb:Nat} {sv:Value} {c:Tr.E (k+1)} {F sp:List Nat} {m:NV}
def Dc (E:Ev) (X0:World) (R0:Nat→Prop) (ps:List (Nat×List UInt8)) (pg:List (Option Wl.Text)) (rt:List Nat) (sb k:Nat) (c:Tr.E (k+1)) (sp:List Nat) (v:Value) (X':World):Prop:=
 ∃R' M' cM sp',SS E X0 R0 R' ps pg rt M' X' sb cM (ew sp')∧((v=.pointer none∧Tr.its c=[]∧sp'=sp++(Tr.hd c).page.toList)∨
  ∃(r k':Nat) (c':Tr.E (k'+1)) (F':List Nat),v=ptr r∧b8 M' pg k' r c' F'∧F'.Nodup∧Tr.Ok (k'+1) [] none c'∧k'≤15∧Tr.bE k' (Tr.its c')=Tr.bE k (Tr.its c)∧(Tr.bg (k'+1) c'++sp').Perm (Tr.bg (k+1) c++sp)∧Tr.dr (k'+1) c'≤Tr.dr (k+1) c+2∧(Tr.sz k (Tr.its c)≤510→Tr.dr (k'+1) c'≤Tr.dr (k+1) c))
theorem K1 {low up:Tr.E (k+1)} {key:Tr.Tx} (h1:Tr.Ok (k+1) [] (some key) low) (h2:Tr.Ok (k+1) key none up) (hl:key.length≤96) (hc:Tr.cut (k+1) low key up):Tr.Ok (k+2) [] none (Tr.mk ⟨none,true⟩ [([],low),(key,up)]):=by
 refine⟨by simp, ?_, ?_, ?_⟩
 ·show 2+0+2+(2+key.length+2+0)≤510
  omega
 ·intro p hp
  cases hp
  rfl
 ·show Tr.bT (Tr.Ok (k+1)) (Tr.cut (k+1)) none [([],low),(key,up)]
  exact⟨h1,⟨h1.lt,hl,hc⟩,h2⟩
theorem Aa (h:SS E X0 R0 R ps pg rt M X sb sv (ew sp)) (hr:b8 M pg k q c F) (hm:M q=some m) (hF:F.Nodup) (hn:Tr.fJ k [] none c) (hlo:m.lo=[]∧m.hi=[]) (hp:(Tr.hd c).page.isSome=true∨(k=0∧Tr.its c≠[])) (hk:k≤15) (hsp:510<Tr.sz k (Tr.its c)→k<15) (hl:sp.length≤100000):
  Calls Tryz.prog 66 #[ptr sb,ptr q] X fun e X'=>∃v,e=.returned (.tuple #[v,.int .i64 0])∧Dc E X0 R0 ps pg rt sb k c sp v X':=by
 have hnd:=h.ts.mem.nd q m hm
 have hz:=hr.sz hm
 obtain⟨m',hm',ho,Ys⟩:=hr.head
 rw[hm] at hm'
 cases hm'
 have EP:(ew sp).length≤1000000:=by unfold ew;rw[List.length_map];omega
 by_cases h0:Tr.its c=[]
 ·have hm0:m.its=[]:=List.length_eq_zero_iff.1 (by rw[hz.2.2,h0];rfl)
  refine (EM h.blk h.sp hnd EP hm0).mono ?_
  rintro e X' ⟨rfl,hlf⟩
  have hps:=hp.resolve_right (fun hne=>hne.2 h0)
  obtain⟨cM,R',s',h1,h2,h3,h4⟩:=h.left hlf
  rw[ho.page,fY hps] at s'
  exact⟨_,rfl,R',M,cM,sp++(Tr.hd c).page.toList,by unfold ew at s' ⊢;rw[List.map_append];exact s',.inl ⟨rfl,h0,rfl⟩⟩
 ·have Vu:m.its≠[]:=fun e=>h0 (List.length_eq_zero_iff.1 (by rw[←hz.2.2,e];rfl))
  by_cases h1:0<k∧m.its.length=1
  ·obtain⟨mK,kg⟩:=h1
   match k,c,hr,hn,hp,hsp,hz,ho,h0,hk,mK with
   |k+1,c,hr,hn,hp,hsp,hz,ho,h0,hk,_=>
    obtain⟨m',fs,hm',ho',hks,rfl⟩:=hr
    rw[hm] at hm'
    cases hm'
    obtain⟨i,hi⟩:∃i,m.its=[i]:=List.length_eq_one_iff.1 kg
    obtain⟨x,hx⟩:∃x,Tr.its c=[x]:=List.length_eq_one_iff.1 (by rw[←hz.2.2];exact kg)
    have aaC:=hks
    rw[hi,hx] at hks
    obtain⟨i',O1,f,fs',e1,rfl,ki,oV⟩:=hks.cons_inv
    obtain⟨rfl,rfl⟩:=List.cons.inj e1
    obtain⟨-,rfl⟩:=oV.rI
    rw[show [f].flatten=f by simp] at hF
    have hps:(Tr.hd c).page.isSome=true:=hp.resolve_right (fun hne=>absurd hne.1 (Nat.succ_ne_zero k))
    have gF:Tr.Ok (k+1) [] none x.2:=by
     obtain⟨_,_,ER⟩:=hn
     rw[Tr.b7,hx] at ER
     exact ER
    have mA:cZ m 0=[]∧gD (cL m 0)=none:=by
     refine⟨by unfold cZ;rw[if_pos rfl];exact hlo.1, ?_⟩
     unfold cL
     rw[if_neg (by rw[hi];simp),hlo.2]
     rfl
    refine (EO (sb:=sb) (tb:=E.tb) (Q:=fun v x' X'=>x'=0∧Dc E X0 R0 ps pg rt sb (k+1) c sp v X') h.blk h.sp hnd EP (by rw[ho.level];omega) kg (fun w1 hlf=> ?_)).mono ?_
    ·obtain⟨cM,R',s',g1,g2,g3,g4⟩:=h.left hlf
     have hk1:gE pg k (b8 M pg k) i (x.1,x.2) f:=ki
     refine (vV (I1:=[]) (I2:=[]) (key:=x.1) s'.ts (Below.refl _ _) hm ho.level hi hk1 (fun _=>by rw[show ([]:List It).length=0 from rfl,mA.1,mA.2];exact gF) (List.nodup_cons.1 hF).1 (List.nodup_cons.1 hF).2 (by omega) rfl).mono ?_
     rintro e X' ⟨q',M',R2,fq,rfl,b⟩
     have uy:∀b,b=m.rg→MB M b:=fun b e=>⟨q,m,hm,.inr e⟩
     have hss:=s'.nodes b.ts b.but uy b.sub b.mb
     rw[ho.page] at hss
     ·rw[fY hps] at hss
      refine⟨_,0,rfl,rfl,R2,M',cM,sp++(Tr.hd c).page.toList,by unfold ew at hss ⊢;rw[List.map_append];exact hss,.inr ⟨q',k,x.2,fq,rfl,b.vS,b.nd,gF,by omega, ?_, ?_, ?_⟩⟩
      ·rw[hx,Tr.cD]
      ·rw[Tr.aK (k+1) c,hx,Tr.eE,List.perm_iff_count]
       intro a
       simp only[List.count_append]
       omega
      ·rw[Tr.aV (k+1) c,hx,Tr.fA];exact⟨by omega,fun _=>by omega⟩
    ·rintro e X' ⟨v,x',rfl,rfl,ht⟩
     exact⟨v,rfl,ht⟩
  ·by_cases hs:Tr.sz k (Tr.its c)≤510
   ·refine (EN (sb:=sb) hnd Vu (by rw[ho.level];omega) (by rw[hz.1];exact hs)).mono ?_
    rintro e X' ⟨rfl,hb⟩
    exact⟨_,rfl,R,M,sv,sp,h.still hb,.inr ⟨q,k,c,F,rfl,hr,hF,hn.ok h0 hs,hk,rfl,List.Perm.refl _,Nat.le_add_right _ _,fun _=>Nat.le_refl _⟩⟩
   ·obtain⟨H,hH⟩:∃H,H=dm (bz m.its) 0 m.its:=⟨_,rfl⟩
    have cH:510<Tr.sz k (Tr.its c):=by omega
    obtain⟨g0,gk0⟩:=zL hr hm cH hH
    have P:=Tr.lV k hn cH
    have Vv:between m H=(Tr.part k c).key:=(td (q:=X.heap.size) hr hm hF (fun hh=>by obtain⟨y,hy⟩:=hr.dom _ hh;have:=(h.ts.mem.lt hy).1;omega) cH hH rfl).1
    refine (Ca (sb:=sb) h.ts.mem hm H hH g0 gk0 (by rw[hz.1];exact hs) (by rw[ho.level];exact hsp cH) (by rw[Vv];have:=P.len;omega)).mono ?_
    rintro e X' ⟨r,q',rg,rfl,hmem,jo,hr',Vw,ig,Sz⟩
    obtain⟨M1,hM1⟩:∃M1,M1=upd (upd M q (ec m H)) q' (gK m H):=⟨_,rfl⟩
    rw[←hM1] at hmem
    have Q4:q'∉F:=fun hh=>by obtain⟨y,hy⟩:=hr.dom q' hh;have:=(h.ts.mem.lt hy).1;omega
    obtain⟨uA,F1,F2,r1,r2,gG,Vx⟩:=td hr hm hF Q4 cH hH hM1
    have Da:=(h.ts.mem.lt hm).1
    have Pw:∀x∈F1++F2,x≠r:=fun x hx e=>by
     rcases Vx x hx with h3|h3
     ·obtain⟨y,hy⟩:=hr.dom x h3
      have:=(h.ts.mem.lt hy).1
      omega
     ·omega
    obtain⟨M2,hM2⟩:∃M2,M2=upd M1 r (rootOf m q q' rg H):=⟨_,rfl⟩
    rw[←hM2] at hmem
    have f1:b8 M2 pg k q (Tr.part k c).low F1:=r1.frame fun x hx=>by rw[hM2,aA (Pw x (List.mem_append.2 (.inl hx)))]
    have f2:b8 M2 pg k q' (Tr.part k c).up F2:=r2.frame fun x hx=>by rw[hM2,aA (Pw x (List.mem_append.2 (.inr hx)))]
    have hmb:∀b,MB M2 b→MB M b∨b=q'∨b=r∨b=rg:=by
     rintro b ⟨x,y,hx,hb⟩
     rw[hM2] at hx
     rcases ak hx with⟨rfl,rfl⟩|⟨_,hx⟩
     ·rcases hb with rfl|rfl
      ·exact .inr (.inr (.inl rfl))
      ·exact .inr (.inr (.inr rfl))
     ·rw[hM1] at hx
      rcases ak hx with⟨rfl,rfl⟩|⟨_,hx⟩
      ·rcases hb with rfl|rfl
       ·exact .inr (.inl rfl)
       ·exact .inl ⟨q,m,hm,.inr rfl⟩
      ·rcases ak hx with⟨rfl,rfl⟩|⟨_,hx⟩
       ·exact .inl ⟨_,m,hm,hb⟩
       ·exact .inl ⟨x,y,hx,hb⟩
    have O6:∀b,(b=q∨b=m.rg)→MB M b:=fun b hb=>⟨q,m,hm,hb⟩
    have hrl:=(hmem.lt (p:=r) (n:=rootOf m q q' rg H) (by rw[hM2,aM]))
    have Vy:rg<X'.heap.size:=hrl.2
    have hnew:∀b,(b=q'∨b=r∨b=rg)→X.heap.size≤b∧b<X'.heap.size:=by
     rintro b (rfl|rfl|rfl)
     ·exact⟨jo,by have:=hrl.1;omega⟩
     ·exact⟨hr',hrl.1⟩
     ·exact⟨Vw,Vy⟩
    have hts:TS E X0 R0 (fun b=>R b∨b=q'∨b=r∨b=rg) ps pg rt M2 X':=h.ts.own ig (fun b _ hb=>h.ts.gM b (O6 b hb)) hmem (fun b hb=>by
     rcases hmb b hb with hb|hb
     ·exact⟨.inl (h.ts.gM b hb).1,(h.ts.gM b hb).2⟩
     ·exact⟨.inr hb,Nat.le_trans h.ts.but.size (hnew b hb).1⟩) (fun _ h=>.inl h) (fun b hb=>hb.imp_right fun hb=>hnew b hb)
    have hss:=h.nodes hts ig O6 (fun _ h=>.inl h) (fun b hb=>(hmb b hb).imp_right fun hb=>(hnew b hb).1)
    have Rj:=K1 P.low P.up P.len P.cut
    refine⟨_,rfl,_,M2,sv,sp,hss,.inr ⟨r,k+1,Tr.mk ⟨none,true⟩ [([],(Tr.part k c).low),((Tr.part k c).key,(Tr.part k c).up)],r::[F1,F2].flatten,rfl,⟨rootOf m q q' rg H,[F1,F2],by rw[hM2,aM],⟨?_,rfl,rfl, ?_,fun e=>(by cases e)⟩, ?_,rfl⟩, ?_,Rj,by have:=hsp cH;omega, ?_, ?_, ?_⟩⟩
    ·show m.level+1=k+1
     rw[ho.level]
    ·exact Rj.near
    ·exact⟨⟨rfl,rfl,.inr ⟨q,rfl,f1⟩⟩,⟨uA,rfl,.inr ⟨q',rfl,f2⟩⟩,trivial⟩
    ·rw[show [F1,F2].flatten=F1++F2 by simp]
     exact List.nodup_cons.2 ⟨fun hm=>Pw r hm rfl,gG⟩
    ·rw[Tr.its_mk,show [([],(Tr.part k c).low),((Tr.part k c).key,(Tr.part k c).up)]=[([],(Tr.part k c).low)]++[((Tr.part k c).key,(Tr.part k c).up)] from rfl,Tr.aS,Tr.cD,Tr.cD]
     exact P.bE
    ·rw[Tr.aK (k+1),Tr.hd_mk,Tr.its_mk,Tr.dB,Tr.eE,←P.bg]
     exact List.Perm.refl _
    ·rw[Tr.aV (k+1),Tr.hd_mk,Tr.its_mk,Tr.cV,Tr.fA]
     have:=P.dr
     refine⟨?_,fun hq=>absurd hq (by omega)⟩
     show 1+_≤_
     dsimp only
     omega
end
structure Vz (sb tb rb:Nat) (place:Int) (Fr:Nat→Option Addr→Nat→Nat→World→Prop) (G:Int→World→Prop):Prop where
 free:∀num a L i X,Fr num a L i X→i<L→X.cell? ⟨sb,0,none⟩=some (.pointer (some ⟨tb,0,none⟩))∧X.cell? ⟨tb,0,none⟩=some (.pointer (some ⟨rb,0,none⟩))∧∃g o x,a=some ⟨g,o,none⟩∧X.cell? ⟨g,o+i,none⟩=some (.int .i64 x)∧Calls Tryz.prog 106 #[ptr rb,.int .i64 x] X fun e X'=>e=.returned (.int .i64 0)∧Fr num a L (i+1) X'
 root:∀num a L X,Fr num a L L X→X.cell? ⟨sb,0,none⟩=some (.pointer (some ⟨tb,0,none⟩))∧X.cell? ⟨tb,0,none⟩=some (.pointer (some ⟨rb,0,none⟩))∧X.cell? ⟨tb,1,none⟩=some (.int .i64 place)∧Calls Tryz.prog 90 #[ptr rb,.int .i64 place] X.drew fun e X'=>∃before:Nat,e=.returned (.tuple #[.int .u64 before,.int .i64 0])∧
  X'.cell? ⟨sb,0,none⟩=some (.pointer (some ⟨tb,0,none⟩))∧X'.cell? ⟨tb,0,none⟩=some (.pointer (some ⟨rb,0,none⟩))∧X'.cell? ⟨tb,1,none⟩=some (.int .i64 place)∧(before=num→G 0 X')∧
  (before≠num→Calls Tryz.prog 107 #[ptr rb,.int .i64 place,.int .u64 num] X'.drew fun e eu=>e=.returned (.int .i64 0)∧eu.cell? ⟨sb,0,none⟩=some (.pointer (some ⟨tb,0,none⟩))∧eu.cell? ⟨tb,0,none⟩=some (.pointer (some ⟨rb,0,none⟩))∧eu.cell? ⟨tb,1,none⟩=some (.int .i64 place)∧G 0 eu)
section
variable {w:World} {sb tb rb:Nat}
theorem Cc {place:Int} {Fr:Nat→Option Addr→Nat→Nat→World→Prop} {G:Int→World→Prop} {a:Option Addr} {L c:Nat} (hW:Vz sb tb rb place Fr G) (c1:w.cell? ⟨sb,1,none⟩=some (.slice a L c)) (hL:L≤70000) (Qf:L≤c) (hF:Fr 0 a L 0 w):
  Calls Tryz.prog 68 #[ptr sb,.pointer none] w fun e w'=>∃c:Int,e=.returned (.int .i64 c)∧G c w':=by
 have HW:=aa hW
 obtain⟨num,Ab⟩:∃num,num=0:=⟨_,rfl⟩
 have S9:=aa (show Fr num a L 0 w by rw[Ab];exact hF)
 have HN:=aa Ab
 have C4:(L:Int)≤70000:=by omega
 have vB:(L:Int)≤c:=by omega
 clear hW hL hF Ab Qf
 unfold ptr at HW ⊢
 go_enter Tryz.func68,Tryz.ntmps68
 go_wp2_with fail
 have hz:Value.int .u64 0=Value.int .u64 ((num:Nat):Int):=by rw[HN.out];rfl
 rw[hz]
 clear hz
 go_loopw [8,9,31] (fun _ _ iv wr=>∃i:Nat,i≤L∧iv=.int .i64 i∧Hid (Fr num a L i wr)) (fun _ _ iv _=>L-(RowKit.intOf iv).toNat)
 case atStart=>exact⟨0,Nat.zero_le _,rfl,S9⟩
 case round=>
  obtain⟨i,hi,rfl,hF⟩:=hrel
  by_cases hlt:i<L
  ·have hI:(i:Int)<L:=by omega
   obtain⟨s0,t0,g,o,x,rfl,gx,bJ⟩:=HW.out.free _ _ _ _ _ hF.out hlt
   have HC:=aa bJ
   clear bJ
   go_wp2_with fail
   refine HC.out.mono ?_
   rintro e w5 ⟨rfl,Rk⟩
   have VA:=aa Rk
   clear Rk gx s0 t0
   go_wp2_with fail
   go_roundw
   case rel=>exact⟨i+1,hlt,by go_num,VA⟩
   case measure=>simp[RowKit.intOf];omega
  ·obtain rfl:i=L:=by omega
   have hI:¬(i:Int)<i:=by omega
   obtain⟨s0,t0,t1,hroot⟩:=HW.out.root _ _ _ _ hF.out
   have VB:=aa hroot
   clear hroot
   go_wp2_with fail
   go_wp2_with (refine wp_region_held_drew (S:=(fun X=>X.cell? ⟨sb,0,none⟩=some (.pointer (some ⟨tb,0,none⟩))∧X.cell? ⟨tb,0,none⟩=some (.pointer (some ⟨rb,0,none⟩))∧X.cell? ⟨tb,1,none⟩=some (.int .i64 place))) (by kernel_rfl) ?_ (fun aE=> ?_);focus skip;rotate_left;refine Hid.out ?_)
   refine aa ?_
   ·first|trivial|exact⟨s0,t0,t1⟩
   refine aF 0 aE ?_
   refine aF 1 aE ?_
   refine aF 2 aE ?_
   refine aF 3 aE ?_
   refine aF 4 aE ?_
   refine aF 5 aE ?_
   refine aF 6 aE ?_
   refine aF 7 aE ?_
   refine aF 8 aE ?_
   refine aF 9 aE ?_
   refine aF 10 aE ?_
   refine aF 11 aE ?_
   refine aF 12 aE ?_
   refine aF 13 aE ?_
   try simp only[Act.put,List.setIfInBounds_toArray,List.set_cons_succ,List.set_cons_zero]
   refine j7 [14] (j8 fun K hK=> ?_)
   go_simp
   refine VB.out.mono ?_
   rintro e w6 ⟨before,rfl,s0',t0',t1',Rl,Rn⟩
   have JF:=aa (And.intro Rl Rn)
   refine hK.out _ _ ⟨s0',t0',t1'⟩ (fun aE=> ?_);clear hK K Rl Rn
   refine aF 15 aE ?_
   refine aF 16 aE ?_
   refine aF 17 aE ?_
   refine aF 18 aE ?_
   refine aF 19 aE ?_
   refine wpAnyH_done (by kernel_rfl) ?_ _
   try simp only[Act.put,List.setIfInBounds_toArray,List.set_cons_succ,List.set_cons_zero]
   by_cases Il:before=num
   ·subst Il
    have VC:((before:Int)==before)=true:=by simp
    have HG:=aa (JF.out.1 rfl)
    go_wp2_with fail
    go_ret
    exact⟨0,rfl,HG.out⟩
   ·have VC:((before:Int)==num)=false:=by rw[beq_eq_false_iff_ne];omega
    have ES:=aa (JF.out.2 Il)
    go_wp2_with fail
    go_wp2_with (refine wp_region_held_drew (S:=(fun X=>X.cell? ⟨sb,0,none⟩=some (.pointer (some ⟨tb,0,none⟩))∧X.cell? ⟨tb,0,none⟩=some (.pointer (some ⟨rb,0,none⟩))∧X.cell? ⟨tb,1,none⟩=some (.int .i64 place))) (by kernel_rfl) ?_ (fun aE=> ?_);focus skip;rotate_left;refine Hid.out ?_)
    refine aa ?_
    ·first|trivial|exact⟨s0',t0',t1'⟩
    refine aF 0 aE ?_
    refine aF 1 aE ?_
    refine aF 2 aE ?_
    refine aF 3 aE ?_
    refine aF 4 aE ?_
    refine aF 5 aE ?_
    refine aF 6 aE ?_
    refine aF 7 aE ?_
    refine aF 8 aE ?_
    refine aF 9 aE ?_
    refine aF 10 aE ?_
    refine aF 11 aE ?_
    refine aF 12 aE ?_
    refine aF 13 aE ?_
    refine aF 14 aE ?_
    try simp only[Act.put,List.setIfInBounds_toArray,List.set_cons_succ,List.set_cons_zero]
    refine j7 [15] (j8 fun K hK=> ?_)
    go_simp
    refine ES.out.mono ?_
    rintro e w7 ⟨rfl,s0',t0',t1',hG⟩
    have HG:=aa hG
    refine hK.out _ _ ⟨s0',t0',t1'⟩ (fun aE=> ?_);clear hK K hG
    refine aF 16 aE ?_
    refine wpAnyH_done (by kernel_rfl) ?_ _
    try simp only[Act.put,List.setIfInBounds_toArray,List.set_cons_succ,List.set_cons_zero]
    go_wp2_with fail
    go_ret
    exact⟨0,rfl,HG.out⟩
theorem Cd {place:Int} {Fr:Nat→Option Addr→Nat→Nat→World→Prop} {G:Int→World→Prop} {r:Nat} (hW:Vz sb tb rb place Fr G)
  (hC:Calls Tryz.prog 105 #[ptr sb,ptr r] w fun e X'=>(∃page:Nat,e=.returned (.int .i64 0)∧X'.cell? ⟨r,2,none⟩=some (.int .i64 page)∧page<65536∧∃a L c,X'.cell? ⟨sb,1,none⟩=some (.slice a L c)∧L≤70000∧L≤c∧Fr (page+1) a L 0 X')∨(∃c:Int,e=.returned (.int .i64 c)∧c≠0∧G c X')):
  Calls Tryz.prog 68 #[ptr sb,ptr r] w fun e w'=>∃c:Int,e=.returned (.int .i64 c)∧G c w':=by
 have HW:=aa hW
 have Nz:=aa hC
 clear hW hC
 unfold ptr at HW Nz ⊢
 go_enter Tryz.func68,Tryz.ntmps68
 go_wp2_with fail
 refine Nz.out.mono ?_
 rintro e w3 (⟨page,rfl,r2,ku,a,L,c,c1,hL,Qf,hF⟩|⟨c,rfl,hc,hG⟩)
 ·have S9:=aa hF
  have C4:(L:Int)≤70000:=by omega
  have vB:(L:Int)≤c:=by omega
  have OS:(page:Int)<65536:=by omega
  obtain⟨num,Ab⟩:∃num,num=page+1:=⟨_,rfl⟩
  rw[←Ab] at S9
  have LX:(page:Int)+1=((num:Nat):Int):=by omega
  clear hF hL Qf Ab
  go_wp2_with fail
  clear r2 OS ku LX
  go_loopw [8,9,31] (fun _ _ iv wr=>∃i:Nat,i≤L∧iv=.int .i64 i∧Hid (Fr num a L i wr)) (fun _ _ iv _=>L-(RowKit.intOf iv).toNat)
  case atStart=>exact⟨0,Nat.zero_le _,rfl,S9⟩
  case round=>
   obtain⟨i,hi,rfl,hF⟩:=hrel
   by_cases hlt:i<L
   ·have hI:(i:Int)<L:=by omega
    obtain⟨s0,t0,g,o,x,rfl,gx,bJ⟩:=HW.out.free _ _ _ _ _ hF.out hlt
    have HC:=aa bJ
    clear bJ
    go_wp2_with fail
    refine HC.out.mono ?_
    rintro e w5 ⟨rfl,Rk⟩
    have VA:=aa Rk
    clear Rk gx s0 t0
    go_wp2_with fail
    go_roundw
    case rel=>exact⟨i+1,hlt,by go_num,VA⟩
    case measure=>simp[RowKit.intOf];omega
   ·obtain rfl:i=L:=by omega
    have hI:¬(i:Int)<i:=by omega
    obtain⟨s0,t0,t1,hroot⟩:=HW.out.root _ _ _ _ hF.out
    have VB:=aa hroot
    clear hroot
    go_wp2_with fail
    go_wp2_with (refine wp_region_held_drew (S:=(fun X=>X.cell? ⟨sb,0,none⟩=some (.pointer (some ⟨tb,0,none⟩))∧X.cell? ⟨tb,0,none⟩=some (.pointer (some ⟨rb,0,none⟩))∧X.cell? ⟨tb,1,none⟩=some (.int .i64 place))) (by kernel_rfl) ?_ (fun aE=> ?_);focus skip;rotate_left;refine Hid.out ?_)
    refine aa ?_
    ·first|trivial|exact⟨s0,t0,t1⟩
    refine aF 0 aE ?_
    refine aF 1 aE ?_
    refine aF 2 aE ?_
    refine aF 3 aE ?_
    refine aF 4 aE ?_
    refine aF 5 aE ?_
    refine aF 6 aE ?_
    refine aF 7 aE ?_
    refine aF 8 aE ?_
    refine aF 9 aE ?_
    refine aF 10 aE ?_
    refine aF 11 aE ?_
    refine aF 12 aE ?_
    refine aF 13 aE ?_
    try simp only[Act.put,List.setIfInBounds_toArray,List.set_cons_succ,List.set_cons_zero]
    refine j7 [14] (j8 fun K hK=> ?_)
    go_simp
    refine VB.out.mono ?_
    rintro e w6 ⟨before,rfl,s0',t0',t1',Rl,Rn⟩
    have JF:=aa (And.intro Rl Rn)
    refine hK.out _ _ ⟨s0',t0',t1'⟩ (fun aE=> ?_);clear hK K Rl Rn
    refine aF 15 aE ?_
    refine aF 16 aE ?_
    refine aF 17 aE ?_
    refine aF 18 aE ?_
    refine aF 19 aE ?_
    refine wpAnyH_done (by kernel_rfl) ?_ _
    try simp only[Act.put,List.setIfInBounds_toArray,List.set_cons_succ,List.set_cons_zero]
    by_cases Il:before=num
    ·subst Il
     have VC:((before:Int)==before)=true:=by simp
     have HG:=aa (JF.out.1 rfl)
     go_wp2_with fail
     go_ret
     exact⟨0,rfl,HG.out⟩
    ·have VC:((before:Int)==num)=false:=by rw[beq_eq_false_iff_ne];omega
     have ES:=aa (JF.out.2 Il)
     go_wp2_with fail
     go_wp2_with (refine wp_region_held_drew (S:=(fun X=>X.cell? ⟨sb,0,none⟩=some (.pointer (some ⟨tb,0,none⟩))∧X.cell? ⟨tb,0,none⟩=some (.pointer (some ⟨rb,0,none⟩))∧X.cell? ⟨tb,1,none⟩=some (.int .i64 place))) (by kernel_rfl) ?_ (fun aE=> ?_);focus skip;rotate_left;refine Hid.out ?_)
     refine aa ?_
     ·first|trivial|exact⟨s0',t0',t1'⟩
     refine aF 0 aE ?_
     refine aF 1 aE ?_
     refine aF 2 aE ?_
     refine aF 3 aE ?_
     refine aF 4 aE ?_
     refine aF 5 aE ?_
     refine aF 6 aE ?_
     refine aF 7 aE ?_
     refine aF 8 aE ?_
     refine aF 9 aE ?_
     refine aF 10 aE ?_
     refine aF 11 aE ?_
     refine aF 12 aE ?_
     refine aF 13 aE ?_
     refine aF 14 aE ?_
     try simp only[Act.put,List.setIfInBounds_toArray,List.set_cons_succ,List.set_cons_zero]
     refine j7 [15] (j8 fun K hK=> ?_)
     go_simp
     refine ES.out.mono ?_
     rintro e w7 ⟨rfl,s0',t0',t1',hG⟩
     have HG:=aa hG
     refine hK.out _ _ ⟨s0',t0',t1'⟩ (fun aE=> ?_);clear hK K hG
     refine aF 16 aE ?_
     refine wpAnyH_done (by kernel_rfl) ?_ _
     try simp only[Act.put,List.setIfInBounds_toArray,List.set_cons_succ,List.set_cons_zero]
     go_wp2_with fail
     go_ret
     exact⟨0,rfl,HG.out⟩
 ·have HG:=aa hG
  have pZ:(c !=0)=true:=by simpa using hc
  clear hG
  go_wp2_with fail
  go_ret
  exact⟨c,rfl,HG.out⟩
end
end Go.Proofs.YtloekpcncjocaaaGreatDoor
namespace Go.Proofs.YtloekpcncjocaaaGreatDoor
namespace Tr
def jB {α:Type} (R:α→α→Prop):List (Tx×α)→List (Tx×α)→Prop
 |[],[]=>True
 |x::xs,y::ys=>(x.1=y.1∧R x.2 y.2)∧jB R xs ys
 |_,_=>False
def Sm:(k:Nat)→E k→E k→Prop
 |0,a,b=>a=b
 |k+1,a,b=>jB (Sm k) (its a) (its b)
section
variable {α:Type} {R:α→α→Prop}
theorem jB.refl (h:∀a,R a a):∀l:List (Tx×α),jB R l l
 |[]=>trivial
 |_::l=>⟨⟨rfl,h _⟩,jB.refl h l⟩
theorem jB.len:∀{a b:List (Tx×α)},jB R a b→a.length=b.length
 |[],[],_=>rfl
 |_::_,_::_,h=>by rw[List.length_cons,List.length_cons,jB.len h.2]
 |[],_::_,h=>h.elim
 |_::_,[],h=>h.elim
theorem jB.append:∀{a b a' b':List (Tx×α)},jB R a b→jB R a' b'→jB R (a++a') (b++b')
 |[],[],_,_,_,h=>h
 |_::_,_::_,_,_,h,h'=>⟨h.1,jB.append h.2 h'⟩
 |[],_::_,_,_,h,_=>h.elim
 |_::_,[],_,_,h,_=>h.elim
end
theorem Sm.refl:∀(k:Nat) (a:E k),Sm k a a
 |0,_=>rfl
 |k+1,_=>jB.refl (Sm.refl k) _
theorem Sm.DV:∀{k:Nat} {a b:E k},Sm k a b→DV k a=DV k b
 |0,_,_,h=>by cases h;rfl
 |_+1,_,_,_=>rfl
theorem jB.sz {k:Nat}:∀{a b:List (Tx×E k)},jB (Sm k) a b→sz k a=sz k b
 |[],[],_=>rfl
 |x::a,y::b,h=>by
  have e:gh k x=gh k y:=by unfold gh;rw[h.1.1,h.1.2.DV]
  rw[Tr.sz,Tr.sz,jB.sz h.2,e]
 |[],_::_,h=>h.elim
 |_::_,[],h=>h.elim
theorem Sm.sz {k:Nat} {a b:E (k+1)} (h:Sm (k+1) a b):Tr.sz k (its a)=Tr.sz k (its b):=jB.sz h
theorem Sm.bE:∀{k:Nat} {a b:List (Tx×E k)},jB (Sm k) a b→bE k a=bE k b
 |0,[],[],_=>rfl
 |0,x::a,y::b,h=>by
  have ih:=Sm.bE (k:=0) h.2
  have e:x=y:=Prod.ext h.1.1 h.1.2
  show x::a=y::b
  rw[e]
  exact congrArg _ ih
 |_+1,[],[],_=>rfl
 |k+1,x::a,y::b,h=>by
  have ih:=Sm.bE (k:=k+1) h.2
  have e:Tr.bE k (its x.2)=Tr.bE k (its y.2):=Sm.bE h.1.2
  show Tr.bE (k+1) ([x]++a)=Tr.bE (k+1) ([y]++b)
  rw[aS,aS,cD,cD,ih,e]
 |_,[],_::_,h=>h.elim
 |_,_::_,[],h=>h.elim
theorem Sm.cut:∀{k:Nat} {a a' b b':E k} {x:Tx},Sm k a a'→Sm k b b'→cut k a x b→cut k a' x b'
 |0,_,_,_,_,_,_,_,_=>trivial
 |k+1,a,a',b,b',x,h1,h2,h=>by
  have h':510<Tr.sz k (its a)+Tr.sz k (its b)+(if k=0 then 0 else x.length):=h
  show 510<Tr.sz k (its a')+Tr.sz k (its b')+(if k=0 then 0 else x.length)
  rw[←h1.sz,←h2.sz]
  exact h'
theorem jB.seg {k:Nat} {h:Option Tx} (hO:∀{lo:Tx} {u:Option Tx} {a b:E k},Sm k a b→Ok k lo u a→Ok k lo u b):∀{a b:List (Tx×E k)},jB (Sm k) a b→bT (Ok k) (Tr.cut k) h a→bT (Ok k) (Tr.cut k) h b
 |[],[],_,_=>trivial
 |[x],[y],hs,s=>by
  have s1:Ok k x.1 h x.2:=s
  show Ok k y.1 h y.2
  rw[←hs.1.1]
  exact hO hs.1.2 s1
 |x::x2::a,y::y2::b,hs,s=>by
  obtain⟨s1,s2,s3⟩:=s
  refine⟨?_, ?_,jB.seg hO hs.2 s3⟩
  ·rw[←hs.1.1,←hs.2.1.1];exact hO hs.1.2 s1
  ·rw[←hs.1.1,←hs.2.1.1];exact⟨s2.1,s2.2.1,Sm.cut hs.1.2 hs.2.1.2 s2.2.2⟩
 |[],_::_,h,_=>h.elim
 |_::_,[],h,_=>h.elim
 |[_],_::_::_,h,_=>h.2.elim
 |_::_::_,[_],h,_=>h.2.elim
theorem jB.aN {α:Type} {R:α→α→Prop} (x:Tx):∀{a b:List (Tx×α)},jB R a b→jB R (aN x a) (aN x b)
 |[],[],_=>trivial
 |_::_,_::_,h=>⟨⟨rfl,h.1.2⟩,h.2⟩
 |[],_::_,h=>h.elim
 |_::_,[],h=>h.elim
theorem jB.pI {k:Nat} {lo:Tx} {a b:List (Tx×E k)} (h:jB (Sm k) a b):jB (Sm k) (pI k lo a) (pI k lo b):=by
 unfold Tr.pI
 split
 ·exact h
 ·exact h.aN lo
theorem jB.head {k:Nat} {lo:Tx} {a b:List (Tx×E k)} (h:jB (Sm k) a b) (hh:Head k lo a):Head k lo b:=by
 intro p hp
 match a,b,h with
 |[],[],_=>cases hp
 |x::a,y::b,h=>
  cases hp
  have:=hh x rfl
  rw[h.1.1] at this
  exact this
 |[],_::_,h=>exact h.elim
 |_::_,[],h=>exact h.elim
theorem Sm.ok:∀{k:Nat} {lo:Tx} {u:Option Tx} {a b:E k},Sm k a b→Ok k lo u a→Ok k lo u b
 |0,_,_,_,_,h,o=>by cases h;exact o
 |k+1,lo,u,a,b,h,o=>by
  obtain⟨o1,o2,o3,o4⟩:=o
  refine⟨fun e=>o1 (List.length_eq_zero_iff.1 (by rw[jB.len h,e];rfl)),by rw[←h.sz];exact o2,jB.head h o3,jB.seg (fun hs ho=>Sm.ok hs ho) (jB.pI h) o4⟩
theorem Sm.cons {k:Nat} {h h':Hd} {l l':List (Tx×E k)} (hs:jB (Sm k) l l'):Sm (k+1) (mk h l) (mk h' l'):=hs
def cnt:(k:Nat)→E k→Nat
 |0,_=>0
 |k+1,n=>1+((its n).map fun p=>cnt k p.2).sum
theorem x_:∀(k:Nat) (n:E k),cnt k n=(bg k n).length+dr k n
 |0,_=>rfl
 |k+1,n=>by
  have h1:∀l:List (Tx×E k),(l.map fun p=>cnt k p.2).sum=(b_ k l).length+iA k l:=by
   intro l
   induction l with
   |nil=>rfl
   |cons x l ih=>rw[List.map_cons,List.sum_cons,ih,x_ k x.2,dB,cV,List.length_append];omega
  show 1+_=_
  rw[h1,aK,aV,List.length_append]
  cases (hd n).page with
  |none=>simp;omega
  |some x=>simp;omega
end Tr
end Go.Proofs.YtloekpcncjocaaaGreatDoor
namespace Go.Proofs.YtloekpcncjocaaaGreatDoor
open Go.RowKit Lib
section
variable {pg bN:List (Option Wl.Text)} {M M':Nat→Option NV}
theorem mg {k:Nat} {x:Nat} {p:Tr.Tx×Tr.E k} {l:List (Tr.Tx×Tr.E k)} (hp:p∈l) (hx:x∈Tr.bg k p.2):x∈Tr.b_ k l:=List.mem_flatMap.2 ⟨p,hp,hx⟩
theorem dz:∀{k:Nat} {t:Tr.E k},bM pg k t→(∀x∈Tr.bg k t,bN.getD x none=pg.getD x none)→bM bN k t
 |0,_,_,_=>trivial
 |k+1,t,h,hs=>by
  obtain⟨⟨page,hp,hlt,uQ⟩,hf,hk⟩:=h
  refine⟨⟨page,hp,hlt, ?_⟩,hf,fun p hm=>dz (hk p hm) fun x hx=>hs x ?_⟩
  ·rw[hs page (by rw[Tr.aK,hp];exact List.mem_cons_self)]
   exact uQ
  ·rw[Tr.aK]
   exact List.mem_append.2 (.inr (mg hm hx))
theorem tN {k:Nat} {n:NV} {t:Tr.E (k+1)} (o:iC pg k n t) (hs:∀x∈Tr.bg (k+1) t,bN.getD x none=pg.getD x none):iC bN k n t:=by
 refine⟨o.level,o.page,o.fresh,o.near,fun hf=> ?_⟩
 obtain⟨page,hp,hlt,uQ,hr⟩:=o.held hf
 exact⟨page,hp,hlt,by rw[hs page (by rw[Tr.aK,hp];exact List.mem_cons_self)];exact uQ,hr⟩
theorem tO {k:Nat} {R R':Nat→Tr.E (k+1)→List Nat→Prop}:∀{is:List It} {xs:List (Tr.Tx×Tr.E (k+1))} {fs:List (List Nat)},aI pg k R is xs fs→(∀x∈Tr.b_ (k+1) xs,bN.getD x none=pg.getD x none)→(∀q c f,f∈fs→R q c f→(∀x∈Tr.bg (k+1) c,bN.getD x none=pg.getD x none)→R' q c f)→aI bN k R' is xs fs
 |[],[],[],_,_,_=>trivial
 |i::is,x::xs,f::fs,h,hs,hR=>by
  rw[Tr.dB] at hs
  refine⟨⟨h.1.1,h.1.2.1, ?_⟩,tO h.2 (fun y hy=>hs y (List.mem_append.2 (.inr hy))) fun q c g hg=>hR q c g (List.mem_cons_of_mem _ hg)⟩
  rcases h.1.2.2 with⟨h1,h2,h3,h4⟩|⟨q,hq,hr⟩
  ·exact .inl ⟨h1,h2,h3,dz h4 fun y hy=>hs y (List.mem_append.2 (.inl hy))⟩
  ·exact .inr ⟨q,hq,hR q x.2 f List.mem_cons_self hr fun y hy=>hs y (List.mem_append.2 (.inl hy))⟩
 |[],[],_::_,h,_,_=>h.elim
 |[],_::_,_,h,_,_=>h.elim
 |_::_,[],_,h,_,_=>h.elim
 |_::_,_::_,[],h,_,_=>h.elim
theorem wy:∀{k p:Nat} {t:Tr.E (k+1)} {F:List Nat},b8 M pg k p t F→(∀q∈F,M' q=M q)→(∀x∈Tr.bg (k+1) t,bN.getD x none=pg.getD x none)→b8 M' bN k p t F
 |0,p,t,F,⟨n,h1,h2,h3,h4⟩,hF,hs=>⟨n,by rw[hF p (by rw[h4];exact List.mem_cons_self)];exact h1,tN h2 hs,h3,h4⟩
 |k+1,p,t,F,⟨n,fs,h1,h2,h3,h4⟩,hF,hs=>⟨n,fs,by rw[hF p (by rw[h4];exact List.mem_cons_self)];exact h1,tN h2 hs,tO h3 (fun x hx=>hs x (by rw[Tr.aK];exact List.mem_append.2 (.inr hx))) (fun _ _ f hf hr hx=>wy hr (fun q hq=>hF q (by rw[h4];exact List.mem_cons_of_mem _ (List.mem_flatten.2 ⟨f,hf,hq⟩))) hx),h4⟩
structure fL (pg bN:List (Option Wl.Text)) (Im al:List Nat):Prop where
 len:bN.length=pg.length
 same:∀x,x∉Im→bN.getD x none=pg.getD x none
 iF:∀x,x∈Im∨x∈al→(bN.getD x none).isSome=true
 free:∀x∈al,pg.getD x none=none∧x<pg.length
 nd:al.Nodup
 used:Rm.used bN=Rm.used pg+al.length
theorem fL.refl (pg:List (Option Wl.Text)):fL pg pg [] []:=⟨rfl,fun _ _=>rfl,fun _ h=>(by rcases h with h|h<;>cases h),fun _ h=>(by cases h),List.nodup_nil,rfl⟩
theorem fL.trans {kE:List (Option Wl.Text)} {t1 t2 a1 a2:List Nat} (h1:fL pg bN t1 a1) (h2:fL bN kE t2 a2):fL pg kE (t1++t2) (a1++a2):=by
 have hn:∀x∈a2,x∉t1∧x∉a1:=fun x hx=>by
  have h:=(h2.free x hx).1
  refine⟨fun hm=> ?_,fun hm=> ?_⟩
  ·have:=h1.iF x (.inl hm);rw[h] at this;cases this
  ·have:=h1.iF x (.inr hm);rw[h] at this;cases this
 have hs:∀x,(bN.getD x none).isSome=true→(kE.getD x none).isSome=true:=fun x hx=>by
  by_cases e:x∈t2
  ·exact h2.iF x (.inl e)
  ·rw[h2.same x e];exact hx
 refine⟨h2.len.trans h1.len,fun x hx=> ?_,fun x hx=> ?_,fun x hx=> ?_,List.nodup_append.2 ⟨h1.nd,h2.nd,fun x hx y hy e=> ?_⟩, ?_⟩
 ·rw[h2.same x fun h=>hx (List.mem_append.2 (.inr h)),h1.same x fun h=>hx (List.mem_append.2 (.inl h))]
 ·rcases hx with hx|hx
  ·rcases List.mem_append.1 hx with hx|hx
   ·exact hs x (h1.iF x (.inl hx))
   ·exact h2.iF x (.inl hx)
  ·rcases List.mem_append.1 hx with hx|hx
   ·exact hs x (h1.iF x (.inr hx))
   ·exact h2.iF x (.inr hx)
 ·rcases List.mem_append.1 hx with hx|hx
  ·exact h1.free x hx
  ·have:=h2.free x hx
   rw[h1.same x (hn x hx).1,h1.len] at this
   exact this
 ·subst e;exact (hn x hy).2 hx
 ·rw[h2.used,h1.used,List.length_append];omega
theorem fL.keeps {Im al:List Nat} (h:fL pg bN Im al) {x:Nat} (hx:(pg.getD x none).isSome=true):(bN.getD x none).isSome=true:=by
 by_cases e:x∈Im
 ·exact h.iF x (.inl e)
 ·rw[h.same x e];exact hx
theorem tP:∀{pg:List (Option Wl.Text)} {p:Nat} {o:Option Wl.Text},p<pg.length→Rm.used (pg.set p o)+(if (pg.getD p none).isSome then 1 else 0)=Rm.used pg+(if o.isSome then 1 else 0)
 |[],_,_,h=>by cases h
 |a::pg,0,o,_=>by
  show Rm.used (o::pg)+(if a.isSome then 1 else 0)=_
  unfold Rm.used
  cases a<;>cases o<;>simp
 |a::pg,p+1,o,h=>by
  have ih:=tP (pg:=pg) (p:=p) (o:=o) (by simpa using h)
  show Rm.used (a::pg.set p o)+(if (pg.getD p none).isSome then 1 else 0)=_
  unfold Rm.used at ih ⊢
  cases a<;>simp only[List.filter_cons,Option.isSome] at ih ⊢<;>simp at ih ⊢<;>omega
theorem eS {pg:List (Option Wl.Text)} {p x:Nat} {o:Option Wl.Text} (hp:p<pg.length):(pg.set p o).getD x none=if x=p then o else pg.getD x none:=Rm.b8.ct pg p x o none hp
theorem fL.one {p:Nat} {t:Wl.Text} (hp:p<pg.length):fL pg (pg.set p (some t)) [p] (if (pg.getD p none).isSome then [] else [p]):=by
 have hu:=tP (pg:=pg) (p:=p) (o:=some t) hp
 refine⟨List.length_set,fun x hx=> ?_,fun x hx=> ?_,fun x hx=> ?_, ?_, ?_⟩
 ·rw[eS hp,if_neg (fun e=>hx (by rw[e];exact List.mem_cons_self))]
 ·have e:x=p:=by
   rcases hx with hx|hx
   ·exact List.mem_singleton.1 hx
   ·split at hx
    ·cases hx
    ·exact List.mem_singleton.1 hx
  rw[eS hp,if_pos e];rfl
 ·split at hx
  ·cases hx
  ·rename_i hn
   rw[List.mem_singleton.1 hx]
   refine⟨?_,hp⟩
   cases h:pg.getD p none with
   |none=>rfl
   |some t=>rw[h] at hn;exact absurd rfl hn
 ·split
  ·exact List.nodup_nil
  ·simp
 ·split
  ·rename_i h;rw[if_pos h] at hu;simp at hu ⊢;omega
  ·rename_i h;rw[if_neg h] at hu;simp at hu ⊢;omega
end
structure VD (sb p tb rb L rg ro cap:Nat) (P:Nat→World→Prop) (Z:Nat→World→Prop) (G:Int→World→Prop):Prop where
 cells:∀j X,P j X→X.cell? ⟨p,1,none⟩=some (.slice (some ⟨rg,ro,none⟩) L cap)
 item:∀j X,P j X→j<L→∃i:It,sS X rg ro j i∧(i.node=none→∀V,Below X.heap.size X V→P (j+1) V)∧
  ∀q,i.node=some q→∀V ib,Below X.heap.size X V→X.heap.size≤ib→ib<V.heap.size→Calls Tryz.prog 105 #[ptr sb,ptr q] V fun e X'=>
   (∃page:Nat,e=.returned (.int .i64 0)∧(∀o v,V.cell? ⟨ib,o,none⟩=some v→X'.cell? ⟨ib,o,none⟩=some v)∧X'.cell? ⟨p,1,none⟩=some (.slice (some ⟨rg,ro,none⟩) L cap)∧X'.cell? ⟨q,2,none⟩=some (.int .i64 page)∧page<65536∧(∃v,X'.cell? ⟨rg,ro+j*3+1,none⟩=some v)∧(∀W,Below X'.heap.size X' W→W.frozen? ⟨rg,ro+j*3+1,none⟩=false)∧
    ∀W,Below X'.heap.size X' W→P (j+1) (W.setCell ⟨rg,ro+j*3+1,none⟩ (.string (bs (pv page)))))∨
   (∃c:Int,e=.returned (.int .i64 c)∧c≠0∧G c X')
 fresh:∀X,P L X→∃f,X.cell? ⟨p,7,none⟩=some (.bool f)∧(f=false→G 0 X)∧
  (f=true→∃pg:Int,X.cell? ⟨p,2,none⟩=some (.int .i64 pg)∧((pg=-1∧Calls Tryz.prog 150 #[ptr sb] X fun e X'=>(∃page:Nat,e=.returned (.tuple #[.int .i64 page,.int .i64 0])∧(∃v,X'.cell? ⟨p,2,none⟩=some v)∧X'.frozen? ⟨p,2,none⟩=false∧Z page (X'.setCell ⟨p,2,none⟩ (.int .i64 page)))∨(∃v c:Int,e=.returned (.tuple #[.int .i64 v,.int .i64 c])∧c≠0∧G c X'))∨∃page:Nat,pg=page∧Z page X))
 write:∀page X,Z page X→X.cell? ⟨sb,0,none⟩=some (.pointer (some ⟨tb,0,none⟩))∧X.cell? ⟨tb,0,none⟩=some (.pointer (some ⟨rb,0,none⟩))∧X.cell? ⟨p,2,none⟩=some (.int .i64 page)∧∃txt:ByteArray,
  (∀V,Below X.heap.size X V→Calls Tryz.prog 152 #[ptr p] V fun e V'=>e=.returned (.string txt)∧Below V.heap.size V V')∧∀V,Below X.heap.size X V→Calls Tryz.prog 151 #[ptr rb,.int .i64 page,.string txt] V fun e X'=>∃c:Int,e=.returned (.int .i64 c)∧G c X'∧X'.cell? ⟨sb,0,none⟩=some (.pointer (some ⟨tb,0,none⟩))∧X'.cell? ⟨tb,0,none⟩=some (.pointer (some ⟨rb,0,none⟩))∧X'.cell? ⟨p,2,none⟩=some (.int .i64 page)
section
variable {w:World} {p sb tb rb:Nat}
theorem tQ {L rg ro cap:Nat} {P Z:Nat→World→Prop} {G:Int→World→Prop} (hW:VD sb p tb rb L rg ro cap P Z G) (hP:P 0 w) (hL:L≤400) (GI:L≤cap):
  Calls Tryz.prog 105 #[ptr sb,ptr p] w fun e w'=>∃c:Int,e=.returned (.int .i64 c)∧G c w':=by
 have HW:=aa hW
 have HP:=aa hP
 have c1:=hW.cells 0 _ hP
 have C4:(L:Int)≤400:=by omega
 have vB:(L:Int)≤cap:=by omega
 clear hW hP hL GI
 unfold ptr at HW ⊢
 go_enter Tryz.func105,Tryz.ntmps105
 go_wp2_with fail
 go_loopw [5,6,7,15] (fun _ _ _ kv wr=>∃j:Nat,j≤L∧kv=.int .i64 j∧Hid (P j wr)) (fun _ _ _ kv _=>L-(RowKit.intOf kv).toNat)
 case atStart=>exact⟨0,Nat.zero_le _,rfl,HP⟩
 case round=>
  clear c1
  obtain⟨j,hj,rfl,YK⟩:=hrel
  by_cases hlt:j<L
  ·have hI:(j:Int)<L:=by omega
   obtain⟨i,hit,hnone,hsome⟩:=HW.out.item j _ YK.out hlt
   have a0:=hit.key
   have a1:=hit.val
   have a2:=hit.node
   have HNO:=aa hnone
   have HSO:=aa hsome
   clear hnone hsome
   obtain⟨W1,gP⟩:∃W1,W1=wr.alloc (.cells #[.string (bs i.key),.string (bs i.val),.pointer (pa i.node)] 95):=⟨_,rfl⟩
   obtain⟨ib,hib⟩:∃ib,ib=wr.heap.size:=⟨_,rfl⟩
   have k2:W1.cell? ⟨ib,2,none⟩=some (.pointer (pa i.node)):=by rw[gP,hib];exact (aG.new wr _ _).cell rfl
   have hbW:Below wr.heap.size wr W1:=by rw[gP];exact (Below.refl _ wr).alloc (Nat.le_refl _) _
   have Mm:=aa (show Below wr.heap.size wr W1∧wr.heap.size≤ib∧ib<W1.heap.size from⟨hbW,by omega,by rw[gP,hib];simp[World.size_alloc]⟩)
   clear hbW
   cases hn:i.node with
   |none=>
    rw[hn] at a2 k2 gP
    have HD:=aa (HNO.out hn _ Mm.out.1)
    generalize bs i.key=kb at*
    generalize bs i.val=vb at*
    rw[show pa none=none from rfl] at a2 k2 gP
    go_wp2_with fail
    exact⟨⟨j+1,hlt,by go_num,by rw[←gP];exact HD⟩,by simp[RowKit.intOf];omega⟩
   |some q=>
    rw[hn] at a2 k2 gP
    have Nz:=aa (HSO.out q hn W1 ib Mm.out.1 Mm.out.2.1 Mm.out.2.2)
    generalize bs i.key=kb at*
    generalize bs i.val=vb at*
    rw[show pa (some q)=some ⟨q,0,none⟩ from rfl] at a2 k2 gP
    go_wp2_with fail
    rw[←gP,←hib]
    refine Nz.out.mono ?_
    rintro e w3 (⟨page,rfl,kx,d1,dq,ku,⟨v1,d4⟩,fz,YL⟩|⟨c,rfl,hc,hG⟩)
    ·have k2:=kx 2 _ k2
     have ET:=aa YL
     have HF:=aa (And.intro ku (And.intro (World.block_lt_of_cell? _ _ d1) (And.intro (World.block_lt_of_cell? _ _ d4) fz)))
     clear kx YL fz a0 a1 a2 gP hib
     go_wp2_with fail
     go_wp2_with (refine wp_region_any (by kernel_rfl) ?_;refine Hid.out ?_)
     refine aa ?_
     try (change wpAny _ _ _ _ _ _ _ (World.drew _))
     refine tk 0 ?_
     refine tk 1 ?_
     refine tk 2 ?_
     refine tk 4 ?_
     refine tk 5 ?_
     try simp only[Act.put,List.setIfInBounds_toArray,List.set_cons_succ,List.set_cons_zero]
     refine rd [3,6] (AllReady.cons rfl (fun K hK=> ?_) (rn fun K hK=> ?_))
     focus
      go_simp
      refine hK _ _ ?_;clear hK K
      refine rd [6] (rn fun K hK=> ?_)
      go_simp
      refine hK _ _ ?_;clear hK K
      refine rd [7] (rn fun K hK=> ?_)
      go_simp
      refine hK _ _ ?_;clear hK K
      refine rd [8] (rn fun K hK=> ?_)
      go_simp
      refine hK _ _ ?_;clear hK K
      refine rd [9] (rn fun K hK=> ?_)
      go_simp
      refine hK _ _ ?_;clear hK K
      refine rd [10] (rn fun K hK=> ?_)
      go_simp
      refine (dV _ page HF.out.1).mono ?_
      rintro e w5 ⟨rfl,cH⟩
      have cH:Below w3.heap.size w3 w5:=((Below.refl w3.heap.size w3).drew).trans cH
      have d1:=(cH.cell HF.out.2.1).trans d1
      have d4:=(cH.cell HF.out.2.2.1).trans d4
      have fz:=HF.out.2.2.2 _ cH
      have ET:=aa (ET.out _ cH)
      clear cH
      refine hK _ _ ?_;clear hK K
     rotate_left
     focus
      go_simp
      refine hK _ _ ?_;clear hK K
      refine rd [3,7] (AllReady.cons rfl (fun K hK=> ?_) (rn fun K hK=> ?_))
      focus
       go_simp
       refine hK _ _ ?_;clear hK K
       refine rd [7] (rn fun K hK=> ?_)
       go_simp
       refine hK _ _ ?_;clear hK K
       refine rd [8] (rn fun K hK=> ?_)
       go_simp
       refine hK _ _ ?_;clear hK K
       refine rd [9] (rn fun K hK=> ?_)
       go_simp
       refine hK _ _ ?_;clear hK K
       refine rd [10] (rn fun K hK=> ?_)
       go_simp
       refine (dV _ page HF.out.1).mono ?_
       rintro e w5 ⟨rfl,cH⟩
       have cH:Below w3.heap.size w3 w5:=((Below.refl w3.heap.size w3).drew).trans cH
       have d1:=(cH.cell HF.out.2.1).trans d1
       have d4:=(cH.cell HF.out.2.2.1).trans d4
       have fz:=HF.out.2.2.2 _ cH
       have ET:=aa (ET.out _ cH)
       clear cH
       refine hK _ _ ?_;clear hK K
      rotate_left
      focus
       go_simp
       refine hK _ _ ?_;clear hK K
       refine rd [3,8] (AllReady.cons rfl (fun K hK=> ?_) (rn fun K hK=> ?_))
       focus
        go_simp
        refine hK _ _ ?_;clear hK K
        refine rd [8] (rn fun K hK=> ?_)
        go_simp
        refine hK _ _ ?_;clear hK K
        refine rd [9] (rn fun K hK=> ?_)
        go_simp
        refine hK _ _ ?_;clear hK K
        refine rd [10] (rn fun K hK=> ?_)
        go_simp
        refine (dV _ page HF.out.1).mono ?_
        rintro e w5 ⟨rfl,cH⟩
        have cH:Below w3.heap.size w3 w5:=((Below.refl w3.heap.size w3).drew).trans cH
        have d1:=(cH.cell HF.out.2.1).trans d1
        have d4:=(cH.cell HF.out.2.2.1).trans d4
        have fz:=HF.out.2.2.2 _ cH
        have ET:=aa (ET.out _ cH)
        clear cH
        refine hK _ _ ?_;clear hK K
       rotate_left
       focus
        go_simp
        refine hK _ _ ?_;clear hK K
        refine rd [3,9] (AllReady.cons rfl (fun K hK=> ?_) (rn fun K hK=> ?_))
        focus
         go_simp
         refine hK _ _ ?_;clear hK K
         refine rd [9] (rn fun K hK=> ?_)
         go_simp
         refine hK _ _ ?_;clear hK K
         refine rd [10] (rn fun K hK=> ?_)
         go_simp
         refine (dV _ page HF.out.1).mono ?_
         rintro e w5 ⟨rfl,cH⟩
         have cH:Below w3.heap.size w3 w5:=((Below.refl w3.heap.size w3).drew).trans cH
         have d1:=(cH.cell HF.out.2.1).trans d1
         have d4:=(cH.cell HF.out.2.2.1).trans d4
         have fz:=HF.out.2.2.2 _ cH
         have ET:=aa (ET.out _ cH)
         clear cH
         refine hK _ _ ?_;clear hK K
        rotate_left
        focus
         go_simp
         refine hK _ _ ?_;clear hK K
         refine rd [3,10] (AllReady.cons rfl (fun K hK=> ?_) (rn fun K hK=> ?_))
         focus
          go_simp
          refine hK _ _ ?_;clear hK K
          refine rd [10] (rn fun K hK=> ?_)
          go_simp
          refine (dV _ page HF.out.1).mono ?_
          rintro e w5 ⟨rfl,cH⟩
          have cH:Below w3.heap.size w3 w5:=((Below.refl w3.heap.size w3).drew).trans cH
          have d1:=(cH.cell HF.out.2.1).trans d1
          have d4:=(cH.cell HF.out.2.2.1).trans d4
          have fz:=HF.out.2.2.2 _ cH
          have ET:=aa (ET.out _ cH)
          clear cH
          refine hK _ _ ?_;clear hK K
         rotate_left
         focus
          go_simp
          refine (dV _ page HF.out.1).mono ?_
          rintro e w5 ⟨rfl,cH⟩
          have cH:Below w3.heap.size w3 w5:=((Below.refl w3.heap.size w3).drew).trans cH
          have d1:=(cH.cell HF.out.2.1).trans d1
          have d4:=(cH.cell HF.out.2.2.1).trans d4
          have fz:=HF.out.2.2.2 _ cH
          have ET:=aa (ET.out _ cH)
          clear cH
          refine hK _ _ ?_;clear hK K
          refine rd [3] (rn fun K hK=> ?_)
          go_simp
          refine hK _ _ ?_;clear hK K
     all_goals
      try simp only[Act.put,List.setIfInBounds_toArray,List.set_cons_succ,List.set_cons_zero]
      refine tk 11 ?_
      refine tk 12 ?_
      refine tk 13 ?_
      try simp only[Act.put,List.setIfInBounds_toArray,List.set_cons_succ,List.set_cons_zero]
      refine rd [14] (rn fun K hK=> ?_)
      go_simp
      refine hK _ _ ?_;clear hK K
      refine wpAny_done (by kernel_rfl) ?_ _
      go_wp2_with fail
      go_roundw
      case rel=>exact⟨j+1,hlt,by go_num,ET⟩
      case measure=>simp[RowKit.intOf];omega
    ·have HG:=aa hG
     have pZ:(c !=0)=true:=by simpa using hc
     clear hG a0 a1 a2 k2 gP hib
     go_wp2_with fail
     go_ret
     exact⟨c,rfl,HG.out⟩
  ·obtain rfl:j=L:=by omega
   have hI:¬(j:Int)<j:=by omega
   obtain⟨f,d7,LW,N2⟩:=HW.out.fresh _ YK.out
   cases f with
   |false=>
    have HG:=aa (LW rfl)
    clear LW N2
    go_wp2_with fail
    go_ret
    exact⟨0,rfl,HG.out⟩
   |true=>
    obtain⟨pg,d2,⟨rfl,ht⟩|⟨page,rfl,hz⟩⟩:=N2 rfl
    ·have HT:=aa ht
     clear LW N2 ht
     go_wp2_with fail
     refine HT.out.mono ?_
     rintro e w3 (⟨page,rfl,⟨v2,d2'⟩,f2,hz⟩|⟨v,c,rfl,hc,hG⟩)
     ·obtain⟨X1,Em⟩:∃X1,X1=w3.setCell ⟨p,2,none⟩ (.int .i64 page):=⟨_,rfl⟩
      rw[←Em] at hz
      have HZ:=aa hz
      have N3:=aa ((Below.refl X1.heap.size X1).drew)
      clear hz d2 d7
      go_wp2_with fail
      rw[←Em]
      clear Em d2' f2
      obtain⟨s0,t0,d2,txt,hpt,hwr⟩:=HW.out.write _ _ HZ.out
      have VE:=aa hpt
      have VF:=aa hwr
      have cB:=aa (And.intro (World.block_lt_of_cell? _ _ s0) (And.intro (World.block_lt_of_cell? _ _ t0) (World.block_lt_of_cell? _ _ d2)))
      clear hpt hwr
      go_wp2_with fail
      go_wp2_with (refine wp_region_held_drew (S:=(fun X=>X.cell? ⟨sb,0,none⟩=some (.pointer (some ⟨tb,0,none⟩))∧X.cell? ⟨tb,0,none⟩=some (.pointer (some ⟨rb,0,none⟩))∧X.cell? ⟨p,2,none⟩=some (.int .i64 page))) (by kernel_rfl) ?_ (fun aE=> ?_);focus skip;rotate_left;refine Hid.out ?_)
      refine aa ?_
      ·first|trivial|exact⟨s0,t0,d2⟩
      refine aF 0 aE ?_
      refine aF 1 aE ?_
      refine aF 2 aE ?_
      refine aF 3 aE ?_
      refine aF 4 aE ?_
      refine aF 5 aE ?_
      refine aF 6 aE ?_
      refine aF 7 aE ?_
      refine aF 8 aE ?_
      refine aF 9 aE ?_
      refine aF 10 aE ?_
      refine aF 11 aE ?_
      try simp only[Act.put,List.setIfInBounds_toArray,List.set_cons_succ,List.set_cons_zero]
      refine j7 [12] (j8 fun K hK=> ?_)
      go_simp
      refine (VE.out _ N3.out).mono ?_
      rintro e w6 ⟨rfl,qZ⟩
      have K2:=aa (N3.out.trans (qZ.mono N3.out.size))
      refine hK.out _ _ ⟨(K2.out.cell cB.out.1).trans s0,(K2.out.cell cB.out.2.1).trans t0,(K2.out.cell cB.out.2.2).trans d2⟩ (fun aE=> ?_);clear hK K qZ
      refine j7 [13] (j8 fun K hK=> ?_)
      go_simp
      refine (VF.out _ K2.out).mono ?_
      rintro e w7 ⟨c,rfl,hG,s0',t0',d2'⟩
      have HG:=aa hG
      refine hK.out _ _ ⟨s0',t0',d2'⟩ (fun aE=> ?_);clear hK K hG
      refine aF 14 aE ?_
      refine wpAnyH_done (by kernel_rfl) ?_ _
      go_wp2_with fail
      go_ret
      exact⟨c,rfl,HG.out⟩
     ·have HG:=aa hG
      have pZ:(c !=0)=true:=by simpa using hc
      clear hG
      go_wp2_with fail
      go_ret
      exact⟨c,rfl,HG.out⟩
    ·have HZ:=aa hz
     clear LW N2 hz
     have hne:((page:Int)==-1)=false:=by rw[beq_eq_false_iff_ne];omega
     have N3:=aa ((Below.refl wr.heap.size wr).drew)
     go_wp2_with fail
     clear d2 d7
     obtain⟨s0,t0,d2,txt,hpt,hwr⟩:=HW.out.write _ _ HZ.out
     have VE:=aa hpt
     have VF:=aa hwr
     have cB:=aa (And.intro (World.block_lt_of_cell? _ _ s0) (And.intro (World.block_lt_of_cell? _ _ t0) (World.block_lt_of_cell? _ _ d2)))
     clear hpt hwr
     go_wp2_with fail
     go_wp2_with (refine wp_region_held_drew (S:=(fun X=>X.cell? ⟨sb,0,none⟩=some (.pointer (some ⟨tb,0,none⟩))∧X.cell? ⟨tb,0,none⟩=some (.pointer (some ⟨rb,0,none⟩))∧X.cell? ⟨p,2,none⟩=some (.int .i64 page))) (by kernel_rfl) ?_ (fun aE=> ?_);focus skip;rotate_left;refine Hid.out ?_)
     refine aa ?_
     ·first|trivial|exact⟨s0,t0,d2⟩
     refine aF 0 aE ?_
     refine aF 1 aE ?_
     refine aF 2 aE ?_
     refine aF 3 aE ?_
     refine aF 4 aE ?_
     refine aF 5 aE ?_
     refine aF 6 aE ?_
     refine aF 7 aE ?_
     refine aF 8 aE ?_
     refine aF 9 aE ?_
     refine aF 10 aE ?_
     refine aF 11 aE ?_
     try simp only[Act.put,List.setIfInBounds_toArray,List.set_cons_succ,List.set_cons_zero]
     refine j7 [12] (j8 fun K hK=> ?_)
     go_simp
     refine (VE.out _ N3.out).mono ?_
     rintro e w6 ⟨rfl,qZ⟩
     have K2:=aa (N3.out.trans (qZ.mono N3.out.size))
     refine hK.out _ _ ⟨(K2.out.cell cB.out.1).trans s0,(K2.out.cell cB.out.2.1).trans t0,(K2.out.cell cB.out.2.2).trans d2⟩ (fun aE=> ?_);clear hK K qZ
     refine j7 [13] (j8 fun K hK=> ?_)
     go_simp
     refine (VF.out _ K2.out).mono ?_
     rintro e w7 ⟨c,rfl,hG,s0',t0',d2'⟩
     have HG:=aa hG
     refine hK.out _ _ ⟨s0',t0',d2'⟩ (fun aE=> ?_);clear hK K hG
     refine aF 14 aE ?_
     refine wpAnyH_done (by kernel_rfl) ?_ _
     go_wp2_with fail
     go_ret
     exact⟨c,rfl,HG.out⟩
end
section
variable {w:World} {sb tb:Nat} {l:List Int} {x:Int}
def K3 (w:World) (sb tb g:Nat) (x:Int) (l:List Int) (e:Ending) (w':World):Prop:=
 e=.returned (.tuple #[.int .i64 x,.int .i64 0])∧∃o c,aG w' sb 132 [ptr tb,.slice (some ⟨g,o,none⟩) l.length c]∧l.length≤c∧aJ (cO .i64) w' g o l∧aj (fun k=>k=sb) w w'
theorem Ce {g o c:Nat} (hs:aG w sb 132 [ptr tb,.slice (some ⟨g,o,none⟩) (x::l).length c]) (hc:(x::l).length≤c) (hl:aJ (cO .i64) w g o (x::l)) (hg:g≠sb) (hm:l.length≤1000000):
  Calls Tryz.prog 150 #[ptr sb] w fun e w'=>K3 w sb tb g x l e w':=by
 have c1:=hs.cell (j:=1) rfl
 have f1:=hs.frozen 1
 have i0:w.cell? ⟨g,o,none⟩=some (.int .i64 x):=hl 0 _ rfl
 have kg:aJ (cO .i64) w g (o+1) l:=by
  have:=hl.part 1 l.length (by simp only[List.length_cons];omega)
  rw[Nat.one_mul,List.drop_one,List.tail_cons,List.take_length] at this
  exact this
 obtain⟨L,hL⟩:∃L,L=l.length:=⟨_,rfl⟩
 have HL:=aa (And.intro hs (And.intro kg (And.intro hg hL)))
 rw[List.length_cons,←hL] at c1 hc
 have h1:(1:Int)≤(L:Int)+1:=by omega
 have h0:(0:Int)<(L:Int)+1:=by omega
 have hz:(((L:Int)+1)==0)=false:=by rw[beq_eq_false_iff_ne];omega
 have C4:(L:Int)≤1000000:=by omega
 clear hs hl kg hg hL hm
 go_enter Tryz.func150,Tryz.ntmps150
 unfold ptr
 by_cases hc1:c=1
 ·subst hc1
  go_wp2_with fail
  go_ret2
  obtain⟨h1,h2,h3,h4⟩:=HL.out
  obtain rfl:l=[]:=List.eq_nil_of_length_eq_zero (by omega)
  exact⟨rfl,o,0,h1.set 1 _,Nat.le_refl _,fun j u hu=>by simp[Elem.cells] at hu,(aj.refl (fun k=>k=sb) w).setCell _ _ fun _=>rfl⟩
 ·go_wp2_with fail
  go_ret2
  obtain⟨h1,h2,h3,h4⟩:=HL.out
  have hb:aj (fun k=>k=sb) w (w.setCell ⟨sb,1,none⟩ (.slice (some ⟨g,o+1,none⟩) L (c-1))):=(aj.refl (fun k=>k=sb) w).setCell _ _ fun _=>rfl
  exact⟨rfl,o+1,c-1,by rw[←h4];exact h1.set 1 _,by omega,h2.but hb h3,hb⟩
end
section
variable {E:Ev} {X0 X:World} {R0 R:Nat→Prop} {ps:List (Nat×List UInt8)} {pg:List (Option Wl.Text)} {rt:List Nat} {M:Nat→Option NV}
def Io (E:Ev) (R:Nat→Prop) (ps:List (Nat×List UInt8)) (pg:List (Option Wl.Text)) (rt:List Nat) (X:World) (e:Ending) (X':World):Prop:=
 e=.returned (.tuple #[.int .i64 (Rm.alloc pg).1,.int .i64 (Rm.alloc pg).2])∧xq R E.ring E.g E.N E.lb E.xb E.rb E.H ps (Rm.iM pg) rt X X'
theorem Cf (h:TS E X0 R0 R ps pg rt M X) {sb c:Nat} {a:Option Addr} (hs:aG X sb 132 [ptr E.tb,.slice a 0 c]) (hq:ps.length≤80000000):
  Calls Tryz.prog 150 #[ptr sb] X fun e X'=>Io E R ps pg rt X e X':=by
 have c0:=hs.cell (j:=0) rfl
 have c1:=hs.cell (j:=1) rfl
 have t0:=h.tree.cell (j:=0) rfl
 have HC:=aa (BM h.rm hq)
 clear h hs
 go_enter Tryz.func150,Tryz.ntmps150
 unfold ptr at c0 t0 ⊢
 go_wp2_with fail
 refine HC.out.mono ?_
 rintro e w2 ⟨rfl,hd⟩
 have HD:=aa hd
 clear hd
 go_wp2_with fail
 go_ret2
 exact⟨rfl,HD.out⟩
end
section
variable {E:Ev} {X0 X X' V:World} {R0 R R' S:Nat→Prop} {ps ps':List (Nat×List UInt8)} {pg bN:List (Option Wl.Text)} {rt:List Nat} {M M':Nat→Option NV} {k p q sb:Nat} {n m:NV} {sv:Value} {l:List Int} {x:Int}
structure SW (E:Ev) (X0:World) (R0 R:Nat→Prop) (ps:List (Nat×List UInt8)) (pg:List (Option Wl.Text)) (rt:List Nat) (M:Nat→Option NV) (X:World) (sb:Nat) (l:List Int):Prop where
 ts:TS E X0 R0 R ps pg rt M X
 rK:R sb∧X0.heap.size≤sb∧¬MB M sb
 sp:∃a c,aG X sb 132 [ptr E.tb,.slice a l.length c]∧l.length≤c∧(l≠[]→∃g o,a=some ⟨g,o,none⟩∧aJ (cO .i64) X g o l∧R g∧¬MB M g∧g≠sb)
theorem SS.sw (h:SS E X0 R0 R ps pg rt M X sb sv l):SW E X0 R0 R ps pg rt M X sb l:=by
 refine⟨h.ts,h.rK, ?_⟩
 obtain⟨a,c,rfl,hc⟩:=Own.slice h.sp
 refine⟨a,c,h.blk,hc,fun hl=> ?_⟩
 obtain⟨g,c',hv,-,-,-⟩:=Own.form h.sp (List.length_pos_iff.2 hl)
 have ha:a=some ⟨g,0,none⟩:=by injection hv
 subst ha
 have hg:=h.FB g rfl
 exact⟨g,0,rfl,Own.lies h.sp,hg.1,hg.2.2,fun e=>Own.bK h.sp h.blk (by decide) (by rw[←e];rfl)⟩
theorem SW.VG (h:SW E X0 R0 R ps pg rt M X sb l):sb<X.heap.size:=h.ts.Eh sb h.rK.1
theorem SW.step (h:SW E X0 R0 R ps pg rt M X sb l) (ht:TS E X0 R0 R' ps' bN rt M' X') (hb:aj S X X') (hS:∀b,R b→S b→MB M b) (hR:∀b,R b→R' b) (hm:∀b,MB M' b→MB M b):SW E X0 R0 R' ps' bN rt M' X' sb l:=by
 obtain⟨a,c,hblk,hc,hl⟩:=h.sp
 refine⟨ht,⟨hR _ h.rK.1,h.rK.2.1,fun hk=>h.rK.2.2 (hm _ hk)⟩,a,c,hblk.but hb fun hs=>h.rK.2.2 (hS _ h.rK.1 hs),hc,fun hne=> ?_⟩
 obtain⟨g,o,rfl,Ac,h1,h2,h3⟩:=hl hne
 exact⟨g,o,rfl,Ac.but hb fun hs=>h2 (hS _ h1 hs),hR _ h1,fun hk=>h2 (hm _ hk),h3⟩
theorem SW.still (h:SW E X0 R0 R ps pg rt M X sb l) (hb:Below X.heap.size X X') (h1:∀k,R k→R' k) (h2:∀k,R' k→R k∨(X.heap.size≤k∧k<X'.heap.size)):SW E X0 R0 R' ps pg rt M X' sb l:=
 h.step (h.ts.still hb h1 h2) (aj.aq hb (fun _=>False)) (fun _ _ f=>f.elim) h1 (fun _ hk=>hk)
theorem SW.room (h:SW E X0 R0 R ps pg rt M X sb l) (hr:gA R E.ring E.g E.N E.lb E.xb E.rb E.H ps' bN rt X') (hb:aj (fun k=>¬R k) X X'):SW E X0 R0 R ps' bN rt M X' sb l:=
 h.step (h.ts.sP hr hb) hb (fun _ hr hn=>absurd hr hn) (fun _ h=>h) (fun _ h=>h)
theorem SW.cell (h:SW E X0 R0 R ps pg rt M X sb l) (hp:M p=some n) (n':NV) (j:Nat) (v:Value) (hi:n'.its=n.its) (hg:n'.rg=n.rg) (ho:n'.ro=n.ro) (hc:n'.cap=n.cap) (hw:n'.own=n.own) (hcs:n.cells.set j v=n'.cells):SW E X0 R0 R ps pg rt (upd M p n') (X.setCell ⟨p,j,none⟩ v) sb l:=by
 have hb:aj (fun b=>b=p) X (X.setCell ⟨p,j,none⟩ v):=(aj.refl (fun b=>b=p) X).setCell _ _ fun _=>rfl
 have hmb:∀b,MB (upd M p n') b→MB M b:=by
  rintro b ⟨r,y,hr,hk⟩
  rcases ak hr with⟨rfl,rfl⟩|⟨_,hr⟩
  ·exact⟨_,n,hp,by rw[hg] at hk;exact hk⟩
  ·exact⟨r,y,hr,hk⟩
 exact h.step (h.ts.own hb (fun b _ e=>by rw[e];exact h.ts.gM p ⟨p,n,hp,.inl rfl⟩) (h.ts.mem.cell hp n' j v hi hg ho hc hw hcs) (fun b hb=>h.ts.gM b (hmb b hb)) (fun _ h=>h) (fun _ h=>.inl h)) hb (fun b _ e=>by rw[e];exact⟨p,n,hp,.inl rfl⟩) (fun _ h=>h) hmb
theorem SW.item (h:SW E X0 R0 R ps pg rt M X sb l) (hp:M p=some n) (j f:Nat) (hj:j<n.its.length) (hf:f<3) (it:It) (v:Value) (he:ah.enc it=(ah.enc n.its[j]).set f v) (hs:it.key.length≤200∧it.val.length≤200):
  SW E X0 R0 R ps pg rt (upd M p {n with its:=n.its.set j it}) (X.setCell ⟨n.rg,n.ro+(j*3+f),none⟩ v) sb l:=by
 have hb:aj (fun b=>b=n.rg) X (X.setCell ⟨n.rg,n.ro+(j*3+f),none⟩ v):=(aj.refl (fun b=>b=n.rg) X).setCell _ _ fun _=>rfl
 have hmb:∀b,MB (upd M p {n with its:=n.its.set j it}) b→MB M b:=by
  rintro b ⟨r,y,hr,hk⟩
  rcases ak hr with⟨rfl,rfl⟩|⟨_,hr⟩
  ·exact⟨_,n,hp,hk⟩
  ·exact⟨r,y,hr,hk⟩
 exact h.step (h.ts.own hb (fun b _ e=>by rw[e];exact h.ts.gM _ ⟨p,n,hp,.inr rfl⟩) (h.ts.mem.item hp j f hj hf it v he hs) (fun b hb=>h.ts.gM b (hmb b hb)) (fun _ h=>h) (fun _ h=>.inl h)) hb (fun b _ e=>by rw[e];exact⟨p,n,hp,.inr rfl⟩) (fun _ h=>h) hmb
theorem SW.take (h:SW E X0 R0 R ps pg rt M X sb (x::l)) (hl:l.length≤1000000):
  Calls Tryz.prog 150 #[ptr sb] X fun e X'=>e=.returned (.tuple #[.int .i64 x,.int .i64 0])∧SW E X0 R0 R ps pg rt M X' sb l∧aj (fun b=>b=sb) X X':=by
 obtain⟨a,c,hblk,hc,hne⟩:=h.sp
 obtain⟨g,o,rfl,Ac,h1,h2,h3⟩:=hne (by simp)
 refine (Ce hblk hc Ac h3 hl).mono ?_
 rintro e X' ⟨rfl,o',c',Ro,ve,VH,hb⟩
 have hmem:=h.ts.mem.keep hb fun b hb e=>h.rK.2.2 (by rw[←e];exact hb)
 refine⟨rfl,⟨h.ts.own hb (fun b _ e=>by rw[e];exact⟨h.rK.1,h.rK.2.1⟩) hmem (fun b hb=>h.ts.gM b hb) (fun _ h=>h) (fun _ h=>.inl h),h.rK,some ⟨g,o',none⟩,c',Ro,ve,fun _=>⟨g,o',rfl,VH,h1,h2,h3⟩⟩,hb⟩
structure MF (E:Ev) (X0:World) (R0:Nat→Prop) (rt:List Nat) (sb:Nat) (R:Nat→Prop) (ps:List (Nat×List UInt8)) (pg:List (Option Wl.Text)) (M:Nat→Option NV) (X:World) (sp:List Nat) (k p:Nat) (t:Tr.E (k+1)) (F:List Nat) (R':Nat→Prop) (ps':List (Nat×List UInt8)) (bN:List (Option Wl.Text)) (M':Nat→Option NV) (t':Tr.E (k+1)) (sp' al:List Nat) (X':World):Prop where
 sw:SW E X0 R0 R' ps' bN rt M' X' sb (ew sp')
 pre:ps<+:ps'
 few:ps'.length≤ps.length+4*Tr.cnt (k+1) t
 sm:Tr.Sm (k+1) t t'
 st:bM bN (k+1) t'
 at_:∃n',M' p=some n'∧n'.page=oQ (Tr.hd t').page
 keep:(Tr.hd t).page.isSome=true→(Tr.hd t').page=(Tr.hd t).page
 bg:(Tr.bg (k+1) t'++sp').Perm (Tr.bg (k+1) t++sp++al)
 pg:fL pg bN (Tr.bg (k+1) t') al
 dr:al.length≤Tr.dr (k+1) t
 same:∀r,r∉F→M' r=M r
 but:aj (fun b=>¬R b∨b=sb∨MB M b) X X'
 sub:∀b,R b→R' b
 new:∀b,R' b→R b∨X.heap.size≤b
 mb:∀b,MB M' b→MB M b
def Ad (E:Ev) (X0:World) (R0:Nat→Prop) (rt:List Nat) (ps:List (Nat×List UInt8)) (pg:List (Option Wl.Text)) (a b:Nat) (X':World):Prop:=
 ∃R' M' ps' bN,TS E X0 R0 R' ps' bN rt M' X'∧ps<+:ps'∧ps'.length≤ps.length+4*a∧pg.length<Rm.used pg+b
def mh (E:Ev) (X0:World) (R0:Nat→Prop) (rt:List Nat) (sb:Nat) (R:Nat→Prop) (ps:List (Nat×List UInt8)) (pg:List (Option Wl.Text)) (M:Nat→Option NV) (X:World) (sp:List Nat) (k p:Nat) (t:Tr.E (k+1)) (F:List Nat) (c:Int) (X':World):Prop:=
 (c=0∧∃R' ps' bN M' t' sp' al,MF E X0 R0 rt sb R ps pg M X sp k p t F R' ps' bN M' t' sp' al X')∨(c=4∧Ad E X0 R0 rt ps pg (Tr.cnt (k+1) t) (Tr.dr (k+1) t) X')
def kv (i:It):List UInt8×List UInt8:=(i.key,i.val)
theorem De:∀{a b:List It},a.map kv=b.map kv→a.flatMap cJ=b.flatMap cJ
 |[],[],_=>rfl
 |x::a,y::b,h=>by
  obtain⟨h1,h2⟩:=List.cons.inj h
  rw[List.flatMap_cons,List.flatMap_cons,De h2]
  unfold cJ
  rw[show x.key=y.key from (Prod.mk.inj h1).1,show x.val=y.val from (Prod.mk.inj h1).2]
 |[],_::_,h=>by cases h
 |_::_,[],h=>by cases h
theorem EU {level:Nat} {a b:List It} (h:a.map kv=b.map kv):bH level a=bH level b:=by
 unfold bH
 rw[De h,show a.length=b.length by have:=congrArg List.length h;rwa [List.length_map,List.length_map] at this]
theorem fL.more {Im al:List Nat} {x:Nat} (h:fL pg bN Im al) (hx:(bN.getD x none).isSome=true):fL pg bN (x::Im) al:=
 ⟨h.len,fun y hy=>h.same y fun hm=>hy (List.mem_cons_of_mem _ hm),fun y hy=>by
  rcases hy with hy|hy
  ·rcases List.mem_cons.1 hy with rfl|hy
   ·exact hx
   ·exact h.iF y (.inl hy)
  ·exact h.iF y (.inr hy),h.free,h.nd,h.used⟩
theorem EV {pg:List (Option Wl.Text)} (h:Rm.firstFree pg=none):pg.length≤Rm.used pg:=by
 rcases Nat.lt_or_ge (Rm.used pg) pg.length with h1|h1
 ·obtain⟨p,hp⟩:=Bl.iJ h1
  rw[h] at hp;cases hp
 ·exact h1
structure Kids (E:Ev) (X0:World) (R0:Nat→Prop) (rt:List Nat) (sb:Nat) (R:Nat→Prop) (ps:List (Nat×List UInt8)) (pg:List (Option Wl.Text)) (M:Nat→Option NV) (X:World) (sp:List Nat) (k p:Nat) (t:Tr.E (k+1)) (F:List Nat) (n1:NV) (l':List (Tr.Tx×Tr.E k)) (R1:Nat→Prop) (ps1:List (Nat×List UInt8)) (dX:List (Option Wl.Text)) (M1:Nat→Option NV) (gV al:List Nat) (X1:World):Prop where
 sw:SW E X0 R0 R1 ps1 dX rt M1 X1 sb (ew gV)
 pre:ps<+:ps1
 few:ps1.length+4≤ps.length+4*Tr.cnt (k+1) t
 sm:Tr.jB (Tr.Sm k) (Tr.its t) l'
 st:∀x∈l',bM dX k x.2
 at_:M1 p=some n1
 kvs:n1.its.map kv=(af k l').map kv
 bg:(Tr.b_ k l'++gV).Perm (Tr.b_ k (Tr.its t)++sp++al)
 pg:fL pg dX (Tr.b_ k l') al
 dr:al.length≤Tr.iA k (Tr.its t)
 same:∀r,r∉F→M1 r=M r
 but:aj (fun b=>¬R b∨b=sb∨MB M b) X X1
 sub:∀b,R b→R1 b
 new:∀b,R1 b→R b∨X.heap.size≤b
 mb:∀b,MB M1 b→MB M b
end
end Go.Proofs.YtloekpcncjocaaaGreatDoor
