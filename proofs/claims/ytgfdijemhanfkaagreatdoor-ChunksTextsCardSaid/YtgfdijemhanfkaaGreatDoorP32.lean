/- Elder texts, cut down and merged (32). -/
import Derived.Test.YtgfdijemhanfkaaGreatDoorP26
import Derived.Test.YtgfdijemhanfkaaGreatDoorPTk
set_option linter.unusedSimpArgs false
set_option linter.unusedVariables false
set_option maxRecDepth 100000
set_option maxHeartbeats 8000000
namespace Go.Proofs.YtgfdijemhanfkaaGreatDoor
open _root_.Go.Proofs.Tryz
open Option renaming some→av
open Value renaming int→bf,tuple→ec,string→cu,pointer→dr,agg→eU
open IntKind renaming i64→ct
open Ending renaming returned→c8
open Or renaming inl→cS,inr→dc
open List renaming flatten_append->dI,mem_append->ah,length_eq_zero_iff->ff,length_append->aq,append_assoc->aD,map_append->bM,nodup_append->aP
open Nat renaming le_trans->aN
section
open Go.RowKit Lib
section
variable {E:Ev} {X0:World} {R0:Φ} {ps:Γ} {pg:Ξ} {rt:Δ} {sb:Nat}
theorem GH:∀k,k<=15->JX E X0 R0 ps pg rt sb k
 |0,_=>fun _ _ _ _ _ _ _ _ _ _ _ _ _ _ _ _ h r1 r2 hp a H on o b hc hold hl=>NT h r1 r2 hp a H on o b hc hold κ
 |k+1,hk=>NY (GH k κ) κ
end
section
variable {E:Ev} {X0 Xs X X':World} {R0 Rs R R' S:Φ} {ps:Γ} {pg:Ξ} {rt:Δ} {Ms M M':Nat->Option NV} {p q:Nat} {n m:NV} {sb:Nat} {iA sv fI lv:Value} {l l':List Int} {L LI:List It} {k:Nat}
structure R7 (E:Ev) (X0:World) (R0:Φ) (ps:Γ) (pg:Ξ) (rt:Δ) (Rs:Φ) (Ms:Nat->Option NV) (Xs:World) (sb:Nat) (iA:Value) (k:Nat) (R:Φ) (M:Nat->Option NV) (X:World) (sv:Value) (l:List Int) (lv:Value) (LI:List It) (acc:List (Tr.Tx×Tr.E (k+1))) (fa:List (Δ)):Prop where
 row:Row E X0 R0 ps pg rt Rs Ms Xs sb iA R M X sv l lv LI
 kids:bz pg k (dQ M pg k) LI acc fa
 got:∀i∈LI,i.node.isSome=true
 nd:fa.flatten.Nodup
structure Far (sb:Nat) (M:Nat->Option NV) (X:World) (sv lv:Value) (M':Nat->Option NV) (X':World) (fI nB:Value):Prop where
 but:aE (fun b=>b=sb\/sv.ownBlock=av b\/MB M b\/lv.ownBlock=av b) X X'
 mb:∀b,MB M' b->MB M b\/X.heap.size<=b
 sp:∀b,fI.ownBlock=av b->sv.ownBlock=av b\/X.heap.size<=b
 li:∀b,nB.ownBlock=av b->lv.ownBlock=av b\/X.heap.size<=b
 dom:Dom M M'
def abA (E:Ev) (X0:World) (R0:Φ) (ps:Γ) (pg:Ξ) (rt:Δ) (Rs:Φ) (Ms:Nat->Option NV) (Xs:World) (sb:Nat) (iA:Value) (k:Nat) (M:Nat->Option NV) (X:World) (sv lv:Value) (l:List Int) (F:Δ) (acc:List (Tr.Tx×Tr.E (k+1))) (e:Ending) (X':World):Prop:=
 ∃nB R' M' fI Tq kX,e=c8 (ec #[nB,bf ct 0])/\R7 E X0 R0 ps pg rt Rs Ms Xs sb iA k R' M' X' fI l nB Tq acc kX/\(∀r∈kX.flatten,r∈F\/X.heap.size<=r)/\(∀r y,r∉F->M r=av y->M' r=av y)/\Far sb M X sv lv M' X' fI nB
theorem j9.at {R1:Nat->Tr.E (k+1)->Δ->Prop} {i:It} {x:Tr.Tx×Tr.E (k+1)} {f:Δ} (h:j9 pg k R1 i x f) (hg:i.node.isSome=true):∃q,i.node=av q/\R1 q x.2 f:=by
 rcases h.2.2 with⟨hn,_⟩|h;·grind
 ·exact h
theorem R8 {acc:List (Tr.Tx×Tr.E (k+1))} {fa:List (Δ)} {it:It} {key:Tr.Tx} {c:Tr.E (k+1)} {f:Δ} {sp:Δ} {l0:List Int}
  (h:R7 E X0 R0 ps pg rt Rs Ms Xs sb iA k R M X sv (l0++iF sp) lv LI acc fa) (hi:j9 pg k (dQ M pg k) it (key,c) f) (hg:it.node.isSome=true) (v:(fa.flatten++f).Nodup) (j:LI.length<=400) (m:key.length<=96) (hl:(l0++iF sp).length+k<=100000) (hk:k<=15)
  (z:∀A a,acc=A++[a]->¬Tr.cut (k+1) a.2 key c->∃C D,Tr.Ok (k+1) C (av key) a.2/\Tr.Ok (k+1) key D c/\Tr.Old (k+1) c):
  Calls prog 190 #[ptr sb,lv,eU #[cu (bs it.key),cu (bs it.val),dr (pa it.node)]] X fun e X'=>abA E X0 R0 ps pg rt Rs Ms Xs sb iA k M X sv lv (l0++iF (Tr.bP k key acc sp (key,c)).2) (fa.flatten++f) (Tr.bP k key acc sp (key,c)).1 e X':=by
 have V:Xs.heap.size<=X.heap.size:=h.row.Cv.but.size;have W:∀{e:Ending} {X':World},Co Xs.heap.size X lv (LI++[it]) e X'->abA E X0 R0 ps pg rt Rs Ms Xs sb iA k M X sv lv (l0++iF sp) (fa.flatten++f) (acc++[(key,c)]) e X':=by
  intro e X' ha;obtain⟨nB,R',he,hr,hs,K⟩:=h.row.add ha;refine⟨nB,R',M,sv,LI++[it],fa++[f],he,⟨hr,h.kids.append ⟨hi,trivial⟩,fun i t=> ?_,by rw[dI];simpa using v⟩,fun r hr=>cS (by rw[dI] at hr;simpa using hr),fun _ _ _ hy=>hy,⟨hs.mono fun _ _ H=>dc (dc (dc H)),fun _ H=>cS H,fun _ H=>cS H,K,Dom.refl _⟩⟩;rcases ah.1 t with t|t;·exact h.got i t
  ·grind
 by_cases e:acc=[];·subst e;have zJ:LI=[]:=ff.1 h.kids.len.1;subst zJ;refine (D3 h.row.own V).mono ?_;intro e X' ha;exact W ha
 ·obtain⟨A,⟨ka,a⟩,rfl⟩:=Tr.dX e;obtain⟨I1,I',f1,f',rfl,rfl,G,k2⟩:=h.kids.parts;obtain⟨last,I0,fl,f0,rfl,rfl,Y,k4⟩:=k2.cons_inv;obtain⟨rfl,rfl⟩:=k4.yh;obtain⟨pl,u,r1⟩:=Y.at (h.got last ν);obtain⟨Z,Gh,r2⟩:=hi.at hg;obtain⟨N,l,rO,-⟩:=r1.head;obtain⟨nq,P,gz,-⟩:=r2.head;have s1:cJ N.its=Tr.sz k (Tr.its a):=(r1.sz l).1;have s2:cJ nq.its=Tr.sz k (Tr.its c):=(r2.sz P).1;have n1:=h.row.ss.ts.mem.nd pl N l;have n2:=h.row.ss.ts.mem.nd Z nq P;have n:it.key=key:=hi.1;have o:=rO.level;rw[Tr.dY];by_cases hc:Tr.cut (k+1) a key c;·rw[if_pos hc];refine (D4 h.row.own V (by rw[aq] at j;omega) u Gh n1 n2 (by rw[n];omega) (by rw[s1,s2,o,n];unfold Tr.cut at hc;omega)).mono ?_;intro e X' ha;exact W ha
  ·rw[if_neg hc];obtain⟨C,D,o1,o2,o3⟩:=z A (ka,a) rfl hc;have kE:(fl++f).Nodup:=by grind
   have I:=D5 (sb:=sb) (w:=X) (lv:=lv) (B:=Xs.heap.size) (it:=it) (Q:=fun x X'=>x=0/\∃w1,Below X.heap.size X w1/\u_ E X0 R0 R ps pg rt M w1 sb sv k pl N nq (fl++f) (Tr.join k a c key).1 (l0++iF sp++iF (Tr.join k a c key).2) X') h.row.own (by rw[aq] at j;omega) u Gh n1 n2 (by rw[n];omega) (by rw[s1,s2,o,n];unfold Tr.cut at hc;omega) (fun w1 H=>by
    refine (GH k hk M w1 R sv (l0++iF sp) pl Z N nq a c fl f key C D (h.row.ss.still H) r1 r2 l P kE o1 o2 m hc o3 hl).mono ?_|>fun hh=>by rw[n];exact hh
    rintro e X' ⟨rfl,I⟩;exact⟨0,rfl,rfl,w1,H,I⟩)
   refine I.mono ?_;rintro e X' ⟨x,rfl,rfl,w1,H,M',n',F,J,R_,hat,-,-,qB,p,d⟩;obtain⟨R',fI,L,O⟩:=nE.1 J;have g:nP R M X sb sv R' M' fI X':=(nP.still H).trans O;have q:∀r∈F,r∈fl++f\/X.heap.size<=r:=fun r hr=>(p r hr).imp_right fun h=>aN H.size h;have Ee:∀r∈f1.flatten,r∉fl++f:=zaB;have S:bz pg k (dQ M' pg k) I1 A f1:=G.frame fun r hr=>by obtain⟨y,hy⟩:=G.dom r hr;rw[hy];exact d r y (Ee r hr) hy
   have T:{last with node:=av pl}=last:=(by cases last;simp only at u;subst u;rfl);have U:j9 pg k (dQ M' pg k) last (ka,(Tr.join k a c key).1) F:=(by have:=Y.fN (R2:=dQ M' pg k) (f':=F) (a':=(Tr.join k a c key).1) pl R_;rw[T] at this;exact this);refine⟨lv,R',M',fI,I1++[last],f1++[F],rfl,⟨?_,S.append ⟨U,trivial⟩,h.got, ?_⟩,fun r hr=> ?_,fun r y hr hy=>d r y (fun h2=>hr ?_) hy,⟨g.but.mono fun _ _ H=>H.imp_right fun H=>H.imp_right cS,g.mb,g.sp,fun _ H=>cS H,g.dom⟩⟩;·have:=h.row.step L g;rw[aD] at this;show Row _ _ _ _ _ _ _ _ _ _ _ _ _ _ _ (l0++iF (sp++(Tr.join k a c key).2)) _ _;unfold iF at this |-;rw[bM];exact this
   ·rw[dI];refine aP.2 ⟨?_,by simpa using qB,fun r hr s K e=> ?_⟩;·have:=h.nd;rw[dI] at this;exact (aP.1 this).1
    ·subst e;rcases q r (by simpa using K) with b|b;·exact Ee r hr b
     ·obtain⟨y,hy⟩:=G.dom r hr;have:=(h.row.ss.ts.mem.lt hy).1;omega
   ·rw[dI] at hr |-;rcases ah.1 hr with hr|hr;·exact cS (ah.2 (cS (ah.2 (cS hr))))
    ·rcases q r (by simpa using hr) with b|b
     ·left;rcases ah.1 b with b|b;·exact ah.2 (cS (ah.2 (dc (by simpa using b))))
      ·exact ah.2 (dc b)
     ·exact dc b
   ·rw[dI];rcases ah.1 h2 with b|b;·exact ah.2 (cS (ah.2 (dc (by simpa using b))))
    ·exact ah.2 (dc b)
end
end
end Go.Proofs.YtgfdijemhanfkaaGreatDoor
