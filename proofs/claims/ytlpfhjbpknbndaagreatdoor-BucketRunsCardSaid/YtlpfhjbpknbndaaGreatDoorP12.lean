/- Elder texts, cut down and merged (12). -/
import Derived.Test.YtlpfhjbpknbndaaGreatDoorP11
import Derived.Test.YtlpfhjbpknbndaaGreatDoorP10
import Derived.Test.YtlpfhjbpknbndaaGreatDoorP8
import Derived.Test.YtlpfhjbpknbndaaGreatDoorP9
import Derived.Test.YtlpfhjbpknbndaaGreatDoorP7
import Derived.BigRegion
import Derived.Test.YtlpfhjbpknbndaaGreatDoorPTk
set_option maxRecDepth 100000
set_option maxHeartbeats 8000000
namespace Go.Proofs.YtlpfhjbpknbndaaGreatDoor
open Option renaming some→aD,none→av
open Value renaming int→bf,tuple→gu,string→bR,pointer→e7,agg→iK,slice→cx
open IntKind renaming i64→cu
open Ending renaming returned→eb
open Or renaming inl→dc,inr→dn
open Obj renaming cells→ey
open List renaming flatten_append->dL,mem_append->aj,length_eq_zero_iff->eG,length_append->au,append_assoc->aF,map_append->bQ,nodup_append->aR,length_pos_iff->eL,length_map->aT,getD_eq_getElem?_getD->bZ,getElem?_eq_getElem->aK,pairwise_iff_getElem->ga,append_nil->bA,mem_singleton->cQ,mem_cons->aX,drop_eq_getElem_cons->cw,length_drop->aZ,flatten_cons->dA,getElem_mem->bI,pairwise_cons->cF,mem_cons_self->aE,nodup_cons->cL,setIfInBounds_toArray->aA,set_cons_succ->az,set_cons_zero->ay,map_cons->bM,nil_append->dI,mem_cons_of_mem->aI,length_cons->a_,take_of_length_le->cg,length_take->aO
open Nat renaming le_trans->aH,le_refl->ah,zero_le->aB,zero_add->bE,min_eq_left->ct
open World renaming drew->bJ
section
open Go.RowKit Lib
section
variable {E:Ev} {X0:World} {R0:Nat->Prop} {ps:List (Nat×List UInt8)} {pg:List (Option Wl.Text)} {rt:List Nat} {sb:Nat}
theorem Cv:∀k,k<=15->E3 E X0 R0 ps pg rt sb k
 |0,_=>fun _ _ _ _ _ _ _ _ _ _ _ _ _ _ _ _ h r1 r2 hp a H on o b hc hold hl=>I7 h r1 r2 hp a H on o b hc hold (by omega)
 |k+1,hk=>I_ (Cv k (by omega)) (by omega)
end
section
variable {E:Ev} {X0 Xs X X':World} {R0 Rs R R' S:Nat->Prop} {ps:List (Nat×List UInt8)} {pg:List (Option Wl.Text)} {rt:List Nat} {Ms M M':Nat->Option NV} {p q:Nat} {n m:NV} {sb:Nat} {gG sv eT lv:Value} {l l':List Int} {L LI:List It} {k:Nat}
structure LZ (E:Ev) (X0:World) (R0:Nat->Prop) (ps:List (Nat×List UInt8)) (pg:List (Option Wl.Text)) (rt:List Nat) (Rs:Nat->Prop) (Ms:Nat->Option NV) (Xs:World) (sb:Nat) (gG:Value) (k:Nat) (R:Nat->Prop) (M:Nat->Option NV) (X:World) (sv:Value) (l:List Int) (lv:Value) (LI:List It) (acc:List (Tr.Tx×Tr.E (k+1))) (fa:List (List Nat)):Prop where
 row:Row E X0 R0 ps pg rt Rs Ms Xs sb gG R M X sv l lv LI
 kids:bp pg k (dO M pg k) LI acc fa
 got:∀i∈LI,i.node.isSome=true
 nd:fa.flatten.Nodup
structure Far (sb:Nat) (M:Nat->Option NV) (X:World) (sv lv:Value) (M':Nat->Option NV) (X':World) (eT mA:Value):Prop where
 but:aG (fun b=>b=sb\/sv.ownBlock=aD b\/MB M b\/lv.ownBlock=aD b) X X'
 mb:∀b,MB M' b->MB M b\/X.heap.size<=b
 sp:∀b,eT.ownBlock=aD b->sv.ownBlock=aD b\/X.heap.size<=b
 li:∀b,mA.ownBlock=aD b->lv.ownBlock=aD b\/X.heap.size<=b
 dom:Dom M M'
def Wd (E:Ev) (X0:World) (R0:Nat->Prop) (ps:List (Nat×List UInt8)) (pg:List (Option Wl.Text)) (rt:List Nat) (Rs:Nat->Prop) (Ms:Nat->Option NV) (Xs:World) (sb:Nat) (gG:Value) (k:Nat) (M:Nat->Option NV) (X:World) (sv lv:Value) (l:List Int) (F:List Nat) (acc:List (Tr.Tx×Tr.E (k+1))) (e:Ending) (X':World):Prop:=
 ∃mA R' M' eT N3 jV,e=eb (gu #[mA,bf cu 0])/\LZ E X0 R0 ps pg rt Rs Ms Xs sb gG k R' M' X' eT l mA N3 acc jV/\(∀r∈jV.flatten,r∈F\/X.heap.size<=r)/\(∀r y,r∉F->M r=aD y->M' r=aD y)/\Far sb M X sv lv M' X' eT mA
theorem jB.at {R1:Nat->Tr.E (k+1)->List Nat->Prop} {i:It} {x:Tr.Tx×Tr.E (k+1)} {f:List Nat} (h:jB pg k R1 i x f) (hg:i.node.isSome=true):∃q,i.node=aD q/\R1 q x.2 f:=by
 rcases h.2.2 with⟨hn,_⟩|h;·grind
 ·exact h
theorem L3 {acc:List (Tr.Tx×Tr.E (k+1))} {fa:List (List Nat)} {it:It} {key:Tr.Tx} {c:Tr.E (k+1)} {f:List Nat} {sp:List Nat} {l0:List Int}
  (h:LZ E X0 R0 ps pg rt Rs Ms Xs sb gG k R M X sv (l0++gP sp) lv LI acc fa) (hi:jB pg k (dO M pg k) it (key,c) f) (hg:it.node.isSome=true) (t:(fa.flatten++f).Nodup) (j:LI.length<=400) (m:key.length<=96) (hl:(l0++gP sp).length+k<=100000) (hk:k<=15)
  (u:∀A a,acc=A++[a]->¬Tr.cut (k+1) a.2 key c->∃v z,Tr.Ok (k+1) v (aD key) a.2/\Tr.Ok (k+1) key z c/\Tr.Old (k+1) c):
  Calls Tryz.prog 132 #[ptr sb,lv,iK #[bR (bs it.key),bR (bs it.val),e7 (pa it.node)]] X fun e X'=>Wd E X0 R0 ps pg rt Rs Ms Xs sb gG k M X sv lv (l0++gP (Tr.bO k key acc sp (key,c)).2) (fa.flatten++f) (Tr.bO k key acc sp (key,c)).1 e X':=by
 have T:Xs.heap.size<=X.heap.size:=h.row.zk.but.size;have U:∀{e:Ending} {X':World},za Xs.heap.size X lv (LI++[it]) e X'->Wd E X0 R0 ps pg rt Rs Ms Xs sb gG k M X sv lv (l0++gP sp) (fa.flatten++f) (acc++[(key,c)]) e X':=by
  intro e X' ha;obtain⟨mA,R',he,hr,hs,K⟩:=h.row.add ha;refine⟨mA,R',M,sv,LI++[it],fa++[f],he,⟨hr,h.kids.append ⟨hi,trivial⟩,fun i q=> ?_,by rw[dL];simpa using t⟩,fun r hr=>dc (by rw[dL] at hr;simpa using hr),fun _ _ _ hy=>hy,⟨hs.mono fun _ _ H=>dn (dn (dn H)),fun _ H=>dc H,fun _ H=>dc H,K,Dom.refl _⟩⟩;rcases aj.1 q with q|q;·exact h.got i q
  ·grind
 by_cases e:acc=[];·subst e;have EO:LI=[]:=eG.1 h.kids.len.1;subst EO;refine (Ar h.row.own T).mono ?_;intro e X' ha;exact U ha
 ·obtain⟨A,⟨ka,a⟩,rfl⟩:=Tr.dR e;obtain⟨I1,I',f1,f',rfl,rfl,C,k2⟩:=h.kids.parts;obtain⟨last,I0,fl,f0,rfl,rfl,V,k4⟩:=k2.cons_inv;obtain⟨rfl,rfl⟩:=k4.uN;obtain⟨pl,D,r1⟩:=V.at (h.got last (by simp));obtain⟨W,Y,r2⟩:=hi.at hg;obtain⟨N,l,r_,-⟩:=r1.head;obtain⟨nq,G,fF,-⟩:=r2.head;have s1:cz N.its=Tr.sz k (Tr.its a):=(r1.sz l).1;have s2:cz nq.its=Tr.sz k (Tr.its c):=(r2.sz G).1;have n1:=h.row.ss.ts.mem.nd pl N l;have Z:=h.row.ss.ts.mem.nd W nq G;have L:it.key=key:=hi.1;have n:=r_.level;rw[Tr.dS];by_cases hc:Tr.cut (k+1) a key c;·rw[if_pos hc];refine (As h.row.own T (by rw[au] at j;omega) D Y n1 Z (by rw[L];omega) (by rw[s1,s2,n,L];unfold Tr.cut at hc;omega)).mono ?_;intro e X' ha;exact U ha
  ·rw[if_neg hc];obtain⟨v,z,o1,o2,o3⟩:=u A (ka,a) rfl hc;have jJ:(fl++f).Nodup:=by grind
   have I:=Au (sb:=sb) (w:=X) (lv:=lv) (B:=Xs.heap.size) (it:=it) (Q:=fun x X'=>x=0/\∃w1,Below X.heap.size X w1/\rJ E X0 R0 R ps pg rt M w1 sb sv k pl N nq (fl++f) (Tr.join k a c key).1 (l0++gP sp++gP (Tr.join k a c key).2) X') h.row.own (by rw[au] at j;omega) D Y n1 Z (by rw[L];omega) (by rw[s1,s2,n,L];unfold Tr.cut at hc;omega) (fun w1 H=>by
    refine (Cv k hk M w1 R sv (l0++gP sp) pl W N nq a c fl f key v z (h.row.ss.still H) r1 r2 l G jJ o1 o2 m hc o3 hl).mono ?_|>fun hh=>by rw[L];exact hh
    rintro e X' ⟨rfl,I⟩;exact⟨0,rfl,rfl,w1,H,I⟩)
   refine I.mono ?_;rintro e X' ⟨x,rfl,rfl,w1,H,M',n',F,J,L4,hat,-,-,oI,o,d⟩;obtain⟨R',eT,O,P⟩:=mF.1 J;have g:mQ R M X sb sv R' M' eT X':=(mQ.still H).trans P;have p:∀r∈F,r∈fl++f\/X.heap.size<=r:=fun r hr=>(o r hr).imp_right fun h=>aH H.size h;have AH:∀r∈f1.flatten,r∉fl++f:=(by grind);have S:bp pg k (dO M' pg k) I1 A f1:=C.frame fun r hr=>by obtain⟨y,hy⟩:=C.dom r hr;rw[hy];exact d r y (AH r hr) hy
   have We:{last with node:=aD pl}=last:=(by cases last;simp only at D;subst D;rfl);have ZP:jB pg k (dO M' pg k) last (ka,(Tr.join k a c key).1) F:=(by have:=V.ij (R2:=dO M' pg k) (f':=F) (a':=(Tr.join k a c key).1) pl L4;rw[We] at this;exact this);refine⟨lv,R',M',eT,I1++[last],f1++[F],rfl,⟨?_,S.append ⟨ZP,trivial⟩,h.got, ?_⟩,fun r hr=> ?_,fun r y hr hy=>d r y (fun h2=>hr ?_) hy,⟨g.but.mono fun _ _ H=>H.imp_right fun H=>H.imp_right dc,g.mb,g.sp,fun _ H=>dc H,g.dom⟩⟩;·have:=h.row.step O g;rw[aF] at this;show Row _ _ _ _ _ _ _ _ _ _ _ _ _ _ _ (l0++gP (sp++(Tr.join k a c key).2)) _ _;unfold gP at this |-;rw[bQ];exact this
   ·rw[dL];refine aR.2 ⟨?_,by simpa using oI,fun r hr s K e=> ?_⟩;·have:=h.nd;rw[dL] at this;exact (aR.1 this).1
    ·subst e;rcases p r (by simpa using K) with b|b;·exact AH r hr b
     ·obtain⟨y,hy⟩:=C.dom r hr;have:=(h.row.ss.ts.mem.lt hy).1;omega
   ·rw[dL] at hr |-;rcases aj.1 hr with hr|hr;·exact dc (aj.2 (dc (aj.2 (dc hr))))
    ·rcases p r (by simpa using hr) with b|b
     ·left;rcases aj.1 b with b|b;·exact aj.2 (dc (aj.2 (dn (by simpa using b))))
      ·exact aj.2 (dn b)
     ·exact dn b
   ·rw[dL];rcases aj.1 h2 with b|b;·exact aj.2 (dc (aj.2 (dn (by simpa using b))))
    ·exact aj.2 (dn b)
end
def Tr.parted (k:Nat) (c:Tr.Tx×Tr.E (k+1)):List (Tr.Tx×Tr.E (k+1))×List Nat:=
 if (Tr.its c.2).isEmpty then ([],(Tr.hd c.2).page.toList)
 else if Tr.sz k (Tr.its c.2)<=510 then ([c],[])
 else ([(c.1,(Tr.part k c.2).low),((Tr.part k c.2).key,(Tr.part k c.2).up)],[])
theorem AI (k:Nat) (x:Tr.Tx) (st:List (Tr.Tx×Tr.E (k+1))×List Nat) (c:Tr.Tx×Tr.E (k+1)):
  Tr.dM k x st c=(Tr.parted k c).1.foldl (fun s i=>Tr.bO k x s.1 s.2 i) (st.1,st.2++(Tr.parted k c).2):=by
 unfold Tr.dM Tr.parted;by_cases e:(Tr.its c.2).isEmpty=true;·grind
 ·grind
section
variable {E:Ev} {X0 X X':World} {R0 R R':Nat->Prop} {ps:List (Nat×List UInt8)} {pg:List (Option Wl.Text)} {rt:List Nat} {M M':Nat->Option NV} {p q:Nat} {n m:NV} {sb:Nat} {sv eT:Value} {l l':List Int} {it:It} {k:Nat}
structure Po (E:Ev) (X0:World) (R0:Nat->Prop) (ps:List (Nat×List UInt8)) (pg:List (Option Wl.Text)) (rt:List Nat) (sb:Nat) (k:Nat) (R:Nat->Prop) (M:Nat->Option NV) (X:World) (sv:Value) (f:List Nat) (cs:List (Tr.Tx×Tr.E (k+1))) (l':List Int) (rv:Value) (R':Nat->Prop) (M':Nat->Option NV) (eT:Value) (IT:List It) (fs:List (List Nat)) (X':World):Prop where
 ss:SS E X0 R0 R' ps pg rt M' X' sb eT l'
 zk:mQ R M X sb sv R' M' eT X'
 own:aY X.heap.size X' rv IT
 Cw:∀b,rv.ownBlock=aD b->¬MB M' b/\eT.ownBlock≠aD b
 kids:bp pg k (dO M' pg k) IT cs fs
 got:∀i∈IT,i.node.isSome=true
 nd:fs.flatten.Nodup
 news:∀r∈fs.flatten,r∈f\/X.heap.size<=r
 same:∀r y,r∉f->M r=aD y->M' r=aD y
theorem Cx {t:Tr.E (k+1)} {F:List Nat} {H:Nat} (hr:dO M pg k p t F) (hn:M p=aD n) (i:510<Tr.sz k (Tr.its t)) (f:H=eZ (cz n.its) 0 n.its):
  0<H/\(n.level=0->Tr.lt ((n.its.map It.key).getD (H-1) []) ((n.its.map It.key).getD H [])=true):=by
 obtain⟨n',a,g,_⟩:=hr.head;rw[hn] at a;cases a;have b:=hr.sz hn;have c:n.its≠[]:=by intro e;have j:=b.1;rw[e] at j;have:cz ([]:List It)=0:=rfl;omega
 have d:=pe (cz n.its) n.its 0 c;rw[<-f] at d;have S:H=(Tr.cy k (Tr.sz k (Tr.its t)) 0 (Tr.its t)).1.length:=by rw[f,b.1];exact wv k _ _ _ _ (GL hr hn)
 have l:=Tr.m9 k _ (Tr.its t) rfl (fun x m=>by have:=g.near.2.size x m;omega) i;have o:0<H:=by rw[S];exact eL.2 l
 refine⟨o,fun _=> ?_⟩;have hp:=(iI g.near.2).1;rw[<-b.2.1] at hp;have h:(n.its.map It.key).length=n.its.length:=aT _;rw[bZ,bZ,aK (by rw[h];omega),aK (by rw[h];omega)];exact ga.1 hp (H-1) H (by rw[h];omega) (by rw[h];omega) (by omega)
theorem Ja {key:Tr.Tx} {c:Tr.E (k+1)} {f:List Nat} (h:SS E X0 R0 R ps pg rt M X sb sv l) (hr:dO M pg k q c f) (hi:jB pg k (dO M pg k) it (key,c) f) (C:it.node=aD q) (hf:f.Nodup) (hp:(Tr.hd c).page.isSome=true) (hl:l.length<=1000000):
  Calls Tryz.prog 131 #[ptr sb,ptr q,iK #[bR (bs it.key),bR (bs it.val),e7 (pa it.node)]] X fun e X'=>∃rv R' M' eT IT fs,e=eb rv/\Po E X0 R0 ps pg rt sb k R M X sv f (Tr.parted k (key,c)).1 (l++gP (Tr.parted k (key,c)).2) rv R' M' eT IT fs X':=by
 obtain⟨nq,N,ho,D⟩:=hr.head;have Q:=hr.sz N;have w:=h.ts.mem.nd q nq N;unfold Tr.parted;by_cases e:(Tr.its c).isEmpty=true
 ·rw[if_pos e];have F:nq.its=[]:=by grind
  refine (EM h.blk h.sp w hl F).mono ?_;rintro e X' ⟨rfl,x⟩;rw[ho.page,<-List.singleton_append (l:=[]),bA] at x;obtain⟨eT,R',s',G,h2,h3,h4⟩:=h.left x;rw[jm hp] at s';exact⟨_,R',M,eT,[],[],rfl,⟨s',⟨G,h2,(aG.refl _ X).trans h3 fun b _ a=>a.imp_right dc,fun _ a=>dc a,h4,Dom.refl _⟩,Own.nil _ _ _ _,(fun b a=>by cases a),trivial,(fun i hi=>by cases hi),List.nodup_nil,(fun r hr=>by cases hr),fun _ _ _ hy=>hy⟩⟩
 ·rw[if_neg e];have I:nq.its≠[]:=by grind
  by_cases hs:Tr.sz k (Tr.its c)<=510
  ·rw[if_pos hs];refine (IL w I (by rw[Q.1];exact hs)).mono ?_;rintro e X' ⟨v,rfl,o,a⟩;have s:=h.still a;refine⟨v,R,M,sv,[it],[f],rfl,⟨?_,mQ.still a,o,fun b z=> ?_,⟨hi,trivial⟩,fun i hi=>by rw[cQ.1 hi,C];rfl,by simpa using hf,fun r hr=>dc (by simpa using hr),fun _ _ _ hy=>hy⟩⟩;·show SS _ _ _ _ _ _ _ _ _ _ _ (l++[]);rw[bA];exact s
   ·have G:=(Own.block o b z).1;refine⟨fun t=> ?_,fun J=> ?_⟩;·have:=h.ts.mem.mu t;omega
    ·have:=(Own.block h.sp b J).2;omega
  ·rw[if_neg hs];obtain⟨H,K⟩:∃H,H=eZ (cz nq.its) 0 nq.its:=⟨_,rfl⟩;have S:510<Tr.sz k (Tr.its c):=(by omega);obtain⟨h0,pM⟩:=Cx hr N S K;refine (IM h.ts.mem N H K h0 pM (by rw[Q.1];exact hs)).mono ?_;rintro e X' ⟨v,q',rfl,o,j,B,L⟩;obtain⟨M',A⟩:∃M',M'=upd (upd M q (gE nq H)) q' (jG nq H):=⟨_,rfl⟩;rw[<-A] at j;have Wf:q'∉f:=fun hh=>by obtain⟨y,hy⟩:=hr.dom q' hh;have:=(h.ts.mem.lt hy).1;omega
   obtain⟨xQ,F1,F2,r1,r2,jJ,hF⟩:=wy hr N hf Wf S K A;have u:∀b,MB M' b->MB M b\/b=q':=by
    rintro b ⟨r,y,hy,a⟩;rw[A] at hy;rcases aN hy with⟨rfl,rfl⟩|⟨_,hy⟩
    ·rcases a with rfl|rfl;·exact dn rfl
     ·exact dc ⟨q,nq,N,dn rfl⟩
    ·rcases aN hy with⟨rfl,rfl⟩|⟨_,hy⟩;·exact dc ⟨_,nq,N,a⟩
     ·exact dc ⟨r,y,hy,a⟩
   have T:∀b,(b=q\/b=nq.rg)->MB M b:=fun b a=>⟨q,nq,N,a⟩;have ZQ:q'<X'.heap.size:=(j.lt (p:=q') (n:=jG nq H) (by rw[A,bG])).1
   have O:TS E X0 R0 (fun b=>R b\/b=q') ps pg rt M' X':=h.ts.own L (fun b _ a=>h.ts.kM b (T b a)) j (fun b a=>by
    rcases u b a with a|rfl;·exact⟨dc (h.ts.kM b a).1,(h.ts.kM b a).2⟩
    ·exact⟨dn rfl,aH h.ts.but.size B⟩) (fun b a=>dc a) (fun b a=>a.imp_right fun a=>by rw[a];exact⟨B,ZQ⟩)
   have U:∀b,MB M' b->MB M b\/X.heap.size<=b:=fun b a=>(u b a).imp_right fun a=>by rw[a];exact B
   have m:∀b,R b->R b\/b=q':=fun b a=>dc a;have s:=h.nodes O L T m U;refine⟨v,_,M',sv,_,[F1,F2],rfl,⟨?_,mQ.nodes L T m (fun b a=>a.imp_right fun a=>by rw[a];exact B) U (by rw[A];exact (Dom.upd _ _ _).trans (Dom.upd _ _ _)),o,fun b z=> ?_,⟨⟨hi.1,hi.2.1,dn ⟨q,C,r1⟩⟩,⟨xQ,rfl,dn ⟨q',rfl,r2⟩⟩,trivial⟩,fun i hi=> ?_,by simpa using jJ,fun r hr=> ?_,fun r y hr hy=> ?_⟩⟩;·show SS _ _ _ _ _ _ _ _ _ _ _ (l++[]);rw[bA];exact s
   ·have G:=(Own.block o b z).1;refine⟨fun t=> ?_,fun J=> ?_⟩
    ·rcases u b t with t|t;·have:=h.ts.mem.mu t;omega
     ·subst t;obtain⟨g,cap,V,_,_,_⟩:=Own.form o (by simp);rw[V] at z;have hg:g=b:=(by have W:aD g=aD b:=z;exact Option.some.inj W);subst hg;have d:=(j.nd g (jG nq H) (by rw[A,bG])).blk;rcases o.2 with⟨_,P⟩|⟨g2,Y,cur,Z,_,hh,_⟩;·simp at P
      ·rw[V] at Z;injection Z with e1 W e3;injection e1 with e1;injection e1 with e1;subst e1;unfold aU at d;rw[hh] at d;injection d with d;injection d with _ hty _;exact absurd hty (by decide)
    ·have:=(Own.block h.sp b J).2;omega
   ·rcases aX.1 hi with rfl|hi;·rw[C];rfl
    ·rw[cQ.1 hi];rfl
   ·rcases hF r (by simpa using hr) with hr|rfl;·exact dc hr
    ·exact dn B
   ·have y8:r≠q:=fun e=>hr (by rw[e];exact D);have ZR:r≠q':=fun e=>by have:=(h.ts.mem.lt hy).1;omega
    rw[A,aW ZR,aW y8];exact hy
end
theorem Cy (k:Nat) (x:Tr.Tx) (acc:List (Tr.Tx×Tr.E (k+1))) (sp:List Nat) (i:Tr.Tx×Tr.E (k+1)) (h:acc=[]->x=i.1):Tr.bO k x acc sp i=Tr.bO k i.1 acc sp i:=by
 by_cases e:acc=[];·rw[h e]
 ·obtain⟨A,a,rfl⟩:=Tr.dR e;rw[Tr.dS,Tr.dS]
def rowAt (k:Nat) (x:Tr.Tx) (st:List (Tr.Tx×Tr.E (k+1))×List Nat) (cs:List (Tr.Tx×Tr.E (k+1))) (j:Nat):List (Tr.Tx×Tr.E (k+1))×List Nat:=(cs.take j).foldl (fun s i=>Tr.bO k x s.1 s.2 i) st
theorem qm {k:Nat} {x:Tr.Tx} {st:List (Tr.Tx×Tr.E (k+1))×List Nat} {cs:List (Tr.Tx×Tr.E (k+1))} {j:Nat} (h:j<cs.length):rowAt k x st cs (j+1)=Tr.bO k x (rowAt k x st cs j).1 (rowAt k x st cs j).2 cs[j]:=by unfold rowAt;rw[List.take_add_one,aK h,List.foldl_append];rfl
theorem bp.Pq {pg:List (Option Wl.Text)} {k:Nat} {R:Nat->Tr.E (k+1)->List Nat->Prop} {is:List It} {xs:List (Tr.Tx×Tr.E (k+1))} {fs:List (List Nat)} {j:Nat} (h:bp pg k R (is.drop j) (xs.drop j) (fs.drop j)) (H:j<is.length) (a:j<xs.length) (h3:j<fs.length):
  jB pg k R is[j] xs[j] fs[j]/\bp pg k R (is.drop (j+1)) (xs.drop (j+1)) (fs.drop (j+1)):=by
 rw[cw H,cw a,cw h3] at h;exact h
section
variable {E:Ev} {X0 Xs Xb X V:World} {R0 Rs R R':Nat->Prop} {ps:List (Nat×List UInt8)} {pg:List (Option Wl.Text)} {rt:List Nat} {Ms Mb M M':Nat->Option NV} {sb:Nat} {gG sv eT lv rv:Value} {l0:List Int} {LI IT:List It} {k j:Nat}
structure wD (E:Ev) (X0:World) (R0:Nat->Prop) (ps:List (Nat×List UInt8)) (pg:List (Option Wl.Text)) (rt:List Nat) (Rs:Nat->Prop) (Ms:Nat->Option NV) (Xs:World) (sb:Nat) (gG:Value) (k:Nat) (Mb:Nat->Option NV) (Xb:World) (F:List Nat) (l0:List Int) (rv:Value) (IT:List It) (cs:List (Tr.Tx×Tr.E (k+1))) (fs:List (List Nat)) (st:List (Tr.Tx×Tr.E (k+1))×List Nat) (j:Nat) (R:Nat->Prop) (M:Nat->Option NV) (X:World) (sv:Value) (lv:Value) (LI:List It) (fa:List (List Nat)):Prop where
 row:LZ E X0 R0 ps pg rt Rs Ms Xs sb gG k R M X sv (l0++gP st.2) lv LI st.1 fa
 rest:bp pg k (dO M pg k) (IT.drop j) (cs.drop j) (fs.drop j)
 nd:(fa.flatten++(fs.drop j).flatten).Nodup
 own:aY Xs.heap.size X rv IT
 Cw:∀b,rv.ownBlock=aD b->¬MB M b/\b≠sb/\sv.ownBlock≠aD b/\lv.ownBlock≠aD b
 news:∀r∈fa.flatten++(fs.drop j).flatten,r∈F\/Xb.heap.size<=r
 same:∀r y,r∉F->Mb r=aD y->M r=aD y
 size:Xb.heap.size<=X.heap.size
 low:∀r y,Mb r=aD y->r<Xb.heap.size
 dom:Dom Mb M
theorem E8 {F:List Nat} {cs:List (Tr.Tx×Tr.E (k+1))} {fs:List (List Nat)} {st:List (Tr.Tx×Tr.E (k+1))×List Nat} {fa:List (List Nat)}
  (h:wD E X0 R0 ps pg rt Rs Ms Xs sb gG k Mb Xb F l0 rv IT cs fs st j R M X sv lv LI fa) (m:Below X.heap.size X V) (B:j<IT.length) (hc:j<cs.length) (S:∀i∈IT,i.node.isSome=true) (n:LI.length<=400) (o:(cs[j]).1.length<=96) (hl:(l0++gP st.2).length+k<=100000) (C:k<=15)
  (q:∀A a,st.1=A++[a]->¬Tr.cut (k+1) a.2 (cs[j]).1 (cs[j]).2->∃D G,Tr.Ok (k+1) D (aD (cs[j]).1) a.2/\Tr.Ok (k+1) (cs[j]).1 G (cs[j]).2/\Tr.Old (k+1) (cs[j]).2):
  Calls Tryz.prog 132 #[ptr sb,lv,iK #[bR (bs (IT[j]).key),bR (bs (IT[j]).val),e7 (pa (IT[j]).node)]] V fun e V'=>∃mA R' M' eT N3 jV,e=eb (gu #[mA,bf cu 0])/\wD E X0 R0 ps pg rt Rs Ms Xs sb gG k Mb Xb F l0 rv IT cs fs (Tr.bO k (cs[j]).1 st.1 st.2 cs[j]) (j+1) R' M' V' eT mA N3 jV:=by
 have t:=h.rest.len;simp only[aZ] at t;have hf:j<fs.length:=by omega
 obtain⟨I,u⟩:=h.rest.Pq B hc hf;have W:fs.drop j=fs[j]::fs.drop (j+1):=cw hf;have p:=h.nd;have H:=h.news;rw[W,dA,<-aF] at p H;have hd:=aR.1 p;have v:LZ E X0 R0 ps pg rt Rs Ms Xs sb gG k R M V sv (l0++gP st.2) lv LI st.1 fa:=⟨h.row.row.step (h.row.row.ss.still m) (mQ.still m),h.row.kids,h.row.got,h.row.nd⟩;have hown:aY Xs.heap.size V rv IT:=Own.below h.own m (ah _);refine (L3 v I (S _ (bI _)) hd.1 n o hl C q).mono ?_;rintro e V' ⟨mA,R',M',eT,N3,jV,rfl,g,l,d,qo⟩;have w:∀r∈(fs.drop (j+1)).flatten,M' r=M r:=fun r hr=>by obtain⟨y,hy⟩:=u.dom r hr;rw[hy];exact d r y (fun c=>hd.2.2 r c r hr rfl) hy
 have Q:=Own.block hown;refine⟨mA,R',M',eT,N3,jV,rfl,⟨g,u.frame w,aR.2 ⟨g.nd,hd.2.1,fun r hr s hs e=> ?_⟩,Own.but hown qo.but fun b f hs=> ?_,fun b f=>⟨fun c=> ?_,(h.Cw b f).2.1,fun hs=> ?_,fun hs=> ?_⟩,fun r hr=> ?_,fun r y hr hy=> ?_,by have:=qo.but.size;have:=m.size;have:=h.size;omega,h.low,h.dom.trans qo.dom⟩⟩
 ·subst e;rcases l r hr with hr|hr;·grind
  ·obtain⟨y,hy⟩:=u.dom r hs;have:=(h.row.row.ss.ts.mem.lt hy).1;have:=m.size;omega
 ·obtain⟨n1,N,n3,J⟩:=h.Cw b f;rcases hs with hs|hs|hs|hs;·exact N hs
  ·exact n3 hs
  ·exact n1 hs
  ·exact J hs
 ·rcases qo.mb b c with c|c;·exact (h.Cw b f).1 c
  ·have:=(Q b f).2;omega
 ·rcases qo.sp b hs with c|c;·exact (h.Cw b f).2.2.1 c
  ·have:=(Q b f).2;omega
 ·rcases qo.li b hs with c|c;·exact (h.Cw b f).2.2.2 c
  ·have:=(Q b f).2;omega
 ·rcases aj.1 hr with hr|hr
  ·rcases l r hr with hr|hr;·exact H r (aj.2 (dc hr))
   ·right;have:=m.size;have:=h.size;omega
  ·exact H r (aj.2 (dn hr))
 ·have x:=h.same r y hr hy;refine d r y (fun c=> ?_) x;rcases H r (aj.2 (dc c)) with z|z;·exact hr z
  ·have:=h.low r y hy;omega
end
theorem yt {α:Type} {x:Tr.Tx} {l:List (Tr.Tx×α)}:Tr.bH x l=[]↔l=[]:=by cases l<;>simp
theorem AJ {k:Nat} {x:Tr.Tx} {h:Option Tr.Tx} {acc:List (Tr.Tx×Tr.E (k+1))} {i:Tr.Tx×Tr.E (k+1)} (ha:Tr.Acc k x (aD i.1) (Tr.bH x acc)) (oi:Tr.Ok (k+1) i.1 h i.2)
  (hn:Tr.Old (k+1) i.2\/∀a,acc.getLast?=aD a->Tr.cut (k+1) a.2 i.1 i.2):∀A a,acc=A++[a]->¬Tr.cut (k+1) a.2 i.1 i.2->∃X B,Tr.Ok (k+1) X (aD i.1) a.2/\Tr.Ok (k+1) i.1 B i.2/\Tr.Old (k+1) i.2:=by
 rintro A a rfl hc;obtain⟨b,y,H,-⟩:=Tr.j8 x A a;have hs:=ha.seg;rw[H] at hs;exact⟨y,h,hs.last,oi,hn.resolve_right fun hn=>hc (hn a (Tr.cN A a))⟩
theorem wF {k:Nat} {c:Tr.Tx×Tr.E (k+1)} (e:¬(Tr.its c.2).isEmpty=true) (hs:Tr.sz k (Tr.its c.2)<=510):(Tr.parted k c).1=[c]:=by unfold Tr.parted;rw[if_neg e,if_pos hs]
theorem wG {k:Nat} {c:Tr.Tx×Tr.E (k+1)} (e:¬(Tr.its c.2).isEmpty=true) (hs:¬Tr.sz k (Tr.its c.2)<=510):(Tr.parted k c).1=[(c.1,(Tr.part k c.2).low),((Tr.part k c.2).key,(Tr.part k c.2).up)]:=by unfold Tr.parted;rw[if_neg e,if_neg hs]
theorem uf {k:Nat} {c:Tr.Tx×Tr.E (k+1)} (e:(Tr.its c.2).isEmpty=true):(Tr.parted k c).1=[]:=by unfold Tr.parted;rw[if_pos e]
def Hok (k:Nat) (st:List (Tr.Tx×Tr.E (k+1))) (i:Tr.Tx×Tr.E (k+1)):Prop:=
 i.1.length<=96/\∀A a,st=A++[a]->¬Tr.cut (k+1) a.2 i.1 i.2->∃x B,Tr.Ok (k+1) x (aD i.1) a.2/\Tr.Ok (k+1) i.1 B i.2/\Tr.Old (k+1) i.2
theorem L5 {k:Nat} {x:Tr.Tx} {h:Option Tr.Tx} {acc:List (Tr.Tx×Tr.E (k+1))} {sp:List Nat} {c:Tr.Tx×Tr.E (k+1)} (ha:Tr.Acc k x (aD c.1) (Tr.bH x acc)) (m:acc=[]->Tr.le x c.1) (hl:c.1.length<=96)
  (o:Tr.iP k c.1 h c.2) (H:Tr.Old (k+1) c.2):∀j (d:j<(Tr.parted k c).1.length),Hok k (rowAt k c.1 (acc,sp) (Tr.parted k c).1 j).1 (Tr.parted k c).1[j]:=by
 by_cases e:(Tr.its c.2).isEmpty=true;·simp_all[uf]
 ·have n:Tr.its c.2≠[]:=fun h=>e (List.isEmpty_iff.2 h);by_cases hs:Tr.sz k (Tr.its c.2)<=510;·rw[wF e hs];intro j d;have p:j=0:=(by simpa using d);subst p;exact⟨hl,AJ ha (o.ok n hs) (dc H)⟩
  ·rw[wG e hs];have S:=Tr.oZ k o (by omega);generalize Tr.part k c.2=s at S;intro j d
   match j,d with
   |0,_=>exact⟨hl,AJ (i:=(c.1,s.low)) ha S.low (dc (S.old H))⟩
   |1,_=>
    have J:=Tr.nj (i:=(c.1,s.low)) (sp:=sp) ha (fun e=>⟨m (yt.1 e),S.old H⟩) (fun _=>hl) S.low (dc (S.old H));have g:=(Tr.lQ k x c.1 acc sp (c.1,s.low)).2;refine⟨S.len,AJ (i:=(s.key,s.up)) (x:=x) ?_ S.up (dn fun a f=> ?_)⟩;·show Tr.Acc k x _ (Tr.bH x (Tr.bO k c.1 acc sp (c.1,s.low)).1);rw[g];exact J.row
    ·have P:(Tr.bO k c.1 acc sp (c.1,s.low)).1.getLast?=aD a:=f;obtain⟨A,b,hA⟩:=Tr.dR (l:=(Tr.bO k c.1 acc sp (c.1,s.low)).1) (fun e=>by rw[e] at P;cases P);rw[hA,Tr.cN] at P;cases P;obtain⟨r,y,q,-⟩:=Tr.j8 x A a;refine Tr.n_ S.cut (J.last (y,a.2) ?_);rw[<-g,hA,q,Tr.cN]
theorem AK {k:Nat} {acc:List (Tr.Tx×Tr.E (k+1))} {sp:List Nat} {c:Tr.Tx×Tr.E (k+1)}:rowAt k c.1 (acc,sp++(Tr.parted k c).2) (Tr.parted k c).1 (Tr.parted k c).1.length=Tr.bL k (acc,sp) c:=by unfold rowAt Tr.bL;rw[AI,List.take_length]
theorem zl {k:Nat} {h:Option Tr.Tx} {c:Tr.Tx×Tr.E (k+1)} {W2:List (Tr.Tx×Tr.E (k+1))}:∀{W1:List (Tr.Tx×Tr.E (k+1))},Tr.ji k h (W1++c::W2)->Tr.ji k (aD c.1) W1
 |[],_=>trivial
 |[_],hn=>⟨hn.1,hn.2.1.1,hn.2.1.2.2⟩
 |_::b::r,hn=>⟨hn.1,hn.2.1,zl (W1:=b::r) hn.2.2⟩
theorem qp {k:Nat} {h:Option Tr.Tx} {W2:List (Tr.Tx×Tr.E (k+1))}:∀{W1:List (Tr.Tx×Tr.E (k+1))},Tr.ji k h (W1++W2)->Tr.ji k h W2
 |[],hn=>hn
 |_::W1,hn=>qp (W1:=W1) hn.at.2.2.2.1
theorem GO {k:Nat} {x:Tr.Tx} {h:Option Tr.Tx} {c:Tr.Tx×Tr.E (k+1)} {W2:List (Tr.Tx×Tr.E (k+1))}:∀{W1:List (Tr.Tx×Tr.E (k+1))},Tr.ji k h (W1++c::W2)->(∀d l,W1++c::W2=d::l->Tr.le x d.1)->Tr.le x c.1
 |[],_,hx=>hx c W2 rfl
 |[a],hn,hx=>Tr.le_trans (hx a _ rfl) (Tr.le_of_lt hn.2.1.1)
 |a::b::r,hn,hx=>GO (W1:=b::r) hn.2.2 fun d l hd=>by
  have e:b=d:=(List.cons.inj hd).1;rw[<-e];exact Tr.le_trans (hx a _ rfl) (Tr.le_of_lt hn.2.1.1)
theorem Pt {k:Nat} {x:Tr.Tx} {h:Option Tr.Tx} {W1 W2:List (Tr.Tx×Tr.E (k+1))} {c:Tr.Tx×Tr.E (k+1)} (sp:List Nat) (hn:Tr.ji k h (W1++c::W2)) (H:∀d l,W1++c::W2=d::l->Tr.le x d.1):
  Tr.Acc k x (aD c.1) (Tr.bH x (W1.foldl (Tr.bL k) ([],sp)).1)/\Tr.le x c.1:=by
 refine⟨?_,GO hn H⟩;rw[(Tr.oH k x W1 [] sp).2];refine (Tr.Av (h:=aD c.1) W1 [] sp (Tr.Acc.nil _ _ _) ?_ (zl hn)).row;rintro d l rfl;exact⟨fun _=>H d _ rfl,fun h=>absurd rfl h⟩
theorem E9 {k:Nat} {x:Tr.Tx} {h:Option Tr.Tx} {W1 W2:List (Tr.Tx×Tr.E (k+1))} {c:Tr.Tx×Tr.E (k+1)} (sp sp':List Nat) (hn:Tr.ji k h (W1++c::W2)) (H:∀d l,W1++c::W2=d::l->Tr.le x d.1) (hl:c.1.length<=96):
  ∀j (e:j<(Tr.parted k c).1.length),Hok k (rowAt k c.1 ((W1.foldl (Tr.bL k) ([],sp)).1,sp') (Tr.parted k c).1 j).1 (Tr.parted k c).1[j]:=by
 obtain⟨a,b⟩:=Pt sp hn H;have hc:=(qp (W1:=W1) hn).at;exact L5 a (fun _=>b) hl hc.1 hc.2.2.1
end
namespace Tr
theorem Jb:∀(k:Nat) (n m:E (k+1)) (x:Tx),(hd (join k n m x).1).page=(hd n).page
 |0,_,_,_=>rfl
 |k+1,n,m,x=>by
  unfold join
  split
  ·split<;>rfl
  ·rfl
theorem nu {k:Nat} {x:Tx} {acc:List (Tx×E (k+1))} {sp:List Nat} {i e:Tx×E (k+1)} (H:e∈(bO k x acc sp i).1):
  (∃a∈acc,a.1=e.1/\(hd a.2).page=(hd e.2).page)\/((hd i.2).page=(hd e.2).page/\(e.1=i.1\/(acc=[]/\e.1=x))):=by
 by_cases h:acc=[];·simp_all[jz]
 ·obtain⟨A,a,rfl⟩:=dR h;rw[dS] at H
  split at H
  ·grind
  ·grind [Jb]
theorem wH (k:Nat) (x:Tx) (acc:List (Tx×E (k+1))) (sp:List Nat) (i:Tx×E (k+1)):(bO k x acc sp i).1≠[]:=by
 by_cases h:acc=[];·subst h;rw[jz];simp
 ·obtain⟨A,a,rfl⟩:=dR h;rw[dS]
  split<;>simp
theorem E_ {k:Nat} {acc:List (Tx×E (k+1))} {sp:List Nat} {c e:Tx×E (k+1)} (h:e∈(bL k (acc,sp) c).1):
  (∃a∈acc,a.1=e.1/\(hd a.2).page=(hd e.2).page)\/(c.1=e.1/\(hd c.2).page=(hd e.2).page)\/(510<sz k (its c.2)/\e.1=(part k c.2).key):=by
 unfold bL dM at h
 split at h
 ·grind
 ·split at h
  ·grind [nu]
  ·rename_i hs;rcases nu h with⟨a,ha,d,H⟩|⟨_,H|⟨H,_⟩⟩
   ·rcases nu ha with⟨b,f,h3,h4⟩|⟨h3,h4|⟨_,h4⟩⟩;·grind
    ·exact dn (dc ⟨h4.symm.trans d,h3.trans H⟩)
    ·exact dn (dc ⟨h4.symm.trans d,h3.trans H⟩)
   ·grind
   ·simp_all[wH]
theorem zm {k:Nat} {e:Tx×E (k+1)}:∀(W:List (Tx×E (k+1))) (acc:List (Tx×E (k+1))) (sp:List Nat),e∈(W.foldl (bL k) (acc,sp)).1->
  (∃a∈acc,a.1=e.1/\(hd a.2).page=(hd e.2).page)\/(∃w∈W,w.1=e.1/\(hd w.2).page=(hd e.2).page)\/(∃A c B,W=A++c::B/\510<sz k (its c.2)/\e.1=(part k c.2).key)
 |[],_,_,he=>dc ⟨e,he,rfl,rfl⟩
 |c::W,acc,sp,he=>by
  rcases zm W (bL k (acc,sp) c).1 (bL k (acc,sp) c).2 he with⟨a,ha,H,f⟩|⟨w,g,h⟩|⟨A,d,B,H,f⟩
  ·rcases E_ ha with⟨b,i,h3,h4⟩|⟨h3,h4⟩|⟨h3,h4⟩;·grind
   ·grind
   ·exact dn (dn ⟨[],c,W,rfl,h3,H.symm.trans h4⟩)
  ·grind
  ·grind
theorem ji.mG {k:Nat} {h:Option Tx}:∀{W:List (Tx×E (k+1))},ji k h W->W.Pairwise fun a b=>lt a.1 b.1=true
 |[],_=>.nil
 |[_],_=>List.pairwise_singleton _ _
 |a::b::r,hn=>by
  have i:=ji.mG (W:=b::r) hn.2.2;refine cF.2 ⟨fun y hy=> ?_,i⟩;rcases aX.1 hy with rfl|hy;·exact hn.2.1.1
  ·exact lt_trans hn.2.1.1 ((cF.1 i).1 y hy)
theorem zn {k:Nat} {h:Option Tx} {B:List (Tx×E (k+1))}:∀{A:List (Tx×E (k+1))},ji k h (A++B)->ji k h B
 |[],hn=>hn
 |_::A,hn=>zn (A:=A) hn.at.2.2.2.1
theorem Jc {k:Nat} {h:Option Tx} {W:List (Tx×E (k+1))} (sp:List Nat) (hn:ji k h W) (q:(W.foldl (bL k) ([],sp)).1.map (·.1)=W.map (·.1)):
  (W.foldl (bL k) ([],sp)).1.map (fun p=>(p.1,(hd p.2).page))=W.map fun p=>(p.1,(hd p.2).page):=by
 have hr:=hn.mG;have hl:(W.foldl (bL k) ([],sp)).1.length=W.length:=by have:=congrArg List.length q;rwa [aT,aT] at this
 refine List.ext_getElem (by rw[aT,aT,hl]) fun j f d=> ?_;rw[aT] at f d;rw[List.getElem_map,List.getElem_map];obtain⟨e,g⟩:∃e,e=(W.foldl (bL k) ([],sp)).1[j]:=⟨_,rfl⟩;have X:e.1=(W[j]).1:=by
  have r:((W.foldl (bL k) ([],sp)).1.map (·.1))[j]'(by rw[aT];exact f)=(W.map (·.1))[j]'(by rw[aT];exact d):=by simp only[q]
  rw[List.getElem_map,List.getElem_map] at r;rw[g];exact r
 rw[<-g];rcases zm W [] sp (show e∈_ by rw[g];exact bI f) with⟨_,h3,_⟩|⟨w,hw,h3,h4⟩|⟨A,c,B,h3,h4,h5⟩;·cases h3
 ·obtain⟨i,hi,rfl⟩:=List.mem_iff_getElem.1 hw;have l:i=j:=by
   rcases Nat.lt_trichotomy i j with a|rfl|a;·have:=ga.1 hr i j hi d a;rw[h3,X] at this;rw[lt_irrefl] at this;cases this
   ·rfl
   ·have:=ga.1 hr j i d hi a;rw[h3,X] at this;rw[lt_irrefl] at this;cases this
  subst l;rw[X,h4]
 ·exfalso;have hc:ji k h (c::B):=zn (A:=A) (by rw[<-h3];exact hn);have m:=hc.at;have hp:=oZ k m.1 h4;have s:lt c.1 (part k c.2).key=true:=hp.low.lt;have n:tT (part k c.2).key (uL h B):=hp.up.lt;have o:W[j]∈A++c::B:=by rw[<-h3];exact bI d
  rw[X] at h5;rw[h3] at hr;have K:=List.pairwise_append.1 hr;rcases aj.1 o with H|H;·grind [lt_trans,aE,lt_irrefl]
  ·rcases aX.1 H with H|H;·simp_all[lt_irrefl]
   ·have D:=K.2.1;cases B with
    |nil=>cases H
    |cons b B=>
     have t:lt (part k c.2).key b.1=true:=n;rcases aX.1 H with H|H;·simp_all[lt_irrefl]
     ·have:=lt_trans t ((cF.1 (cF.1 D).2).1 _ H);rw[<-h5,lt_irrefl] at this;cases this
theorem sX {k:Nat} {h:Option Tx} {kc:Tx} {c0 c:E (k+1)} {N:List (Tx×E (k+1))} (hs:sz k (its c0)<=sz k (its c)):∀{P:List (Tx×E (k+1))},dB (Ok (k+1)) (cut (k+1)) h (P++(kc,c0)::N)->Ok (k+1) kc (uL h N) c->dB (Ok (k+1)) (cut (k+1)) h (P++(kc,c)::N)
 |[],s,o=>by
  cases N with
  |nil=>exact o
  |cons b N=>exact⟨o,⟨s.2.1.1,s.2.1.2.1,n_ s.2.1.2.2 hs⟩,s.2.2⟩
 |[a],s,o=>by
  have i:=sX (P:=[]) hs s.2.2 o;exact⟨s.1,⟨s.2.1.1,s.2.1.2.1,mj s.2.1.2.2 hs⟩,i⟩
 |a::b::P,s,o=>⟨s.1,s.2.1,sX (P:=b::P) hs s.2.2 o⟩
theorem L6 {k:Nat} {lo:Tx} {h:Option Tx} {P N:List (Tx×E (k+1))} {kc:Tx} {c0 c:E (k+1)} (o:Rw (k+1) lo h (P++(kc,c0)::N)) (n:iP k (if P=[] then lo else kc) (uL h N) c) (H:sz k (its c)<=510) (b:its c≠[]) (hs:sz k (its c0)<=sz k (its c)):
  Rw (k+1) lo h (P++(kc,c)::N):=by
 obtain⟨h3,h4⟩:=o;rw[dN] at h4;rw[mB] at h3;refine⟨?_, ?_⟩
 ·rw[mB];intro p hp;cases P with
  |nil=>cases hp;exact h3 (kc,c0) rfl
  |cons a P=>cases hp;exact h3 _ rfl
 ·rw[dN,mC];rw[mC] at h4;refine sX hs h4 ?_;have e:(if P.isEmpty=true then lo else kc)=if P=[] then lo else kc:=by cases P<;>rfl
  rw[e];exact n.ok b H
end Tr
section
open Go.RowKit Lib
theorem zo {n n':NV} (h:n'.its.map It.key=n.its.map It.key) (H:n'.lo=n.lo) (j:Nat):eW n' j=eW n j:=by unfold eW;rw[h,H]
theorem zq {n n':NV} (h:n'.its.map It.key=n.its.map It.key) (H:n'.hi=n.hi) (j:Nat):eu n' j=eu n j:=by grind [List.length,aT,eu]
section
variable {E:Ev} {X0 Xs X X' V:World} {R0 Rs R R':Nat->Prop} {ps:List (Nat×List UInt8)} {pg:List (Option Wl.Text)} {rt:List Nat} {Ms M M':Nat->Option NV} {sb p q:Nat} {n0:NV} {gG sv eT lv rv:Value} {l0:List Int} {LI IT I1 I2 iL wI:List It} {k:Nat}
structure mH (E:Ev) (X0:World) (R0:Nat->Prop) (ps:List (Nat×List UInt8)) (pg:List (Option Wl.Text)) (rt:List Nat) (Rs:Nat->Prop) (Ms:Nat->Option NV) (Xs:World) (sb:Nat) (gG:Value) (k p:Nat) (n0:NV) (I1 I2:List It) (F:List Nat) (l0:List Int) (st:List (Tr.Tx×Tr.E (k+1))×List Nat) (iL wI:List It) (W2:List (Tr.Tx×Tr.E (k+1))) (f2:List (List Nat)) (R:Nat->Prop) (M:Nat->Option NV) (X:World) (sv:Value) (lv:Value) (LI:List It) (fa:List (List Nat)):Prop where
 row:LZ E X0 R0 ps pg rt Rs Ms Xs sb gG k R M X sv (l0++gP st.2) lv LI st.1 fa
 at_:M p=aD {n0 with its:=I1++(iL++(wI++I2))}
 keys:(I1++(iL++(wI++I2))).map It.key=n0.its.map It.key
 rest:bp pg k (dO M pg k) wI W2 f2
 nd:(p::(fa.flatten++f2.flatten)).Nodup
 news:∀r∈fa.flatten++f2.flatten,r∈F\/Xs.heap.size<=r
 same:∀r y,r∉p::F->Ms r=aD y->M r=aD y
 low:∀r y,Ms r=aD y->r<Xs.heap.size
 Cz:∀i∈iL,∀q,i.node=aD q->∃y,M q=aD y
structure SE (E:Ev) (X0:World) (R0:Nat->Prop) (ps:List (Nat×List UInt8)) (pg:List (Option Wl.Text)) (rt:List Nat) (Rs:Nat->Prop) (Ms:Nat->Option NV) (Xs:World) (sb:Nat) (gG:Value) (k p:Nat) (n0:NV) (I1 I2:List It) (F:List Nat) (l0:List Int) (st:List (Tr.Tx×Tr.E (k+1))×List Nat) (iL:List It) (i:It) (wI:List It) (c:Tr.Tx×Tr.E (k+1)) (W2:List (Tr.Tx×Tr.E (k+1))) (f:List Nat) (f2:List (List Nat)) (q:Nat) (R:Nat->Prop) (M:Nat->Option NV) (X:World) (sv:Value) (lv:Value) (LI:List It) (fa:List (List Nat)):Prop where
 out:mH E X0 R0 ps pg rt Rs Ms Xs sb gG k p n0 I1 I2 F l0 st iL (i::wI) (c::W2) (f::f2) R M X sv lv LI fa
 node:i.node=aD q
 zg:dO M pg k q c.2 f
abbrev SE.o:=@SE.out
theorem CA {F:List Nat} {st:List (Tr.Tx×Tr.E (k+1))×List Nat} {i:It} {c:Tr.Tx×Tr.E (k+1)} {W2:List (Tr.Tx×Tr.E (k+1))} {f:List Nat} {f2 fa:List (List Nat)} {j:Int}
  (h:mH E X0 R0 ps pg rt Rs Ms Xs sb gG k p n0 I1 I2 F l0 st iL (i::wI) (c::W2) (f::f2) R M X sv lv LI fa) (N:Below X.heap.size X V) (x:n0.level=k+1) (O:k<=15) (z:j=(I1++iL).length)
  (P:i.node=av->Tr.Ok (k+1) (eW n0 (I1++iL).length) (jA (eu n0 (I1++iL).length)) c.2):
  Calls Tryz.prog 79 #[ptr E.tb,ptr p,bf cu j] V fun e X'=>∃q R' M' f',e=eb (gu #[ptr q,bf cu 0])/\SE E X0 R0 ps pg rt Rs Ms Xs sb gG k p n0 I1 I2 F l0 st iL {i with node:=aD q} wI c W2 f' f2 q R' M' X' sv lv LI fa:=by
 obtain⟨K,G⟩:=h.rest;have a:=cL.1 h.nd;have J:=aR.1 a.2;rw[dA] at J;have l:=aR.1 J.2.1;have A:p∉f:=fun H=>a.1 (aj.2 (dn (by rw[dA];exact aj.2 (dc H))));have m:p∉f2.flatten:=fun H=>a.1 (aj.2 (dn (by rw[dA];exact aj.2 (dn H))));have o:p∉fa.flatten:=fun H=>a.1 (aj.2 (dc H));have t:=h.row.row.ss.ts;refine (zj (I1:=I1++iL) (I2:=wI++I2) (key:=c.1) t N h.at_ x (show I1++(iL++(i::wI++I2))=(I1++iL)++i::(wI++I2) by simp) K (fun hn=> ?_) A l.1 O z).mono ?_;·rw[zo (n:=n0) (n':={n0 with its:=I1++(iL++(i::wI++I2))}) h.keys rfl,zq (n:=n0) (n':={n0 with its:=I1++(iL++(i::wI++I2))}) h.keys rfl];exact P hn
 rintro e X' ⟨q,M',R',fq,rfl,b⟩;have I:∀b,b=n0.rg->MB M b:=fun b Q=>⟨p,_,h.at_,dn Q⟩;have B:=h.row.row.ss.nodes b.ts b.but I b.sub b.mb;have u:mQ R M X sb sv R' M' sv X':=mQ.nodes b.but I b.sub b.new b.mb (Dom.but b.at_ b.same);have v:∀{fs:List (List Nat)} {is:List It} {xs:List (Tr.Tx×Tr.E (k+1))},bp pg k (dO M pg k) is xs fs->p∉fs.flatten->bp pg k (dO M' pg k) is xs fs:=fun d T=>d.frame fun r hr=>by obtain⟨y,hy⟩:=d.dom r hr;rw[hy];exact b.same r y (fun e=>T (by rw[<-e];exact hr)) hy
 have g:∀r∈fq,r∈f\/X.heap.size<=r:=b.news;have S:=h.row.row.zk.but.size;have L:∀{fs:List (List Nat)} {is:List It} {xs:List (Tr.Tx×Tr.E (k+1))},bp pg k (dO M pg k) is xs fs->(∀r∈f,r∉fs.flatten)->∀r∈fq,r∉fs.flatten:=fun d hd r hr H=>by
  rcases g r hr with w|w;·exact hd r w H
  ·obtain⟨y,hy⟩:=d.dom r H;have:=(t.mem.lt hy).1;omega
 have C:=L h.row.kids fun r hr H=>J.2.2 r H r (aj.2 (dc hr)) rfl;have D:=L G fun r hr H=>l.2.2 r hr r H rfl;refine⟨q,R',M',fq,rfl,⟨⟨⟨h.row.row.step B u,v h.row.kids o,h.row.got,h.row.nd⟩, ?_, ?_,⟨⟨K.1,K.2.1,dn ⟨q,rfl,b.zg⟩⟩,v G m⟩, ?_,fun r hr=> ?_,fun r y hr hy=> ?_,h.low,fun j z s hs=>by obtain⟨y,hy⟩:=h.Cz j z s hs;exact u.dom s y hy⟩,rfl,b.zg⟩⟩;·rw[b.at_];simp
 ·rw[<-h.keys];simp
 ·rw[dA];refine cL.2 ⟨fun H=> ?_,aR.2 ⟨J.1,aR.2 ⟨b.nd,l.2.1,fun r hr s hs e=>D r hr (by rw[e];exact hs)⟩,fun r hr s hs e=> ?_⟩⟩
  ·rcases aj.1 H with H|H;·exact o H
   ·rcases aj.1 H with H|H;·exact b.pn H
    ·exact m H
  ·subst e;rcases aj.1 hs with hs|hs;·exact C r hs hr
   ·exact J.2.2 r hr r (aj.2 (dn hs)) rfl
 ·rw[dA] at hr;rcases aj.1 hr with hr|hr;·exact h.news r (aj.2 (dc hr))
  ·rcases aj.1 hr with hr|hr
   ·rcases g r hr with w|w;·exact h.news r (aj.2 (dn (by rw[dA];exact aj.2 (dc w))))
    ·right;omega
   ·exact h.news r (aj.2 (dn (by rw[dA];exact aj.2 (dn hr))))
 ·exact b.same r y (fun e=>hr (by rw[e];exact aE)) (h.same r y hr hy)
end
section
variable {E:Ev} {X0 Xs X X' V:World} {R0 Rs R R':Nat->Prop} {ps:List (Nat×List UInt8)} {pg:List (Option Wl.Text)} {rt:List Nat} {Ms M M':Nat->Option NV} {sb p q:Nat} {n0:NV} {gG sv eT lv mA rv:Value} {l0:List Int} {LI N3 IT I1 I2 iL wI:List It} {k:Nat}
theorem Jd {F:List Nat} {st:List (Tr.Tx×Tr.E (k+1))×List Nat} {i:It} {c:Tr.Tx×Tr.E (k+1)} {W2:List (Tr.Tx×Tr.E (k+1))} {f:List Nat} {f2 fa:List (List Nat)}
  (h:SE E X0 R0 ps pg rt Rs Ms Xs sb gG k p n0 I1 I2 F l0 st iL i wI c W2 f f2 q R M X sv lv LI fa) (l:Below X.heap.size X V) (hp:(Tr.hd c.2).page.isSome=true) (hl:(l0++gP st.2).length<=1000000):
  Calls Tryz.prog 131 #[ptr sb,ptr q,iK #[bR (bs i.key),bR (bs i.val),e7 (pa i.node)]] V fun e X'=>∃rv R' M' eT IT fs,e=eb rv/\(∀t∈IT,t.node.isSome=true)/\wD E X0 R0 ps pg rt Rs Ms Xs sb gG k M X (fa.flatten++f) l0 rv IT (Tr.parted k c).1 fs (st.1,st.2++(Tr.parted k c).2) 0 R' M' X' eT lv LI fa:=by
 obtain⟨o,hn,x⟩:=h;obtain⟨K,G⟩:=o.rest;have m:=cL.1 o.nd;have j:=aR.1 m.2;rw[dA] at j;have n:=aR.1 j.2.1;have H:=o.row.row.ss;refine (Ja (key:=c.1) (H.still l) x K hn n.1 hp hl).mono ?_;rintro e X' ⟨rv,R',M',eT,IT,fs,rfl,it⟩;have a:mQ R M X sb sv R' M' eT X':=(mQ.still l).trans it.zk;have z:=l.size;have g:∀r∈fa.flatten,r∉f:=fun r hr u=>j.2.2 r hr r (aj.2 (dc u)) rfl;have v:bp pg k (dO M' pg k) LI st.1 fa:=o.row.kids.frame fun r hr=>by obtain⟨y,hy⟩:=o.row.kids.dom r hr;rw[hy];exact it.same r y (g r hr) hy
 have A:=o.row.row.zk.but.size;have B:l0++gP (st.2++(Tr.parted k c).2)=(l0++gP st.2)++gP (Tr.parted k c).2:=by unfold gP;rw[bQ,aF]
 refine⟨rv,R',M',eT,IT,fs,rfl,it.got,⟨⟨?_,v,o.row.got,o.row.nd⟩,it.kids, ?_,it.own.mono (by omega),fun b w=> ?_,fun r hr=> ?_,fun r y hr hy=>it.same r y (fun u=>hr (aj.2 (dn u))) hy,a.but.size,fun r y hy=>(H.ts.mem.lt hy).1,a.dom⟩⟩;·show Row _ _ _ _ _ _ _ _ _ _ _ _ _ _ _ (l0++gP (st.2++(Tr.parted k c).2)) _ _;rw[B];exact o.row.row.step it.ss a
 ·show (fa.flatten++fs.flatten).Nodup;refine aR.2 ⟨j.1,it.nd,fun r hr s hs e=> ?_⟩;subst e;rcases it.news r hs with d|d;·exact g r hr d
  ·obtain⟨y,hy⟩:=o.row.kids.dom r hr;have:=(H.ts.mem.lt hy).1;omega
 ·have d:=(Own.block it.own b w).1;obtain⟨C,h3⟩:=it.Cw b w;refine⟨C,fun e=> ?_,h3,fun e=> ?_⟩;·have:=H.blk.lt;omega
  ·have:=(Own.block o.row.row.own b e).2;omega
 ·have D:r∈fa.flatten++fs.flatten:=hr;rcases aj.1 D with hr|hr;·exact dc (aj.2 (dc hr))
  ·rcases it.news r hr with d|d;·exact dc (aj.2 (dn d))
   ·right;omega
theorem Fa {F:List Nat} {st S:List (Tr.Tx×Tr.E (k+1))×List Nat} {i:It} {c:Tr.Tx×Tr.E (k+1)} {W2 cs:List (Tr.Tx×Tr.E (k+1))} {f:List Nat} {f2 fs fa jV:List (List Nat)} {j:Nat}
  (h:SE E X0 R0 ps pg rt Rs Ms Xs sb gG k p n0 I1 I2 F l0 st iL i wI c W2 f f2 q R M X sv lv LI fa) (hi:wD E X0 R0 ps pg rt Rs Ms Xs sb gG k M X (fa.flatten++f) l0 rv IT cs fs S j R' M' X' eT mA N3 jV):
  mH E X0 R0 ps pg rt Rs Ms Xs sb gG k p n0 I1 I2 F l0 S (iL++[i]) wI W2 f2 R' M' X' eT mA N3 jV:=by
 obtain⟨o,hn,n⟩:=h;obtain⟨K,g⟩:=o.rest;have H:=cL.1 o.nd;rw[dA,<-aF] at H;have hd:=aR.1 H.2;have T:p∉fa.flatten++f:=fun a=>H.1 (aj.2 (dc a));have t:p∉f2.flatten:=fun a=>H.1 (aj.2 (dn a));have u:=o.row.row.zk.but.size;have D:=(o.row.row.ss.ts.mem.lt o.at_).1;have b:∀r∈jV.flatten,r∈fa.flatten++f\/X.heap.size<=r:=fun r hr=>hi.news r (aj.2 (dc hr));have W:∀r,r∈fa.flatten++f\/r∈f2.flatten->r∈F\/Xs.heap.size<=r:=fun r hr=>by refine o.news r ?_;rw[dA,<-aF];exact aj.2 hr
 refine⟨hi.row, ?_, ?_,g.frame fun r hr=> ?_,cL.2 ⟨fun a=> ?_,aR.2 ⟨hi.row.nd,hd.2.1,fun r hr s hs e=> ?_⟩⟩,fun r hr=> ?_,fun r y hr hy=> ?_,o.low,fun j d s hs=> ?_⟩;·rw[hi.same p _ T o.at_];simp
 ·rw[<-o.keys];simp
 ·obtain⟨y,hy⟩:=g.dom r hr;rw[hy];exact hi.same r y (fun a=>hd.2.2 r a r hr rfl) hy
 ·grind
 ·subst e;rcases b r hr with l|l;·grind
  ·obtain⟨y,hy⟩:=g.dom r hs;have:=(o.row.row.ss.ts.mem.lt hy).1;omega
 ·grind
 ·have m:=o.same r y hr hy;refine hi.same r y (fun a=> ?_) m;rcases W r (dc a) with l|l;·grind
  ·have:=o.low r y hy;omega
 ·rcases aj.1 d with d|d;·obtain⟨y,hy⟩:=o.Cz j d s hs;exact hi.dom s y hy
  ·rw[cQ.1 d,hn] at hs;cases hs;obtain⟨y,hy,-,-⟩:=n.head;exact hi.dom q y hy
end
section
variable {w:World} {p q sb:Nat} {m:NV}
theorem AL (h:Nd w q m) (hf:cz m.its<=510) (hs:m.was<=cz m.its):
  Calls Tryz.prog 87 #[ptr sb,ptr p,ptr q] w fun e w'=>e=eb (bf cu 0)/\Below w.heap.size w w':=by
 have f:=aa (fun V (c:Below w.heap.size w V)=>je (h.still c));have g:=aa (fun V (c:Below w.heap.size w V)=>gZ (h.still c));have i:=aa (fun V (c:Below w.heap.size w V)=>(h.still c).c5);rw[decide_eq_true hf] at f;have y:(cz m.its:Int)≥m.was:=by omega
 have c5:=h.c5;have a:=aa (Below.refl w.heap.size w);unfold ptr at f g;clear h hf hs;go_enter Tryz.func87,Tryz.ntmps87;unfold ptr;go_wp2_with (refine wp_region_any (by kernel_rfl) ?_;refine Hid.o ?_);refine aa ?_;try (change wpAny _ _ _ _ _ _ _ (bJ _))
 refine tk 0 ?_;refine rd [1] (rn fun K H=> ?_);go_simp;refine (f.o _ ((Below.refl _ w).drew)).mono ?_;rintro e w1 ⟨rfl,B⟩;refine H _ _ ?_;clear H K;have a:=aa (((Below.refl w.heap.size w).drew).trans B);have d:=aa (i.o w1 a.o);have c5:=d.o;clear B;refine tk 2 ?_;refine tk 3 ?_;refine tk 5 ?_;refine tk 6 ?_;refine tk 7 ?_;try simp only[Act.put,aA,az,ay]
 refine rd [4,8] (AllReady.cons rfl (fun K H=> ?_) (rn fun K H=> ?_))
 focus
  go_simp
  refine (g.o _ a.o).mono ?_
  rintro e W ⟨rfl,b⟩
  have a:=aa (a.o.trans (b.mono a.o.size))
  have d:=aa (i.o W a.o)
  have c5:=d.o
  clear b
  refine H _ _ ?_;clear H K
  refine rd [8] (rn fun K H=> ?_)
  go_simp
  refine H _ _ ?_;clear H K
 rotate_left
 focus
  go_simp
  refine H _ _ ?_;clear H K
  refine rd [4] (rn fun K H=> ?_)
  go_simp
  refine (g.o _ a.o).mono ?_
  rintro e W ⟨rfl,b⟩
  have a:=aa (a.o.trans (b.mono a.o.size))
  have d:=aa (i.o W a.o)
  have c5:=d.o
  clear b
  refine H _ _ ?_;clear H K
 all_goals
  try simp only[Act.put,aA,az,ay]
  refine tk 9 ?_
  refine tk 10 ?_
  refine wpAny_done (by kernel_rfl) ?_ _
  go_wp2_with fail
  go_ret
  exact⟨rfl,a.o⟩
end
theorem kj {pg:List (Option Wl.Text)}:∀{k:Nat} {n:Tr.E (k+1)},cS pg (k+1) n->Tr.Old (k+1) n
 |0,_,h=>by obtain⟨⟨page,hp,_⟩,_,_⟩:=h;exact⟨by rw[hp];rfl,fun _ _=>trivial⟩
 |k+1,_,h=>by obtain⟨⟨page,hp,_⟩,_,H⟩:=h;exact⟨by rw[hp];rfl,fun p a=>kj (H p (List.mem_of_mem_head? a))⟩
theorem zu {k:Nat} {n:NV} {A B:List (Tr.Tx×Tr.E (k+1))} {key:Tr.Tx} {c:Tr.E (k+1)} (hn:Tr.Rw (k+1) n.lo (jA n.hi) (A++(key,c)::B)) (d:n.its.map It.key=(A++(key,c)::B).map (·.1)):
  eW n A.length=(if A=[] then n.lo else key)/\jA (eu n A.length)=Tr.uL (jA n.hi) B:=by
 obtain⟨_,h4⟩:=hn;rw[Tr.dN] at h4;have a:n.its.length=(A++(key,c)::B).length:=by grind [List.length,aT]
 have h:eW n A.length=if A=[] then n.lo else key:=by simp_all[eW]
 have f:∀b B',B=b::B'->eu n A.length=b.1:=by simp_all[eu,au]
 have N:B=[]->eu n A.length=n.hi:=by simp_all[eu]
 have H:∀b B',B=b::B'->b.1≠[]:=by
  intro b B' e g;rw[e,Tr.mC] at h4;have:=(Tr.dB.append.1 h4).2.1.1;rw[g] at this;have i:∀x:Tr.Tx,Tr.lt x []=false:=fun x=>by cases x<;>rfl
  rw[i] at this;cases this
 refine⟨h, ?_⟩;cases B with
 |nil=>rw[N rfl];rfl
 |cons b B'=>rw[f b B' rfl];unfold jA;rw[if_neg (H b B' rfl)];rfl
theorem AM {k:Nat} {A B:List (Tr.Tx×Tr.E (k+1))} {kc:Tr.Tx} {c0 c:Tr.E (k+1)}:Tr.sz (k+1) (A++(kc,c)::B)=Tr.sz (k+1) (A++(kc,c0)::B):=by rw[Tr.ep,Tr.ep];rfl
theorem CB {k:Nat} {c0 c:Tr.E (k+1)} (h:(Tr.hd c).page=(Tr.hd c0).page):ej (k+1) c=ej (k+1) c0:=by show pv ((Tr.hd c).page.getD 0)=pv ((Tr.hd c0).page.getD 0);rw[h]
theorem dK (k:Nat) (a b:List (Tr.Tx×Tr.E k)):aq k (a++b)=aq k a++aq k b:=bQ
theorem yu {k:Nat} {a b:List (Tr.Tx×Tr.E (k+1))} (h:a.map (fun p=>(p.1,(Tr.hd p.2).page))=b.map fun p=>(p.1,(Tr.hd p.2).page)):aq (k+1) a=aq (k+1) b:=by
 have e:∀l:List (Tr.Tx×Tr.E (k+1)),aq (k+1) l=(l.map fun p=>(p.1,(Tr.hd p.2).page)).map fun x=>(⟨x.1,pv (x.2.getD 0),av⟩:It):=by intro l;unfold aq;rw[List.map_map];rfl
 rw[e,e,h]
section
variable {E:Ev} {X0 X X':World} {R0 R R':Nat->Prop} {ps:List (Nat×List UInt8)} {pg:List (Option Wl.Text)} {rt:List Nat} {M M':Nat->Option NV} {k p q sb:Nat} {n m:NV} {sv eT:Value} {h:Tr.Hd} {A B:List (Tr.Tx×Tr.E (k+1))} {kc:Tr.Tx} {c0 c:Tr.E (k+1)} {F:List Nat} {l0:List Int} {sp:List Nat}
structure Slot (pg:List (Option Wl.Text)) (M:Nat->Option NV) (k p q:Nat) (n m:NV) (h:Tr.Hd) (A B:List (Tr.Tx×Tr.E (k+1))) (kc:Tr.Tx) (c0 c:Tr.E (k+1)) (F:List Nat):Prop where
 at_:M p=aD n
 its:n.its=aq (k+1) A++⟨kc,ej (k+1) c0,aD q⟩::aq (k+1) B
 sides:∀x,x∈A\/x∈B->cS pg (k+1) x.2
 own:n.own=true
 mI:kQ pg (k+1) n (Tr.mk h (A++(kc,c0)::B))
 idx:n.at_=A.length
 zg:dO M pg k q c F
 lS:M q=aD m
 near:Tr.iP k (eW n A.length) (jA (eu n A.length)) c
 page:(Tr.hd c).page=(Tr.hd c0).page
 old:Tr.Old (k+1) c
 was:m.was=Tr.sz k (Tr.its c0)
 fit:Tr.sz (k+1) (A++(kc,c0)::B)<=510
 fresh:h.fresh=false
 nd:(p::F).Nodup
theorem Slot.keys (s:Slot pg M k p q n m h A B kc c0 c F):n.its.map It.key=(A++(kc,c0)::B).map (·.1):=by rw[s.its,bQ,bM,dJ,dJ,bQ,bM]
theorem Slot.Q_ (s:Slot pg M k p q n m h A B kc c0 c F):n.its.map It.key=(A++(kc,c)::B).map (·.1):=by rw[s.keys,bQ,bM,bQ,bM]
theorem Slot.XT (s:Slot pg M k p q n m h A B kc c0 c F):Tr.Rw (k+1) n.lo (jA n.hi) (A++(kc,c0)::B):=s.mI.near.2
theorem Slot.ends (s:Slot pg M k p q n m h A B kc c0 c F):eW n A.length=(if A=[] then n.lo else kc)/\jA (eu n A.length)=Tr.uL (jA n.hi) B:=zu s.XT s.keys
theorem Slot.Ra (s:Slot pg M k p q n m h A B kc c0 c F):Tr.iP k (if A=[] then n.lo else kc) (Tr.uL (jA n.hi) B) c:=by
 have:=s.near
 rwa [s.ends.1,s.ends.2] at this
theorem Slot.ok0 (s:Slot pg M k p q n m h A B kc c0 c F):Tr.Ok (k+1) (eW n A.length) (jA (eu n A.length)) c0:=mD s.mI.near rfl s.keys
theorem zv {n n':NV} {h:Tr.Hd} {l l':List (Tr.Tx×Tr.E (k+1))} (o:kQ pg (k+1) n (Tr.mk h l)) (H:n'.level=n.level) (a:n'.page=n.page) (h3:n'.fresh=n.fresh) (h4:n'.lo=n.lo) (b:n'.hi=n.hi) (c:Tr.sz (k+1) l'<=664) (d:Tr.Rw (k+1) n.lo (jA n.hi) l') (hp:l'.map (fun p=>(p.1,(Tr.hd p.2).page))=l.map fun p=>(p.1,(Tr.hd p.2).page)):kQ pg (k+1) n' (Tr.mk h l'):=by
 refine⟨by rw[H];exact o.level,by rw[a];exact o.page,by rw[h3];exact o.fresh,by rw[h4,b];exact⟨c,d⟩,fun hf=> ?_⟩;obtain⟨page,f,g,i,j⟩:=o.held hf;refine⟨page,f,g, ?_,fun _ x m=> ?_⟩;·show pg.getD page av=aD (Dk.full (cJ (k+1) (aq (k+1) l')));rw[yu hp];exact i
 ·have q:(x.1,(Tr.hd x.2).page)∈l.map fun p=>(p.1,(Tr.hd p.2).page):=by rw[<-hp];exact List.mem_map.2 ⟨x,m,rfl⟩
  obtain⟨y,hy,e⟩:=List.mem_map.1 q;have r:=j (Nat.succ_pos k) y hy;have s:(Tr.hd y.2).page=(Tr.hd x.2).page:=(Prod.mk.inj e).2;show (Tr.hd x.2).page.isSome=true;rw[<-s];exact r
theorem zw (hp:(Tr.hd c).page=(Tr.hd c0).page):(A++(kc,c)::B).map (fun p=>(p.1,(Tr.hd p.2).page))=(A++(kc,c0)::B).map fun p=>(p.1,(Tr.hd p.2).page):=by grind
def CC (E:Ev) (X0:World) (R0 R:Nat->Prop) (ps:List (Nat×List UInt8)) (pg:List (Option Wl.Text)) (rt:List Nat) (M:Nat->Option NV) (X:World) (sb:Nat) (sv:Value) (l0:List Int) (sp:List Nat) (k p:Nat) (n:NV) (h:Tr.Hd) (all:List (Tr.Tx×Tr.E (k+1))) (b:Nat) (F:List Nat) (X':World):Prop:=
 ∃R' M' eT n' t' f sp',SS E X0 R0 R' ps pg rt M' X' sb eT (l0++gP sp')/\mQ R M X sb sv R' M' eT X'/\M' p=aD n'/\(n'.lo=n.lo/\n'.hi=n.hi/\n'.was=n.was/\n'.own=true)/\dO M' pg (k+1) p t' f/\(Tr.hd t').page=h.page/\
  Tr.uM k n.lo (jA n.hi) all (Tr.its t') b sp sp'/\f.Nodup/\(∀r∈f,r∈p::F\/X.heap.size<=r)/\∀r y,r∉p::F->M r=aD y->M' r=aD y
theorem oJ {R1:Nat->Tr.E (k+1)->List Nat->Prop} {I:List It} {W:List (Tr.Tx×Tr.E (k+1))} {fs:List (List Nat)} {P N:List (Tr.Tx×Tr.E (k+1))} (h:∀x∈P,cS pg (k+1) x.2) (H:∀x∈N,cS pg (k+1) x.2) (a:bp pg k R1 I W fs):
  ∃f,bp pg k R1 (aq (k+1) P++(I++aq (k+1) N)) (P++(W++N)) f/\f.flatten=fs.flatten:=
 ⟨_,(ia h).append (a.append (ia H)),by rw[dL,dL,iJ,iJ,dI,bA]⟩
theorem Je (s:Slot pg M k p q n m h A B kc c0 c F) (hs:SS E X0 R0 R ps pg rt M X sb sv (l0++gP sp)) (f:Tr.sz k (Tr.its c)<=510) (hg:Tr.sz k (Tr.its c0)<=Tr.sz k (Tr.its c)) (g:Below X.heap.size X X'):
  CC E X0 R0 R ps pg rt M X sb sv l0 sp k p n h (A++(kc,c)::B) (Tr.big k [(kc,c)]) F X':=by
 have i:Tr.its c≠[]:=by intro e;have o:=Tr.OD s.ok0.1;rw[e] at hg;have:Tr.sz k ([]:List (Tr.Tx×Tr.E k))=0:=rfl;omega
 have H:=Tr.L6 s.XT s.Ra f i hg;have a:Tr.big k [(kc,c)]=0:=by unfold Tr.big;rw[if_pos f];rfl
 have P:=zw (A:=A) (B:=B) (kc:=kc) s.page;have hfit:=s.fit;obtain⟨fs,j,b⟩:=oJ (R1:=dO M pg k) (fun x d=>s.sides x (dc d)) (fun x d=>s.sides x (dn d)) (show bp pg k (dO M pg k) [⟨kc,ej (k+1) c0,aD q⟩] [(kc,c)] [F] from⟨⟨rfl,rfl,dn ⟨q,rfl,s.zg⟩⟩,trivial⟩);refine⟨R,M,sv,n,Tr.mk h (A++(kc,c)::B),p::F,sp,hs.still g,mQ.still g,s.at_,⟨rfl,rfl,rfl,s.own⟩, ?_,rfl, ?_,s.nd,fun r hr=>dc hr,fun _ _ _ hy=>hy⟩
 ·refine⟨n,fs,s.at_,zv s.mI rfl rfl rfl rfl rfl (by rw[AM (c0:=c0)];omega) H P, ?_, ?_⟩;·rw[s.its];exact j
  ·rw[b];simp
 ·rw[a];refine⟨H,rfl,List.Perm.refl _,rfl,Nat.le_add_right _ _,fun l p hp=>l p (List.mem_of_mem_head? hp)⟩
end
end
namespace Tr
theorem CD {k:Nat} {h:Option Tx} {a a':Tx} {x:E (k+1)}:∀{r:List (Tx×E (k+1))},ji k h ((a,x)::r)->le a' a->ji k h ((a',x)::r)
 |[],hn,hl=>⟨hn.1.lo hl,vE hl hn.2.1,hn.2.2⟩
 |_::_,hn,hl=>⟨hn.1.lo hl,⟨lt_of_le_of_lt hl hn.2.1.1,hn.2.1.2⟩,hn.2.2⟩
theorem CE {k:Nat} {lo:Tx} {h:Option Tx} {P A B N:List (Tx×E (k+1))} {kc:Tx} {c0 c:E (k+1)} (o:Rw (k+1) lo h (P++((A++(kc,c0)::B)++N))) (n:iP k (if P=[]/\A=[] then lo else kc) (uL h (B++N)) c)
  (f:∀p∈A,Old (k+1) p.2) (O:Old (k+1) c) (b:∀p∈B,Old (k+1) p.2):∃h',ji k h' (A++(kc,c)::B):=by
 obtain⟨h3,h4⟩:=o;rw[dN] at h4;rw[mB] at h3;refine⟨uL h N, ?_⟩;rw[wk] at n;cases P with
 |cons a P=>
  have H:=(dB.wj (dB.behind (A:=(lo,a.2)::P) h4)).1;exact pz H (by rw[if_neg (by simp)] at n;exact n) f O b
 |nil=>
  have H:dB (Ok (k+1)) (cut (k+1)) (uL h N) (bH lo (A++(kc,c0)::B)):=by grind [fD,dB.wj]
  cases A with
  |nil=>
   have d:=pz (P:=[]) (c:=c) H (by rw[if_pos ⟨rfl,rfl⟩] at n;exact n) (fun _ h=>by cases h) O b;have e:kc=[]:=h3 (kc,c0) rfl;rw[e];exact CD d (nil_le _)
  |cons a A=>
   have d:=pz (P:=(lo,a.2)::A) (c:=c) H (by rw[if_neg (by simp)] at n;exact n) (fun p hp=>by
    rcases aX.1 hp with rfl|hp;·grind
    ·exact f p (aI _ hp)) O b
   have e:a.1=[]:=h3 a rfl;obtain⟨ka,x⟩:=a;cases e;exact CD d (nil_le _)
theorem wJ:∀(k:Nat) (n m:E (k+1)) (x:Tx),(join k n m x).2.length<=k+1
 |0,n,m,x=>by rw[sI];cases (hd m).page<;>simp
 |k+1,n,m,x=>by
  unfold join
  split
  ·rename_i a b r _ _;have i:=wJ k a.2 b.2 x;have e:(hd m).page.toList.length<=1:=by cases (hd m).page<;>simp
   split
   ·grind
   ·grind
  ·exact aB _
theorem ug (k:Nat) (x:Tx) (acc:List (Tx×E (k+1))) (sp:List Nat) (i:Tx×E (k+1)):(bO k x acc sp i).1.length<=acc.length+1/\(bO k x acc sp i).2.length<=sp.length+(k+1):=by
 by_cases h:acc=[];·simp_all[jz,Nat.le_add_right]
 ·obtain⟨A,a,rfl⟩:=dR h;rw[dS]
  split
  ·grind
  ·simp_all[au,wJ]
theorem Jf (k:Nat) (st:List (Tx×E (k+1))×List Nat) (c:Tx×E (k+1)):(bL k st c).1.length<=st.1.length+2/\(bL k st c).2.length<=st.2.length+(2*k+3):=by
 unfold bL dM
 split
 ·grind
 ·grind [ug,part,bO]
theorem pE (k:Nat):∀(W:List (Tx×E (k+1))) (st:List (Tx×E (k+1))×List Nat),(W.foldl (bL k) st).1.length<=st.1.length+2*W.length/\(W.foldl (bL k) st).2.length<=st.2.length+(2*k+3)*W.length
 |[],st=>⟨by simp,by simp⟩
 |c::W,st=>by
  have h:=Jf k st c;have H:=pE k W (bL k st c);rw[List.foldl_cons,a_];refine⟨by omega, ?_⟩;rw[Nat.mul_succ];omega
end Tr
section
open Go.RowKit Lib
theorem AO (w:World) (o cap i:Nat) (l:List It) (h:aY 0 w (cx (aD ⟨o,0,av⟩) l.length cap) l) (hi:i<l.length) (hl:l.length<=400):
  Calls Tryz.prog 56 #[cx (aD ⟨o,0,av⟩) l.length cap,bf cu i,bf cu (i+1:Nat)] w fun e w'=>e=eb (cx (aD ⟨o,0,av⟩) (l.length-1) cap)/\aY 0 w' (cx (aD ⟨o,0,av⟩) (l.length-1) cap) (l.take i++l.drop (i+1))/\aG (fun k=>k=o) w w':=by
 obtain⟨_,b,T⟩:=iB h;have c:=Own.upto h i (by omega);have L:=aa c;obtain⟨M,q⟩:∃M,l.length=M+1:=⟨l.length-1,by omega⟩;rw[q] at hi hl b h |-;have H:=aa (show i<l.length/\l.length=M+1/\M+1<=cap from⟨by omega,q,b⟩);have O:l.drop (i+1)≠[]->bu ak w o ((i+1)*3) (l.drop (i+1)):=fun _=>by have:=(Own.lies h).part (i+1) (l.length-(i+1)) (by omega);rw[bE,cg (by rw[aZ];exact ah _)] at this;exact this
 rw[Nat.add_sub_cancel];have y:(i:Int)+1<=M+1:=by omega
 have A:(i:Int)<=i+1:=by omega
 have s:(0:Int)<=(i:Int)+1:=by omega
 have V:(i:Int)<=M+1:=by omega
 have t:i<=M:=by omega
 have j:i+(M-i)=M:=by omega
 have u:(cap:Int)<=9223372036854775807:=by unfold maxLen at T;omega
 have z:(M:Int)+1<=cap:=by omega
 have v:i<=cap:=by omega
 have x:¬cap=M:=by omega
 have D:¬cap=i:=by omega
 have I:IntKind.i64.wrap ((i:Int)+1)=(i:Int)+1:=by grind [cX]
 have F:((i:Int)+1).toNat=i+1:=by omega
 have a:((i:Int)==(i:Int)+1)=false:=by rw[beq_eq_false_iff_ne];omega
 clear c h q T;by_cases X:cap=i+1
 ·have m:l.drop (i+1)=[]:=List.drop_eq_nil_of_le (by have:=H.o;omega);have Z:=aa (show l.drop (i+1)≠[]->bu ak w.drew o 0 (l.drop (i+1)) from fun hn=>absurd m hn);clear O m;subst X;obtain rfl:i=M:=by omega
  go_enter Tryz.func56,Tryz.ntmps56;go_wp2_with (refine wp_region_any (by kernel_rfl) ?_;refine Hid.o ?_);refine aa ?_;try (change wpAny _ _ _ _ _ _ _ (bJ _))
  refine tk 0 ?_;refine tk 1 ?_;refine tk 2 ?_;refine tk 3 ?_;refine tk 4 ?_;refine tk 5 ?_;try simp only[Act.put,aA,az,ay]
  refine rd [6] (rn fun K n=> ?_);refine oy _ _ rfl o i (i+1) rfl (show aY 0 w.drew (cx (aD ⟨o,0,av⟩) i (i+1)) (l.take i) from L.o) (by rw[aO];have:=H.o;omega) _ _ _ _ (l.drop (i+1)) rfl (by rw[aZ];have:=H.o;omega) (fun a=>Z.o a) (by have:=H.o;omega) ?_;intro W d f;refine n _ _ ?_;clear n K;refine tk 7 ?_;refine wpAny_done (by kernel_rfl) ?_ _;rw[show i+0=i by omega] at d |-;have g:=aa (show aY 0 W (cx (aD ⟨o,0,av⟩) i (i+1)) (l.take i++l.drop (i+1))/\aG (fun k=>k=o) w W from⟨d,⟨f.os,f.tape,f.output,f.size,fun k r hn=>f.block k r (fun e=>hn (by injection e))⟩⟩);clear d f;obtain⟨vs,C⟩:=fJ W o i (i+1) (l.take i++l.drop (i+1)) g.o.1 1 (by omega) (by decide);go_wp2;go_ret;have p:=Own.cleared (K:=ak) (E:=122) (B:=0) vs W (i*3) g.o.1 (by rw[au,aO,aZ];have:=H.o;show _*3<=_;omega);exact⟨rfl,p.1,g.o.2.trans p.2 (fun _ _ e=>e)⟩
 ·have Z:=aa (show l.drop (i+1)≠[]->bu ak w.drew o ((i+1)*3) (l.drop (i+1)) from O);clear O;go_enter Tryz.func56,Tryz.ntmps56;go_wp2_with (refine wp_region_any (by kernel_rfl) ?_;refine Hid.o ?_);refine aa ?_;try (change wpAny _ _ _ _ _ _ _ (bJ _))
  refine tk 0 ?_;refine tk 1 ?_;refine tk 2 ?_;refine tk 3 ?_;refine tk 4 ?_;refine tk 5 ?_;try simp only[Act.put,aA,az,ay]
  refine rd [6] (rn fun K n=> ?_);refine oy _ _ rfl o i cap rfl (show aY 0 w.drew (cx (aD ⟨o,0,av⟩) i cap) (l.take i) from L.o) (by rw[aO];have:=H.o;omega) _ _ _ _ (l.drop (i+1)) rfl (by rw[aZ];have:=H.o;omega) (fun a=>Z.o a) (by have:=H.o;omega) ?_;intro W d f;refine n _ _ ?_;clear n K;refine tk 7 ?_;refine wpAny_done (by kernel_rfl) ?_ _;rw[j] at d |-;have g:=aa (show aY 0 W (cx (aD ⟨o,0,av⟩) M cap) (l.take i++l.drop (i+1))/\aG (fun k=>k=o) w W from⟨d,⟨f.os,f.tape,f.output,f.size,fun k r hn=>f.block k r (fun e=>hn (by injection e))⟩⟩);clear d f;obtain⟨vs,C⟩:=fJ W o M cap (l.take i++l.drop (i+1)) g.o.1 1 (by omega) (by decide);go_wp2;go_ret;have p:=Own.cleared (K:=ak) (E:=122) (B:=0) vs W (M*3) g.o.1 (by rw[au,aO,aZ];have:=H.o;show _*3<=_;omega);exact⟨rfl,p.1,g.o.2.trans p.2 (fun _ _ e=>e)⟩
theorem wK (w:World) (a:Option Addr) (c:Nat) (ty:TypeId):(Builtin.clear_ #[123] ty #[.slice a 0 c]).run Tryz.prog w=.ok (.tuple #[]) w:=by cases a<;>simp[Builtin.clear_,run_underlying Tryz.underlying123]
section
variable {w:World} {B:Nat} {l ms:List It} {va:Option Addr} {mc:Nat}
theorem oK {g cap i j m:Nat} (h:aY B w (cx (aD ⟨g,0,av⟩) l.length cap) l) (hl:l.length<=400) (I:m=ms.length) (J:0<ms.length->∃vr vo,va=aD ⟨vr,vo,av⟩/\bu ak w vr vo ms/\vr≠g) (q:i+m<=j) (hi:i<j) (y:j<l.length):
  Calls Tryz.prog 134 #[cx (aD ⟨g,0,av⟩) l.length cap,bf cu i,bf cu j,cx va m mc] w fun e w'=>gF B w (cx (aD ⟨g,0,av⟩) l.length cap) (l.take i++ms++l.drop j) e w':=by
 obtain⟨R,hg,z,-,N,d,r⟩:=jU h;have HH:=aa (And.intro h (And.intro hg (And.intro z (And.intro d r))));have HV:=aa J;have H:=aa (show i+m<=j/\j<l.length/\l.length<=cap/\m=ms.length from⟨q,y,N,I⟩);obtain⟨L,u⟩:∃L,L=l.length:=⟨_,rfl⟩;rw[<-u] at hl y N |-;have c:=aa u;have jD:(L:Int)<=400:=by omega
 have Wh:(i:Int)<=j:=by omega
 have Kg:(i:Int)<=L:=by omega
 have Im:(j:Int)<=L:=by omega
 have Wi:(j:Int)<L:=by omega
 have hne:((i:Int)==j)=false:=by rw[beq_eq_false_iff_ne];omega
 have Wj:((j:Int)==L)=false:=by rw[beq_eq_false_iff_ne];omega
 have xM:(L:Int)<=cap:=by omega
 have O7:¬cap=i:=by omega
 have XU:¬cap=j:=by omega
 have OY:(m:Int)<=400:=by omega
 have hTI:¬(i:Int)+m+(L-j)>cap:=by omega
 have hT0:(0:Int)<=(i:Int)+m+(L-j):=by omega
 have ZT:(i:Int)+m+(L-j)<=cap:=by omega
 have Wk:(i:Int)+m<=j:=by omega
 have hiT:(i:Int)<=(i:Int)+m+(L-j):=by omega
 have Wm:¬cap=i+m:=by omega
 have XG:(0:Int)<=(i:Int)+m:=by omega
 have ilT:(i:Int)+m<=(i:Int)+m+((L-j:Nat):Int):=by omega
 have iw:IntKind.i64.wrap ((i:Int)+m)=(i:Int)+m:=by grind [cX]
 have Vl:((i:Int)+m).toNat=i+m:=by omega
 obtain⟨M,O⟩:∃M,M=ak.cells ((l.drop i).take (j-i)):=⟨_,rfl⟩;have b:ak.cells l++R=ak.cells (l.take i)++(M++(ak.cells (l.drop j)++R)):=by grind [fA,List.drop_drop,aF]
 have a:=aa (show w.drew.heap[g]?=aD (ey (ak.cells (l.take i)++(M++(ak.cells (l.drop j)++R))).toArray 122 (0,0))/\(ak.cells (l.take i)).length=i*3/\M.length=(j-i)*3/\(ak.cells (l.drop j)).length=(L-j)*3/\cap<=maxLen/\(ak.cells (l.take i)++(M++(ak.cells (l.drop j)++R))).length=cap*3 from
  ⟨by rw[<-b];exact hg,by rw[bW,aO,ct (by omega)],by rw[O,bW,aO,aZ,ct (by omega)],by rw[bW,aZ,u],d,by rw[<-b];exact z⟩)
 clear h hg z d r J I q hi y u O b;go_enter Tryz.func134,Tryz.ntmps134;go_wp2_with fail
 go_region
 go_wp2_with (refine eR rfl _ _ rfl _ _ _ _ _ _ rfl rfl g (i*3) _ a.o.1 ms (by rw[<-H.o.2.2.2];exact (ct (by omega)).symm) (fun h0=>by obtain⟨vr,vo,e,A,_⟩:=HV.o h0;exact⟨rfl,vr,vo,e,A⟩) (by rw[a.o.2.2.2.2.2,<-H.o.2.2.2];have:=H.o;omega) ?_;intro w1 S v;refine Hid.o ?_);refine aa ?_;have v:=(aG.refl (fun k=>k=g) w).drew.trans v (fun _ _ h=>h);rw[<-a.o.2.1,fM rfl,<-aF] at S;obtain⟨Y,C⟩:∃Y,Y=M.drop (ak.cells ms).length:=⟨_,rfl⟩;rw[List.drop_append_of_le_length (by rw[bW,a.o.2.2.1,<-H.o.2.2.2];have:=H.o;omega),<-C] at S;have Q:Y.length+m*3=(j-i)*3:=by rw[C,aZ,bW,a.o.2.2.1,<-H.o.2.2.2];have:=H.o;omega
 have f:(ak.cells ms).length=m*3:=by rw[bW,H.o.2.2.2]
 have n:=aa (show w1.heap[g]?=aD (ey (ak.cells (l.take i)++ak.cells ms++(Y++(ak.cells (l.drop j)++R))).toArray 122 (0,0))/\aG (fun k=>k=g) w w1/\Y.length+m*3=(j-i)*3/\(ak.cells ms).length=m*3 from⟨S,v,Q,f⟩);have U:bu ak w1 g (j*3) (l.drop j):=by
  have x:=n.o.1;rw[<-aF] at x;have P:=lP x;have e:(ak.cells (l.take i)++ak.cells ms++Y).length=j*3:=by rw[au,au,a.o.2.1,f];have:=H.o;omega
  rw[e] at P;exact P
 have D:=aa U;clear S v C Q f U;go_wp2_with fail;go_wp2_with (refine wp_region_any (by kernel_rfl) ?_;refine Hid.o ?_);refine aa ?_;try (change wpAny _ _ _ _ _ _ _ (bJ _))
 refine tk 0 ?_;refine tk 1 ?_;refine tk 2 ?_;refine tk 3 ?_;refine tk 4 ?_;refine tk 5 ?_;refine tk 6 ?_;refine tk 7 ?_;refine tk 8 ?_;try simp only[Act.put,aA,az,ay]
 refine rd [9] (rn fun K T=> ?_);refine fL _ _ rfl _ _ _ _ _ _ rfl rfl g ((i+m)*3) _ n.o.1 (l.drop j) (by rw[aZ,<-c.o];exact (Nat.min_self _).symm) (fun _=>⟨rfl,g,j*3,rfl,D.o⟩) (by have:=a.o.2.2.2.2.2;have:=H.o;have:=n.o.2.2;simp only[au,aZ,a.o.2.1,a.o.2.2.1,a.o.2.2.2.1,n.o.2.2.2] at*;omega) ?_;intro W F V;refine T _ _ ?_;clear T K;refine wpAny_done (by kernel_rfl) ?_ _;have p:(ak.cells (l.take i)++ak.cells ms).length=(i+m)*3:=by rw[au,a.o.2.1,n.o.2.2.2];omega
 rw[<-p,fM rfl] at F;obtain⟨R2,Z⟩:∃R2,R2=(Y++(ak.cells (l.drop j)++R)).drop (ak.cells (l.drop j)).length:=⟨_,rfl⟩;rw[<-Z] at F;have X:R2.length=Y.length+R.length:=by rw[Z];simp only[aZ,au];omega
 have hcs:ak.cells (l.take i++ms++l.drop j)++R2=ak.cells (l.take i)++ak.cells ms++(ak.cells (l.drop j)++R2):=by rw[Elem.b9,Elem.b9];simp only[aF]
 have fF:aY B W (cx (aD ⟨g,0,av⟩) (i+m+(L-j)) cap) (l.take i++ms++l.drop j):=fG (R:=R2) (by rw[hcs];exact F) (by
   rw[hcs,au,p,au,a.o.2.2.2.1,X];have x:=a.o.2.2.2.2.2;rw[au,au,au,a.o.2.1,a.o.2.2.1,a.o.2.2.2.1] at x;have:=n.o.2.2.1;have:=H.o;omega) (by rw[au,au,aO,aZ];have:=H.o;have:=c.o;omega) (by have:=H.o;have:=c.o;omega) a.o.2.2.2.2.1 HH.o.2.2.2.2
 have s:=aa (And.intro fF (n.o.2.1.drew.trans V (fun _ _ h=>h)));have hTt:((i:Int)+m+((L-j:Nat):Int)).toNat=i+m+(L-j):=by omega
 have hTz:(0:Int)<=(i:Int)+m+((L-j:Nat):Int):=by omega
 have hTy:(i:Int)+m+((L-j:Nat):Int)<=L:=by omega
 clear F V p Z X hcs fF;by_cases hd:i+m=j
 ·have G:L-(i+m+(L-j))=0:=by have:=H.o;have:=c.o;omega
  have Cb:=wK W
  have HE:=aa (show gF B w (cx (aD ⟨g,0,av⟩) L cap) (l.take i++ms++l.drop j) (eb (cx (aD ⟨g,0,av⟩) (i+m+(L-j)) cap)) W from
   ⟨_,rfl,s.o.1,s.o.2.mono fun k _ e=>by rw[e];rfl,dc rfl,fun _=>rfl⟩)
  clear hd;by_cases t:cap=i+m+(L-j);·subst t;go_wp2_with fail;go_ret;exact HE.o
  ·go_wp2_with fail;go_ret;exact HE.o
 ·have t:¬cap=i+m+(L-j):=by have:=H.o;have:=c.o;omega
  obtain⟨vs,Cb⟩:=fJ W g (i+m+(L-j)) cap (l.take i++ms++l.drop j) (Own.mono s.o.1 (aB _)) (L-(i+m+(L-j))) (by have:=H.o;have:=c.o;omega) (by have:=H.o;have:=c.o;omega);go_wp2_with fail;go_ret;have G:=Own.cleared (K:=ak) (E:=122) (B:=B) vs W ((i+m+(L-j))*3) s.o.1 (by rw[au,au,aO,aZ];have:=H.o;have:=c.o;show _*3<=_;omega);exact⟨_,rfl,G.1,(s.o.2.trans G.2 (fun _ _ e=>e)).mono fun k _ e=>by rw[e];rfl,dc rfl,fun _=>rfl⟩
end
section
variable {w:World} {B:Nat} {l ms:List It} {mc:Nat}
theorem rM (w:World) (a:Addr) (i cap:Nat) (h:i<=cap) (ty:TypeId):(Builtin.append_ #[123,123] ty #[.slice (aD a) i cap,.slice av 0 0]).run Tryz.prog w=.ok (.slice (aD a) i cap) w:=by obtain⟨I,_,hi,_⟩:=vD.info;simp[Builtin.append_,run_underlying Tryz.underlying123,sizeOf,typeInfo,hi,Builtin.lenOf,Builtin.firstCells,h,storeCells]
theorem CF {g cap i:Nat} (h:aY B w (cx (aD ⟨g,0,av⟩) l.length cap) l) (hl:l.length<=400) (hi:i<l.length):
  Calls Tryz.prog 134 #[cx (aD ⟨g,0,av⟩) l.length cap,bf cu i,bf cu l.length,cx av 0 0] w fun e w'=>gF B w (cx (aD ⟨g,0,av⟩) l.length cap) (l.take i) e w':=by
 obtain⟨_,s,b⟩:=iB h;have f:=aa (Own.upto h i (by omega));have H:=aa (show i<l.length/\l.length<=cap from⟨hi,s⟩);have j:=aa (rM w ⟨g,0,av⟩ i cap (by omega));obtain⟨L,c⟩:∃L,L=l.length:=⟨_,rfl⟩;rw[<-c] at hl hi s |-;have a:=aa c;have J:(L:Int)<=400:=by omega
 have p:(i:Int)<=L:=by omega
 have O:((L:Int)==L)=true:=by simp
 have m:((i:Int)==L)=false:=by rw[beq_eq_false_iff_ne];omega
 have x:(L:Int)<=cap:=by omega
 have q:¬cap=i:=by omega
 have r:(0:Int)<=L:=by omega
 clear h hi c b;go_enter Tryz.func134,Tryz.ntmps134;go_wp2_with (at_builtin;refine Hid.o ?_);refine aa ?_;refine Lib.wpList_append_run _ rfl _ _ _ _ rfl _ _ rfl rfl _ _ (j.o _) ?_;have t:(i:Int)<L:=by have:=H.o;have:=a.o;omega
 obtain⟨vs,C⟩:=fJ w g i cap (l.take i) (Own.mono f.o (aB _)) (L-i) (by have:=H.o;have:=a.o;omega) (by have:=H.o;have:=a.o;omega);have d:=Own.cleared (K:=ak) (E:=122) (B:=B) vs w (i*3) f.o (by rw[aO];have:=H.o;have:=a.o;show _*3<=_;omega)
 have n:=aa (show gF B w (cx (aD ⟨g,0,av⟩) L cap) (l.take i) (eb (cx (aD ⟨g,0,av⟩) i cap)) (w.setCells g (i*3) vs) from
  ⟨_,rfl,d.1,d.2.mono fun k _ e=>by rw[e];rfl,dc rfl,fun _=>rfl⟩)
 clear d;go_wp2_with fail;go_ret;exact n.o
theorem rN {g cap i m vr vo:Nat} (h:aY B w (cx (aD ⟨g,0,av⟩) l.length cap) l) (hl:l.length<=400) (n:m=ms.length) (p:bu ak w vr vo ms) (hi:i<l.length) (hc:i+m<=cap):
  Calls Tryz.prog 134 #[cx (aD ⟨g,0,av⟩) l.length cap,bf cu i,bf cu l.length,cx (aD ⟨vr,vo,av⟩) m mc] w fun e w'=>gF B w (cx (aD ⟨g,0,av⟩) l.length cap) (l.take i++ms) e w':=by
 obtain⟨_,s,b⟩:=iB h;have r:=aa (Own.upto h i (by omega));have t:=aa p;have a:=aa (show i<l.length/\l.length<=cap/\m=ms.length/\i+m<=cap from⟨hi,s,n,hc⟩);obtain⟨L,c⟩:∃L,L=l.length:=⟨_,rfl⟩;rw[<-c] at hl hi s |-;have u:=aa c;have J:(L:Int)<=400:=by omega
 have A:(i:Int)<=L:=by omega
 have O:((L:Int)==L)=true:=by simp
 have v:((i:Int)==L)=false:=by rw[beq_eq_false_iff_ne];omega
 have X:(L:Int)<=cap:=by omega
 have C:¬cap=i:=by omega
 have D:(0:Int)<=L:=by omega
 clear h n p hi hc c b;go_enter Tryz.func134,Tryz.ntmps134;go_wp2_with (at_builtin;refine Hid.o ?_);refine aa ?_;refine wpList_plain (by rfl) fun _ q=>oy _ _ rfl g i cap rfl r.o (by rw[aO];have:=a.o;omega) vr vo m mc ms rfl a.o.2.2.1.symm (fun _=>t.o) a.o.2.2.2 fun W F f=>q _ _ ?_;have H:=aa (show aY B W (cx (aD ⟨g,0,av⟩) (i+m) cap) (l.take i++ms)/\aG (fun k=>k=g) w W from⟨F,⟨f.os,f.tape,f.output,f.size,fun k x hn=>f.block k x (fun e=>hn (by injection e))⟩⟩);clear F f q;by_cases y:i+m<L
 ·have z:(i:Int)+m<L:=by omega
  have R:¬cap=i+m:=by omega
  obtain⟨vs,G⟩:=fJ W g (i+m) cap (l.take i++ms) (Own.mono H.o.1 (aB _)) (L-(i+m)) (by omega) (by omega);have d:=Own.cleared (K:=ak) (E:=122) (B:=B) vs W ((i+m)*3) H.o.1 (by rw[au,aO];have:=a.o;have:=u.o;show _*3<=_;omega)
  have j:=aa (show gF B w (cx (aD ⟨g,0,av⟩) L cap) (l.take i++ms) (eb (cx (aD ⟨g,0,av⟩) (i+m) cap)) (W.setCells g ((i+m)*3) vs) from
   ⟨_,rfl,d.1,(H.o.2.trans d.2 (fun _ _ e=>e)).mono fun k _ e=>by rw[e];rfl,dc rfl,fun _=>rfl⟩)
  clear d;go_wp2_with fail;go_ret;exact j.o
 ·have z:¬(i:Int)+m<L:=by omega
  have j:=aa (show gF B w (cx (aD ⟨g,0,av⟩) L cap) (l.take i++ms) (eb (cx (aD ⟨g,0,av⟩) (i+m) cap)) W from
   ⟨_,rfl,H.o.1,H.o.2.mono fun k _ e=>by rw[e];rfl,dc rfl,fun _=>rfl⟩)
  go_wp2_with fail;go_ret;exact j.o
theorem sY {g cap i m vr vo:Nat} (h:aY B w (cx (aD ⟨g,0,av⟩) l.length cap) l) (hl:l.length<=400) (p:m=ms.length) (q:bu ak w vr vo ms) (hi:i<l.length) (hc:cap<i+m) (r:B<=w.heap.size) (a:m<=400):
  Calls Tryz.prog 134 #[cx (aD ⟨g,0,av⟩) l.length cap,bf cu i,bf cu l.length,cx (aD ⟨vr,vo,av⟩) m mc] w fun e w'=>gF B w (cx (aD ⟨g,0,av⟩) l.length cap) (l.take i++ms) e w':=by
 obtain⟨_,s,c⟩:=iB h;have t:=aa (Own.upto h i (by omega));have u:=aa q;have H:=aa (show i<l.length/\l.length<=cap/\m=ms.length/\cap<i+m/\B<=w.heap.size/\m<=400 from⟨hi,s,p,hc,r,a⟩);obtain⟨L,d⟩:∃L,L=l.length:=⟨_,rfl⟩;rw[<-d] at hl hi s |-;have v:=aa d;have J:(L:Int)<=400:=by omega
 have z:(i:Int)<=L:=by omega
 have O:((L:Int)==L)=true:=by simp
 have x:((i:Int)==L)=false:=by rw[beq_eq_false_iff_ne];omega
 have X:(L:Int)<=cap:=by omega
 have A:¬cap=i:=by omega
 have C:(0:Int)<=L:=by omega
 clear h p q hi hc d c r a;go_enter Tryz.func134,Tryz.ntmps134;go_wp2_with (at_builtin;refine Hid.o ?_);refine aa ?_;refine cT (K:=ak) vD rfl _ _ rfl rfl t.o H.o.2.2.2.2.1 vr vo m mc ms rfl H.o.2.2.1.symm u.o (show (l.take i).length+m<=1000000000 by rw[aO];have:=H.o;omega) ?_;intro v2 W f F j;obtain⟨Q,c2,rfl,n⟩:=Own.slice f;have b:(l.take i++ms).length=i+m:=by rw[au,aO];have:=H.o;omega
 rw[b] at f n j |-;have y:=aa (show gF B w (cx (aD ⟨g,0,av⟩) L cap) (l.take i++ms) (eb (cx Q (i+m) c2)) W from⟨_,rfl,f,(aG.refl _ w).grown F (fun k e _=>e),j,fun _=>by have:=H.o;obtain⟨_,_,E,_⟩:=Own.form f (by omega);rw[E];rfl⟩);clear f F j b;have D:¬(i:Int)+m<L:=by have:=H.o;have:=v.o;omega
 go_wp2_with fail;go_ret;exact y.o
end
end
end Go.Proofs.YtlpfhjbpknbndaaGreatDoor
