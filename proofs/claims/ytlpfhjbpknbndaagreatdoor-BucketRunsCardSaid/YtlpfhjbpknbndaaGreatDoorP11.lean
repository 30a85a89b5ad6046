/- Elder texts, cut down and merged (11). -/
import Derived.Test.YtlpfhjbpknbndaaGreatDoorP10
import Derived.Test.YtlpfhjbpknbndaaGreatDoorPTk
set_option maxRecDepth 100000
set_option maxHeartbeats 8000000
namespace Go.Proofs.YtlpfhjbpknbndaaGreatDoor
open Value renaming int→bf,string→bR,tuple→gu,slice→cx,bool→eX
open IntKind renaming i64→cu
open Ending renaming returned→eb
open Option renaming some→aD,none→av
open Or renaming inl→dc,inr→dn
open Obj renaming cells→ey
open List renaming length_append->au,length_cons->a_,length_nil->ef,nodup_append->aR,mem_cons_self->aE,setIfInBounds_toArray->aA,set_cons_succ->az,set_cons_zero->ay,flatten_cons->dA,mem_cons_of_mem->aI,mem_append->aj,nodup_cons->cL,append_assoc->aF,length_map->aT,length_eq_zero_iff->eG
open Nat renaming le_trans->aH,le_refl->ah
open World renaming drew->bJ
section
open Go.RowKit Lib
section
variable {E:Ev} {X0 X X':World} {R0 R R' S:Nat->Prop} {ps ps':List (Nat×List UInt8)} {pg dh:List (Option Wl.Text)} {rt rt':List Nat} {M M':Nat->Option NV} {p q:Nat} {n m:NV} {sb:Nat} {sv:Value} {l:List Int}
theorem Co {k NL RL:Nat} {tn tm:Tr.E (k+2)} {A r:List (Tr.Tx×Tr.E (k+1))} {u v:Tr.Tx×Tr.E (k+1)} {x:Tr.Tx} (H:NL=A.length+1) (b:RL=r.length+1) (hA:Tr.its tn=A++[u]) (h:Tr.its tm=v::r) (hc:¬Tr.cut (k+2) tn x tm):NL+RL<=400:=by rw[Tr.uH,hA,h] at hc;have e:=Tr.jk (k+1) (A++[u]);have a:=Tr.jk (k+1) (v::r);rw[au] at e;simp only[a_,ef] at e a;omega
theorem Cq:∀(k:Nat) (n m:Tr.E (k+1)) (x:Tr.Tx),(Tr.join k n m x).2.length<=k+1
 |0,n,m,x=>by rw[Tr.sI];cases (Tr.hd m).page<;>simp
 |k+1,n,m,x=>by
  cases h:Tr.its m with
  |nil=>unfold Tr.join;rw[h];cases (Tr.its n).getLast?<;>simp
  |cons b r=>
   by_cases hn:Tr.its n=[];·unfold Tr.join;rw[hn,h];simp
   ·obtain⟨A,a,hA⟩:=Tr.dR hn;rw[Tr.mm hA h];have i:=Cq k a.2 b.2 x
    split
    ·cases (Tr.hd m).page<;>simp
    ·rw[au];cases (Tr.hd m).page<;>simp<;>omega
theorem I9 {k:Nat} {tn:Tr.E (k+2)} {A:List (Tr.Tx×Tr.E (k+1))} {ka:Tr.Tx} {a:Tr.E (k+1)} {x:Tr.Tx} {h:Option Tr.Tx} (on:Tr.Ok (k+2) x h tn) (hA:Tr.its tn=A++[(ka,a)]):∃lo,Tr.Ok (k+1) lo h a:=by
 obtain⟨_,_,_,h4⟩:=on;rw[Tr.dN,hA] at h4;cases A with
 |nil=>exact⟨x,h4⟩
 |cons c A=>
  have H:Tr.dB (Tr.Ok (k+1)) (Tr.cut (k+1)) h (((x,c.2)::A)++[(ka,a)]):=h4;exact⟨ka,H.last⟩
theorem E2 {k:Nat} {tm:Tr.E (k+2)} {r:List (Tr.Tx×Tr.E (k+1))} {kb:Tr.Tx} {b:Tr.E (k+1)} {x:Tr.Tx} {h:Option Tr.Tx} (o:Tr.Ok (k+2) x h tm) (a:Tr.its tm=(kb,b)::r):∃hi,Tr.Ok (k+1) x hi b:=by obtain⟨_,_,_,h4⟩:=o;rw[Tr.dN,a] at h4;have H:Tr.dB (Tr.Ok (k+1)) (Tr.cut (k+1)) h ([]++(x,b)::r):=h4;exact⟨_,Aw H⟩
def E3 (E:Ev) (X0:World) (R0:Nat->Prop) (ps:List (Nat×List UInt8)) (pg:List (Option Wl.Text)) (rt:List Nat) (sb:Nat) (k:Nat):Prop:=
 ∀(M:Nat->Option NV) (X:World) (R:Nat->Prop) (sv:Value) (l:List Int) (p q:Nat) (n m:NV) (tn tm:Tr.E (k+1)) (F f:List Nat) (x a:Tr.Tx) (B:Option Tr.Tx),
  SS E X0 R0 R ps pg rt M X sb sv l->dO M pg k p tn F->dO M pg k q tm f->M p=aD n->M q=aD m->(F++f).Nodup->Tr.Ok (k+1) a (aD x) tn->Tr.Ok (k+1) x B tm->x.length<=96->¬Tr.cut (k+1) tn x tm->Tr.Old (k+1) tm->l.length+k<=100000->
  Calls Tryz.prog 175 #[ptr sb,ptr p,ptr q,bR (bs x)] X fun e X'=>e=eb (bf cu 0)/\rJ E X0 R0 R ps pg rt M X sb sv k p n m (F++f) (Tr.join k tn tm x).1 (l++gP (Tr.join k tn tm x).2) X'
theorem wB {k:Nat} {t:Tr.E (k+2)} {I1 I2:List It} {i:It} {A B:List (Tr.Tx×Tr.E (k+1))} {key:Tr.Tx} {c:Tr.E (k+1)} {f1 f2:List (List Nat)} {f:List Nat} {V:World}
  (h:TS E X0 R0 R ps pg rt M X) (H:Below X.heap.size X V) (hp:M p=aD n) (d:kQ pg (k+1) n t) (hi:n.its=I1++i::I2) (g:Tr.its t=A++(key,c)::B) (l:bp pg k (dO M pg k) I1 A f1) (m:jB pg k (dO M pg k) i (key,c) f) (o:bp pg k (dO M pg k) I2 B f2) (a:(p::(f1++f::f2).flatten).Nodup) (s:k<=15) {j:Int} (u:j=A.length):
  Calls Tryz.prog 79 #[ptr E.tb,ptr p,bf cu j] V fun e X'=>∃q M' R' fq,e=eb (gu #[ptr q,bf cu 0])/\Ax E X0 R0 R ps pg rt M X p n k I1 i I2 A c B f1 f2 f q M' R' fq X':=by
 subst u;refine (I3 (h.still H (fun _ h=>h) (fun _ h=>dc h)) hp d hi g l m o a s).mono ?_;rintro e X' ⟨q,M',R',fq,v,b⟩;refine⟨q,M',R',fq,v,⟨b.ts,b.at_,b.zg,b.left,b.right,b.same,fun r hr=> ?_,b.nd,aH H.size b.size,(aG.aJ H (fun b=>b=n.rg)).trans b.but fun _ _ h=>h,b.sub,fun r hr=> ?_,fun r hr=> ?_⟩⟩;·exact (b.news r hr).imp_right fun h=>aH H.size h
 ·exact (b.new r hr).imp_right fun h=>aH H.size h
 ·exact (b.mb r hr).imp_right fun h=>aH H.size h
theorem I_ {k:Nat} (IH:E3 E X0 R0 ps pg rt sb k) (hk:k<=14):E3 E X0 R0 ps pg rt sb (k+1):=by
 intro M X R sv l p q n m tn tm F1 F2 x xR Br h r1 r2 hp hq hnd on om hx hc hold hl;obtain⟨n',fs1,hp',r_,XN,rfl⟩:=r1;rw[hp] at hp';injection hp' with hp';subst hp';obtain⟨m',fs2,mO,fF,XO,rfl⟩:=r2;rw[hq] at mO;injection mO with mO;subst mO;obtain⟨A,⟨ka,a⟩,hA⟩:=Tr.dR on.1;obtain⟨⟨kb,b⟩,r,hB⟩:∃c r,Tr.its tm=c::r:=by
  cases hh:Tr.its tm with
  |nil=>exact absurd hh om.1
  |cons c r=>exact⟨c,r,rfl⟩
 have LX:=XN;have VV:=XO;rw[hA] at XN;rw[hB] at XO;obtain⟨I1,I',f1,f',hI,rfl,ZG,ka2⟩:=XN.parts;obtain⟨i,I0,fa,f0,rfl,rfl,ZH,ka4⟩:=ka2.cons_inv;obtain⟨rfl,rfl⟩:=ka4.uN;obtain⟨j,J,fb,f2,hJ,rfl,kb1,kb2⟩:=XO.cons_inv;have nr:(p::(f1++fa::[]).flatten).Nodup:=(aR.1 hnd).1;have jJ:(q::([]++fb::f2).flatten).Nodup:=(aR.1 hnd).2.1;have AH:∀r,r∈p::(f1++[fa]).flatten->r∈q::(fb::f2).flatten->False:=fun r h1 h2=>(aR.1 hnd).2.2 r h1 r h2 rfl;have hpq:p≠q:=fun e=>AH p aE (by rw[e];exact aE);have fE:=aa (fun V hV=>wB (V:=V) (j:=(A.length:Int)) h.ts hV hp r_ hI hA ZG ZH (show bp pg k (dO M pg k) [] [] [] from trivial) nr (by omega) rfl);have f:=h.ts.mem.nd p n hp;have C:=h.ts.mem.nd q m hq;have c0:=f.c0;have c1:=f.c1;have q1:=C.c1;have hsb:=h.blk.lt;have s0:X.cell? ⟨sb,0,av⟩=aD (ptr E.tb):=h.blk.cell rfl;have NZ:n.its.length=A.length+1:=by have:=LX.len.1;rw[hA,au] at this;exact this
 have Q5:m.its.length=r.length+1:=by have:=VV.len.1;rw[hB] at this;exact this
 have BW:(0:Int)<n.level:=by rw[r_.level];omega
 have aaK:(n.level:Int)>0:=BW;have bn:=rK on;have bm:=rK om;have hwr:IntKind.i64.wrap (((A.length+1:Nat):Int)-1)=(A.length:Int):=by rw[show ((A.length+1:Nat):Int)-1=(A.length:Int) by omega];exact cX _ (by rw[hA,au] at bn;have:=bn.1;simp at this;omega)
 obtain⟨NL,Pm⟩:∃NL,NL=A.length+1:=⟨_,rfl⟩;obtain⟨RL,Sv⟩:∃RL,RL=r.length+1:=⟨_,rfl⟩;obtain⟨kR,EZ⟩:∃g,g=n.rg:=⟨_,rfl⟩;obtain⟨kS,E0⟩:∃g,g=n.ro:=⟨_,rfl⟩;obtain⟨eU,zh⟩:∃g,g=n.cap:=⟨_,rfl⟩;obtain⟨rg,xP⟩:∃g,g=m.rg:=⟨_,rfl⟩;obtain⟨ro,hro⟩:∃g,g=m.ro:=⟨_,rfl⟩;obtain⟨gA,zi⟩:∃g,g=m.cap:=⟨_,rfl⟩;rw[NZ,<-Pm,<-EZ,<-E0,<-zh] at c1;rw[Q5,<-Sv,<-xP,<-hro,<-zi] at q1;have Q:=aa (And.intro Pm (And.intro Sv (And.intro EZ (And.intro E0 (And.intro zh (And.intro xP (And.intro hro zi)))))));rw[<-Pm] at hwr;have aba:IntKind.i64.wrap ((A.length:Nat):Int)=(A.length:Int):=cX _ (by rw[hA,au] at bn;have:=bn.1;simp at this;omega);have abb:((NL:Nat):Int)-1=(A.length:Int):=by omega
 have abd:(1:Int)<=NL:=by omega
 have abe:(0:Int)<RL:=by omega
 have abf:(RL:Int)<=255:=by rw[hB] at bm;have:=bm.1;simp at this;omega
 have abg:RL<=gA:=by have:=C.small.cap.1;omega
 have dV:=f.blk.lt;have GN:=C.blk.lt;unfold ptr at s0 fE;have HH:=aa (And.intro h (And.intro hp (And.intro hq (And.intro r_ fF))));have HT:=aa (And.intro hA (And.intro hB (And.intro hI hJ)));have T:=aa (And.intro ZG (And.intro ZH (And.intro kb1 kb2)));have HD:=aa (And.intro hnd (And.intro nr (And.intro jJ (And.intro AH hpq))));have z:=aa (And.intro on (And.intro om (And.intro hx (And.intro hc (And.intro hold hl)))));have HZ:=aa (And.intro NZ (And.intro Q5 (And.intro bn bm)));clear h hp hq r_ fF hA hB hI hJ ZG ZH kb1 kb2 hnd nr jJ AH hpq on om hx hc hold hl NZ Q5 bn bm f C Pm Sv EZ E0 zh xP hro zi LX VV XN XO ka2 ka4;go_enter Tryz.func175,Tryz.ntmps175;unfold ptr;go_wp2_with (refine wp_region_any (by kernel_rfl) ?_;refine Hid.o ?_);refine aa ?_;try (change wpAny _ _ _ _ _ _ _ (bJ _))
 refine tk 0 ?_;refine tk 1 ?_;refine tk 2 ?_;refine tk 4 ?_;refine tk 5 ?_;refine tk 6 ?_;refine tk 7 ?_;try simp only[Act.put,aA,az,ay]
 refine rd [3,8] (AllReady.cons rfl (fun K H=> ?_) (rn fun K H=> ?_))
 focus
  go_simp
  refine H _ _ ?_;clear H K
  refine rd [8] (rn fun K H=> ?_)
  go_simp
  refine H _ _ ?_;clear H K
  refine tk 9 ?_
  refine tk 10 ?_
  refine rd [11] (rn fun K H=> ?_)
  go_simp
  refine (fE.o _ (show Below X.heap.size X X.drew from (Below.refl _ X).drew)).mono ?_
  rintro e X1 ⟨la,M1,R1,jV,rfl,Cr⟩
  have H1:=aa Cr
  clear Cr
  refine H _ _ ?_;clear H K
 rotate_left
 focus
  go_simp
  refine H _ _ ?_;clear H K
  refine tk 9 ?_
  refine tk 10 ?_
  refine rd [3] (rn fun K H=> ?_)
  go_simp
  refine H _ _ ?_;clear H K
  refine rd [11] (rn fun K H=> ?_)
  go_simp
  refine (fE.o _ (show Below X.heap.size X X.drew from (Below.refl _ X).drew)).mono ?_
  rintro e X1 ⟨la,M1,R1,jV,rfl,Cr⟩
  have H1:=aa Cr
  clear Cr
  refine H _ _ ?_;clear H K
 all_goals
  try unfold ptr
  try simp only[Act.put,aA,az,ay]
  refine tk 12 ?_
  refine tk 13 ?_
  refine tk 14 ?_
  refine tk 15 ?_
  refine tk 16 ?_
  try simp only[Act.put,aA,az,ay]
  refine wpAny_done (by kernel_rfl) ?_ _
  have b1:=H1.o
  have E4:∀k,k=n.rg->MB M k:=fun k e=>by rw[e];exact⟨p,n,HH.o.2.1,dn rfl⟩
  have Kn:=aa (HH.o.1.nodes b1.ts b1.but E4 b1.sub b1.mb)
  have VW:=aa (show mQ R M X sb sv R1 M1 sv X1 from mQ.nodes b1.but E4 b1.sub b1.new b1.mb (Dom.but b1.at_ b1.same))
  have hag:∀r,r≠p->(∃m,M r=aD m)->M1 r=M r:=fun r hr ⟨y,hy⟩=>by rw[hy];exact b1.same r y hr hy
  have hq1:M1 q=aD m:=b1.same q m (Ne.symm HD.o.2.2.2.2) HH.o.2.2.1
  have hkq:∀r∈q::(fb::f2).flatten,r≠p:=fun r hr e=>HD.o.2.2.2.1 p aE (by rw[<-e];exact hr)
  have Sw:jB pg k (dO M1 pg k) j (kb,b) fb:=T.o.2.2.1.mono fun y _ hy=>hy.frame fun r hr=>hag r (hkq r (by rw[dA];exact aI _ (aj.2 (dc hr)))) (hy.dom r hr)
  have Sy:bp pg k (dO M1 pg k) J r f2:=T.o.2.2.2.frame fun r hr=>hag r (hkq r (by rw[dA];exact aI _ (aj.2 (dn hr)))) (T.o.2.2.2.dom r hr)
  have fI:=aa (fun V hV=>wB (V:=V) (j:=(0:Int)) Kn.o.ts hV hq1 HH.o.2.2.2.2 (I1:=[]) HT.o.2.2.2 (A:=[]) HT.o.2.1 (show bp pg k (dO M1 pg k) [] [] [] from trivial) Sw Sy HD.o.2.2.1 (by omega) rfl)
  have HK2:=aa (And.intro hq1 (And.intro Sw Sy))
  have t0:X1.cell? ⟨sb,0,av⟩=aD (ptr E.tb):=Kn.o.blk.cell rfl
  have abh:=Kn.o.blk.lt
  unfold ptr at t0
  clear b1 hag hq1 hkq Sw Sy c0 c1 q1 s0 E4 fE
  unfold ptr at fI
  go_wp2_with fail
  refine (fI.o X1 (Below.refl _ _)).mono ?_
  rintro e X2 ⟨lb,M2,R2,pQ,rfl,Q8⟩
  have H2:=aa Q8
  clear Q8 fI t0
  try unfold ptr
  have b2:=H2.o
  have E4:∀k,k=m.rg->MB M1 k:=fun k e=>by rw[e];exact⟨q,m,HK2.o.1,dn rfl⟩
  have sW:=aa (Kn.o.nodes b2.ts b2.but E4 b2.sub b2.mb)
  have Gs:=aa (VW.o.trans (show mQ R1 M1 X1 sb sv R2 M2 sv X2 from mQ.nodes b2.but E4 b2.sub b2.new b2.mb (Dom.but b2.at_ b2.same)))
  have hit:=bh (sW.o.ts.mem.nd q _ b2.at_).row 0 (by show 0<([]++{j with node:=aD lb}::J).length;simp)
  have w0:X2.cell? ⟨rg,ro,av⟩=aD (bR (bs j.key)):=by have:=hit.1;rw[Q.o.2.2.2.2.2.1,Q.o.2.2.2.2.2.2.1];simpa using this
  have fz:X2.frozen? ⟨rg,ro,av⟩=false:=by obtain⟨cur,nS⟩:=sW.o.ts.mem.ty q _ b2.at_;have VX:X2.heap[rg]?=aD (ey cur 122 (0,0)):=(by rw[Q.o.2.2.2.2.2.1];exact nS);simp[World.frozen?,VX]
  obtain⟨M3,m3,v⟩:=LU HH.o.1 HH.o.2.1 HH.o.2.2.1 T.o.1 T.o.2.1 T.o.2.2.1 T.o.2.2.2 HD.o.1 z.o.2.2.1 H1.o Kn.o H2.o sW.o Gs.o
  rw[<-Q.o.2.2.2.2.2.1,<-Q.o.2.2.2.2.2.2.1] at v
  obtain⟨X3,XM⟩:∃X3,X3=X2.setCell ⟨rg,ro,av⟩ (bR (bs x)):=⟨_,rfl⟩
  rw[<-XM] at v
  have w:=aa v
  obtain⟨na,hna,ZI,-⟩:=v.ra.head
  obtain⟨nb,hnb,hob,-⟩:=v.rb.head
  have hsa:=v.ra.sz hna
  have VY:=v.rb.sz hnb
  have HF:=aa (lI (v.ss.ts.mem.nd la na hna) (v.ss.ts.mem.nd lb nb hnb) x (by have:=z.o.2.2.1;omega))
  rw[hsa.1,VY.1,ZI.level] at HF
  have HN:=aa (And.intro hna (And.intro hnb (And.intro ZI hob)))
  clear b2 E4 hit v hna ZI hnb hob hsa VY
  unfold ptr at HF
  by_cases hcut:Tr.cut (k+1) a x b
  ·have Cs:¬(Tr.sz k (Tr.its a)+Tr.sz k (Tr.its b)+(if k=0 then 0 else x.length)<=510):=(by unfold Tr.cut at hcut;omega);rw[decide_eq_false Cs] at HF;have Pn:=aa hcut;clear hcut Cs;go_wp2_with fail;rw[<-XM];refine HF.o.mono ?_;rintro e W ⟨rfl,O⟩;have uw:=aa O;have Bq:=aa (w.o.ss.still O);have uy:=aa (fun (g c:Nat) (X':World) hto=>yp (g:=g) (c:=c) (X':=X') w.o uw.o HH.o.2.2.2.1 HH.o.2.2.2.2 HT.o.1 HT.o.2.1 T.o.2.1 T.o.2.2.1 z.o.1 z.o.2.1 z.o.2.2.1 z.o.2.2.2.1 z.o.2.2.2.2.1 Pn.o hto);clear O HF w0 fz;obtain⟨N,P⟩:∃N:NV,N={n with its:=I1++[{i with node:=aD la}]}:=⟨_,rfl⟩;rw[<-P] at uy;obtain⟨B,Ko⟩:∃B,B=m3:=⟨_,rfl⟩;have Sz:M3 p=aD N:=(by rw[P];exact w.o.Zt);have LV:M3 q=aD B:=(by rw[Ko];exact w.o.atq);have NR:N.its.length=NL:=(by rw[P,Q.o.1];show (I1++[_]).length=_;rw[au,T.o.1.len.1];rfl);have TT:B.its.length=RL:=(by rw[Ko,w.o.its,Q.o.2.1,a_,T.o.2.2.2.len.1]);have f:=Bq.o.ts.mem.nd p N Sz;have C:=Bq.o.ts.mem.nd q B LV;have XP:NL+RL<=400:=Co Q.o.1 Q.o.2.1 HT.o.1 HT.o.2.1 z.o.2.2.2.1;have c1:W.cell? ⟨p,1,av⟩=aD (cx (aD ⟨kR,kS,av⟩) NL eU):=(by have:=f.c1;rw[NR,P] at this;rw[Q.o.2.2.1,Q.o.2.2.2.1,Q.o.2.2.2.2.1];exact this);have c4:=f.c4;have c7:=f.c7;have S:=C.c4;obtain⟨hh,Km⟩:∃hh,bs B.hi=hh:=⟨_,rfl⟩;rw[Km] at S;have TP:=aa Km;have U:=aa (fun V hb hk=>nk W V N.its B.its (kR:=kR) (kS:=kS) (NL:=NL) (eU:=eU) (rg:=rg) (ro:=ro) (RL:=RL) (gA:=gA) hb hk (by have:=f.row;rw[P] at this |-;rw[Q.o.2.2.1,Q.o.2.2.2.1];exact this) (by have:=C.row;rw[Ko] at this |-;rw[w.o.like.2.2.1,w.o.like.2.2.2.1,<-Q.o.2.2.2.2.2.1,<-Q.o.2.2.2.2.2.2.1] at this;exact this) NR.symm TT.symm (by omega) (by omega))
   have Y:=aa (show (N.its++B.its).length<=400/\(∀i∈N.its++B.its,i.key.length<=200/\i.val.length<=200)/\NL+RL=(N.its++B.its).length from⟨by rw[au];omega,fun i hi=>by
    rcases aj.1 hi with hi|hi;·exact f.small.each i hi
    ·exact C.small.each i hi,by rw[au];omega⟩)
   have sH:=aa (show l.length<=1000000 by have:=z.o.2.2.2.2.2;omega);have D:=aa (show p<W.heap.size/\q<W.heap.size from⟨f.blk.lt,C.blk.lt⟩);have t:=aa f;have HP:=aa Sz;have HQ:=aa LV;have TQ:=aa (Ne.symm HD.o.2.2.2.2);have ZJ:=D.o.1;have ZK:=D.o.2;rw[<-Ko] at uy;have fQ:N.its=I1++[{i with node:=aD la}]:=(by rw[P]);rw[<-fQ] at uy;clear f C Sz LV Km NR TT XP P Ko hsb dV GN fQ;go_wp2_with (refine wp_region_any (by kernel_rfl) ?_;refine Hid.o ?_);refine aa ?_;try (change wpAny _ _ _ _ _ _ _ (bJ _))
   refine tk 0 ?_;refine tk 1 ?_;refine tk 2 ?_;refine tk 3 ?_;refine tk 4 ?_;refine tk 5 ?_;refine tk 7 ?_;refine tk 10 ?_;refine tk 11 ?_;refine tk 12 ?_;refine tk 13 ?_;try simp only[Act.put,aA,az,ay]
   refine rd [6,14] (AllReady.cons rfl (fun K H=> ?_) (rn fun K H=> ?_))
   focus
    go_simp
    refine H _ _ ?_;clear H K
    refine rd [8,14] (AllReady.cons rfl (fun K H=> ?_) (rn fun K H=> ?_))
    focus
     go_simp
     have I:=aa (show Below W.heap.size W ((W.alloc (ey #[cx (aD ⟨kR,kS,av⟩) NL eU,cx (aD ⟨rg,ro,av⟩) RL gA] 123)).drew) from ((Below.refl _ W).alloc (ah _) _).drew)
     refine H _ _ ?_;clear H K
     refine rd [9,14] (AllReady.cons rfl (fun K H=> ?_) (rn fun K H=> ?_))
     focus
      go_simp
      refine (U.o _ I.o (by have:=aU.new W #[cx (aD ⟨kR,kS,av⟩) NL eU,cx (aD ⟨rg,ro,av⟩) RL gA] 123;exact this)).mono ?_
      rintro e Z ⟨g,c,rfl,u,F⟩
      have d:=aa (And.intro u (I.o.trans (F.mono I.o.size)))
      clear F u
      have d1:=(d.o.2.cell (p:=⟨p,1,av⟩) D.o.1).trans c1
      have d4:=(d.o.2.cell (p:=⟨p,4,av⟩) D.o.1).trans c4
      have d7:=(d.o.2.cell (p:=⟨p,7,av⟩) D.o.1).trans c7
      have e4:=(d.o.2.cell (p:=⟨q,4,av⟩) D.o.2).trans S
      have AB:=(t.o.still d.o.2).blk.frozen 1
      have AD:=(t.o.still d.o.2).blk.frozen 4
      have AE:=(t.o.still d.o.2).blk.frozen 7
      refine H _ _ ?_;clear H K
      refine rd [14] (rn fun K H=> ?_)
      go_simp
      refine H _ _ ?_;clear H K
     rotate_left
     focus
      go_simp
      refine H _ _ ?_;clear H K
      refine rd [9] (rn fun K H=> ?_)
      go_simp
      refine (U.o _ I.o (by have:=aU.new W #[cx (aD ⟨kR,kS,av⟩) NL eU,cx (aD ⟨rg,ro,av⟩) RL gA] 123;exact this)).mono ?_
      rintro e Z ⟨g,c,rfl,u,F⟩
      have d:=aa (And.intro u (I.o.trans (F.mono I.o.size)))
      clear F u
      have d1:=(d.o.2.cell (p:=⟨p,1,av⟩) D.o.1).trans c1
      have d4:=(d.o.2.cell (p:=⟨p,4,av⟩) D.o.1).trans c4
      have d7:=(d.o.2.cell (p:=⟨p,7,av⟩) D.o.1).trans c7
      have e4:=(d.o.2.cell (p:=⟨q,4,av⟩) D.o.2).trans S
      have AB:=(t.o.still d.o.2).blk.frozen 1
      have AD:=(t.o.still d.o.2).blk.frozen 4
      have AE:=(t.o.still d.o.2).blk.frozen 7
      refine H _ _ ?_;clear H K
    rotate_left 2
    focus
     go_simp
     refine H _ _ ?_;clear H K
     refine rd [8] (rn fun K H=> ?_)
     go_simp
     have I:=aa (show Below W.heap.size W ((W.alloc (ey #[cx (aD ⟨kR,kS,av⟩) NL eU,cx (aD ⟨rg,ro,av⟩) RL gA] 123)).drew) from ((Below.refl _ W).alloc (ah _) _).drew)
     refine H _ _ ?_;clear H K
     refine rd [9] (rn fun K H=> ?_)
     go_simp
     refine (U.o _ I.o (by have:=aU.new W #[cx (aD ⟨kR,kS,av⟩) NL eU,cx (aD ⟨rg,ro,av⟩) RL gA] 123;exact this)).mono ?_
     rintro e Z ⟨g,c,rfl,u,F⟩
     have d:=aa (And.intro u (I.o.trans (F.mono I.o.size)))
     clear F u
     have d1:=(d.o.2.cell (p:=⟨p,1,av⟩) D.o.1).trans c1
     have d4:=(d.o.2.cell (p:=⟨p,4,av⟩) D.o.1).trans c4
     have d7:=(d.o.2.cell (p:=⟨p,7,av⟩) D.o.1).trans c7
     have e4:=(d.o.2.cell (p:=⟨q,4,av⟩) D.o.2).trans S
     have AB:=(t.o.still d.o.2).blk.frozen 1
     have AD:=(t.o.still d.o.2).blk.frozen 4
     have AE:=(t.o.still d.o.2).blk.frozen 7
     refine H _ _ ?_;clear H K
   rotate_left 3
   focus
    go_simp
    refine H _ _ ?_;clear H K
    refine rd [6] (rn fun K H=> ?_)
    go_simp
    refine H _ _ ?_;clear H K
    refine rd [8] (rn fun K H=> ?_)
    go_simp
    have I:=aa (show Below W.heap.size W ((W.alloc (ey #[cx (aD ⟨kR,kS,av⟩) NL eU,cx (aD ⟨rg,ro,av⟩) RL gA] 123)).drew) from ((Below.refl _ W).alloc (ah _) _).drew)
    refine H _ _ ?_;clear H K
    refine rd [9] (rn fun K H=> ?_)
    go_simp
    refine (U.o _ I.o (by have:=aU.new W #[cx (aD ⟨kR,kS,av⟩) NL eU,cx (aD ⟨rg,ro,av⟩) RL gA] 123;exact this)).mono ?_
    rintro e Z ⟨g,c,rfl,u,F⟩
    have d:=aa (And.intro u (I.o.trans (F.mono I.o.size)))
    clear F u
    have d1:=(d.o.2.cell (p:=⟨p,1,av⟩) D.o.1).trans c1
    have d4:=(d.o.2.cell (p:=⟨p,4,av⟩) D.o.1).trans c4
    have d7:=(d.o.2.cell (p:=⟨p,7,av⟩) D.o.1).trans c7
    have e4:=(d.o.2.cell (p:=⟨q,4,av⟩) D.o.2).trans S
    have AB:=(t.o.still d.o.2).blk.frozen 1
    have AD:=(t.o.still d.o.2).blk.frozen 4
    have AE:=(t.o.still d.o.2).blk.frozen 7
    refine H _ _ ?_;clear H K
   all_goals
    try simp only[Act.put,aA,az,ay]
    refine tk 15 ?_
    refine tk 16 ?_
    refine rd [17] (rn fun K H=> ?_)
    go_simp
    refine H _ _ ?_;clear H K
    refine tk 18 ?_
    refine tk 19 ?_
    refine tk 20 ?_
    refine rd [21] (rn fun K H=> ?_)
    go_simp
    refine H _ _ ?_;clear H K
    refine tk 22 ?_
    refine tk 23 ?_
    refine rd [24] (rn fun K H=> ?_)
    go_simp
    refine H _ _ ?_;clear H K
    refine wpAny_done (by kernel_rfl) ?_ _
    obtain⟨W9,sN⟩:∃W9,W9=((Z.setCell ⟨p,1,av⟩ (cx (aD ⟨g,0,av⟩) (NL+RL) c)).setCell ⟨p,4,av⟩ (bR hh)).setCell ⟨p,7,av⟩ (eX true):=⟨_,rfl⟩
    rw[<-sN]
    obtain⟨R9,G,LR,wz,jR,LS⟩:=Bq.o.row HP.o d.o.2 TP.o d.o.1 Y.o.1 Y.o.2.1 Y.o.2.2 sN
    have H9:=aa (And.intro G (And.intro LR (And.intro wz (And.intro jR LS))))
    have Ci:=aa (jh W9 sb E.tb q sv l B G.blk G.sp (G.ts.mem.nd q B ((aW TQ.o).trans HQ.o)) sH.o)
    clear G LR wz jR LS sN d1 d4 d7 e4 AB AD AE
    unfold ptr at Ci
    go_wp2_with fail
    refine Ci.o.mono ?_
    intro e W10 qj
    have he:=qj.1
    subst he
    have H10:=aa qj
    clear qj Ci
    go_wp2_with fail
    go_ret
    exact⟨rfl,uy.o g c _ (rH Bq.o H9.o H10.o ⟨p,_,HP.o,dc rfl⟩)⟩
  ·have Cs:Tr.sz k (Tr.its a)+Tr.sz k (Tr.its b)+(if k=0 then 0 else x.length)<=510:=(by unfold Tr.cut at hcut;omega);rw[decide_eq_true Cs] at HF;have Pn:=aa hcut;clear hcut Cs;go_wp2_with fail;rw[<-XM];refine HF.o.mono ?_;rintro e X4 ⟨rfl,O⟩;have uw:=aa O;have ZL:=aa (w.o.ss.still O);obtain⟨lo',on'⟩:=I9 z.o.1 HT.o.1;obtain⟨hi',om'⟩:=E2 z.o.2.1 HT.o.2.1;have VZ:(jV++pQ).Nodup:=(by have h1:=(aR.1 (cL.1 w.o.nd).2).2.1;rw[<-aF] at h1;exact (aR.1 h1).1);have XQ:=aa (IH M3 X4 R2 sv l la lb na nb a b jV pQ x lo' hi' ZL.o w.o.ra w.o.rb HN.o.1 HN.o.2.1 VZ on' om' z.o.2.2.1 Pn.o (z.o.2.2.2.2.1.2 _ (by rw[HT.o.2.1];rfl)) (by have:=z.o.2.2.2.2.2;omega));clear O HF w0 fz on' om' VZ;unfold ptr at XQ;go_wp2_with fail;refine XQ.o.mono ?_;rintro e W ⟨rfl,M5,na5,Fj,SA,VO,V_,Wa,Wb,VP,LY,wC⟩;obtain⟨RW,TR,s5,t5⟩:=mF.1 SA;have Bq:=aa s5;have uy:=aa (fun (g c:Nat) (X':World) hto=>yq (g:=g) (c:=c) (X':=X') (fun s y hy=>(HH.o.1.ts.mem.lt hy).1) w.o uw.o HH.o.2.2.2.1 HH.o.2.2.2.2 HT.o.1 HT.o.2.1 T.o.2.1 z.o.1 z.o.2.1 z.o.2.2.1 z.o.2.2.2.1 z.o.2.2.2.2.1 Pn.o t5 rfl VO VP LY wC hto)
   have SB:p∉jV++pQ:=fun e=>(cL.1 w.o.nd).1 (by
    rcases aj.1 e with e|e;·exact aj.2 (dn (aj.2 (dc e)))
    ·exact aj.2 (dn (aj.2 (dn (aj.2 (dc e))))))
   have SC:q∉jV++pQ:=fun e=>w.o.qn (aI _ (by
    rcases aj.1 e with e|e;·exact aj.2 (dn (aj.2 (dc e)))
    ·exact aj.2 (dn (aj.2 (dn (aj.2 (dc e)))))))
   have Ct:=wC p _ SB w.o.Zt;have Cu:=wC q _ SC w.o.atq;have Q9:=Cq k a b x;obtain⟨N,P⟩:∃N:NV,N={n with its:=I1++[{i with node:=aD la}]}:=⟨_,rfl⟩;rw[<-P] at uy Ct;have fQ:N.its=I1++[{i with node:=aD la}]:=(by rw[P]);rw[<-fQ] at uy;obtain⟨B,Ko⟩:∃B,B=m3:=⟨_,rfl⟩;rw[<-Ko] at uy Cu;have NR:N.its.length=NL:=(by rw[P,Q.o.1];show (I1++[_]).length=_;rw[au,T.o.1.len.1];rfl);have ZM:J.length=r.length:=T.o.2.2.2.len.1;have TT:J.length=RL-1:=(by rw[ZM,Q.o.2.1];rfl);have f:=Bq.o.ts.mem.nd p N Ct;have C:=Bq.o.ts.mem.nd q B Cu;have XP:NL+RL<=400:=Co Q.o.1 Q.o.2.1 HT.o.1 HT.o.2.1 z.o.2.2.2.1;have c1:W.cell? ⟨p,1,av⟩=aD (cx (aD ⟨kR,kS,av⟩) NL eU):=(by have:=f.c1;rw[NR,P] at this;rw[Q.o.2.2.1,Q.o.2.2.2.1,Q.o.2.2.2.2.1];exact this);have c4:=f.c4;have c7:=f.c7;have S:=C.c4;obtain⟨hh,Km⟩:∃hh,bs B.hi=hh:=⟨_,rfl⟩;rw[Km] at S;have TP:=aa Km;have E6:N.rg=kR/\N.ro=kS:=by rw[P,Q.o.2.2.1,Q.o.2.2.2.1];exact⟨rfl,rfl⟩
   have Y:=aa (show (N.its++J).length<=400/\(∀i∈N.its++J,i.key.length<=200/\i.val.length<=200)/\NL+(RL-1)=(N.its++J).length from⟨by rw[au];omega,fun i hi=>by
    rcases aj.1 hi with hi|hi;·exact f.small.each i hi
    ·exact C.small.each i (by rw[Ko,w.o.its];exact aI _ hi),by rw[au];omega⟩)
   have sH:=aa (show (l++gP (Tr.join k a b x).2).length<=1000000 by rw[au];unfold gP;rw[aT];have:=z.o.2.2.2.2.2;omega);have D:=aa (show p<W.heap.size/\q<W.heap.size from⟨f.blk.lt,C.blk.lt⟩);have t:=aa f;have HP:=aa Ct;have HQ:=aa Cu;have TQ:=aa (Ne.symm HD.o.2.2.2.2);have ZJ:=D.o.1;have ZK:=D.o.2;obtain⟨XR,ZN⟩:∃XR,XR=TR:=⟨_,rfl⟩;obtain⟨lW,hlW⟩:∃lW,lW=l++gP (Tr.join k a b x).2:=⟨_,rfl⟩;rw[<-ZN] at Bq uy;rw[<-hlW] at Bq sH uy;have abj:(1:Int)<=RL:=(by omega);have aaL:(RL:Int)<=gA:=(by omega);by_cases ZO:gA=1
   ·subst ZO;have L:bu ak W rg ro J:=(by have hJe:J=[]:=eG.1 (by omega);have h1:=C.row;rw[Ko,w.o.its,w.o.like.2.2.1,w.o.like.2.2.2.1,<-Q.o.2.2.2.2.2.1,<-Q.o.2.2.2.2.2.2.1] at h1;have h2:=h1.part 0 0 (by simp);rw[hJe];simpa[ak] using h2);have U:=aa (show ∀(V:World) (rc:Nat),Below W.heap.size W V->aU V W.heap.size 123 [cx (aD ⟨kR,kS,av⟩) NL eU,cx (aD ⟨rg,ro,av⟩) 0 rc]->Calls Tryz.prog 208 #[cx (aD ⟨W.heap.size,0,av⟩) 2 2] V fun e w'=>∃g c,e=eb (cx (aD ⟨g,0,av⟩) NL c)/\aY W.heap.size w' (cx (aD ⟨g,0,av⟩) (N.its++J).length c) (N.its++J)/\Below V.heap.size V w' from fun V rc hb hk=>nk W V N.its J (kR:=kR) (kS:=kS) (NL:=NL) (eU:=eU) (rg:=rg) (ro:=ro) (RL:=0) (gA:=rc) hb hk (by have:=f.row;rw[E6.1,E6.2] at this;exact this) L NR.symm (by omega) (by omega) (by omega));have Y:=aa (And.intro Y.o.1 (And.intro Y.o.2.1 (show NL=(N.its++J).length by have:=Y.o.2.2;omega)));clear f C Ct Cu Km NR ZM TT XP P Ko hsb dV GN s5 t5 SA VO V_ Wa Wb VP LY wC SB SC Q9 L E6 XQ fQ;go_wp2_with (refine wp_region_any (by kernel_rfl) ?_;refine Hid.o ?_);refine aa ?_;try (change wpAny _ _ _ _ _ _ _ (bJ _))
    refine tk 0 ?_;refine tk 1 ?_;refine tk 2 ?_;refine tk 3 ?_;refine tk 4 ?_;refine tk 5 ?_;refine tk 7 ?_;refine tk 10 ?_;refine tk 11 ?_;refine tk 12 ?_;refine tk 13 ?_;try simp only[Act.put,aA,az,ay]
    refine rd [6,14] (AllReady.cons rfl (fun K H=> ?_) (rn fun K H=> ?_))
    focus
     go_simp
     refine H _ _ ?_;clear H K
     refine rd [8,14] (AllReady.cons rfl (fun K H=> ?_) (rn fun K H=> ?_))
     focus
      go_simp
      have I:=aa (show Below W.heap.size W ((W.alloc (ey #[cx (aD ⟨kR,kS,av⟩) NL eU,cx (aD ⟨rg,ro,av⟩) 0 0] 123)).drew) from ((Below.refl _ W).alloc (ah _) _).drew)
      refine H _ _ ?_;clear H K
      refine rd [9,14] (AllReady.cons rfl (fun K H=> ?_) (rn fun K H=> ?_))
      focus
       go_simp
       refine (U.o _ _ I.o (by have:=aU.new W #[cx (aD ⟨kR,kS,av⟩) NL eU,cx (aD ⟨rg,ro,av⟩) 0 0] 123;exact this)).mono ?_
       rintro e Z ⟨g,c,rfl,u,F⟩
       have d:=aa (And.intro u (I.o.trans (F.mono I.o.size)))
       clear F u
       have d1:=(d.o.2.cell (p:=⟨p,1,av⟩) D.o.1).trans c1
       have d4:=(d.o.2.cell (p:=⟨p,4,av⟩) D.o.1).trans c4
       have d7:=(d.o.2.cell (p:=⟨p,7,av⟩) D.o.1).trans c7
       have e4:=(d.o.2.cell (p:=⟨q,4,av⟩) D.o.2).trans S
       have AB:=(t.o.still d.o.2).blk.frozen 1
       have AD:=(t.o.still d.o.2).blk.frozen 4
       have AE:=(t.o.still d.o.2).blk.frozen 7
       refine H _ _ ?_;clear H K
       refine rd [14] (rn fun K H=> ?_)
       go_simp
       refine H _ _ ?_;clear H K
      rotate_left
      focus
       go_simp
       refine H _ _ ?_;clear H K
       refine rd [9] (rn fun K H=> ?_)
       go_simp
       refine (U.o _ _ I.o (by have:=aU.new W #[cx (aD ⟨kR,kS,av⟩) NL eU,cx (aD ⟨rg,ro,av⟩) 0 0] 123;exact this)).mono ?_
       rintro e Z ⟨g,c,rfl,u,F⟩
       have d:=aa (And.intro u (I.o.trans (F.mono I.o.size)))
       clear F u
       have d1:=(d.o.2.cell (p:=⟨p,1,av⟩) D.o.1).trans c1
       have d4:=(d.o.2.cell (p:=⟨p,4,av⟩) D.o.1).trans c4
       have d7:=(d.o.2.cell (p:=⟨p,7,av⟩) D.o.1).trans c7
       have e4:=(d.o.2.cell (p:=⟨q,4,av⟩) D.o.2).trans S
       have AB:=(t.o.still d.o.2).blk.frozen 1
       have AD:=(t.o.still d.o.2).blk.frozen 4
       have AE:=(t.o.still d.o.2).blk.frozen 7
       refine H _ _ ?_;clear H K
     rotate_left 2
     focus
      go_simp
      refine H _ _ ?_;clear H K
      refine rd [8] (rn fun K H=> ?_)
      go_simp
      have I:=aa (show Below W.heap.size W ((W.alloc (ey #[cx (aD ⟨kR,kS,av⟩) NL eU,cx (aD ⟨rg,ro,av⟩) 0 0] 123)).drew) from ((Below.refl _ W).alloc (ah _) _).drew)
      refine H _ _ ?_;clear H K
      refine rd [9] (rn fun K H=> ?_)
      go_simp
      refine (U.o _ _ I.o (by have:=aU.new W #[cx (aD ⟨kR,kS,av⟩) NL eU,cx (aD ⟨rg,ro,av⟩) 0 0] 123;exact this)).mono ?_
      rintro e Z ⟨g,c,rfl,u,F⟩
      have d:=aa (And.intro u (I.o.trans (F.mono I.o.size)))
      clear F u
      have d1:=(d.o.2.cell (p:=⟨p,1,av⟩) D.o.1).trans c1
      have d4:=(d.o.2.cell (p:=⟨p,4,av⟩) D.o.1).trans c4
      have d7:=(d.o.2.cell (p:=⟨p,7,av⟩) D.o.1).trans c7
      have e4:=(d.o.2.cell (p:=⟨q,4,av⟩) D.o.2).trans S
      have AB:=(t.o.still d.o.2).blk.frozen 1
      have AD:=(t.o.still d.o.2).blk.frozen 4
      have AE:=(t.o.still d.o.2).blk.frozen 7
      refine H _ _ ?_;clear H K
    rotate_left 3
    focus
     go_simp
     refine H _ _ ?_;clear H K
     refine rd [6] (rn fun K H=> ?_)
     go_simp
     refine H _ _ ?_;clear H K
     refine rd [8] (rn fun K H=> ?_)
     go_simp
     have I:=aa (show Below W.heap.size W ((W.alloc (ey #[cx (aD ⟨kR,kS,av⟩) NL eU,cx (aD ⟨rg,ro,av⟩) 0 0] 123)).drew) from ((Below.refl _ W).alloc (ah _) _).drew)
     refine H _ _ ?_;clear H K
     refine rd [9] (rn fun K H=> ?_)
     go_simp
     refine (U.o _ _ I.o (by have:=aU.new W #[cx (aD ⟨kR,kS,av⟩) NL eU,cx (aD ⟨rg,ro,av⟩) 0 0] 123;exact this)).mono ?_
     rintro e Z ⟨g,c,rfl,u,F⟩
     have d:=aa (And.intro u (I.o.trans (F.mono I.o.size)))
     clear F u
     have d1:=(d.o.2.cell (p:=⟨p,1,av⟩) D.o.1).trans c1
     have d4:=(d.o.2.cell (p:=⟨p,4,av⟩) D.o.1).trans c4
     have d7:=(d.o.2.cell (p:=⟨p,7,av⟩) D.o.1).trans c7
     have e4:=(d.o.2.cell (p:=⟨q,4,av⟩) D.o.2).trans S
     have AB:=(t.o.still d.o.2).blk.frozen 1
     have AD:=(t.o.still d.o.2).blk.frozen 4
     have AE:=(t.o.still d.o.2).blk.frozen 7
     refine H _ _ ?_;clear H K
    all_goals
     try simp only[Act.put,aA,az,ay]
     refine tk 15 ?_
     refine tk 16 ?_
     refine rd [17] (rn fun K H=> ?_)
     go_simp
     refine H _ _ ?_;clear H K
     refine tk 18 ?_
     refine tk 19 ?_
     refine tk 20 ?_
     refine rd [21] (rn fun K H=> ?_)
     go_simp
     refine H _ _ ?_;clear H K
     refine tk 22 ?_
     refine tk 23 ?_
     refine rd [24] (rn fun K H=> ?_)
     go_simp
     refine H _ _ ?_;clear H K
     refine wpAny_done (by kernel_rfl) ?_ _
     obtain⟨W9,sN⟩:∃W9,W9=((Z.setCell ⟨p,1,av⟩ (cx (aD ⟨g,0,av⟩) NL c)).setCell ⟨p,4,av⟩ (bR hh)).setCell ⟨p,7,av⟩ (eX true):=⟨_,rfl⟩
     rw[<-sN]
     obtain⟨R9,G,LR,wz,jR,LS⟩:=Bq.o.row HP.o d.o.2 TP.o d.o.1 Y.o.1 Y.o.2.1 Y.o.2.2 sN
     have H9:=aa (And.intro G (And.intro LR (And.intro wz (And.intro jR LS))))
     have Ci:=aa (jh W9 sb E.tb q XR lW B G.blk G.sp (G.ts.mem.nd q B ((aW TQ.o).trans HQ.o)) sH.o)
     clear G LR wz jR LS sN d1 d4 d7 e4 AB AD AE
     unfold ptr at Ci
     go_wp2_with fail
     refine Ci.o.mono ?_
     intro e W10 qj
     have he:=qj.1
     subst he
     have H10:=aa qj
     clear qj Ci
     go_wp2_with fail
     go_ret
     exact⟨rfl,uy.o g c _ (rH Bq.o H9.o H10.o ⟨p,_,HP.o,dc rfl⟩)⟩
   ·skip
    have L:bu ak W rg (ro+3) J:=(by have h1:=C.row;rw[Ko,w.o.its,w.o.like.2.2.1,w.o.like.2.2.2.1,<-Q.o.2.2.2.2.2.1,<-Q.o.2.2.2.2.2.2.1] at h1;have h2:=h1.part 1 J.length (by simp);simpa[ak] using h2);have U:=aa (fun V rc hb hk=>nk W V N.its J (kR:=kR) (kS:=kS) (NL:=NL) (eU:=eU) (rg:=rg) (ro:=ro+3) (RL:=RL-1) (gA:=rc) hb hk (by have:=f.row;rw[E6.1,E6.2] at this;exact this) L NR.symm TT.symm (by omega) (by omega));clear f C Ct Cu Km NR ZM TT XP P Ko hsb dV GN s5 t5 SA VO V_ Wa Wb VP LY wC SB SC Q9 L E6 XQ fQ;go_wp2_with (refine wp_region_any (by kernel_rfl) ?_;refine Hid.o ?_);refine aa ?_;try (change wpAny _ _ _ _ _ _ _ (bJ _))
    refine tk 0 ?_;refine tk 1 ?_;refine tk 2 ?_;refine tk 3 ?_;refine tk 4 ?_;refine tk 5 ?_;refine tk 7 ?_;refine tk 10 ?_;refine tk 11 ?_;refine tk 12 ?_;refine tk 13 ?_;try simp only[Act.put,aA,az,ay]
    refine rd [6,14] (AllReady.cons rfl (fun K H=> ?_) (rn fun K H=> ?_))
    focus
     go_simp
     refine H _ _ ?_;clear H K
     refine rd [8,14] (AllReady.cons rfl (fun K H=> ?_) (rn fun K H=> ?_))
     focus
      go_simp
      have I:=aa (show Below W.heap.size W ((W.alloc (ey #[cx (aD ⟨kR,kS,av⟩) NL eU,cx (aD ⟨rg,ro+3,av⟩) (RL-1) (gA-1)] 123)).drew) from ((Below.refl _ W).alloc (ah _) _).drew)
      refine H _ _ ?_;clear H K
      refine rd [9,14] (AllReady.cons rfl (fun K H=> ?_) (rn fun K H=> ?_))
      focus
       go_simp
       refine (U.o _ _ I.o (by have:=aU.new W #[cx (aD ⟨kR,kS,av⟩) NL eU,cx (aD ⟨rg,ro+3,av⟩) (RL-1) (gA-1)] 123;exact this)).mono ?_
       rintro e Z ⟨g,c,rfl,u,F⟩
       have d:=aa (And.intro u (I.o.trans (F.mono I.o.size)))
       clear F u
       have d1:=(d.o.2.cell (p:=⟨p,1,av⟩) D.o.1).trans c1
       have d4:=(d.o.2.cell (p:=⟨p,4,av⟩) D.o.1).trans c4
       have d7:=(d.o.2.cell (p:=⟨p,7,av⟩) D.o.1).trans c7
       have e4:=(d.o.2.cell (p:=⟨q,4,av⟩) D.o.2).trans S
       have AB:=(t.o.still d.o.2).blk.frozen 1
       have AD:=(t.o.still d.o.2).blk.frozen 4
       have AE:=(t.o.still d.o.2).blk.frozen 7
       refine H _ _ ?_;clear H K
       refine rd [14] (rn fun K H=> ?_)
       go_simp
       refine H _ _ ?_;clear H K
      rotate_left
      focus
       go_simp
       refine H _ _ ?_;clear H K
       refine rd [9] (rn fun K H=> ?_)
       go_simp
       refine (U.o _ _ I.o (by have:=aU.new W #[cx (aD ⟨kR,kS,av⟩) NL eU,cx (aD ⟨rg,ro+3,av⟩) (RL-1) (gA-1)] 123;exact this)).mono ?_
       rintro e Z ⟨g,c,rfl,u,F⟩
       have d:=aa (And.intro u (I.o.trans (F.mono I.o.size)))
       clear F u
       have d1:=(d.o.2.cell (p:=⟨p,1,av⟩) D.o.1).trans c1
       have d4:=(d.o.2.cell (p:=⟨p,4,av⟩) D.o.1).trans c4
       have d7:=(d.o.2.cell (p:=⟨p,7,av⟩) D.o.1).trans c7
       have e4:=(d.o.2.cell (p:=⟨q,4,av⟩) D.o.2).trans S
       have AB:=(t.o.still d.o.2).blk.frozen 1
       have AD:=(t.o.still d.o.2).blk.frozen 4
       have AE:=(t.o.still d.o.2).blk.frozen 7
       refine H _ _ ?_;clear H K
     rotate_left 2
     focus
      go_simp
      refine H _ _ ?_;clear H K
      refine rd [8] (rn fun K H=> ?_)
      go_simp
      have I:=aa (show Below W.heap.size W ((W.alloc (ey #[cx (aD ⟨kR,kS,av⟩) NL eU,cx (aD ⟨rg,ro+3,av⟩) (RL-1) (gA-1)] 123)).drew) from ((Below.refl _ W).alloc (ah _) _).drew)
      refine H _ _ ?_;clear H K
      refine rd [9] (rn fun K H=> ?_)
      go_simp
      refine (U.o _ _ I.o (by have:=aU.new W #[cx (aD ⟨kR,kS,av⟩) NL eU,cx (aD ⟨rg,ro+3,av⟩) (RL-1) (gA-1)] 123;exact this)).mono ?_
      rintro e Z ⟨g,c,rfl,u,F⟩
      have d:=aa (And.intro u (I.o.trans (F.mono I.o.size)))
      clear F u
      have d1:=(d.o.2.cell (p:=⟨p,1,av⟩) D.o.1).trans c1
      have d4:=(d.o.2.cell (p:=⟨p,4,av⟩) D.o.1).trans c4
      have d7:=(d.o.2.cell (p:=⟨p,7,av⟩) D.o.1).trans c7
      have e4:=(d.o.2.cell (p:=⟨q,4,av⟩) D.o.2).trans S
      have AB:=(t.o.still d.o.2).blk.frozen 1
      have AD:=(t.o.still d.o.2).blk.frozen 4
      have AE:=(t.o.still d.o.2).blk.frozen 7
      refine H _ _ ?_;clear H K
    rotate_left 3
    focus
     go_simp
     refine H _ _ ?_;clear H K
     refine rd [6] (rn fun K H=> ?_)
     go_simp
     refine H _ _ ?_;clear H K
     refine rd [8] (rn fun K H=> ?_)
     go_simp
     have I:=aa (show Below W.heap.size W ((W.alloc (ey #[cx (aD ⟨kR,kS,av⟩) NL eU,cx (aD ⟨rg,ro+3,av⟩) (RL-1) (gA-1)] 123)).drew) from ((Below.refl _ W).alloc (ah _) _).drew)
     refine H _ _ ?_;clear H K
     refine rd [9] (rn fun K H=> ?_)
     go_simp
     refine (U.o _ _ I.o (by have:=aU.new W #[cx (aD ⟨kR,kS,av⟩) NL eU,cx (aD ⟨rg,ro+3,av⟩) (RL-1) (gA-1)] 123;exact this)).mono ?_
     rintro e Z ⟨g,c,rfl,u,F⟩
     have d:=aa (And.intro u (I.o.trans (F.mono I.o.size)))
     clear F u
     have d1:=(d.o.2.cell (p:=⟨p,1,av⟩) D.o.1).trans c1
     have d4:=(d.o.2.cell (p:=⟨p,4,av⟩) D.o.1).trans c4
     have d7:=(d.o.2.cell (p:=⟨p,7,av⟩) D.o.1).trans c7
     have e4:=(d.o.2.cell (p:=⟨q,4,av⟩) D.o.2).trans S
     have AB:=(t.o.still d.o.2).blk.frozen 1
     have AD:=(t.o.still d.o.2).blk.frozen 4
     have AE:=(t.o.still d.o.2).blk.frozen 7
     refine H _ _ ?_;clear H K
    all_goals
     try simp only[Act.put,aA,az,ay]
     refine tk 15 ?_
     refine tk 16 ?_
     refine rd [17] (rn fun K H=> ?_)
     go_simp
     refine H _ _ ?_;clear H K
     refine tk 18 ?_
     refine tk 19 ?_
     refine tk 20 ?_
     refine rd [21] (rn fun K H=> ?_)
     go_simp
     refine H _ _ ?_;clear H K
     refine tk 22 ?_
     refine tk 23 ?_
     refine rd [24] (rn fun K H=> ?_)
     go_simp
     refine H _ _ ?_;clear H K
     refine wpAny_done (by kernel_rfl) ?_ _
     obtain⟨W9,sN⟩:∃W9,W9=((Z.setCell ⟨p,1,av⟩ (cx (aD ⟨g,0,av⟩) (NL+(RL-1)) c)).setCell ⟨p,4,av⟩ (bR hh)).setCell ⟨p,7,av⟩ (eX true):=⟨_,rfl⟩
     rw[<-sN]
     obtain⟨R9,G,LR,wz,jR,LS⟩:=Bq.o.row HP.o d.o.2 TP.o d.o.1 Y.o.1 Y.o.2.1 Y.o.2.2 sN
     have H9:=aa (And.intro G (And.intro LR (And.intro wz (And.intro jR LS))))
     have Ci:=aa (jh W9 sb E.tb q XR lW B G.blk G.sp (G.ts.mem.nd q B ((aW TQ.o).trans HQ.o)) sH.o)
     clear G LR wz jR LS sN d1 d4 d7 e4 AB AD AE
     unfold ptr at Ci
     go_wp2_with fail
     refine Ci.o.mono ?_
     intro e W10 qj
     have he:=qj.1
     subst he
     have H10:=aa qj
     clear qj Ci
     go_wp2_with fail
     go_ret
     exact⟨rfl,uy.o g c _ (rH Bq.o H9.o H10.o ⟨p,_,HP.o,dc rfl⟩)⟩
end
end
end Go.Proofs.YtlpfhjbpknbndaaGreatDoor
