/- Elder texts, cut down and merged (11). -/
import Derived.Test.YtloekpcncjocaaaGreatDoorP10
import Derived.Test.YtloekpcncjocaaaGreatDoorPTk
set_option maxRecDepth 100000
set_option maxHeartbeats 8000000
namespace Go.Proofs.YtloekpcncjocaaaGreatDoor
open Go.RowKit Lib
section
variable {E:Ev} {X0 X X':World} {R0 R R' S:Nat→Prop} {ps ps':List (Nat×List UInt8)} {pg bN:List (Option Wl.Text)} {rt rt':List Nat} {M M':Nat→Option NV} {p q:Nat} {n m:NV} {sb:Nat} {sv:Value} {l:List Int}
theorem zD {k NL RL:Nat} {tn tm:Tr.E (k+2)} {A r:List (Tr.Tx×Tr.E (k+1))} {u v:Tr.Tx×Tr.E (k+1)} {x:Tr.Tx} (h1:NL=A.length+1) (h2:RL=r.length+1) (hA:Tr.its tn=A++[u]) (hB:Tr.its tm=v::r) (hc:¬Tr.cut (k+2) tn x tm):NL+RL≤400:=by
 rw[Tr.rB,hA,hB] at hc
 have e1:=Tr.fX (k+1) (A++[u])
 have e2:=Tr.fX (k+1) (v::r)
 rw[List.length_append] at e1
 simp only[List.length_cons,List.length_nil] at e1 e2
 omega
theorem zE:∀(k:Nat) (n m:Tr.E (k+1)) (x:Tr.Tx),(Tr.join k n m x).2.length≤k+1
 |0,n,m,x=>by rw[Tr.pX];cases (Tr.hd m).page<;>simp
 |k+1,n,m,x=>by
  cases hm:Tr.its m with
  |nil=>unfold Tr.join;rw[hm];cases (Tr.its n).getLast?<;>simp
  |cons b r=>
   by_cases hn:Tr.its n=[]
   ·unfold Tr.join;rw[hn,hm];simp
   ·obtain⟨A,a,hA⟩:=Tr.ck hn
    rw[Tr.jk hA hm]
    have ih:=zE k a.2 b.2 x
    split
    ·cases (Tr.hd m).page<;>simp
    ·rw[List.length_append]
     cases (Tr.hd m).page<;>simp<;>omega
theorem Ey {k:Nat} {tn:Tr.E (k+2)} {A:List (Tr.Tx×Tr.E (k+1))} {ka:Tr.Tx} {a:Tr.E (k+1)} {uD:Tr.Tx} {h:Option Tr.Tx} (on:Tr.Ok (k+2) uD h tn) (hA:Tr.its tn=A++[(ka,a)]):∃lo,Tr.Ok (k+1) lo h a:=by
 obtain⟨_,_,_,h4⟩:=on
 rw[Tr.b7,hA] at h4
 cases A with
 |nil=>exact⟨uD,h4⟩
 |cons c A=>
  have h4':Tr.bT (Tr.Ok (k+1)) (Tr.cut (k+1)) h (((uD,c.2)::A)++[(ka,a)]):=h4
  exact⟨ka,h4'.last⟩
theorem B2 {k:Nat} {tm:Tr.E (k+2)} {r:List (Tr.Tx×Tr.E (k+1))} {kb:Tr.Tx} {b:Tr.E (k+1)} {x:Tr.Tx} {h:Option Tr.Tx} (om:Tr.Ok (k+2) x h tm) (hB:Tr.its tm=(kb,b)::r):∃hi,Tr.Ok (k+1) x hi b:=by
 obtain⟨_,_,_,h4⟩:=om
 rw[Tr.b7,hB] at h4
 have h4':Tr.bT (Tr.Ok (k+1)) (Tr.cut (k+1)) h ([]++(x,b)::r):=h4
 exact⟨_,xD h4'⟩
def B3 (E:Ev) (X0:World) (R0:Nat→Prop) (ps:List (Nat×List UInt8)) (pg:List (Option Wl.Text)) (rt:List Nat) (sb:Nat) (k:Nat):Prop:=
 ∀(M:Nat→Option NV) (X:World) (R:Nat→Prop) (sv:Value) (l:List Int) (p q:Nat) (n m:NV) (tn tm:Tr.E (k+1)) (F1 F2:List Nat) (x uD:Tr.Tx) (yG:Option Tr.Tx),
  SS E X0 R0 R ps pg rt M X sb sv l→b8 M pg k p tn F1→b8 M pg k q tm F2→M p=some n→M q=some m→(F1++F2).Nodup→Tr.Ok (k+1) uD (some x) tn→Tr.Ok (k+1) x yG tm→x.length≤96→¬Tr.cut (k+1) tn x tm→Tr.Old (k+1) tm→l.length+k≤100000→
  Calls Tryz.prog 145 #[ptr sb,ptr p,ptr q,.string (bs x)] X fun e X'=>e=.returned (.int .i64 0)∧oT E X0 R0 R ps pg rt M X sb sv k p n m (F1++F2) (Tr.join k tn tm x).1 (l++ew (Tr.join k tn tm x).2) X'
theorem tq {k:Nat} {t:Tr.E (k+2)} {I1 I2:List It} {i:It} {A B:List (Tr.Tx×Tr.E (k+1))} {key:Tr.Tx} {c:Tr.E (k+1)} {f1 f2:List (List Nat)} {f:List Nat} {V:World}
  (h:TS E X0 R0 R ps pg rt M X) (hV:Below X.heap.size X V) (hp:M p=some n) (ho:iC pg (k+1) n t) (hi:n.its=I1++i::I2) (ht:Tr.its t=A++(key,c)::B) (h1:aI pg k (b8 M pg k) I1 A f1) (h0:gE pg k (b8 M pg k) i (key,c) f) (h2:aI pg k (b8 M pg k) I2 B f2) (hnd:(p::(f1++f::f2).flatten).Nodup) (hk:k≤15) {j:Int} (hj:j=A.length):
  Calls Tryz.prog 59 #[ptr E.tb,ptr p,.int .i64 j] V fun e X'=>∃q M' R' fq,e=.returned (.tuple #[ptr q,.int .i64 0])∧xE E X0 R0 R ps pg rt M X p n k I1 i I2 A c B f1 f2 f q M' R' fq X':=by
 subst hj
 refine (Es (h.still hV (fun _ h=>h) (fun _ h=>.inl h)) hp ho hi ht h1 h0 h2 hnd hk).mono ?_
 rintro e X' ⟨q,M',R',fq,he,b⟩
 refine⟨q,M',R',fq,he,⟨b.ts,b.at_,b.vS,b.left,b.right,b.same,fun r hr=> ?_,b.nd,Nat.le_trans hV.size b.size,(aj.aq hV (fun b=>b=n.rg)).trans b.but fun _ _ h=>h,b.sub,fun r hr=> ?_,fun r hr=> ?_⟩⟩
 ·exact (b.news r hr).imp_right fun h=>Nat.le_trans hV.size h
 ·exact (b.new r hr).imp_right fun h=>Nat.le_trans hV.size h
 ·exact (b.mb r hr).imp_right fun h=>Nat.le_trans hV.size h
theorem Ez {k:Nat} (IH:B3 E X0 R0 ps pg rt sb k) (hk:k≤14):B3 E X0 R0 ps pg rt sb (k+1):=by
 intro M X R sv l p q n m tn tm F1 F2 x uD yG h r1 r2 hp hq hnd on om hx hc hold hl
 obtain⟨n',fs1,hp',pJ,SY,rfl⟩:=r1
 rw[hp] at hp'
 injection hp' with hp'
 subst hp'
 obtain⟨m',fs2,jo,cR,SZ,rfl⟩:=r2
 rw[hq] at jo
 injection jo with jo
 subst jo
 obtain⟨A,⟨ka,a⟩,hA⟩:=Tr.ck on.1
 obtain⟨⟨kb,b⟩,r,hB⟩:∃c r,Tr.its tm=c::r:=by
  cases hh:Tr.its tm with
  |nil=>exact absurd hh om.1
  |cons c r=>exact⟨c,r,rfl⟩
 have Hr:=SY
 have QU:=SZ
 rw[hA] at SY
 rw[hB] at SZ
 obtain⟨I1,I',f1,f',hI,rfl,UX,Yh⟩:=SY.parts
 obtain⟨i,I0,fa,f0,rfl,rfl,UY,Yi⟩:=Yh.cons_inv
 obtain⟨rfl,rfl⟩:=Yi.rI
 obtain⟨j,J,fb,f2,hJ,rfl,Yj,Yk⟩:=SZ.cons_inv
 have jW:(p::(f1++fa::[]).flatten).Nodup:=(List.nodup_append.1 hnd).1
 have gG:(q::([]++fb::f2).flatten).Nodup:=(List.nodup_append.1 hnd).2.1
 have xN:∀r,r∈p::(f1++[fa]).flatten→r∈q::(fb::f2).flatten→False:=fun r h1 h2=>(List.nodup_append.1 hnd).2.2 r h1 r h2 rfl
 have hpq:p≠q:=fun e=>xN p List.mem_cons_self (by rw[e];exact List.mem_cons_self)
 have iI:=aa (fun V hV=>tq (V:=V) (j:=(A.length:Int)) h.ts hV hp pJ hI hA UX UY (show aI pg k (b8 M pg k) [] [] [] from trivial) jW (by omega) rfl)
 have hnp:=h.ts.mem.nd p n hp
 have kD:=h.ts.mem.nd q m hq
 have c0:=hnp.c0
 have c1:=hnp.c1
 have q1:=kD.c1
 have hsb:=h.blk.lt
 have s0:X.cell? ⟨sb,0,none⟩=some (ptr E.tb):=h.blk.cell rfl
 have JE:n.its.length=A.length+1:=by have:=Hr.len.1;rw[hA,List.length_append] at this;exact this
 have Mt:m.its.length=r.length+1:=by have:=QU.len.1;rw[hB] at this;exact this
 have y8:(0:Int)<n.level:=by rw[pJ.level];omega
 have Yl:(n.level:Int)>0:=y8
 have bn:=oU on
 have bm:=oU om
 have hwr:IntKind.i64.wrap (((A.length+1:Nat):Int)-1)=(A.length:Int):=by
  rw[show ((A.length+1:Nat):Int)-1=(A.length:Int) by omega]
  exact bQ _ (by rw[hA,List.length_append] at bn;have:=bn.1;simp at this;omega)
 obtain⟨NL,KQ⟩:∃NL,NL=A.length+1:=⟨_,rfl⟩
 obtain⟨RL,NI⟩:∃RL,RL=r.length+1:=⟨_,rfl⟩
 obtain⟨iD,B0⟩:∃g,g=n.rg:=⟨_,rfl⟩
 obtain⟨iE,B1⟩:∃g,g=n.ro:=⟨_,rfl⟩
 obtain⟨cX,vT⟩:∃g,g=n.cap:=⟨_,rfl⟩
 obtain⟨rg,uy⟩:∃g,g=m.rg:=⟨_,rfl⟩
 obtain⟨ro,hro⟩:∃g,g=m.ro:=⟨_,rfl⟩
 obtain⟨d_,vU⟩:∃g,g=m.cap:=⟨_,rfl⟩
 rw[JE,←KQ,←B0,←B1,←vT] at c1
 rw[Mt,←NI,←uy,←hro,←vU] at q1
 have nj:=aa (And.intro KQ (And.intro NI (And.intro B0 (And.intro B1 (And.intro vT (And.intro uy (And.intro hro vU)))))))
 rw[←KQ] at hwr
 have aam:IntKind.i64.wrap ((A.length:Nat):Int)=(A.length:Int):=bQ _ (by rw[hA,List.length_append] at bn;have:=bn.1;simp at this;omega)
 have aan:((NL:Nat):Int)-1=(A.length:Int):=by omega
 have aao:(1:Int)≤NL:=by omega
 have aap:(0:Int)<RL:=by omega
 have aaq:(RL:Int)≤255:=by rw[hB] at bm;have:=bm.1;simp at this;omega
 have aar:RL≤d_:=by have:=kD.small.cap.1;omega
 have bY:=hnp.blk.lt
 have Da:=kD.blk.lt
 unfold ptr at s0 iI
 have HH:=aa (And.intro h (And.intro hp (And.intro hq (And.intro pJ cR))))
 have HT:=aa (And.intro hA (And.intro hB (And.intro hI hJ)))
 have HK:=aa (And.intro UX (And.intro UY (And.intro Yj Yk)))
 have HD:=aa (And.intro hnd (And.intro jW (And.intro gG (And.intro xN hpq))))
 have HO:=aa (And.intro on (And.intro om (And.intro hx (And.intro hc (And.intro hold hl)))))
 have HZ:=aa (And.intro JE (And.intro Mt (And.intro bn bm)))
 clear h hp hq pJ cR hA hB hI hJ UX UY Yj Yk hnd jW gG xN hpq on om hx hc hold hl JE Mt bn bm hnp kD KQ NI B0 B1 vT uy hro vU Hr QU SY SZ Yh Yi
 go_enter Tryz.func145,Tryz.ntmps145
 unfold ptr
 go_wp2_with (refine wp_region_any (by kernel_rfl) ?_;refine Hid.out ?_)
 refine aa ?_
 try (change wpAny _ _ _ _ _ _ _ (World.drew _))
 refine tk 0 ?_
 refine tk 1 ?_
 refine tk 2 ?_
 refine tk 4 ?_
 refine tk 5 ?_
 refine tk 6 ?_
 refine tk 7 ?_
 try simp only[Act.put,List.setIfInBounds_toArray,List.set_cons_succ,List.set_cons_zero]
 refine rd [3,8] (AllReady.cons rfl (fun K hK=> ?_) (rn fun K hK=> ?_))
 focus
  go_simp
  refine hK _ _ ?_;clear hK K
  refine rd [8] (rn fun K hK=> ?_)
  go_simp
  refine hK _ _ ?_;clear hK K
  refine tk 9 ?_
  refine tk 10 ?_
  refine rd [11] (rn fun K hK=> ?_)
  go_simp
  refine (iI.out _ (show Below X.heap.size X X.drew from (Below.refl _ X).drew)).mono ?_
  rintro e X1 ⟨la,M1,R1,gU,rfl,zF⟩
  have H1:=aa zF
  clear zF
  refine hK _ _ ?_;clear hK K
 rotate_left
 focus
  go_simp
  refine hK _ _ ?_;clear hK K
  refine tk 9 ?_
  refine tk 10 ?_
  refine rd [3] (rn fun K hK=> ?_)
  go_simp
  refine hK _ _ ?_;clear hK K
  refine rd [11] (rn fun K hK=> ?_)
  go_simp
  refine (iI.out _ (show Below X.heap.size X X.drew from (Below.refl _ X).drew)).mono ?_
  rintro e X1 ⟨la,M1,R1,gU,rfl,zF⟩
  have H1:=aa zF
  clear zF
  refine hK _ _ ?_;clear hK K
 all_goals
  try unfold ptr
  try simp only[Act.put,List.setIfInBounds_toArray,List.set_cons_succ,List.set_cons_zero]
  refine tk 12 ?_
  refine tk 13 ?_
  refine tk 14 ?_
  refine tk 15 ?_
  refine tk 16 ?_
  try simp only[Act.put,List.setIfInBounds_toArray,List.set_cons_succ,List.set_cons_zero]
  refine wpAny_done (by kernel_rfl) ?_ _
  have b1:=H1.out
  have B4:∀k,k=n.rg→MB M k:=fun k e=>by rw[e];exact⟨p,n,HH.out.2.1,.inr rfl⟩
  have Hs:=aa (HH.out.1.nodes b1.ts b1.but B4 b1.sub b1.mb)
  have HT1:=aa (show jF R M X sb sv R1 M1 sv X1 from jF.nodes b1.but B4 b1.sub b1.new b1.mb (Dom.but b1.at_ b1.same))
  have hag:∀r,r≠p→(∃m,M r=some m)→M1 r=M r:=fun r hr ⟨y,hy⟩=>by rw[hy];exact b1.same r y hr hy
  have hq1:M1 q=some m:=b1.same q m (Ne.symm HD.out.2.2.2.2) HH.out.2.2.1
  have UZ:∀r∈q::(fb::f2).flatten,r≠p:=fun r hr e=>HD.out.2.2.2.1 p List.mem_cons_self (by rw[←e];exact hr)
  have NJ:gE pg k (b8 M1 pg k) j (kb,b) fb:=HK.out.2.2.1.mono fun y _ hy=>hy.frame fun r hr=>hag r (UZ r (by rw[List.flatten_cons];exact List.mem_cons_of_mem _ (List.mem_append.2 (.inl hr)))) (hy.dom r hr)
  have NK:aI pg k (b8 M1 pg k) J r f2:=HK.out.2.2.2.frame fun r hr=>hag r (UZ r (by rw[List.flatten_cons];exact List.mem_cons_of_mem _ (List.mem_append.2 (.inr hr)))) (HK.out.2.2.2.dom r hr)
  have kf:=aa (fun V hV=>tq (V:=V) (j:=(0:Int)) Hs.out.ts hV hq1 HH.out.2.2.2.2 (I1:=[]) HT.out.2.2.2 (A:=[]) HT.out.2.1 (show aI pg k (b8 M1 pg k) [] [] [] from trivial) NJ NK HD.out.2.2.1 (by omega) rfl)
  have HK2:=aa (And.intro hq1 (And.intro NJ NK))
  have t0:X1.cell? ⟨sb,0,none⟩=some (ptr E.tb):=Hs.out.blk.cell rfl
  have aas:=Hs.out.blk.lt
  unfold ptr at t0
  clear b1 hag hq1 UZ NJ NK c0 c1 q1 s0 B4 iI
  unfold ptr at kf
  go_wp2_with fail
  refine (kf.out X1 (Below.refl _ _)).mono ?_
  rintro e X2 ⟨lb,M2,R2,mD,rfl,Mx⟩
  have H2:=aa Mx
  clear Mx kf t0
  try unfold ptr
  have b2:=H2.out
  have B4:∀k,k=m.rg→MB M1 k:=fun k e=>by rw[e];exact⟨q,m,HK2.out.1,.inr rfl⟩
  have U_:=aa (Hs.out.nodes b2.ts b2.but B4 b2.sub b2.mb)
  have TY:=aa (HT1.out.trans (show jF R1 M1 X1 sb sv R2 M2 sv X2 from jF.nodes b2.but B4 b2.sub b2.new b2.mb (Dom.but b2.at_ b2.same)))
  have hit:=aH (U_.out.ts.mem.nd q _ b2.at_).row 0 (by show 0<([]++{j with node:=some lb}::J).length;simp)
  have w0:X2.cell? ⟨rg,ro,none⟩=some (.string (bs j.key)):=by have:=hit.1;rw[nj.out.2.2.2.2.2.1,nj.out.2.2.2.2.2.2.1];simpa using this
  have fz:X2.frozen? ⟨rg,ro,none⟩=false:=by
   obtain⟨cur,jH⟩:=U_.out.ts.mem.ty q _ b2.at_
   have QV:X2.heap[rg]?=some (.cells cur 95 (0,0)):=by rw[nj.out.2.2.2.2.2.1];exact jH
   simp[World.frozen?,QV]
  obtain⟨M3,m3,hmid⟩:=Ho HH.out.1 HH.out.2.1 HH.out.2.2.1 HK.out.1 HK.out.2.1 HK.out.2.2.1 HK.out.2.2.2 HD.out.1 HO.out.2.2.1 H1.out Hs.out H2.out U_.out TY.out
  rw[←nj.out.2.2.2.2.2.1,←nj.out.2.2.2.2.2.2.1] at hmid
  obtain⟨X3,SX⟩:∃X3,X3=X2.setCell ⟨rg,ro,none⟩ (.string (bs x)):=⟨_,rfl⟩
  rw[←SX] at hmid
  have HM:=aa hmid
  obtain⟨na,hna,Va,-⟩:=hmid.ra.head
  obtain⟨nb,hnb,Ym,-⟩:=hmid.rb.head
  have hsa:=hmid.ra.sz hna
  have QW:=hmid.rb.sz hnb
  have HF:=aa (iV (hmid.ss.ts.mem.nd la na hna) (hmid.ss.ts.mem.nd lb nb hnb) x (by have:=HO.out.2.2.1;omega))
  rw[hsa.1,QW.1,Va.level] at HF
  have HN:=aa (And.intro hna (And.intro hnb (And.intro Va Ym)))
  clear b2 B4 hit hmid hna Va hnb Ym hsa QW
  unfold ptr at HF
  by_cases hcut:Tr.cut (k+1) a x b
  ·have zG:¬(Tr.sz k (Tr.its a)+Tr.sz k (Tr.its b)+(if k=0 then 0 else x.length)≤510):=by unfold Tr.cut at hcut;omega
   rw[decide_eq_false zG] at HF
   have KR:=aa hcut
   clear hcut zG
   go_wp2_with fail
   rw[←SX]
   refine HF.out.mono ?_
   rintro e W ⟨rfl,hb4⟩
   have PL:=aa hb4
   have AV:=aa (HM.out.ss.still hb4)
   have q7:=aa (fun (g c:Nat) (X':World) hto=>uR (g:=g) (c:=c) (X':=X') HM.out PL.out HH.out.2.2.2.1 HH.out.2.2.2.2 HT.out.1 HT.out.2.1 HK.out.2.1 HK.out.2.2.1 HO.out.1 HO.out.2.1 HO.out.2.2.1 HO.out.2.2.2.1 HO.out.2.2.2.2.1 KR.out hto)
   clear hb4 HF w0 fz
   obtain⟨nW,B5⟩:∃nW:NV,nW={n with its:=I1++[{i with node:=some la}]}:=⟨_,rfl⟩
   rw[←B5] at q7
   obtain⟨mW,FF⟩:∃mW,mW=m3:=⟨_,rfl⟩
   have NM:M3 p=some nW:=by rw[B5];exact HM.out.UH
   have Hp:M3 q=some mW:=by rw[FF];exact HM.out.Yd
   have Jw:nW.its.length=NL:=by rw[B5,nj.out.1];show (I1++[_]).length=_;rw[List.length_append,HK.out.1.len.1];rfl
   have O5:mW.its.length=RL:=by rw[FF,HM.out.its,nj.out.2.1,List.length_cons,HK.out.2.2.2.len.1]
   have hnp:=AV.out.ts.mem.nd p nW NM
   have kD:=AV.out.ts.mem.nd q mW Hp
   have S0:NL+RL≤400:=zD nj.out.1 nj.out.2.1 HT.out.1 HT.out.2.1 HO.out.2.2.2.1
   have c1:W.cell? ⟨p,1,none⟩=some (.slice (some ⟨iD,iE,none⟩) NL cX):=by
    have:=hnp.c1
    rw[Jw,B5] at this
    rw[nj.out.2.2.1,nj.out.2.2.2.1,nj.out.2.2.2.2.1]
    exact this
   have c4:=hnp.c4
   have c7:=hnp.c7
   have q4:=kD.c4
   obtain⟨hh,FE⟩:∃hh,bs mW.hi=hh:=⟨_,rfl⟩
   rw[FE] at q4
   have O2:=aa FE
   have uF:=aa (fun V hb hk=>jV W V nW.its mW.its (iD:=iD) (iE:=iE) (NL:=NL) (cX:=cX) (rg:=rg) (ro:=ro) (RL:=RL) (d_:=d_) hb hk (by have:=hnp.row;rw[B5] at this ⊢;rw[nj.out.2.2.1,nj.out.2.2.2.1];exact this) (by have:=kD.row;rw[FF] at this ⊢;rw[HM.out.like.2.2.1,HM.out.like.2.2.2.1,←nj.out.2.2.2.2.2.1,←nj.out.2.2.2.2.2.2.1] at this;exact this) Jw.symm O5.symm (by omega) (by omega))
   have uC:=aa (show (nW.its++mW.its).length≤400∧(∀i∈nW.its++mW.its,i.key.length≤200∧i.val.length≤200)∧NL+RL=(nW.its++mW.its).length from⟨by rw[List.length_append];omega,fun i hi=>by
    rcases List.mem_append.1 hi with hi|hi
    ·exact hnp.small.each i hi
    ·exact kD.small.each i hi,by rw[List.length_append];omega⟩)
   have DX:=aa (show l.length≤1000000 by have:=HO.out.2.2.2.2.2;omega)
   have cB:=aa (show p<W.heap.size∧q<W.heap.size from⟨hnp.blk.lt,kD.blk.lt⟩)
   have fK:=aa hnp
   have HP:=aa NM
   have HQ:=aa Hp
   have O3:=aa (Ne.symm HD.out.2.2.2.2)
   have Vb:=cB.out.1
   have Vc:=cB.out.2
   rw[←FF] at q7
   have dM:nW.its=I1++[{i with node:=some la}]:=by rw[B5]
   rw[←dM] at q7
   clear hnp kD NM Hp FE Jw O5 S0 B5 FF hsb bY Da dM
   go_wp2_with (refine wp_region_any (by kernel_rfl) ?_;refine Hid.out ?_)
   refine aa ?_
   try (change wpAny _ _ _ _ _ _ _ (World.drew _))
   refine tk 0 ?_
   refine tk 1 ?_
   refine tk 2 ?_
   refine tk 3 ?_
   refine tk 4 ?_
   refine tk 5 ?_
   refine tk 7 ?_
   refine tk 10 ?_
   refine tk 11 ?_
   refine tk 12 ?_
   refine tk 13 ?_
   try simp only[Act.put,List.setIfInBounds_toArray,List.set_cons_succ,List.set_cons_zero]
   refine rd [6,14] (AllReady.cons rfl (fun K hK=> ?_) (rn fun K hK=> ?_))
   focus
    go_simp
    refine hK _ _ ?_;clear hK K
    refine rd [8,14] (AllReady.cons rfl (fun K hK=> ?_) (rn fun K hK=> ?_))
    focus
     go_simp
     have fF:=aa (show Below W.heap.size W ((W.alloc (.cells #[.slice (some ⟨iD,iE,none⟩) NL cX,.slice (some ⟨rg,ro,none⟩) RL d_] 86)).drew) from ((Below.refl _ W).alloc (Nat.le_refl _) _).drew)
     refine hK _ _ ?_;clear hK K
     refine rd [9,14] (AllReady.cons rfl (fun K hK=> ?_) (rn fun K hK=> ?_))
     focus
      go_simp
      refine (uF.out _ fF.out (by have:=aG.new W #[.slice (some ⟨iD,iE,none⟩) NL cX,.slice (some ⟨rg,ro,none⟩) RL d_] 86;exact this)).mono ?_
      rintro e W7 ⟨g,c,rfl,eO,fG⟩
      have H7:=aa (And.intro eO (fF.out.trans (fG.mono fF.out.size)))
      clear fG eO
      have d1:=(H7.out.2.cell (p:=⟨p,1,none⟩) cB.out.1).trans c1
      have d4:=(H7.out.2.cell (p:=⟨p,4,none⟩) cB.out.1).trans c4
      have d7:=(H7.out.2.cell (p:=⟨p,7,none⟩) cB.out.1).trans c7
      have e4:=(H7.out.2.cell (p:=⟨q,4,none⟩) cB.out.2).trans q4
      have xI:=(fK.out.still H7.out.2).blk.frozen 1
      have xJ:=(fK.out.still H7.out.2).blk.frozen 4
      have xK:=(fK.out.still H7.out.2).blk.frozen 7
      refine hK _ _ ?_;clear hK K
      refine rd [14] (rn fun K hK=> ?_)
      go_simp
      refine hK _ _ ?_;clear hK K
     rotate_left
     focus
      go_simp
      refine hK _ _ ?_;clear hK K
      refine rd [9] (rn fun K hK=> ?_)
      go_simp
      refine (uF.out _ fF.out (by have:=aG.new W #[.slice (some ⟨iD,iE,none⟩) NL cX,.slice (some ⟨rg,ro,none⟩) RL d_] 86;exact this)).mono ?_
      rintro e W7 ⟨g,c,rfl,eO,fG⟩
      have H7:=aa (And.intro eO (fF.out.trans (fG.mono fF.out.size)))
      clear fG eO
      have d1:=(H7.out.2.cell (p:=⟨p,1,none⟩) cB.out.1).trans c1
      have d4:=(H7.out.2.cell (p:=⟨p,4,none⟩) cB.out.1).trans c4
      have d7:=(H7.out.2.cell (p:=⟨p,7,none⟩) cB.out.1).trans c7
      have e4:=(H7.out.2.cell (p:=⟨q,4,none⟩) cB.out.2).trans q4
      have xI:=(fK.out.still H7.out.2).blk.frozen 1
      have xJ:=(fK.out.still H7.out.2).blk.frozen 4
      have xK:=(fK.out.still H7.out.2).blk.frozen 7
      refine hK _ _ ?_;clear hK K
    rotate_left 2
    focus
     go_simp
     refine hK _ _ ?_;clear hK K
     refine rd [8] (rn fun K hK=> ?_)
     go_simp
     have fF:=aa (show Below W.heap.size W ((W.alloc (.cells #[.slice (some ⟨iD,iE,none⟩) NL cX,.slice (some ⟨rg,ro,none⟩) RL d_] 86)).drew) from ((Below.refl _ W).alloc (Nat.le_refl _) _).drew)
     refine hK _ _ ?_;clear hK K
     refine rd [9] (rn fun K hK=> ?_)
     go_simp
     refine (uF.out _ fF.out (by have:=aG.new W #[.slice (some ⟨iD,iE,none⟩) NL cX,.slice (some ⟨rg,ro,none⟩) RL d_] 86;exact this)).mono ?_
     rintro e W7 ⟨g,c,rfl,eO,fG⟩
     have H7:=aa (And.intro eO (fF.out.trans (fG.mono fF.out.size)))
     clear fG eO
     have d1:=(H7.out.2.cell (p:=⟨p,1,none⟩) cB.out.1).trans c1
     have d4:=(H7.out.2.cell (p:=⟨p,4,none⟩) cB.out.1).trans c4
     have d7:=(H7.out.2.cell (p:=⟨p,7,none⟩) cB.out.1).trans c7
     have e4:=(H7.out.2.cell (p:=⟨q,4,none⟩) cB.out.2).trans q4
     have xI:=(fK.out.still H7.out.2).blk.frozen 1
     have xJ:=(fK.out.still H7.out.2).blk.frozen 4
     have xK:=(fK.out.still H7.out.2).blk.frozen 7
     refine hK _ _ ?_;clear hK K
   rotate_left 3
   focus
    go_simp
    refine hK _ _ ?_;clear hK K
    refine rd [6] (rn fun K hK=> ?_)
    go_simp
    refine hK _ _ ?_;clear hK K
    refine rd [8] (rn fun K hK=> ?_)
    go_simp
    have fF:=aa (show Below W.heap.size W ((W.alloc (.cells #[.slice (some ⟨iD,iE,none⟩) NL cX,.slice (some ⟨rg,ro,none⟩) RL d_] 86)).drew) from ((Below.refl _ W).alloc (Nat.le_refl _) _).drew)
    refine hK _ _ ?_;clear hK K
    refine rd [9] (rn fun K hK=> ?_)
    go_simp
    refine (uF.out _ fF.out (by have:=aG.new W #[.slice (some ⟨iD,iE,none⟩) NL cX,.slice (some ⟨rg,ro,none⟩) RL d_] 86;exact this)).mono ?_
    rintro e W7 ⟨g,c,rfl,eO,fG⟩
    have H7:=aa (And.intro eO (fF.out.trans (fG.mono fF.out.size)))
    clear fG eO
    have d1:=(H7.out.2.cell (p:=⟨p,1,none⟩) cB.out.1).trans c1
    have d4:=(H7.out.2.cell (p:=⟨p,4,none⟩) cB.out.1).trans c4
    have d7:=(H7.out.2.cell (p:=⟨p,7,none⟩) cB.out.1).trans c7
    have e4:=(H7.out.2.cell (p:=⟨q,4,none⟩) cB.out.2).trans q4
    have xI:=(fK.out.still H7.out.2).blk.frozen 1
    have xJ:=(fK.out.still H7.out.2).blk.frozen 4
    have xK:=(fK.out.still H7.out.2).blk.frozen 7
    refine hK _ _ ?_;clear hK K
   all_goals
    try simp only[Act.put,List.setIfInBounds_toArray,List.set_cons_succ,List.set_cons_zero]
    refine tk 15 ?_
    refine tk 16 ?_
    refine rd [17] (rn fun K hK=> ?_)
    go_simp
    refine hK _ _ ?_;clear hK K
    refine tk 18 ?_
    refine tk 19 ?_
    refine tk 20 ?_
    refine rd [21] (rn fun K hK=> ?_)
    go_simp
    refine hK _ _ ?_;clear hK K
    refine tk 22 ?_
    refine tk 23 ?_
    refine rd [24] (rn fun K hK=> ?_)
    go_simp
    refine hK _ _ ?_;clear hK K
    refine wpAny_done (by kernel_rfl) ?_ _
    obtain⟨W9,nu⟩:∃W9,W9=((W7.setCell ⟨p,1,none⟩ (.slice (some ⟨g,0,none⟩) (NL+RL) c)).setCell ⟨p,4,none⟩ (.string hh)).setCell ⟨p,7,none⟩ (.bool true):=⟨_,rfl⟩
    rw[←nu]
    obtain⟨R9,h9,Hh,tg,gI,Hi⟩:=AV.out.row HP.out H7.out.2 O2.out H7.out.1 uC.out.1 uC.out.2.1 uC.out.2.2 nu
    have H9:=aa (And.intro h9 (And.intro Hh (And.intro tg (And.intro gI Hi))))
    have zw:=aa (fU W9 sb E.tb q sv l mW h9.blk h9.sp (h9.ts.mem.nd q mW ((aA O3.out).trans HQ.out)) DX.out)
    clear h9 Hh tg gI Hi nu d1 d4 d7 e4 xI xJ xK
    unfold ptr at zw
    go_wp2_with fail
    refine zw.out.mono ?_
    intro e W10 nC
    have he:=nC.1
    subst he
    have H10:=aa nC
    clear nC zw
    go_wp2_with fail
    go_ret
    exact⟨rfl,q7.out g c _ (oS AV.out H9.out H10.out ⟨p,_,HP.out,.inl rfl⟩)⟩
  ·have zG:Tr.sz k (Tr.its a)+Tr.sz k (Tr.its b)+(if k=0 then 0 else x.length)≤510:=by unfold Tr.cut at hcut;omega
   rw[decide_eq_true zG] at HF
   have KR:=aa hcut
   clear hcut zG
   go_wp2_with fail
   rw[←SX]
   refine HF.out.mono ?_
   rintro e X4 ⟨rfl,hb4⟩
   have PL:=aa hb4
   have Vd:=aa (HM.out.ss.still hb4)
   obtain⟨lo',on'⟩:=Ey HO.out.1 HT.out.1
   obtain⟨hi',Yn⟩:=B2 HO.out.2.1 HT.out.2.1
   have QX:(gU++mD).Nodup:=by
    have h1:=(List.nodup_append.1 (List.nodup_cons.1 HM.out.nd).2).2.1
    rw[←List.append_assoc] at h1
    exact (List.nodup_append.1 h1).1
   have S1:=aa (IH M3 X4 R2 sv l la lb na nb a b gU mD x lo' hi' Vd.out HM.out.ra HM.out.rb HN.out.1 HN.out.2.1 QX on' Yn HO.out.2.2.1 KR.out (HO.out.2.2.2.2.1.2 _ (by rw[HT.out.2.1];rfl)) (by have:=HO.out.2.2.2.2.2;omega))
   clear hb4 HF w0 fz on' Yn QX
   unfold ptr at S1
   go_wp2_with fail
   refine S1.out.mono ?_
   rintro e W ⟨rfl,M5,na5,Fj,NN,QL,QY,QZ,Q1,QM,Ht,tu⟩
   obtain⟨RW,O4,s5,t5⟩:=jy.1 NN
   have AV:=aa s5
   have q7:=aa (fun (g c:Nat) (X':World) hto=>uS (g:=g) (c:=c) (X':=X') (fun s y hy=>(HH.out.1.ts.mem.lt hy).1) HM.out PL.out HH.out.2.2.2.1 HH.out.2.2.2.2 HT.out.1 HT.out.2.1 HK.out.2.1 HO.out.1 HO.out.2.1 HO.out.2.2.1 HO.out.2.2.2.1 HO.out.2.2.2.2.1 KR.out t5 rfl QL QM Ht tu hto)
   have NP:p∉gU++mD:=fun e=>(List.nodup_cons.1 HM.out.nd).1 (by
    rcases List.mem_append.1 e with e|e
    ·exact List.mem_append.2 (.inr (List.mem_append.2 (.inl e)))
    ·exact List.mem_append.2 (.inr (List.mem_append.2 (.inr (List.mem_append.2 (.inl e))))))
   have NQ:q∉gU++mD:=fun e=>HM.out.qn (List.mem_cons_of_mem _ (by
    rcases List.mem_append.1 e with e|e
    ·exact List.mem_append.2 (.inr (List.mem_append.2 (.inl e)))
    ·exact List.mem_append.2 (.inr (List.mem_append.2 (.inr (List.mem_append.2 (.inl e))))))) 
   have zH:=tu p _ NP HM.out.UH
   have zI:=tu q _ NQ HM.out.Yd
   have Yo:=zE k a b x
   obtain⟨nW,B5⟩:∃nW:NV,nW={n with its:=I1++[{i with node:=some la}]}:=⟨_,rfl⟩
   rw[←B5] at q7 zH
   have dM:nW.its=I1++[{i with node:=some la}]:=by rw[B5]
   rw[←dM] at q7
   obtain⟨mW,FF⟩:∃mW,mW=m3:=⟨_,rfl⟩
   rw[←FF] at q7 zI
   have Jw:nW.its.length=NL:=by rw[B5,nj.out.1];show (I1++[_]).length=_;rw[List.length_append,HK.out.1.len.1];rfl
   have Ve:J.length=r.length:=HK.out.2.2.2.len.1
   have O5:J.length=RL-1:=by rw[Ve,nj.out.2.1];rfl
   have hnp:=AV.out.ts.mem.nd p nW zH
   have kD:=AV.out.ts.mem.nd q mW zI
   have S0:NL+RL≤400:=zD nj.out.1 nj.out.2.1 HT.out.1 HT.out.2.1 HO.out.2.2.2.1
   have c1:W.cell? ⟨p,1,none⟩=some (.slice (some ⟨iD,iE,none⟩) NL cX):=by
    have:=hnp.c1
    rw[Jw,B5] at this
    rw[nj.out.2.2.1,nj.out.2.2.2.1,nj.out.2.2.2.2.1]
    exact this
   have c4:=hnp.c4
   have c7:=hnp.c7
   have q4:=kD.c4
   obtain⟨hh,FE⟩:∃hh,bs mW.hi=hh:=⟨_,rfl⟩
   rw[FE] at q4
   have O2:=aa FE
   have B6:nW.rg=iD∧nW.ro=iE:=by rw[B5,nj.out.2.2.1,nj.out.2.2.2.1];exact⟨rfl,rfl⟩
   have uC:=aa (show (nW.its++J).length≤400∧(∀i∈nW.its++J,i.key.length≤200∧i.val.length≤200)∧NL+(RL-1)=(nW.its++J).length from⟨by rw[List.length_append];omega,fun i hi=>by
    rcases List.mem_append.1 hi with hi|hi
    ·exact hnp.small.each i hi
    ·exact kD.small.each i (by rw[FF,HM.out.its];exact List.mem_cons_of_mem _ hi),by rw[List.length_append];omega⟩)
   have DX:=aa (show (l++ew (Tr.join k a b x).2).length≤1000000 by rw[List.length_append];unfold ew;rw[List.length_map];have:=HO.out.2.2.2.2.2;omega)
   have cB:=aa (show p<W.heap.size∧q<W.heap.size from⟨hnp.blk.lt,kD.blk.lt⟩)
   have fK:=aa hnp
   have HP:=aa zH
   have HQ:=aa zI
   have O3:=aa (Ne.symm HD.out.2.2.2.2)
   have Vb:=cB.out.1
   have Vc:=cB.out.2
   obtain⟨S2,Vf⟩:∃S2,S2=O4:=⟨_,rfl⟩
   obtain⟨lW,Yp⟩:∃lW,lW=l++ew (Tr.join k a b x).2:=⟨_,rfl⟩
   rw[←Vf] at AV q7
   rw[←Yp] at AV DX q7
   have aat:(1:Int)≤RL:=by omega
   have Yq:(RL:Int)≤d_:=by omega
   by_cases Vg:d_=1
   ·subst Vg
    have hrow:aJ ah W rg ro J:=by
     have hJe:J=[]:=List.length_eq_zero_iff.1 (by omega)
     have h1:=kD.row
     rw[FF,HM.out.its,HM.out.like.2.2.1,HM.out.like.2.2.2.1,←nj.out.2.2.2.2.2.1,←nj.out.2.2.2.2.2.2.1] at h1
     have h2:=h1.part 0 0 (by simp)
     rw[hJe]
     simpa[ah] using h2
    have uF:=aa (show ∀(V:World) (rc:Nat),Below W.heap.size W V→aG V W.heap.size 86 [.slice (some ⟨iD,iE,none⟩) NL cX,.slice (some ⟨rg,ro,none⟩) 0 rc]→Calls Tryz.prog 182 #[.slice (some ⟨W.heap.size,0,none⟩) 2 2] V fun e w'=>∃g c,e=.returned (.slice (some ⟨g,0,none⟩) NL c)∧aD W.heap.size w' (.slice (some ⟨g,0,none⟩) (nW.its++J).length c) (nW.its++J)∧Below V.heap.size V w' from fun V rc hb hk=>jV W V nW.its J (iD:=iD) (iE:=iE) (NL:=NL) (cX:=cX) (rg:=rg) (ro:=ro) (RL:=0) (d_:=rc) hb hk (by have:=hnp.row;rw[B6.1,B6.2] at this;exact this) hrow Jw.symm (by omega) (by omega) (by omega))
    have uC:=aa (And.intro uC.out.1 (And.intro uC.out.2.1 (show NL=(nW.its++J).length by have:=uC.out.2.2;omega)))
    clear hnp kD zH zI FE Jw Ve O5 S0 B5 FF hsb bY Da s5 t5 NN QL QY QZ Q1 QM Ht tu NP NQ Yo hrow B6 S1 dM
    go_wp2_with (refine wp_region_any (by kernel_rfl) ?_;refine Hid.out ?_)
    refine aa ?_
    try (change wpAny _ _ _ _ _ _ _ (World.drew _))
    refine tk 0 ?_
    refine tk 1 ?_
    refine tk 2 ?_
    refine tk 3 ?_
    refine tk 4 ?_
    refine tk 5 ?_
    refine tk 7 ?_
    refine tk 10 ?_
    refine tk 11 ?_
    refine tk 12 ?_
    refine tk 13 ?_
    try simp only[Act.put,List.setIfInBounds_toArray,List.set_cons_succ,List.set_cons_zero]
    refine rd [6,14] (AllReady.cons rfl (fun K hK=> ?_) (rn fun K hK=> ?_))
    focus
     go_simp
     refine hK _ _ ?_;clear hK K
     refine rd [8,14] (AllReady.cons rfl (fun K hK=> ?_) (rn fun K hK=> ?_))
     focus
      go_simp
      have fF:=aa (show Below W.heap.size W ((W.alloc (.cells #[.slice (some ⟨iD,iE,none⟩) NL cX,.slice (some ⟨rg,ro,none⟩) 0 0] 86)).drew) from ((Below.refl _ W).alloc (Nat.le_refl _) _).drew)
      refine hK _ _ ?_;clear hK K
      refine rd [9,14] (AllReady.cons rfl (fun K hK=> ?_) (rn fun K hK=> ?_))
      focus
       go_simp
       refine (uF.out _ _ fF.out (by have:=aG.new W #[.slice (some ⟨iD,iE,none⟩) NL cX,.slice (some ⟨rg,ro,none⟩) 0 0] 86;exact this)).mono ?_
       rintro e W7 ⟨g,c,rfl,eO,fG⟩
       have H7:=aa (And.intro eO (fF.out.trans (fG.mono fF.out.size)))
       clear fG eO
       have d1:=(H7.out.2.cell (p:=⟨p,1,none⟩) cB.out.1).trans c1
       have d4:=(H7.out.2.cell (p:=⟨p,4,none⟩) cB.out.1).trans c4
       have d7:=(H7.out.2.cell (p:=⟨p,7,none⟩) cB.out.1).trans c7
       have e4:=(H7.out.2.cell (p:=⟨q,4,none⟩) cB.out.2).trans q4
       have xI:=(fK.out.still H7.out.2).blk.frozen 1
       have xJ:=(fK.out.still H7.out.2).blk.frozen 4
       have xK:=(fK.out.still H7.out.2).blk.frozen 7
       refine hK _ _ ?_;clear hK K
       refine rd [14] (rn fun K hK=> ?_)
       go_simp
       refine hK _ _ ?_;clear hK K
      rotate_left
      focus
       go_simp
       refine hK _ _ ?_;clear hK K
       refine rd [9] (rn fun K hK=> ?_)
       go_simp
       refine (uF.out _ _ fF.out (by have:=aG.new W #[.slice (some ⟨iD,iE,none⟩) NL cX,.slice (some ⟨rg,ro,none⟩) 0 0] 86;exact this)).mono ?_
       rintro e W7 ⟨g,c,rfl,eO,fG⟩
       have H7:=aa (And.intro eO (fF.out.trans (fG.mono fF.out.size)))
       clear fG eO
       have d1:=(H7.out.2.cell (p:=⟨p,1,none⟩) cB.out.1).trans c1
       have d4:=(H7.out.2.cell (p:=⟨p,4,none⟩) cB.out.1).trans c4
       have d7:=(H7.out.2.cell (p:=⟨p,7,none⟩) cB.out.1).trans c7
       have e4:=(H7.out.2.cell (p:=⟨q,4,none⟩) cB.out.2).trans q4
       have xI:=(fK.out.still H7.out.2).blk.frozen 1
       have xJ:=(fK.out.still H7.out.2).blk.frozen 4
       have xK:=(fK.out.still H7.out.2).blk.frozen 7
       refine hK _ _ ?_;clear hK K
     rotate_left 2
     focus
      go_simp
      refine hK _ _ ?_;clear hK K
      refine rd [8] (rn fun K hK=> ?_)
      go_simp
      have fF:=aa (show Below W.heap.size W ((W.alloc (.cells #[.slice (some ⟨iD,iE,none⟩) NL cX,.slice (some ⟨rg,ro,none⟩) 0 0] 86)).drew) from ((Below.refl _ W).alloc (Nat.le_refl _) _).drew)
      refine hK _ _ ?_;clear hK K
      refine rd [9] (rn fun K hK=> ?_)
      go_simp
      refine (uF.out _ _ fF.out (by have:=aG.new W #[.slice (some ⟨iD,iE,none⟩) NL cX,.slice (some ⟨rg,ro,none⟩) 0 0] 86;exact this)).mono ?_
      rintro e W7 ⟨g,c,rfl,eO,fG⟩
      have H7:=aa (And.intro eO (fF.out.trans (fG.mono fF.out.size)))
      clear fG eO
      have d1:=(H7.out.2.cell (p:=⟨p,1,none⟩) cB.out.1).trans c1
      have d4:=(H7.out.2.cell (p:=⟨p,4,none⟩) cB.out.1).trans c4
      have d7:=(H7.out.2.cell (p:=⟨p,7,none⟩) cB.out.1).trans c7
      have e4:=(H7.out.2.cell (p:=⟨q,4,none⟩) cB.out.2).trans q4
      have xI:=(fK.out.still H7.out.2).blk.frozen 1
      have xJ:=(fK.out.still H7.out.2).blk.frozen 4
      have xK:=(fK.out.still H7.out.2).blk.frozen 7
      refine hK _ _ ?_;clear hK K
    rotate_left 3
    focus
     go_simp
     refine hK _ _ ?_;clear hK K
     refine rd [6] (rn fun K hK=> ?_)
     go_simp
     refine hK _ _ ?_;clear hK K
     refine rd [8] (rn fun K hK=> ?_)
     go_simp
     have fF:=aa (show Below W.heap.size W ((W.alloc (.cells #[.slice (some ⟨iD,iE,none⟩) NL cX,.slice (some ⟨rg,ro,none⟩) 0 0] 86)).drew) from ((Below.refl _ W).alloc (Nat.le_refl _) _).drew)
     refine hK _ _ ?_;clear hK K
     refine rd [9] (rn fun K hK=> ?_)
     go_simp
     refine (uF.out _ _ fF.out (by have:=aG.new W #[.slice (some ⟨iD,iE,none⟩) NL cX,.slice (some ⟨rg,ro,none⟩) 0 0] 86;exact this)).mono ?_
     rintro e W7 ⟨g,c,rfl,eO,fG⟩
     have H7:=aa (And.intro eO (fF.out.trans (fG.mono fF.out.size)))
     clear fG eO
     have d1:=(H7.out.2.cell (p:=⟨p,1,none⟩) cB.out.1).trans c1
     have d4:=(H7.out.2.cell (p:=⟨p,4,none⟩) cB.out.1).trans c4
     have d7:=(H7.out.2.cell (p:=⟨p,7,none⟩) cB.out.1).trans c7
     have e4:=(H7.out.2.cell (p:=⟨q,4,none⟩) cB.out.2).trans q4
     have xI:=(fK.out.still H7.out.2).blk.frozen 1
     have xJ:=(fK.out.still H7.out.2).blk.frozen 4
     have xK:=(fK.out.still H7.out.2).blk.frozen 7
     refine hK _ _ ?_;clear hK K
    all_goals
     try simp only[Act.put,List.setIfInBounds_toArray,List.set_cons_succ,List.set_cons_zero]
     refine tk 15 ?_
     refine tk 16 ?_
     refine rd [17] (rn fun K hK=> ?_)
     go_simp
     refine hK _ _ ?_;clear hK K
     refine tk 18 ?_
     refine tk 19 ?_
     refine tk 20 ?_
     refine rd [21] (rn fun K hK=> ?_)
     go_simp
     refine hK _ _ ?_;clear hK K
     refine tk 22 ?_
     refine tk 23 ?_
     refine rd [24] (rn fun K hK=> ?_)
     go_simp
     refine hK _ _ ?_;clear hK K
     refine wpAny_done (by kernel_rfl) ?_ _
     obtain⟨W9,nu⟩:∃W9,W9=((W7.setCell ⟨p,1,none⟩ (.slice (some ⟨g,0,none⟩) NL c)).setCell ⟨p,4,none⟩ (.string hh)).setCell ⟨p,7,none⟩ (.bool true):=⟨_,rfl⟩
     rw[←nu]
     obtain⟨R9,h9,Hh,tg,gI,Hi⟩:=AV.out.row HP.out H7.out.2 O2.out H7.out.1 uC.out.1 uC.out.2.1 uC.out.2.2 nu
     have H9:=aa (And.intro h9 (And.intro Hh (And.intro tg (And.intro gI Hi))))
     have zw:=aa (fU W9 sb E.tb q S2 lW mW h9.blk h9.sp (h9.ts.mem.nd q mW ((aA O3.out).trans HQ.out)) DX.out)
     clear h9 Hh tg gI Hi nu d1 d4 d7 e4 xI xJ xK
     unfold ptr at zw
     go_wp2_with fail
     refine zw.out.mono ?_
     intro e W10 nC
     have he:=nC.1
     subst he
     have H10:=aa nC
     clear nC zw
     go_wp2_with fail
     go_ret
     exact⟨rfl,q7.out g c _ (oS AV.out H9.out H10.out ⟨p,_,HP.out,.inl rfl⟩)⟩
   ·skip
    have hrow:aJ ah W rg (ro+3) J:=by
     have h1:=kD.row
     rw[FF,HM.out.its,HM.out.like.2.2.1,HM.out.like.2.2.2.1,←nj.out.2.2.2.2.2.1,←nj.out.2.2.2.2.2.2.1] at h1
     have h2:=h1.part 1 J.length (by simp)
     simpa[ah] using h2
    have uF:=aa (fun V rc hb hk=>jV W V nW.its J (iD:=iD) (iE:=iE) (NL:=NL) (cX:=cX) (rg:=rg) (ro:=ro+3) (RL:=RL-1) (d_:=rc) hb hk (by have:=hnp.row;rw[B6.1,B6.2] at this;exact this) hrow Jw.symm O5.symm (by omega) (by omega))
    clear hnp kD zH zI FE Jw Ve O5 S0 B5 FF hsb bY Da s5 t5 NN QL QY QZ Q1 QM Ht tu NP NQ Yo hrow B6 S1 dM
    go_wp2_with (refine wp_region_any (by kernel_rfl) ?_;refine Hid.out ?_)
    refine aa ?_
    try (change wpAny _ _ _ _ _ _ _ (World.drew _))
    refine tk 0 ?_
    refine tk 1 ?_
    refine tk 2 ?_
    refine tk 3 ?_
    refine tk 4 ?_
    refine tk 5 ?_
    refine tk 7 ?_
    refine tk 10 ?_
    refine tk 11 ?_
    refine tk 12 ?_
    refine tk 13 ?_
    try simp only[Act.put,List.setIfInBounds_toArray,List.set_cons_succ,List.set_cons_zero]
    refine rd [6,14] (AllReady.cons rfl (fun K hK=> ?_) (rn fun K hK=> ?_))
    focus
     go_simp
     refine hK _ _ ?_;clear hK K
     refine rd [8,14] (AllReady.cons rfl (fun K hK=> ?_) (rn fun K hK=> ?_))
     focus
      go_simp
      have fF:=aa (show Below W.heap.size W ((W.alloc (.cells #[.slice (some ⟨iD,iE,none⟩) NL cX,.slice (some ⟨rg,ro+3,none⟩) (RL-1) (d_-1)] 86)).drew) from ((Below.refl _ W).alloc (Nat.le_refl _) _).drew)
      refine hK _ _ ?_;clear hK K
      refine rd [9,14] (AllReady.cons rfl (fun K hK=> ?_) (rn fun K hK=> ?_))
      focus
       go_simp
       refine (uF.out _ _ fF.out (by have:=aG.new W #[.slice (some ⟨iD,iE,none⟩) NL cX,.slice (some ⟨rg,ro+3,none⟩) (RL-1) (d_-1)] 86;exact this)).mono ?_
       rintro e W7 ⟨g,c,rfl,eO,fG⟩
       have H7:=aa (And.intro eO (fF.out.trans (fG.mono fF.out.size)))
       clear fG eO
       have d1:=(H7.out.2.cell (p:=⟨p,1,none⟩) cB.out.1).trans c1
       have d4:=(H7.out.2.cell (p:=⟨p,4,none⟩) cB.out.1).trans c4
       have d7:=(H7.out.2.cell (p:=⟨p,7,none⟩) cB.out.1).trans c7
       have e4:=(H7.out.2.cell (p:=⟨q,4,none⟩) cB.out.2).trans q4
       have xI:=(fK.out.still H7.out.2).blk.frozen 1
       have xJ:=(fK.out.still H7.out.2).blk.frozen 4
       have xK:=(fK.out.still H7.out.2).blk.frozen 7
       refine hK _ _ ?_;clear hK K
       refine rd [14] (rn fun K hK=> ?_)
       go_simp
       refine hK _ _ ?_;clear hK K
      rotate_left
      focus
       go_simp
       refine hK _ _ ?_;clear hK K
       refine rd [9] (rn fun K hK=> ?_)
       go_simp
       refine (uF.out _ _ fF.out (by have:=aG.new W #[.slice (some ⟨iD,iE,none⟩) NL cX,.slice (some ⟨rg,ro+3,none⟩) (RL-1) (d_-1)] 86;exact this)).mono ?_
       rintro e W7 ⟨g,c,rfl,eO,fG⟩
       have H7:=aa (And.intro eO (fF.out.trans (fG.mono fF.out.size)))
       clear fG eO
       have d1:=(H7.out.2.cell (p:=⟨p,1,none⟩) cB.out.1).trans c1
       have d4:=(H7.out.2.cell (p:=⟨p,4,none⟩) cB.out.1).trans c4
       have d7:=(H7.out.2.cell (p:=⟨p,7,none⟩) cB.out.1).trans c7
       have e4:=(H7.out.2.cell (p:=⟨q,4,none⟩) cB.out.2).trans q4
       have xI:=(fK.out.still H7.out.2).blk.frozen 1
       have xJ:=(fK.out.still H7.out.2).blk.frozen 4
       have xK:=(fK.out.still H7.out.2).blk.frozen 7
       refine hK _ _ ?_;clear hK K
     rotate_left 2
     focus
      go_simp
      refine hK _ _ ?_;clear hK K
      refine rd [8] (rn fun K hK=> ?_)
      go_simp
      have fF:=aa (show Below W.heap.size W ((W.alloc (.cells #[.slice (some ⟨iD,iE,none⟩) NL cX,.slice (some ⟨rg,ro+3,none⟩) (RL-1) (d_-1)] 86)).drew) from ((Below.refl _ W).alloc (Nat.le_refl _) _).drew)
      refine hK _ _ ?_;clear hK K
      refine rd [9] (rn fun K hK=> ?_)
      go_simp
      refine (uF.out _ _ fF.out (by have:=aG.new W #[.slice (some ⟨iD,iE,none⟩) NL cX,.slice (some ⟨rg,ro+3,none⟩) (RL-1) (d_-1)] 86;exact this)).mono ?_
      rintro e W7 ⟨g,c,rfl,eO,fG⟩
      have H7:=aa (And.intro eO (fF.out.trans (fG.mono fF.out.size)))
      clear fG eO
      have d1:=(H7.out.2.cell (p:=⟨p,1,none⟩) cB.out.1).trans c1
      have d4:=(H7.out.2.cell (p:=⟨p,4,none⟩) cB.out.1).trans c4
      have d7:=(H7.out.2.cell (p:=⟨p,7,none⟩) cB.out.1).trans c7
      have e4:=(H7.out.2.cell (p:=⟨q,4,none⟩) cB.out.2).trans q4
      have xI:=(fK.out.still H7.out.2).blk.frozen 1
      have xJ:=(fK.out.still H7.out.2).blk.frozen 4
      have xK:=(fK.out.still H7.out.2).blk.frozen 7
      refine hK _ _ ?_;clear hK K
    rotate_left 3
    focus
     go_simp
     refine hK _ _ ?_;clear hK K
     refine rd [6] (rn fun K hK=> ?_)
     go_simp
     refine hK _ _ ?_;clear hK K
     refine rd [8] (rn fun K hK=> ?_)
     go_simp
     have fF:=aa (show Below W.heap.size W ((W.alloc (.cells #[.slice (some ⟨iD,iE,none⟩) NL cX,.slice (some ⟨rg,ro+3,none⟩) (RL-1) (d_-1)] 86)).drew) from ((Below.refl _ W).alloc (Nat.le_refl _) _).drew)
     refine hK _ _ ?_;clear hK K
     refine rd [9] (rn fun K hK=> ?_)
     go_simp
     refine (uF.out _ _ fF.out (by have:=aG.new W #[.slice (some ⟨iD,iE,none⟩) NL cX,.slice (some ⟨rg,ro+3,none⟩) (RL-1) (d_-1)] 86;exact this)).mono ?_
     rintro e W7 ⟨g,c,rfl,eO,fG⟩
     have H7:=aa (And.intro eO (fF.out.trans (fG.mono fF.out.size)))
     clear fG eO
     have d1:=(H7.out.2.cell (p:=⟨p,1,none⟩) cB.out.1).trans c1
     have d4:=(H7.out.2.cell (p:=⟨p,4,none⟩) cB.out.1).trans c4
     have d7:=(H7.out.2.cell (p:=⟨p,7,none⟩) cB.out.1).trans c7
     have e4:=(H7.out.2.cell (p:=⟨q,4,none⟩) cB.out.2).trans q4
     have xI:=(fK.out.still H7.out.2).blk.frozen 1
     have xJ:=(fK.out.still H7.out.2).blk.frozen 4
     have xK:=(fK.out.still H7.out.2).blk.frozen 7
     refine hK _ _ ?_;clear hK K
    all_goals
     try simp only[Act.put,List.setIfInBounds_toArray,List.set_cons_succ,List.set_cons_zero]
     refine tk 15 ?_
     refine tk 16 ?_
     refine rd [17] (rn fun K hK=> ?_)
     go_simp
     refine hK _ _ ?_;clear hK K
     refine tk 18 ?_
     refine tk 19 ?_
     refine tk 20 ?_
     refine rd [21] (rn fun K hK=> ?_)
     go_simp
     refine hK _ _ ?_;clear hK K
     refine tk 22 ?_
     refine tk 23 ?_
     refine rd [24] (rn fun K hK=> ?_)
     go_simp
     refine hK _ _ ?_;clear hK K
     refine wpAny_done (by kernel_rfl) ?_ _
     obtain⟨W9,nu⟩:∃W9,W9=((W7.setCell ⟨p,1,none⟩ (.slice (some ⟨g,0,none⟩) (NL+(RL-1)) c)).setCell ⟨p,4,none⟩ (.string hh)).setCell ⟨p,7,none⟩ (.bool true):=⟨_,rfl⟩
     rw[←nu]
     obtain⟨R9,h9,Hh,tg,gI,Hi⟩:=AV.out.row HP.out H7.out.2 O2.out H7.out.1 uC.out.1 uC.out.2.1 uC.out.2.2 nu
     have H9:=aa (And.intro h9 (And.intro Hh (And.intro tg (And.intro gI Hi))))
     have zw:=aa (fU W9 sb E.tb q S2 lW mW h9.blk h9.sp (h9.ts.mem.nd q mW ((aA O3.out).trans HQ.out)) DX.out)
     clear h9 Hh tg gI Hi nu d1 d4 d7 e4 xI xJ xK
     unfold ptr at zw
     go_wp2_with fail
     refine zw.out.mono ?_
     intro e W10 nC
     have he:=nC.1
     subst he
     have H10:=aa nC
     clear nC zw
     go_wp2_with fail
     go_ret
     exact⟨rfl,q7.out g c _ (oS AV.out H9.out H10.out ⟨p,_,HP.out,.inl rfl⟩)⟩
end
end Go.Proofs.YtloekpcncjocaaaGreatDoor
