/- Elder texts, cut down and merged (11). -/
import Derived.Test.YtebbahjombdalaaGreatDoorP10
import Derived.Test.YtebbahjombdalaaGreatDoorPTk
set_option maxRecDepth 100000
set_option maxHeartbeats 8000000
namespace Go.Proofs.YtebbahjombdalaaGreatDoor
open List renaming length_append→aq,length_cons→aW,nodup_append→aL,mem_cons_self→aA,setIfInBounds_toArray→az,set_cons_succ→ay,set_cons_zero→au,flatten_cons→cU,mem_cons_of_mem→aF,mem_append→ah,nodup_cons→cD,append_assoc→aB,length_map→aM,length_eq_zero_iff→ef
open Nat renaming le_trans→aG,le_refl→af
open World renaming drew→bD
section
open Go.RowKit Lib
section
variable {E:Ev} {X0 X X':World} {R0 R R' S:Nat→Prop} {ps ps':List (Nat×List UInt8)} {pg cP:List (Option Wl.Text)} {rt rt':List Nat} {M M':Nat→Option NV} {p q:Nat} {n m:NV} {sb:Nat} {sv:Value} {l:List Int}
theorem A1 {k NL RL:Nat} {tn tm:Tr.E (k+2)} {A r:List (Tr.Tx×Tr.E (k+1))} {u v:Tr.Tx×Tr.E (k+1)} {x:Tr.Tx} (h1:NL=A.length+1) (h2:RL=r.length+1) (hA:Tr.its tn=A++[u]) (hB:Tr.its tm=v::r) (hc:¬Tr.cut (k+2) tn x tm):NL+RL≤400:=by
 rw[Tr.tq,hA,hB] at hc
 have e1:=Tr.iJ (k+1) (A++[u])
 have e2:=Tr.iJ (k+1) (v::r)
 rw[aq] at e1
 simp only[aW,List.length_nil] at e1 e2
 omega
theorem A2:∀(k:Nat) (n m:Tr.E (k+1)) (x:Tr.Tx),(Tr.join k n m x).2.length≤k+1
 |0,n,m,x=>by rw[Tr.rA];cases (Tr.hd m).page<;>simp
 |k+1,n,m,x=>by
  cases hm:Tr.its m with
  |nil=>unfold Tr.join;rw[hm];cases (Tr.its n).getLast?<;>simp
  |cons b r=>
   by_cases hn:Tr.its n=[]
   ·unfold Tr.join;rw[hn,hm];simp
   ·obtain⟨A,a,hA⟩:=Tr.dA hn
    rw[Tr.kZ hA hm]
    have ih:=A2 k a.2 b.2 x
    split
    ·cases (Tr.hd m).page<;>simp
    ·rw[aq]
     cases (Tr.hd m).page<;>simp<;>omega
theorem Gy {k:Nat} {tn:Tr.E (k+2)} {A:List (Tr.Tx×Tr.E (k+1))} {ka:Tr.Tx} {a:Tr.E (k+1)} {wz:Tr.Tx} {h:Option Tr.Tx} (on:Tr.Ok (k+2) wz h tn) (hA:Tr.its tn=A++[(ka,a)]):∃lo,Tr.Ok (k+1) lo h a:=by
 obtain⟨_,_,_,h4⟩:=on
 rw[Tr.dr,hA] at h4
 cases A with
 |nil=>exact⟨wz,h4⟩
 |cons c A=>
  have h4':Tr.cV (Tr.Ok (k+1)) (Tr.cut (k+1)) h (((wz,c.2)::A)++[(ka,a)]):=h4
  exact⟨ka,h4'.last⟩
theorem Dy {k:Nat} {tm:Tr.E (k+2)} {r:List (Tr.Tx×Tr.E (k+1))} {kb:Tr.Tx} {b:Tr.E (k+1)} {x:Tr.Tx} {h:Option Tr.Tx} (om:Tr.Ok (k+2) x h tm) (hB:Tr.its tm=(kb,b)::r):∃hi,Tr.Ok (k+1) x hi b:=by
 obtain⟨_,_,_,h4⟩:=om
 rw[Tr.dr,hB] at h4
 have h4':Tr.cV (Tr.Ok (k+1)) (Tr.cut (k+1)) h ([]++(x,b)::r):=h4
 exact⟨_,y_ h4'⟩
def Dz (E:Ev) (X0:World) (R0:Nat→Prop) (ps:List (Nat×List UInt8)) (pg:List (Option Wl.Text)) (rt:List Nat) (sb:Nat) (k:Nat):Prop:=
 ∀(M:Nat→Option NV) (X:World) (R:Nat→Prop) (sv:Value) (l:List Int) (p q:Nat) (n m:NV) (tn tm:Tr.E (k+1)) (F1 F2:List Nat) (x wz:Tr.Tx) (zZ:Option Tr.Tx),
  SS E X0 R0 R ps pg rt M X sb sv l→dx M pg k p tn F1→dx M pg k q tm F2→M p=some n→M q=some m→(F1++F2).Nodup→Tr.Ok (k+1) wz (some x) tn→Tr.Ok (k+1) x zZ tm→x.length≤96→¬Tr.cut (k+1) tn x tm→Tr.Old (k+1) tm→l.length+k≤100000→
  Calls Tryz.prog 175 #[ptr sb,ptr p,ptr q,.string (bs x)] X fun e X'=>e=.returned (.int .i64 0)∧qw E X0 R0 R ps pg rt M X sb sv k p n m (F1++F2) (Tr.join k tn tm x).1 (l++gy (Tr.join k tn tm x).2) X'
theorem uW {k:Nat} {t:Tr.E (k+2)} {I1 I2:List It} {i:It} {A B:List (Tr.Tx×Tr.E (k+1))} {key:Tr.Tx} {c:Tr.E (k+1)} {f1 f2:List (List Nat)} {f:List Nat} {V:World}
  (h:TS E X0 R0 R ps pg rt M X) (hV:Below X.heap.size X V) (hp:M p=some n) (ho:jU pg (k+1) n t) (hi:n.its=I1++i::I2) (ht:Tr.its t=A++(key,c)::B) (h1:aX pg k (dx M pg k) I1 A f1) (h0:iW pg k (dx M pg k) i (key,c) f) (h2:aX pg k (dx M pg k) I2 B f2) (hnd:(p::(f1++f::f2).flatten).Nodup) (hk:k≤15) {j:Int} (hj:j=A.length):
  Calls Tryz.prog 79 #[ptr E.tb,ptr p,.int .i64 j] V fun e X'=>∃q M' R' fq,e=.returned (.tuple #[ptr q,.int .i64 0])∧za E X0 R0 R ps pg rt M X p n k I1 i I2 A c B f1 f2 f q M' R' fq X':=by
 subst hj
 refine (Gs (h.still hV (fun _ h=>h) (fun _ h=>.inl h)) hp ho hi ht h1 h0 h2 hnd hk).mono ?_
 rintro e X' ⟨q,M',R',fq,he,b⟩
 refine⟨q,M',R',fq,he,⟨b.ts,b.at_,b.xQ,b.left,b.right,b.same,fun r hr=> ?_,b.nd,aG hV.size b.size,(aE.aH hV (fun b=>b=n.rg)).trans b.but fun _ _ h=>h,b.sub,fun r hr=> ?_,fun r hr=> ?_⟩⟩
 ·exact (b.news r hr).imp_right fun h=>aG hV.size h
 ·exact (b.new r hr).imp_right fun h=>aG hV.size h
 ·exact (b.mb r hr).imp_right fun h=>aG hV.size h
theorem Gz {k:Nat} (IH:Dz E X0 R0 ps pg rt sb k) (hk:k≤14):Dz E X0 R0 ps pg rt sb (k+1):=by
 intro M X R sv l p q n m tn tm F1 F2 x wz zZ h r1 r2 hp hq hnd on om hx hc hold hl
 obtain⟨n',fs1,hp',qU,Vw,rfl⟩:=r1
 rw[hp] at hp'
 injection hp' with hp'
 subst hp'
 obtain⟨m',fs2,lN,fD,Vx,rfl⟩:=r2
 rw[hq] at lN
 injection lN with lN
 subst lN
 obtain⟨A,⟨ka,a⟩,hA⟩:=Tr.dA on.1
 obtain⟨⟨kb,b⟩,r,hB⟩:∃c r,Tr.its tm=c::r:=by
  cases hh:Tr.its tm with
  |nil=>exact absurd hh om.1
  |cons c r=>exact⟨c,r,rfl⟩
 have Ka:=Vw
 have TM:=Vx
 rw[hA] at Vw
 rw[hB] at Vx
 obtain⟨I1,I',f1,f',hI,rfl,XA,ka2⟩:=Vw.parts
 obtain⟨i,I0,fa,f0,rfl,rfl,XC,ka4⟩:=ka2.cons_inv
 obtain⟨rfl,rfl⟩:=ka4.tE
 obtain⟨j,J,fb,f2,hJ,rfl,kb1,kb2⟩:=Vx.cons_inv
 have mo:(p::(f1++fa::[]).flatten).Nodup:=(aL.1 hnd).1
 have jg:(q::([]++fb::f2).flatten).Nodup:=(aL.1 hnd).2.1
 have zk:∀r,r∈p::(f1++[fa]).flatten→r∈q::(fb::f2).flatten→False:=fun r h1 h2=>(aL.1 hnd).2.2 r h1 r h2 rfl
 have hpq:p≠q:=fun e=>zk p aA (by rw[e];exact aA)
 have fY:=aa (fun V hV=>uW (V:=V) (j:=(A.length:Int)) h.ts hV hp qU hI hA XA XC (show aX pg k (dx M pg k) [] [] [] from trivial) mo (by omega) rfl)
 have hnp:=h.ts.mem.nd p n hp
 have mJ:=h.ts.mem.nd q m hq
 have c0:=hnp.c0
 have c1:=hnp.c1
 have q1:=mJ.c1
 have hsb:=h.blk.lt
 have s0:X.cell? ⟨sb,0,none⟩=some (ptr E.tb):=h.blk.cell rfl
 have LX:n.its.length=A.length+1:=by have:=Ka.len.1;rw[hA,aq] at this;exact this
 have O1:m.its.length=r.length+1:=by have:=TM.len.1;rw[hB] at this;exact this
 have Av:(0:Int)<n.level:=by rw[qU.level];omega
 have aaa:(n.level:Int)>0:=Av
 have bn:=qx on
 have bm:=qx om
 have hwr:IntKind.i64.wrap (((A.length+1:Nat):Int)-1)=(A.length:Int):=by
  rw[show ((A.length+1:Nat):Int)-1=(A.length:Int) by omega]
  exact cN _ (by rw[hA,aq] at bn;have:=bn.1;simp at this;omega)
 obtain⟨NL,Np⟩:∃NL,NL=A.length+1:=⟨_,rfl⟩
 obtain⟨RL,Qe⟩:∃RL,RL=r.length+1:=⟨_,rfl⟩
 obtain⟨jV,Dw⟩:∃g,g=n.rg:=⟨_,rfl⟩
 obtain⟨jW,Dx⟩:∃g,g=n.ro:=⟨_,rfl⟩
 obtain⟨eD,xR⟩:∃g,g=n.cap:=⟨_,rfl⟩
 obtain⟨rg,wv⟩:∃g,g=m.rg:=⟨_,rfl⟩
 obtain⟨ro,hro⟩:∃g,g=m.ro:=⟨_,rfl⟩
 obtain⟨fU,xS⟩:∃g,g=m.cap:=⟨_,rfl⟩
 rw[LX,←Np,←Dw,←Dx,←xR] at c1
 rw[O1,←Qe,←wv,←hro,←xS] at q1
 have oT:=aa (And.intro Np (And.intro Qe (And.intro Dw (And.intro Dx (And.intro xR (And.intro wv (And.intro hro xS)))))))
 rw[←Np] at hwr
 have aaB:IntKind.i64.wrap ((A.length:Nat):Int)=(A.length:Int):=cN _ (by rw[hA,aq] at bn;have:=bn.1;simp at this;omega)
 have aaC:((NL:Nat):Int)-1=(A.length:Int):=by omega
 have aaD:(1:Int)≤NL:=by omega
 have aaE:(0:Int)<RL:=by omega
 have aaF:(RL:Int)≤255:=by rw[hB] at bm;have:=bm.1;simp at this;omega
 have aaG:RL≤fU:=by have:=mJ.small.cap.1;omega
 have dH:=hnp.blk.lt
 have EZ:=mJ.blk.lt
 unfold ptr at s0 fY
 have HH:=aa (And.intro h (And.intro hp (And.intro hq (And.intro qU fD))))
 have HT:=aa (And.intro hA (And.intro hB (And.intro hI hJ)))
 have HK:=aa (And.intro XA (And.intro XC (And.intro kb1 kb2)))
 have HD:=aa (And.intro hnd (And.intro mo (And.intro jg (And.intro zk hpq))))
 have HO:=aa (And.intro on (And.intro om (And.intro hx (And.intro hc (And.intro hold hl)))))
 have HZ:=aa (And.intro LX (And.intro O1 (And.intro bn bm)))
 clear h hp hq qU fD hA hB hI hJ XA XC kb1 kb2 hnd mo jg zk hpq on om hx hc hold hl LX O1 bn bm hnp mJ Np Qe Dw Dx xR wv hro xS Ka TM Vw Vx ka2 ka4
 go_enter Tryz.func175,Tryz.ntmps175
 unfold ptr
 go_wp2_with (refine wp_region_any (by kernel_rfl) ?_;refine Hid.o ?_)
 refine aa ?_
 try (change wpAny _ _ _ _ _ _ _ (bD _))
 refine tk 0 ?_
 refine tk 1 ?_
 refine tk 2 ?_
 refine tk 4 ?_
 refine tk 5 ?_
 refine tk 6 ?_
 refine tk 7 ?_
 try simp only[Act.put,az,ay,au]
 refine rd [3,8] (AllReady.cons rfl (fun K hK=> ?_) (rn fun K hK=> ?_))
 focus
  go_simp
  refine hK _ _ ?_;clear hK K
  refine rd [8] (rn fun K hK=> ?_)
  go_simp
  refine hK _ _ ?_;clear hK K
  refine tk 9 ?_
  refine tk 10 ?_
  refine rd [11] (rn fun K hK=> ?_)
  go_simp
  refine (fY.o _ (show Below X.heap.size X X.drew from (Below.refl _ X).drew)).mono ?_
  rintro e X1 ⟨la,M1,R1,jt,rfl,A3⟩
  have H1:=aa A3
  clear A3
  refine hK _ _ ?_;clear hK K
 rotate_left
 focus
  go_simp
  refine hK _ _ ?_;clear hK K
  refine tk 9 ?_
  refine tk 10 ?_
  refine rd [3] (rn fun K hK=> ?_)
  go_simp
  refine hK _ _ ?_;clear hK K
  refine rd [11] (rn fun K hK=> ?_)
  go_simp
  refine (fY.o _ (show Below X.heap.size X X.drew from (Below.refl _ X).drew)).mono ?_
  rintro e X1 ⟨la,M1,R1,jt,rfl,A3⟩
  have H1:=aa A3
  clear A3
  refine hK _ _ ?_;clear hK K
 all_goals
  try unfold ptr
  try simp only[Act.put,az,ay,au]
  refine tk 12 ?_
  refine tk 13 ?_
  refine tk 14 ?_
  refine tk 15 ?_
  refine tk 16 ?_
  try simp only[Act.put,az,ay,au]
  refine wpAny_done (by kernel_rfl) ?_ _
  have b1:=H1.o
  have DA:∀k,k=n.rg→MB M k:=fun k e=>by rw[e];exact⟨p,n,HH.o.2.1,.inr rfl⟩
  have IG:=aa (HH.o.1.nodes b1.ts b1.but DA b1.sub b1.mb)
  have TN:=aa (show lQ R M X sb sv R1 M1 sv X1 from lQ.nodes b1.but DA b1.sub b1.new b1.mb (Dom.but b1.at_ b1.same))
  have hag:∀r,r≠p→(∃m,M r=some m)→M1 r=M r:=fun r hr ⟨y,hy⟩=>by rw[hy];exact b1.same r y hr hy
  have hq1:M1 q=some m:=b1.same q m (Ne.symm HD.o.2.2.2.2) HH.o.2.2.1
  have hkq:∀r∈q::(fb::f2).flatten,r≠p:=fun r hr e=>HD.o.2.2.2.1 p aA (by rw[←e];exact hr)
  have Qf:iW pg k (dx M1 pg k) j (kb,b) fb:=HK.o.2.2.1.mono fun y _ hy=>hy.frame fun r hr=>hag r (hkq r (by rw[cU];exact aF _ (ah.2 (.inl hr)))) (hy.dom r hr)
  have Nq:aX pg k (dx M1 pg k) J r f2:=HK.o.2.2.2.frame fun r hr=>hag r (hkq r (by rw[cU];exact aF _ (ah.2 (.inr hr)))) (HK.o.2.2.2.dom r hr)
  have fC:=aa (fun V hV=>uW (V:=V) (j:=(0:Int)) IG.o.ts hV hq1 HH.o.2.2.2.2 (I1:=[]) HT.o.2.2.2 (A:=[]) HT.o.2.1 (show aX pg k (dx M1 pg k) [] [] [] from trivial) Qf Nq HD.o.2.2.1 (by omega) rfl)
  have HK2:=aa (And.intro hq1 (And.intro Qf Nq))
  have t0:X1.cell? ⟨sb,0,none⟩=some (ptr E.tb):=IG.o.blk.cell rfl
  have aaH:=IG.o.blk.lt
  unfold ptr at t0
  clear b1 hag hq1 hkq Qf Nq c0 c1 q1 s0 DA fY
  unfold ptr at fC
  go_wp2_with fail
  refine (fC.o X1 (Below.refl _ _)).mono ?_
  rintro e X2 ⟨lb,M2,R2,ox,rfl,O4⟩
  have H2:=aa O4
  clear O4 fC t0
  try unfold ptr
  have b2:=H2.o
  have DA:∀k,k=m.rg→MB M1 k:=fun k e=>by rw[e];exact⟨q,m,HK2.o.1,.inr rfl⟩
  have zl:=aa (IG.o.nodes b2.ts b2.but DA b2.sub b2.mb)
  have EE:=aa (TN.o.trans (show lQ R1 M1 X1 sb sv R2 M2 sv X2 from lQ.nodes b2.but DA b2.sub b2.new b2.mb (Dom.but b2.at_ b2.same)))
  have hit:=aV (zl.o.ts.mem.nd q _ b2.at_).row 0 (by show 0<([]++{j with node:=some lb}::J).length;simp)
  have w0:X2.cell? ⟨rg,ro,none⟩=some (.string (bs j.key)):=by have:=hit.1;rw[oT.o.2.2.2.2.2.1,oT.o.2.2.2.2.2.2.1];simpa using this
  have fz:X2.frozen? ⟨rg,ro,none⟩=false:=by
   obtain⟨cur,mP⟩:=zl.o.ts.mem.ty q _ b2.at_
   have TP:X2.heap[rg]?=some (.cells cur 122 (0,0)):=by rw[oT.o.2.2.2.2.2.1];exact mP
   simp[World.frozen?,TP]
  obtain⟨M3,m3,hmid⟩:=J8 HH.o.1 HH.o.2.1 HH.o.2.2.1 HK.o.1 HK.o.2.1 HK.o.2.2.1 HK.o.2.2.2 HD.o.1 HO.o.2.2.1 H1.o IG.o H2.o zl.o EE.o
  rw[←oT.o.2.2.2.2.2.1,←oT.o.2.2.2.2.2.2.1] at hmid
  obtain⟨X3,Vv⟩:∃X3,X3=X2.setCell ⟨rg,ro,none⟩ (.string (bs x)):=⟨_,rfl⟩
  rw[←Vv] at hmid
  have HM:=aa hmid
  obtain⟨na,hna,XD,-⟩:=hmid.ra.head
  obtain⟨nb,hnb,hob,-⟩:=hmid.rb.head
  have hsa:=hmid.ra.sz hna
  have TQ:=hmid.rb.sz hnb
  have HF:=aa (kD (hmid.ss.ts.mem.nd la na hna) (hmid.ss.ts.mem.nd lb nb hnb) x (by have:=HO.o.2.2.1;omega))
  rw[hsa.1,TQ.1,XD.level] at HF
  have HN:=aa (And.intro hna (And.intro hnb (And.intro XD hob)))
  clear b2 DA hit hmid hna XD hnb hob hsa TQ
  unfold ptr at HF
  by_cases hcut:Tr.cut (k+1) a x b
  ·have A4:¬(Tr.sz k (Tr.its a)+Tr.sz k (Tr.its b)+(if k=0 then 0 else x.length)≤510):=by unfold Tr.cut at hcut;omega
   rw[decide_eq_false A4] at HF
   have Nr:=aa hcut
   clear hcut A4
   go_wp2_with fail
   rw[←Vv]
   refine HF.o.mono ?_
   rintro e W ⟨rfl,hb4⟩
   have sU:=aa hb4
   have zY:=aa (HM.o.ss.still hb4)
   have sW:=aa (fun (g c:Nat) (X':World) hto=>wT (g:=g) (c:=c) (X':=X') HM.o sU.o HH.o.2.2.2.1 HH.o.2.2.2.2 HT.o.1 HT.o.2.1 HK.o.2.1 HK.o.2.2.1 HO.o.1 HO.o.2.1 HO.o.2.2.1 HO.o.2.2.2.1 HO.o.2.2.2.2.1 Nr.o hto)
   clear hb4 HF w0 fz
   obtain⟨nW,DB⟩:∃nW:NV,nW={n with its:=I1++[{i with node:=some la}]}:=⟨_,rfl⟩
   rw[←DB] at sW
   obtain⟨mW,II⟩:∃mW,mW=m3:=⟨_,rfl⟩
   have Qg:M3 p=some nW:=by rw[DB];exact HM.o.Xm
   have J9:M3 q=some mW:=by rw[II];exact HM.o.Z9
   have LQ:nW.its.length=NL:=by rw[DB,oT.o.1];show (I1++[_]).length=_;rw[aq,HK.o.1.len.1];rfl
   have RA:mW.its.length=RL:=by rw[II,HM.o.its,oT.o.2.1,aW,HK.o.2.2.2.len.1]
   have hnp:=zY.o.ts.mem.nd p nW Qg
   have mJ:=zY.o.ts.mem.nd q mW J9
   have Vy:NL+RL≤400:=A1 oT.o.1 oT.o.2.1 HT.o.1 HT.o.2.1 HO.o.2.2.2.1
   have c1:W.cell? ⟨p,1,none⟩=some (.slice (some ⟨jV,jW,none⟩) NL eD):=by
    have:=hnp.c1
    rw[LQ,DB] at this
    rw[oT.o.2.2.1,oT.o.2.2.2.1,oT.o.2.2.2.2.1]
    exact this
   have c4:=hnp.c4
   have c7:=hnp.c7
   have q4:=mJ.c4
   obtain⟨hh,IF⟩:∃hh,bs mW.hi=hh:=⟨_,rfl⟩
   rw[IF] at q4
   have Rx:=aa IF
   have wE:=aa (fun V hb hk=>mm W V nW.its mW.its (jV:=jV) (jW:=jW) (NL:=NL) (eD:=eD) (rg:=rg) (ro:=ro) (RL:=RL) (fU:=fU) hb hk (by have:=hnp.row;rw[DB] at this ⊢;rw[oT.o.2.2.1,oT.o.2.2.2.1];exact this) (by have:=mJ.row;rw[II] at this ⊢;rw[HM.o.like.2.2.1,HM.o.like.2.2.2.1,←oT.o.2.2.2.2.2.1,←oT.o.2.2.2.2.2.2.1] at this;exact this) LQ.symm RA.symm (by omega) (by omega))
   have qu:=aa (show (nW.its++mW.its).length≤400∧(∀i∈nW.its++mW.its,i.key.length≤200∧i.val.length≤200)∧NL+RL=(nW.its++mW.its).length from⟨by rw[aq];omega,fun i hi=>by
    rcases ah.1 hi with hi|hi
    ·exact hnp.small.each i hi
    ·exact mJ.small.each i hi,by rw[aq];omega⟩)
   have wD:=aa (show l.length≤1000000 by have:=HO.o.2.2.2.2.2;omega)
   have dJ:=aa (show p<W.heap.size∧q<W.heap.size from⟨hnp.blk.lt,mJ.blk.lt⟩)
   have ij:=aa hnp
   have HP:=aa Qg
   have HQ:=aa J9
   have Ry:=aa (Ne.symm HD.o.2.2.2.2)
   have XE:=dJ.o.1
   have XF:=dJ.o.2
   rw[←II] at sW
   have fA:nW.its=I1++[{i with node:=some la}]:=by rw[DB]
   rw[←fA] at sW
   clear hnp mJ Qg J9 IF LQ RA Vy DB II hsb dH EZ fA
   go_wp2_with (refine wp_region_any (by kernel_rfl) ?_;refine Hid.o ?_)
   refine aa ?_
   try (change wpAny _ _ _ _ _ _ _ (bD _))
   refine tk 0 ?_
   refine tk 1 ?_
   refine tk 2 ?_
   refine tk 3 ?_
   refine tk 4 ?_
   refine tk 5 ?_
   refine tk 7 ?_
   refine tk 10 ?_
   refine tk 11 ?_
   refine tk 12 ?_
   refine tk 13 ?_
   try simp only[Act.put,az,ay,au]
   refine rd [6,14] (AllReady.cons rfl (fun K hK=> ?_) (rn fun K hK=> ?_))
   focus
    go_simp
    refine hK _ _ ?_;clear hK K
    refine rd [8,14] (AllReady.cons rfl (fun K hK=> ?_) (rn fun K hK=> ?_))
    focus
     go_simp
     have g_:=aa (show Below W.heap.size W ((W.alloc (.cells #[.slice (some ⟨jV,jW,none⟩) NL eD,.slice (some ⟨rg,ro,none⟩) RL fU] 123)).drew) from ((Below.refl _ W).alloc (af _) _).drew)
     refine hK _ _ ?_;clear hK K
     refine rd [9,14] (AllReady.cons rfl (fun K hK=> ?_) (rn fun K hK=> ?_))
     focus
      go_simp
      refine (wE.o _ g_.o (by have:=aS.new W #[.slice (some ⟨jV,jW,none⟩) NL eD,.slice (some ⟨rg,ro,none⟩) RL fU] 123;exact this)).mono ?_
      rintro e W7 ⟨g,c,rfl,iR,iN⟩
      have H7:=aa (And.intro iR (g_.o.trans (iN.mono g_.o.size)))
      clear iN iR
      have d1:=(H7.o.2.cell (p:=⟨p,1,none⟩) dJ.o.1).trans c1
      have d4:=(H7.o.2.cell (p:=⟨p,4,none⟩) dJ.o.1).trans c4
      have d7:=(H7.o.2.cell (p:=⟨p,7,none⟩) dJ.o.1).trans c7
      have e4:=(H7.o.2.cell (p:=⟨q,4,none⟩) dJ.o.2).trans q4
      have zf:=(ij.o.still H7.o.2).blk.frozen 1
      have zg:=(ij.o.still H7.o.2).blk.frozen 4
      have zh:=(ij.o.still H7.o.2).blk.frozen 7
      refine hK _ _ ?_;clear hK K
      refine rd [14] (rn fun K hK=> ?_)
      go_simp
      refine hK _ _ ?_;clear hK K
     rotate_left
     focus
      go_simp
      refine hK _ _ ?_;clear hK K
      refine rd [9] (rn fun K hK=> ?_)
      go_simp
      refine (wE.o _ g_.o (by have:=aS.new W #[.slice (some ⟨jV,jW,none⟩) NL eD,.slice (some ⟨rg,ro,none⟩) RL fU] 123;exact this)).mono ?_
      rintro e W7 ⟨g,c,rfl,iR,iN⟩
      have H7:=aa (And.intro iR (g_.o.trans (iN.mono g_.o.size)))
      clear iN iR
      have d1:=(H7.o.2.cell (p:=⟨p,1,none⟩) dJ.o.1).trans c1
      have d4:=(H7.o.2.cell (p:=⟨p,4,none⟩) dJ.o.1).trans c4
      have d7:=(H7.o.2.cell (p:=⟨p,7,none⟩) dJ.o.1).trans c7
      have e4:=(H7.o.2.cell (p:=⟨q,4,none⟩) dJ.o.2).trans q4
      have zf:=(ij.o.still H7.o.2).blk.frozen 1
      have zg:=(ij.o.still H7.o.2).blk.frozen 4
      have zh:=(ij.o.still H7.o.2).blk.frozen 7
      refine hK _ _ ?_;clear hK K
    rotate_left 2
    focus
     go_simp
     refine hK _ _ ?_;clear hK K
     refine rd [8] (rn fun K hK=> ?_)
     go_simp
     have g_:=aa (show Below W.heap.size W ((W.alloc (.cells #[.slice (some ⟨jV,jW,none⟩) NL eD,.slice (some ⟨rg,ro,none⟩) RL fU] 123)).drew) from ((Below.refl _ W).alloc (af _) _).drew)
     refine hK _ _ ?_;clear hK K
     refine rd [9] (rn fun K hK=> ?_)
     go_simp
     refine (wE.o _ g_.o (by have:=aS.new W #[.slice (some ⟨jV,jW,none⟩) NL eD,.slice (some ⟨rg,ro,none⟩) RL fU] 123;exact this)).mono ?_
     rintro e W7 ⟨g,c,rfl,iR,iN⟩
     have H7:=aa (And.intro iR (g_.o.trans (iN.mono g_.o.size)))
     clear iN iR
     have d1:=(H7.o.2.cell (p:=⟨p,1,none⟩) dJ.o.1).trans c1
     have d4:=(H7.o.2.cell (p:=⟨p,4,none⟩) dJ.o.1).trans c4
     have d7:=(H7.o.2.cell (p:=⟨p,7,none⟩) dJ.o.1).trans c7
     have e4:=(H7.o.2.cell (p:=⟨q,4,none⟩) dJ.o.2).trans q4
     have zf:=(ij.o.still H7.o.2).blk.frozen 1
     have zg:=(ij.o.still H7.o.2).blk.frozen 4
     have zh:=(ij.o.still H7.o.2).blk.frozen 7
     refine hK _ _ ?_;clear hK K
   rotate_left 3
   focus
    go_simp
    refine hK _ _ ?_;clear hK K
    refine rd [6] (rn fun K hK=> ?_)
    go_simp
    refine hK _ _ ?_;clear hK K
    refine rd [8] (rn fun K hK=> ?_)
    go_simp
    have g_:=aa (show Below W.heap.size W ((W.alloc (.cells #[.slice (some ⟨jV,jW,none⟩) NL eD,.slice (some ⟨rg,ro,none⟩) RL fU] 123)).drew) from ((Below.refl _ W).alloc (af _) _).drew)
    refine hK _ _ ?_;clear hK K
    refine rd [9] (rn fun K hK=> ?_)
    go_simp
    refine (wE.o _ g_.o (by have:=aS.new W #[.slice (some ⟨jV,jW,none⟩) NL eD,.slice (some ⟨rg,ro,none⟩) RL fU] 123;exact this)).mono ?_
    rintro e W7 ⟨g,c,rfl,iR,iN⟩
    have H7:=aa (And.intro iR (g_.o.trans (iN.mono g_.o.size)))
    clear iN iR
    have d1:=(H7.o.2.cell (p:=⟨p,1,none⟩) dJ.o.1).trans c1
    have d4:=(H7.o.2.cell (p:=⟨p,4,none⟩) dJ.o.1).trans c4
    have d7:=(H7.o.2.cell (p:=⟨p,7,none⟩) dJ.o.1).trans c7
    have e4:=(H7.o.2.cell (p:=⟨q,4,none⟩) dJ.o.2).trans q4
    have zf:=(ij.o.still H7.o.2).blk.frozen 1
    have zg:=(ij.o.still H7.o.2).blk.frozen 4
    have zh:=(ij.o.still H7.o.2).blk.frozen 7
    refine hK _ _ ?_;clear hK K
   all_goals
    try simp only[Act.put,az,ay,au]
    refine tk 15 ?_
    refine tk 16 ?_
    refine rd [17] (rn fun K hK=> ?_)
    go_simp
    refine hK _ _ ?_;clear hK K
    refine tk 18 ?_
    refine tk 19 ?_
    refine tk 20 ?_
    refine rd [21] (rn fun K hK=> ?_)
    go_simp
    refine hK _ _ ?_;clear hK K
    refine tk 22 ?_
    refine tk 23 ?_
    refine rd [24] (rn fun K hK=> ?_)
    go_simp
    refine hK _ _ ?_;clear hK K
    refine wpAny_done (by kernel_rfl) ?_ _
    obtain⟨W9,rG⟩:∃W9,W9=((W7.setCell ⟨p,1,none⟩ (.slice (some ⟨g,0,none⟩) (NL+RL) c)).setCell ⟨p,4,none⟩ (.string hh)).setCell ⟨p,7,none⟩ (.bool true):=⟨_,rfl⟩
    rw[←rG]
    obtain⟨R9,h9,J6,uU,k_,J7⟩:=zY.o.row HP.o H7.o.2 Rx.o H7.o.1 qu.o.1 qu.o.2.1 qu.o.2.2 rG
    have H9:=aa (And.intro h9 (And.intro J6 (And.intro uU (And.intro k_ J7))))
    have AV:=aa (iH W9 sb E.tb q sv l mW h9.blk h9.sp (h9.ts.mem.nd q mW ((aO Ry.o).trans HQ.o)) wD.o)
    clear h9 J6 uU k_ J7 rG d1 d4 d7 e4 zf zg zh
    unfold ptr at AV
    go_wp2_with fail
    refine AV.o.mono ?_
    intro e W10 o7
    have he:=o7.1
    subst he
    have H10:=aa o7
    clear o7 AV
    go_wp2_with fail
    go_ret
    exact⟨rfl,sW.o g c _ (qt zY.o H9.o H10.o ⟨p,_,HP.o,.inl rfl⟩)⟩
  ·have A4:Tr.sz k (Tr.its a)+Tr.sz k (Tr.its b)+(if k=0 then 0 else x.length)≤510:=by unfold Tr.cut at hcut;omega
   rw[decide_eq_true A4] at HF
   have Nr:=aa hcut
   clear hcut A4
   go_wp2_with fail
   rw[←Vv]
   refine HF.o.mono ?_
   rintro e X4 ⟨rfl,hb4⟩
   have sU:=aa hb4
   have XG:=aa (HM.o.ss.still hb4)
   obtain⟨lo',on'⟩:=Gy HO.o.1 HT.o.1
   obtain⟨hi',om'⟩:=Dy HO.o.2.1 HT.o.2.1
   have TR:(jt++ox).Nodup:=by
    have h1:=(aL.1 (cD.1 HM.o.nd).2).2.1
    rw[←aB] at h1
    exact (aL.1 h1).1
   have Vz:=aa (IH M3 X4 R2 sv l la lb na nb a b jt ox x lo' hi' XG.o HM.o.ra HM.o.rb HN.o.1 HN.o.2.1 TR on' om' HO.o.2.2.1 Nr.o (HO.o.2.2.2.2.1.2 _ (by rw[HT.o.2.1];rfl)) (by have:=HO.o.2.2.2.2.2;omega))
   clear hb4 HF w0 fz on' om' TR
   unfold ptr at Vz
   go_wp2_with fail
   refine Vz.o.mono ?_
   rintro e W ⟨rfl,M5,na5,Fj,Qh,TF,TT,TU,TV,TG,Kb,uX⟩
   obtain⟨RW,Rz,s5,t5⟩:=lD.1 Qh
   have zY:=aa s5
   have sW:=aa (fun (g c:Nat) (X':World) hto=>wU (g:=g) (c:=c) (X':=X') (fun s y hy=>(HH.o.1.ts.mem.lt hy).1) HM.o sU.o HH.o.2.2.2.1 HH.o.2.2.2.2 HT.o.1 HT.o.2.1 HK.o.2.1 HO.o.1 HO.o.2.1 HO.o.2.2.1 HO.o.2.2.2.1 HO.o.2.2.2.2.1 Nr.o t5 rfl TF TG Kb uX hto)
   have Qi:p∉jt++ox:=fun e=>(cD.1 HM.o.nd).1 (by
    rcases ah.1 e with e|e
    ·exact ah.2 (.inr (ah.2 (.inl e)))
    ·exact ah.2 (.inr (ah.2 (.inr (ah.2 (.inl e))))))
   have Qj:q∉jt++ox:=fun e=>HM.o.qn (aF _ (by
    rcases ah.1 e with e|e
    ·exact ah.2 (.inr (ah.2 (.inl e)))
    ·exact ah.2 (.inr (ah.2 (.inr (ah.2 (.inl e))))))) 
   have A5:=uX p _ Qi HM.o.Xm
   have A6:=uX q _ Qj HM.o.Z9
   have XH:=A2 k a b x
   obtain⟨nW,DB⟩:∃nW:NV,nW={n with its:=I1++[{i with node:=some la}]}:=⟨_,rfl⟩
   rw[←DB] at sW A5
   have fA:nW.its=I1++[{i with node:=some la}]:=by rw[DB]
   rw[←fA] at sW
   obtain⟨mW,II⟩:∃mW,mW=m3:=⟨_,rfl⟩
   rw[←II] at sW A6
   have LQ:nW.its.length=NL:=by rw[DB,oT.o.1];show (I1++[_]).length=_;rw[aq,HK.o.1.len.1];rfl
   have XI:J.length=r.length:=HK.o.2.2.2.len.1
   have RA:J.length=RL-1:=by rw[XI,oT.o.2.1];rfl
   have hnp:=zY.o.ts.mem.nd p nW A5
   have mJ:=zY.o.ts.mem.nd q mW A6
   have Vy:NL+RL≤400:=A1 oT.o.1 oT.o.2.1 HT.o.1 HT.o.2.1 HO.o.2.2.2.1
   have c1:W.cell? ⟨p,1,none⟩=some (.slice (some ⟨jV,jW,none⟩) NL eD):=by
    have:=hnp.c1
    rw[LQ,DB] at this
    rw[oT.o.2.2.1,oT.o.2.2.2.1,oT.o.2.2.2.2.1]
    exact this
   have c4:=hnp.c4
   have c7:=hnp.c7
   have q4:=mJ.c4
   obtain⟨hh,IF⟩:∃hh,bs mW.hi=hh:=⟨_,rfl⟩
   rw[IF] at q4
   have Rx:=aa IF
   have DC:nW.rg=jV∧nW.ro=jW:=by rw[DB,oT.o.2.2.1,oT.o.2.2.2.1];exact⟨rfl,rfl⟩
   have qu:=aa (show (nW.its++J).length≤400∧(∀i∈nW.its++J,i.key.length≤200∧i.val.length≤200)∧NL+(RL-1)=(nW.its++J).length from⟨by rw[aq];omega,fun i hi=>by
    rcases ah.1 hi with hi|hi
    ·exact hnp.small.each i hi
    ·exact mJ.small.each i (by rw[II,HM.o.its];exact aF _ hi),by rw[aq];omega⟩)
   have wD:=aa (show (l++gy (Tr.join k a b x).2).length≤1000000 by rw[aq];unfold gy;rw[aM];have:=HO.o.2.2.2.2.2;omega)
   have dJ:=aa (show p<W.heap.size∧q<W.heap.size from⟨hnp.blk.lt,mJ.blk.lt⟩)
   have ij:=aa hnp
   have HP:=aa A5
   have HQ:=aa A6
   have Ry:=aa (Ne.symm HD.o.2.2.2.2)
   have XE:=dJ.o.1
   have XF:=dJ.o.2
   obtain⟨VA,XJ⟩:∃VA,VA=Rz:=⟨_,rfl⟩
   obtain⟨lW,hlW⟩:∃lW,lW=l++gy (Tr.join k a b x).2:=⟨_,rfl⟩
   rw[←XJ] at zY sW
   rw[←hlW] at zY wD sW
   have aaI:(1:Int)≤RL:=by omega
   have aab:(RL:Int)≤fU:=by omega
   by_cases XK:fU=1
   ·subst XK
    have hrow:a_ aj W rg ro J:=by
     have hJe:J=[]:=ef.1 (by omega)
     have h1:=mJ.row
     rw[II,HM.o.its,HM.o.like.2.2.1,HM.o.like.2.2.2.1,←oT.o.2.2.2.2.2.1,←oT.o.2.2.2.2.2.2.1] at h1
     have h2:=h1.part 0 0 (by simp)
     rw[hJe]
     simpa[aj] using h2
    have wE:=aa (show ∀(V:World) (rc:Nat),Below W.heap.size W V→aS V W.heap.size 123 [.slice (some ⟨jV,jW,none⟩) NL eD,.slice (some ⟨rg,ro,none⟩) 0 rc]→Calls Tryz.prog 208 #[.slice (some ⟨W.heap.size,0,none⟩) 2 2] V fun e w'=>∃g c,e=.returned (.slice (some ⟨g,0,none⟩) NL c)∧aR W.heap.size w' (.slice (some ⟨g,0,none⟩) (nW.its++J).length c) (nW.its++J)∧Below V.heap.size V w' from fun V rc hb hk=>mm W V nW.its J (jV:=jV) (jW:=jW) (NL:=NL) (eD:=eD) (rg:=rg) (ro:=ro) (RL:=0) (fU:=rc) hb hk (by have:=hnp.row;rw[DC.1,DC.2] at this;exact this) hrow LQ.symm (by omega) (by omega) (by omega))
    have qu:=aa (And.intro qu.o.1 (And.intro qu.o.2.1 (show NL=(nW.its++J).length by have:=qu.o.2.2;omega)))
    clear hnp mJ A5 A6 IF LQ XI RA Vy DB II hsb dH EZ s5 t5 Qh TF TT TU TV TG Kb uX Qi Qj XH hrow DC Vz fA
    go_wp2_with (refine wp_region_any (by kernel_rfl) ?_;refine Hid.o ?_)
    refine aa ?_
    try (change wpAny _ _ _ _ _ _ _ (bD _))
    refine tk 0 ?_
    refine tk 1 ?_
    refine tk 2 ?_
    refine tk 3 ?_
    refine tk 4 ?_
    refine tk 5 ?_
    refine tk 7 ?_
    refine tk 10 ?_
    refine tk 11 ?_
    refine tk 12 ?_
    refine tk 13 ?_
    try simp only[Act.put,az,ay,au]
    refine rd [6,14] (AllReady.cons rfl (fun K hK=> ?_) (rn fun K hK=> ?_))
    focus
     go_simp
     refine hK _ _ ?_;clear hK K
     refine rd [8,14] (AllReady.cons rfl (fun K hK=> ?_) (rn fun K hK=> ?_))
     focus
      go_simp
      have g_:=aa (show Below W.heap.size W ((W.alloc (.cells #[.slice (some ⟨jV,jW,none⟩) NL eD,.slice (some ⟨rg,ro,none⟩) 0 0] 123)).drew) from ((Below.refl _ W).alloc (af _) _).drew)
      refine hK _ _ ?_;clear hK K
      refine rd [9,14] (AllReady.cons rfl (fun K hK=> ?_) (rn fun K hK=> ?_))
      focus
       go_simp
       refine (wE.o _ _ g_.o (by have:=aS.new W #[.slice (some ⟨jV,jW,none⟩) NL eD,.slice (some ⟨rg,ro,none⟩) 0 0] 123;exact this)).mono ?_
       rintro e W7 ⟨g,c,rfl,iR,iN⟩
       have H7:=aa (And.intro iR (g_.o.trans (iN.mono g_.o.size)))
       clear iN iR
       have d1:=(H7.o.2.cell (p:=⟨p,1,none⟩) dJ.o.1).trans c1
       have d4:=(H7.o.2.cell (p:=⟨p,4,none⟩) dJ.o.1).trans c4
       have d7:=(H7.o.2.cell (p:=⟨p,7,none⟩) dJ.o.1).trans c7
       have e4:=(H7.o.2.cell (p:=⟨q,4,none⟩) dJ.o.2).trans q4
       have zf:=(ij.o.still H7.o.2).blk.frozen 1
       have zg:=(ij.o.still H7.o.2).blk.frozen 4
       have zh:=(ij.o.still H7.o.2).blk.frozen 7
       refine hK _ _ ?_;clear hK K
       refine rd [14] (rn fun K hK=> ?_)
       go_simp
       refine hK _ _ ?_;clear hK K
      rotate_left
      focus
       go_simp
       refine hK _ _ ?_;clear hK K
       refine rd [9] (rn fun K hK=> ?_)
       go_simp
       refine (wE.o _ _ g_.o (by have:=aS.new W #[.slice (some ⟨jV,jW,none⟩) NL eD,.slice (some ⟨rg,ro,none⟩) 0 0] 123;exact this)).mono ?_
       rintro e W7 ⟨g,c,rfl,iR,iN⟩
       have H7:=aa (And.intro iR (g_.o.trans (iN.mono g_.o.size)))
       clear iN iR
       have d1:=(H7.o.2.cell (p:=⟨p,1,none⟩) dJ.o.1).trans c1
       have d4:=(H7.o.2.cell (p:=⟨p,4,none⟩) dJ.o.1).trans c4
       have d7:=(H7.o.2.cell (p:=⟨p,7,none⟩) dJ.o.1).trans c7
       have e4:=(H7.o.2.cell (p:=⟨q,4,none⟩) dJ.o.2).trans q4
       have zf:=(ij.o.still H7.o.2).blk.frozen 1
       have zg:=(ij.o.still H7.o.2).blk.frozen 4
       have zh:=(ij.o.still H7.o.2).blk.frozen 7
       refine hK _ _ ?_;clear hK K
     rotate_left 2
     focus
      go_simp
      refine hK _ _ ?_;clear hK K
      refine rd [8] (rn fun K hK=> ?_)
      go_simp
      have g_:=aa (show Below W.heap.size W ((W.alloc (.cells #[.slice (some ⟨jV,jW,none⟩) NL eD,.slice (some ⟨rg,ro,none⟩) 0 0] 123)).drew) from ((Below.refl _ W).alloc (af _) _).drew)
      refine hK _ _ ?_;clear hK K
      refine rd [9] (rn fun K hK=> ?_)
      go_simp
      refine (wE.o _ _ g_.o (by have:=aS.new W #[.slice (some ⟨jV,jW,none⟩) NL eD,.slice (some ⟨rg,ro,none⟩) 0 0] 123;exact this)).mono ?_
      rintro e W7 ⟨g,c,rfl,iR,iN⟩
      have H7:=aa (And.intro iR (g_.o.trans (iN.mono g_.o.size)))
      clear iN iR
      have d1:=(H7.o.2.cell (p:=⟨p,1,none⟩) dJ.o.1).trans c1
      have d4:=(H7.o.2.cell (p:=⟨p,4,none⟩) dJ.o.1).trans c4
      have d7:=(H7.o.2.cell (p:=⟨p,7,none⟩) dJ.o.1).trans c7
      have e4:=(H7.o.2.cell (p:=⟨q,4,none⟩) dJ.o.2).trans q4
      have zf:=(ij.o.still H7.o.2).blk.frozen 1
      have zg:=(ij.o.still H7.o.2).blk.frozen 4
      have zh:=(ij.o.still H7.o.2).blk.frozen 7
      refine hK _ _ ?_;clear hK K
    rotate_left 3
    focus
     go_simp
     refine hK _ _ ?_;clear hK K
     refine rd [6] (rn fun K hK=> ?_)
     go_simp
     refine hK _ _ ?_;clear hK K
     refine rd [8] (rn fun K hK=> ?_)
     go_simp
     have g_:=aa (show Below W.heap.size W ((W.alloc (.cells #[.slice (some ⟨jV,jW,none⟩) NL eD,.slice (some ⟨rg,ro,none⟩) 0 0] 123)).drew) from ((Below.refl _ W).alloc (af _) _).drew)
     refine hK _ _ ?_;clear hK K
     refine rd [9] (rn fun K hK=> ?_)
     go_simp
     refine (wE.o _ _ g_.o (by have:=aS.new W #[.slice (some ⟨jV,jW,none⟩) NL eD,.slice (some ⟨rg,ro,none⟩) 0 0] 123;exact this)).mono ?_
     rintro e W7 ⟨g,c,rfl,iR,iN⟩
     have H7:=aa (And.intro iR (g_.o.trans (iN.mono g_.o.size)))
     clear iN iR
     have d1:=(H7.o.2.cell (p:=⟨p,1,none⟩) dJ.o.1).trans c1
     have d4:=(H7.o.2.cell (p:=⟨p,4,none⟩) dJ.o.1).trans c4
     have d7:=(H7.o.2.cell (p:=⟨p,7,none⟩) dJ.o.1).trans c7
     have e4:=(H7.o.2.cell (p:=⟨q,4,none⟩) dJ.o.2).trans q4
     have zf:=(ij.o.still H7.o.2).blk.frozen 1
     have zg:=(ij.o.still H7.o.2).blk.frozen 4
     have zh:=(ij.o.still H7.o.2).blk.frozen 7
     refine hK _ _ ?_;clear hK K
    all_goals
     try simp only[Act.put,az,ay,au]
     refine tk 15 ?_
     refine tk 16 ?_
     refine rd [17] (rn fun K hK=> ?_)
     go_simp
     refine hK _ _ ?_;clear hK K
     refine tk 18 ?_
     refine tk 19 ?_
     refine tk 20 ?_
     refine rd [21] (rn fun K hK=> ?_)
     go_simp
     refine hK _ _ ?_;clear hK K
     refine tk 22 ?_
     refine tk 23 ?_
     refine rd [24] (rn fun K hK=> ?_)
     go_simp
     refine hK _ _ ?_;clear hK K
     refine wpAny_done (by kernel_rfl) ?_ _
     obtain⟨W9,rG⟩:∃W9,W9=((W7.setCell ⟨p,1,none⟩ (.slice (some ⟨g,0,none⟩) NL c)).setCell ⟨p,4,none⟩ (.string hh)).setCell ⟨p,7,none⟩ (.bool true):=⟨_,rfl⟩
     rw[←rG]
     obtain⟨R9,h9,J6,uU,k_,J7⟩:=zY.o.row HP.o H7.o.2 Rx.o H7.o.1 qu.o.1 qu.o.2.1 qu.o.2.2 rG
     have H9:=aa (And.intro h9 (And.intro J6 (And.intro uU (And.intro k_ J7))))
     have AV:=aa (iH W9 sb E.tb q VA lW mW h9.blk h9.sp (h9.ts.mem.nd q mW ((aO Ry.o).trans HQ.o)) wD.o)
     clear h9 J6 uU k_ J7 rG d1 d4 d7 e4 zf zg zh
     unfold ptr at AV
     go_wp2_with fail
     refine AV.o.mono ?_
     intro e W10 o7
     have he:=o7.1
     subst he
     have H10:=aa o7
     clear o7 AV
     go_wp2_with fail
     go_ret
     exact⟨rfl,sW.o g c _ (qt zY.o H9.o H10.o ⟨p,_,HP.o,.inl rfl⟩)⟩
   ·skip
    have hrow:a_ aj W rg (ro+3) J:=by
     have h1:=mJ.row
     rw[II,HM.o.its,HM.o.like.2.2.1,HM.o.like.2.2.2.1,←oT.o.2.2.2.2.2.1,←oT.o.2.2.2.2.2.2.1] at h1
     have h2:=h1.part 1 J.length (by simp)
     simpa[aj] using h2
    have wE:=aa (fun V rc hb hk=>mm W V nW.its J (jV:=jV) (jW:=jW) (NL:=NL) (eD:=eD) (rg:=rg) (ro:=ro+3) (RL:=RL-1) (fU:=rc) hb hk (by have:=hnp.row;rw[DC.1,DC.2] at this;exact this) hrow LQ.symm RA.symm (by omega) (by omega))
    clear hnp mJ A5 A6 IF LQ XI RA Vy DB II hsb dH EZ s5 t5 Qh TF TT TU TV TG Kb uX Qi Qj XH hrow DC Vz fA
    go_wp2_with (refine wp_region_any (by kernel_rfl) ?_;refine Hid.o ?_)
    refine aa ?_
    try (change wpAny _ _ _ _ _ _ _ (bD _))
    refine tk 0 ?_
    refine tk 1 ?_
    refine tk 2 ?_
    refine tk 3 ?_
    refine tk 4 ?_
    refine tk 5 ?_
    refine tk 7 ?_
    refine tk 10 ?_
    refine tk 11 ?_
    refine tk 12 ?_
    refine tk 13 ?_
    try simp only[Act.put,az,ay,au]
    refine rd [6,14] (AllReady.cons rfl (fun K hK=> ?_) (rn fun K hK=> ?_))
    focus
     go_simp
     refine hK _ _ ?_;clear hK K
     refine rd [8,14] (AllReady.cons rfl (fun K hK=> ?_) (rn fun K hK=> ?_))
     focus
      go_simp
      have g_:=aa (show Below W.heap.size W ((W.alloc (.cells #[.slice (some ⟨jV,jW,none⟩) NL eD,.slice (some ⟨rg,ro+3,none⟩) (RL-1) (fU-1)] 123)).drew) from ((Below.refl _ W).alloc (af _) _).drew)
      refine hK _ _ ?_;clear hK K
      refine rd [9,14] (AllReady.cons rfl (fun K hK=> ?_) (rn fun K hK=> ?_))
      focus
       go_simp
       refine (wE.o _ _ g_.o (by have:=aS.new W #[.slice (some ⟨jV,jW,none⟩) NL eD,.slice (some ⟨rg,ro+3,none⟩) (RL-1) (fU-1)] 123;exact this)).mono ?_
       rintro e W7 ⟨g,c,rfl,iR,iN⟩
       have H7:=aa (And.intro iR (g_.o.trans (iN.mono g_.o.size)))
       clear iN iR
       have d1:=(H7.o.2.cell (p:=⟨p,1,none⟩) dJ.o.1).trans c1
       have d4:=(H7.o.2.cell (p:=⟨p,4,none⟩) dJ.o.1).trans c4
       have d7:=(H7.o.2.cell (p:=⟨p,7,none⟩) dJ.o.1).trans c7
       have e4:=(H7.o.2.cell (p:=⟨q,4,none⟩) dJ.o.2).trans q4
       have zf:=(ij.o.still H7.o.2).blk.frozen 1
       have zg:=(ij.o.still H7.o.2).blk.frozen 4
       have zh:=(ij.o.still H7.o.2).blk.frozen 7
       refine hK _ _ ?_;clear hK K
       refine rd [14] (rn fun K hK=> ?_)
       go_simp
       refine hK _ _ ?_;clear hK K
      rotate_left
      focus
       go_simp
       refine hK _ _ ?_;clear hK K
       refine rd [9] (rn fun K hK=> ?_)
       go_simp
       refine (wE.o _ _ g_.o (by have:=aS.new W #[.slice (some ⟨jV,jW,none⟩) NL eD,.slice (some ⟨rg,ro+3,none⟩) (RL-1) (fU-1)] 123;exact this)).mono ?_
       rintro e W7 ⟨g,c,rfl,iR,iN⟩
       have H7:=aa (And.intro iR (g_.o.trans (iN.mono g_.o.size)))
       clear iN iR
       have d1:=(H7.o.2.cell (p:=⟨p,1,none⟩) dJ.o.1).trans c1
       have d4:=(H7.o.2.cell (p:=⟨p,4,none⟩) dJ.o.1).trans c4
       have d7:=(H7.o.2.cell (p:=⟨p,7,none⟩) dJ.o.1).trans c7
       have e4:=(H7.o.2.cell (p:=⟨q,4,none⟩) dJ.o.2).trans q4
       have zf:=(ij.o.still H7.o.2).blk.frozen 1
       have zg:=(ij.o.still H7.o.2).blk.frozen 4
       have zh:=(ij.o.still H7.o.2).blk.frozen 7
       refine hK _ _ ?_;clear hK K
     rotate_left 2
     focus
      go_simp
      refine hK _ _ ?_;clear hK K
      refine rd [8] (rn fun K hK=> ?_)
      go_simp
      have g_:=aa (show Below W.heap.size W ((W.alloc (.cells #[.slice (some ⟨jV,jW,none⟩) NL eD,.slice (some ⟨rg,ro+3,none⟩) (RL-1) (fU-1)] 123)).drew) from ((Below.refl _ W).alloc (af _) _).drew)
      refine hK _ _ ?_;clear hK K
      refine rd [9] (rn fun K hK=> ?_)
      go_simp
      refine (wE.o _ _ g_.o (by have:=aS.new W #[.slice (some ⟨jV,jW,none⟩) NL eD,.slice (some ⟨rg,ro+3,none⟩) (RL-1) (fU-1)] 123;exact this)).mono ?_
      rintro e W7 ⟨g,c,rfl,iR,iN⟩
      have H7:=aa (And.intro iR (g_.o.trans (iN.mono g_.o.size)))
      clear iN iR
      have d1:=(H7.o.2.cell (p:=⟨p,1,none⟩) dJ.o.1).trans c1
      have d4:=(H7.o.2.cell (p:=⟨p,4,none⟩) dJ.o.1).trans c4
      have d7:=(H7.o.2.cell (p:=⟨p,7,none⟩) dJ.o.1).trans c7
      have e4:=(H7.o.2.cell (p:=⟨q,4,none⟩) dJ.o.2).trans q4
      have zf:=(ij.o.still H7.o.2).blk.frozen 1
      have zg:=(ij.o.still H7.o.2).blk.frozen 4
      have zh:=(ij.o.still H7.o.2).blk.frozen 7
      refine hK _ _ ?_;clear hK K
    rotate_left 3
    focus
     go_simp
     refine hK _ _ ?_;clear hK K
     refine rd [6] (rn fun K hK=> ?_)
     go_simp
     refine hK _ _ ?_;clear hK K
     refine rd [8] (rn fun K hK=> ?_)
     go_simp
     have g_:=aa (show Below W.heap.size W ((W.alloc (.cells #[.slice (some ⟨jV,jW,none⟩) NL eD,.slice (some ⟨rg,ro+3,none⟩) (RL-1) (fU-1)] 123)).drew) from ((Below.refl _ W).alloc (af _) _).drew)
     refine hK _ _ ?_;clear hK K
     refine rd [9] (rn fun K hK=> ?_)
     go_simp
     refine (wE.o _ _ g_.o (by have:=aS.new W #[.slice (some ⟨jV,jW,none⟩) NL eD,.slice (some ⟨rg,ro+3,none⟩) (RL-1) (fU-1)] 123;exact this)).mono ?_
     rintro e W7 ⟨g,c,rfl,iR,iN⟩
     have H7:=aa (And.intro iR (g_.o.trans (iN.mono g_.o.size)))
     clear iN iR
     have d1:=(H7.o.2.cell (p:=⟨p,1,none⟩) dJ.o.1).trans c1
     have d4:=(H7.o.2.cell (p:=⟨p,4,none⟩) dJ.o.1).trans c4
     have d7:=(H7.o.2.cell (p:=⟨p,7,none⟩) dJ.o.1).trans c7
     have e4:=(H7.o.2.cell (p:=⟨q,4,none⟩) dJ.o.2).trans q4
     have zf:=(ij.o.still H7.o.2).blk.frozen 1
     have zg:=(ij.o.still H7.o.2).blk.frozen 4
     have zh:=(ij.o.still H7.o.2).blk.frozen 7
     refine hK _ _ ?_;clear hK K
    all_goals
     try simp only[Act.put,az,ay,au]
     refine tk 15 ?_
     refine tk 16 ?_
     refine rd [17] (rn fun K hK=> ?_)
     go_simp
     refine hK _ _ ?_;clear hK K
     refine tk 18 ?_
     refine tk 19 ?_
     refine tk 20 ?_
     refine rd [21] (rn fun K hK=> ?_)
     go_simp
     refine hK _ _ ?_;clear hK K
     refine tk 22 ?_
     refine tk 23 ?_
     refine rd [24] (rn fun K hK=> ?_)
     go_simp
     refine hK _ _ ?_;clear hK K
     refine wpAny_done (by kernel_rfl) ?_ _
     obtain⟨W9,rG⟩:∃W9,W9=((W7.setCell ⟨p,1,none⟩ (.slice (some ⟨g,0,none⟩) (NL+(RL-1)) c)).setCell ⟨p,4,none⟩ (.string hh)).setCell ⟨p,7,none⟩ (.bool true):=⟨_,rfl⟩
     rw[←rG]
     obtain⟨R9,h9,J6,uU,k_,J7⟩:=zY.o.row HP.o H7.o.2 Rx.o H7.o.1 qu.o.1 qu.o.2.1 qu.o.2.2 rG
     have H9:=aa (And.intro h9 (And.intro J6 (And.intro uU (And.intro k_ J7))))
     have AV:=aa (iH W9 sb E.tb q VA lW mW h9.blk h9.sp (h9.ts.mem.nd q mW ((aO Ry.o).trans HQ.o)) wD.o)
     clear h9 J6 uU k_ J7 rG d1 d4 d7 e4 zf zg zh
     unfold ptr at AV
     go_wp2_with fail
     refine AV.o.mono ?_
     intro e W10 o7
     have he:=o7.1
     subst he
     have H10:=aa o7
     clear o7 AV
     go_wp2_with fail
     go_ret
     exact⟨rfl,sW.o g c _ (qt zY.o H9.o H10.o ⟨p,_,HP.o,.inl rfl⟩)⟩
end
end
end Go.Proofs.YtebbahjombdalaaGreatDoor
