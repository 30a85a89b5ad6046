/- Elder texts, cut down and merged (9). -/
import Derived.Test.YtloekpcncjocaaaGreatDoorP7
import Derived.Test.YtloekpcncjocaaaGreatDoorP8
import Derived.Test.YtloekpcncjocaaaGreatDoorP1
import Derived.Test.YtloekpcncjocaaaGreatDoorP4
import Derived.Test.YtloekpcncjocaaaGreatDoorPTk
set_option maxRecDepth 100000
set_option maxHeartbeats 8000000
namespace Go.Proofs.YtloekpcncjocaaaGreatDoor
open Go.RowKit Lib
section
variable {E:Ev} {X0 X X':World} {R0 R R' S:Nat→Prop} {ps ps':List (Nat×List UInt8)} {pg bN:List (Option Wl.Text)} {rt rt':List Nat} {M M':Nat→Option NV} {p q:Nat} {n m:NV}
structure KG (pg:List (Option Wl.Text)) (page level:Nat) (its:List It) (lo hi:List UInt8):Prop where
 page:pg.getD page none=some (Dk.full (bH level its))
 sound:∀rg cap,Sound (NV.read level its rg cap)
 len:its.length≤255
 none:∀i∈its,i.node=none
 size:bz its≤510
 within:∀i∈(if level=0 then its else its.tail),hasB lo hi i.key=true
theorem lp (h:TS E X0 R0 R ps pg rt M X) (hp:M p=some n) (j:Nat) (hj:j<n.its.length) (page:Nat) (ku:page<65536) (hv:n.its[j].val=pv page) (level:Nat) (hlv:n.level=level+1) (its:List It) (hh:KG pg page level its (cZ n j) (cL n j)):
  Calls Tryz.prog 92 #[ptr E.tb,ptr p,.int .i64 j] X fun e X'=>oM E X0 R0 R ps pg rt M X (fun rg cap=>NV.got level its rg cap page (cZ n j) (cL n j)) e X':=by
 have hnd:=h.mem.nd p n hp
 have c1:=hnd.c1
 have bY:=hnd.blk.lt
 have hl:=hnd.small.len
 have gz:(n.its.length:Int)≤400:=by omega
 have DY:(j:Int)<n.its.length:=by omega
 obtain⟨s1,s2,s3⟩:=aH hnd.row j hj
 rw[hv] at s2
 have HI:=aa h
 have HN:=aa (And.intro hnd (And.intro hj hp))
 have HH:=aa hh
 have HV:=aa (And.intro hlv ku)
 obtain⟨L,hL⟩:∃L,L=n.its.length:=⟨_,rfl⟩
 rw[←hL] at c1 gz DY
 have hp2:=aa (Bk X page ku)
 generalize hpv:bs (pv page)=pvb at*
 clear h hnd hh hv hl ku hL
 go_enter Tryz.func92,Tryz.ntmps92
 unfold ptr
 go_wp2_with fail
 refine hp2.out.mono ?_
 rintro e X1 ⟨rfl,aQ⟩
 have H1:=aa (show TS E X0 R0 R ps pg rt M X1∧Below X.heap.size X X1 from⟨HI.out.still aQ (fun _ h=>h) (fun _ h=>.inl h),aQ⟩)
 clear aQ
 go_wp2_with fail
 refine (yZ (H1.out.1.mem.nd p n HN.out.2.2) j HN.out.2.1).mono ?_
 rintro e X2 ⟨rfl,aC⟩
 have H2:=aa (show TS E X0 R0 R ps pg rt M X2∧Below X.heap.size X X2 from⟨H1.out.1.still aC (fun _ h=>h) (fun _ h=>.inl h),H1.out.2.trans (aC.mono H1.out.2.size)⟩)
 clear aC
 go_wp2_with fail
 refine (vK H2.out.1 page level its (cZ n j) (cL n j) HH.out.page HH.out.sound HH.out.len HH.out.none HH.out.size HH.out.within).mono ?_
 rintro e X3 ⟨c,rg,cap,R3,rfl,h3,cC,JD,G5,XS,Qr⟩
 unfold ptr
 have GI:p≠c:=fun e=>by
  have:=(H2.out.1.mem.lt HN.out.2.2).1
  omega
 have H3:=aa (show oM E X0 R0 R ps pg rt M X (fun rg cap=>NV.got level its rg cap page (cZ n j) (cL n j)) (.returned (.tuple #[ptr c,.int .i64 0])) X3 from⟨c,rg,cap,R3,rfl,h3,H2.out.2.trans (cC.mono H2.out.2.size),by have:=H2.out.2.size;omega,by have:=H2.out.2.size;omega,XS,fun k hk=>(Qr k hk).imp_right fun h=>by have:=H2.out.2.size;omega⟩)
 have d0:=(h3.mem.nd c _ (aM _ _ _)).c0
 have d1:=(h3.mem.nd p n ((aA GI).trans HN.out.2.2)).c0
 have Qs:((NV.got level its rg cap page (cZ n j) (cL n j)).level:Int)=level:=rfl
 have Up:(n.level:Int)-1=level:=by have:=HV.out.1;omega
 have aag:IntKind.i64.wrap ((n.level:Int)-1)=level:=by rw[Up];exact bQ _ (by have:=(HH.out.sound 0 0).level;have h5:level≤15:=this;omega)
 rw[Qs] at d0
 clear h3 cC JD G5 XS Qr s1 s2 s3 c1 Qs hj
 have aah:IntKind.i64.wrap (level:Int)=level:=bQ _ (by have:=(HH.out.sound 0 0).level;have h5:level≤15:=this;omega)
 go_wp2_with fail
 go_quiet (fail)
 have HE:=aa (show oM E X0 R0 R ps pg rt M X (fun rg cap=>NV.got level its rg cap page (cZ n j) (cL n j)) (.returned (.tuple #[ptr c,.int .i64 0])) (X3.drewN nq) from by
  obtain⟨p',rg',cap',R',e,ht,hb,h1,h2,h3,h4⟩:=H3.out
  exact⟨p',rg',cap',R',e,ht.still (dQ _ _) (fun _ h=>h) (fun _ h=>.inl h),hb.trans ((dQ X3 nq).mono hb.size),h1,h2,h3,h4⟩)
 go_wp2
 go_ret2
 exact HE.out
theorem qI (h:TS E X0 R0 R ps pg rt M X) (hp:M p=some n) (j:Nat) (hj:j<n.its.length) (hq:n.its[j].node=some q):
  Calls Tryz.prog 59 #[ptr E.tb,ptr p,.int .i64 j] X fun e X'=>e=.returned (.tuple #[ptr q,.int .i64 0])∧X'=X:=by
 have hnd:=h.mem.nd p n hp
 have c1:=hnd.c1
 have hl:=hnd.small.len
 have gz:(n.its.length:Int)≤400:=by omega
 have DY:(j:Int)<n.its.length:=by omega
 obtain⟨s1,s2,s3⟩:=aH hnd.row j hj
 rw[hq] at s3
 have s3':X.cell? ⟨n.rg,n.ro+j*3+2,none⟩=some (.pointer (some ⟨q,0,none⟩)):=s3
 clear h hnd hq hl s3 hp
 go_enter Tryz.func59,Tryz.ntmps59
 unfold ptr
 go_wp2
 go_ret2
 exact⟨rfl,rfl⟩
def C5 (E:Ev) (X0:World) (R0 R:Nat→Prop) (ps:List (Nat×List UInt8)) (pg:List (Option Wl.Text)) (rt:List Nat) (M:Nat→Option NV) (X:World) (p j:Nat) (n:NV) (got:Nat→Nat→NV) (e:Ending) (X':World):Prop:=
 ∃c rg cap R',e=.returned (.tuple #[ptr c,.int .i64 0])∧TS E X0 R0 R' ps pg rt (upd (upd M c (got rg cap)) p {n with its:=n.its.set j {(n.its.getD j ⟨[],[],none⟩) with node:=some c}}) X'∧X.heap.size≤c∧X.heap.size≤rg∧aj (fun k=>k=n.rg) X X'∧(∀k,R k→R' k)∧∀k,R' k→R k∨X.heap.size≤k
theorem En (h:TS E X0 R0 R ps pg rt M X) (hp:M p=some n) (j:Nat) (hj:j<n.its.length) (got:Nat→Nat→NV) {c rg cap:Nat} {R1:Nat→Prop} {X1:World} (h1:TS E X0 R0 R1 ps pg rt (upd M c (got rg cap)) X1) (hb:Below X.heap.size X X1) (hc:X.heap.size≤c) (hr:X.heap.size≤rg) (hR:∀k,R k→R1 k) (vI:∀k,R1 k→R k∨X.heap.size≤k):
  C5 E X0 R0 R ps pg rt M X p j n got (.returned (.tuple #[ptr c,.int .i64 0])) (X1.setCell ⟨n.rg,n.ro+(j*3+2),none⟩ (.pointer (some ⟨c,0,none⟩))):=by
 have bY:=h.mem.lt hp
 have hpc:p≠c:=by omega
 have hp1:upd M c (got rg cap) p=some n:=(aA hpc).trans hp
 have hnd:=h.mem.nd p n hp
 have fV:n.its.getD j ⟨[],[],none⟩=n.its[j]:=by rw[List.getD_eq_getElem?_getD,List.getElem?_eq_getElem hj];rfl
 refine⟨c,rg,cap,R1,rfl, ?_,hc,hr, ?_,hR,vI⟩
 ·rw[fV]
  have hm:=h1.mem.item hp1 j 2 hj (by decide) {n.its[j] with node:=some c} (.pointer (some ⟨c,0,none⟩)) rfl (by have:=hnd.small.each n.its[j] (List.getElem_mem hj);exact this)
  refine h1.own (S:=fun k=>k=n.rg) ((aj.refl (fun k=>k=n.rg) X1).setCell _ _ fun _=>rfl) (fun k _ e=>by rw[e];exact h1.gM _ ⟨p,n,hp1,.inr rfl⟩) hm ?_ (fun _ h=>h) (fun _ h=>.inl h)
  rintro k ⟨q,m,hq,hk⟩
  rcases ak hq with⟨rfl,rfl⟩|⟨_,hq⟩
  ·exact h1.gM k ⟨_,n,hp1,hk⟩
  ·exact h1.gM k ⟨q,m,hq,hk⟩
 ·exact ((aj.aq hb (fun k=>k=n.rg)).trans ((aj.refl (fun k=>k=n.rg) X1).setCell _ _ fun _=>rfl) (fun _ _ h=>h))
theorem p7 (h:TS E X0 R0 R ps pg rt M X) (hp:M p=some n) (j:Nat) (hj:j<n.its.length) (hq:n.its[j].node=none) (page:Nat) (ku:page<65536) (hv:n.its[j].val=pv page) (level:Nat) (hlv:n.level=level+1) (its:List It) (hh:KG pg page level its (cZ n j) (cL n j)):
  Calls Tryz.prog 59 #[ptr E.tb,ptr p,.int .i64 j] X fun e X'=>C5 E X0 R0 R ps pg rt M X p j n (fun rg cap=>NV.got level its rg cap page (cZ n j) (cL n j)) e X':=by
 have hnd:=h.mem.nd p n hp
 have c1:=hnd.c1
 have hl:=hnd.small.len
 have gz:(n.its.length:Int)≤400:=by omega
 have DY:(j:Int)<n.its.length:=by omega
 obtain⟨s1,s2,s3⟩:=aH hnd.row j hj
 rw[hq] at s3
 have s3':X.cell? ⟨n.rg,n.ro+j*3+2,none⟩=some (.pointer none):=s3
 have HC:=aa (lp h hp j hj page ku hv level hlv its hh)
 have HI:=aa (And.intro h hp)
 have HJ:=aa hj
 obtain⟨L,hL⟩:∃L,L=n.its.length:=⟨_,rfl⟩
 rw[←hL] at c1 gz DY
 unfold ptr at HC
 have HL:=aa hL
 clear h hnd hq hl s1 s2 s3 hp hv hlv hh ku hL
 go_enter Tryz.func59,Tryz.ntmps59
 unfold ptr
 go_wp2_with fail
 refine HC.out.mono ?_
 rintro e X1 ⟨c,rg,cap,R1,rfl,h1,aQ,hc1,jf,OY,Qt⟩
 unfold ptr
 have hpc:p≠c:=by have:=HI.out.1.mem.lt HI.out.2;omega
 have hp1:=(aA (M:=M) (n:=NV.got level its rg cap page (cZ n j) (cL n j)) hpc).trans HI.out.2
 have d1:=(h1.mem.nd p n hp1).c1
 rw[←HL.out] at d1
 have d3:=(aH (h1.mem.nd p n hp1).row j HJ.out).2.2
 have fz:X1.frozen? ⟨n.rg,n.ro+j*3+2,none⟩=false:=by
  obtain⟨cur,jH⟩:=h1.mem.ty p n hp1
  simp[World.frozen?,jH]
 have HE:=aa (En HI.out.1 HI.out.2 j HJ.out (fun rg cap=>NV.got level its rg cap page (cZ n j) (cL n j)) h1 aQ hc1 jf OY Qt)
 rw[←Nat.add_assoc] at HE
 clear h1 aQ hc1 jf OY Qt hp1 s3' c1 hj
 go_wp2
 go_ret2
 exact HE.out
end
section
variable {E:Ev} {X0 X:World} {R0 R:Nat→Prop} {ps:List (Nat×List UInt8)} {pg:List (Option Wl.Text)} {rt:List Nat} {M:Nat→Option NV}
theorem lq (h:TS E X0 R0 R ps pg rt M X) (hk:E.place<16) (hz:rt.getD E.place 0=0):
  Calls Tryz.prog 57 #[ptr E.tb] X fun e X'=>e=.returned (.tuple #[.pointer none,.int .i64 0])∧Below X.heap.size X X':=by
 have t0:=h.tree.cell (j:=0) rfl
 have t1:=h.tree.cell (j:=1) rfl
 have htl:=h.tree.lt
 have HR:=aa (fun W (hb:Below X.heap.size X W)=>p5 (h.rm.still hb) E.place hk)
 rw[hz] at HR
 clear h hk hz
 go_enter Tryz.func57,Tryz.ntmps57
 unfold ptr at t0 HR ⊢
 go_wp2_with fail
 go_wp2_with (refine wp_region_any (by kernel_rfl) ?_;refine Hid.out ?_)
 refine aa ?_
 try (change wpAny _ _ _ _ _ _ _ (World.drew _))
 refine tk 0 ?_
 refine tk 1 ?_
 refine tk 2 ?_
 refine tk 4 ?_
 refine tk 5 ?_
 refine tk 6 ?_
 try simp only[Act.put,List.setIfInBounds_toArray,List.set_cons_succ,List.set_cons_zero]
 refine rd [3,7] (AllReady.cons rfl (fun K hK=> ?_) (rn fun K hK=> ?_))
 focus
  go_simp
  refine hK _ _ ?_;clear hK K
  refine rd [7] (rn fun K hK=> ?_)
  go_simp
  refine hK _ _ ?_;clear hK K
  refine rd [8] (rn fun K hK=> ?_)
  go_simp
  refine (HR.out _ ((Below.refl _ X).drew)).mono ?_
  rintro e w2 ⟨rfl,aC⟩
  have H2:=aa (show Below X.heap.size X w2 from ((Below.refl _ X).drew).trans aC)
  refine hK _ _ ?_;clear hK K aC HR
 rotate_left
 focus
  go_simp
  refine hK _ _ ?_;clear hK K
  refine rd [3] (rn fun K hK=> ?_)
  go_simp
  refine hK _ _ ?_;clear hK K
  refine rd [8] (rn fun K hK=> ?_)
  go_simp
  refine (HR.out _ ((Below.refl _ X).drew)).mono ?_
  rintro e w2 ⟨rfl,aC⟩
  have H2:=aa (show Below X.heap.size X w2 from ((Below.refl _ X).drew).trans aC)
  refine hK _ _ ?_;clear hK K aC HR
 all_goals
  try simp only[Act.put,List.setIfInBounds_toArray,List.set_cons_succ,List.set_cons_zero]
  refine tk 9 ?_
  refine tk 10 ?_
  refine tk 11 ?_
  refine tk 12 ?_
  refine tk 13 ?_
  refine wpAny_done (by kernel_rfl) ?_ _
  go_wp2_with fail
  go_ret2
  exact⟨rfl,H2.out⟩
theorem C6 (n:Nat) (h:n≤1000000):IntKind.u64.wrap (n:Int)=n:=by
 unfold IntKind.wrap
 simp[IntKind.bits,IntKind.signed]
 omega
theorem oM.back {X w:World} {got:Nat→Nat→NV} {e:Ending} {X':World} (hb:Below X.heap.size X w) (h:oM E X0 R0 R ps pg rt M w got e X'):oM E X0 R0 R ps pg rt M X got e X':=by
 obtain⟨p,rg,cap,R',h1,h2,h3,h4,h5,h6,h7⟩:=h
 exact⟨p,rg,cap,R',h1,h2,hb.trans (h3.mono hb.size),Nat.le_trans hb.size h4,Nat.le_trans hb.size h5,h6,fun k hk=>(h7 k hk).imp_right fun h=>Nat.le_trans hb.size h⟩
theorem lz (h:TS E X0 R0 R ps pg rt M X) (hk:E.place<16) (page level:Nat) (its:List It) (hz:rt.getD E.place 0=page+1) (hd:KG pg page level its [] []) (ku:page<pg.length):
  Calls Tryz.prog 57 #[ptr E.tb] X fun e X'=>oM E X0 R0 R ps pg rt M X (fun rg cap=>NV.got level its rg cap page [] []) e X':=by
 have t0:=h.tree.cell (j:=0) rfl
 have t1:=h.tree.cell (j:=1) rfl
 have htl:=h.tree.lt
 have HR:=aa (fun W (hb:Below X.heap.size X W)=>p5 (h.rm.still hb) E.place hk)
 rw[hz] at HR
 have KH:=h.rm.rep.few
 have OS:(page:Int)<pg.length:=by omega
 have hfI:(pg.length:Int)≤1000000:=by omega
 have HD:=aa hd
 have h:=aa h
 clear hk hz hd ku KH
 go_enter Tryz.func57,Tryz.ntmps57
 unfold ptr at t0 HR ⊢
 go_wp2_with fail
 go_wp2_with (refine wp_region_any (by kernel_rfl) ?_;refine Hid.out ?_)
 refine aa ?_
 try (change wpAny _ _ _ _ _ _ _ (World.drew _))
 refine tk 0 ?_
 refine tk 1 ?_
 refine tk 2 ?_
 refine tk 4 ?_
 refine tk 5 ?_
 refine tk 6 ?_
 try simp only[Act.put,List.setIfInBounds_toArray,List.set_cons_succ,List.set_cons_zero]
 refine rd [3,7] (AllReady.cons rfl (fun K hK=> ?_) (rn fun K hK=> ?_))
 focus
  go_simp
  refine hK _ _ ?_;clear hK K
  refine rd [7] (rn fun K hK=> ?_)
  go_simp
  refine hK _ _ ?_;clear hK K
  refine rd [8] (rn fun K hK=> ?_)
  go_simp
  refine (HR.out _ ((Below.refl _ X).drew)).mono ?_
  rintro e w2 ⟨rfl,aC⟩
  have H2:=aa (show Below X.heap.size X w2 from ((Below.refl _ X).drew).trans aC)
  refine hK _ _ ?_;clear hK K aC HR
 rotate_left
 focus
  go_simp
  refine hK _ _ ?_;clear hK K
  refine rd [3] (rn fun K hK=> ?_)
  go_simp
  refine hK _ _ ?_;clear hK K
  refine rd [8] (rn fun K hK=> ?_)
  go_simp
  refine (HR.out _ ((Below.refl _ X).drew)).mono ?_
  rintro e w2 ⟨rfl,aC⟩
  have H2:=aa (show Below X.heap.size X w2 from ((Below.refl _ X).drew).trans aC)
  refine hK _ _ ?_;clear hK K aC HR
 all_goals
  try simp only[Act.put,List.setIfInBounds_toArray,List.set_cons_succ,List.set_cons_zero]
  refine tk 9 ?_
  refine tk 10 ?_
  refine tk 11 ?_
  refine tk 12 ?_
  refine tk 13 ?_
  refine wpAny_done (by kernel_rfl) ?_ _
  have HT:=aa (h.out.still H2.out (fun _ h=>h) (fun _ h=>.inl h))
  have HP:=aa (cG HT.out.rm)
  have HG:=aa (vK HT.out page level its [] [] HD.out.page HD.out.sound HD.out.len HD.out.none HD.out.size HD.out.within)
  have t2:=(H2.out.cell (p:=⟨E.tb,0,none⟩) htl).trans t0
  unfold ptr at HP HG
  go_wp2_with fail
  refine HP.out.mono ?_
  rintro e w3 ⟨rfl,rfl⟩
  have hgt:decide ((page:Int)+1>pg.length)=false:=decide_eq_false (by omega)
  have aai:¬(page:Int)+1>pg.length:=by omega
  have hw1:IntKind.u64.wrap (pg.length:Int)=pg.length:=C6 _ (by omega)
  have gy:IntKind.u64.wrap ((page:Int)+1-1)=page:=by rw[Int.add_sub_cancel];exact C6 _ (by omega)
  have lU:IntKind.i64.wrap (page:Int)=page:=bQ _ (by omega)
  clear HP
  go_wp2_with fail
  refine HG.out.mono ?_
  intro e w4 hg
  have HQ:=aa (hg.back H2.out)
  obtain⟨c,rg,cap,R9,rfl,-⟩:=id hg
  clear hg HG
  go_wp2_with fail
  go_ret2
  exact HQ.out
end
theorem Ny:cI Tryz.prog 82 85 bU.size:=cI.of (size:=1) (bytes:=8) (z:=.pointer none) Tryz.underlying82 (by kernel_rfl) rfl (by decide)
abbrev sU (B:Nat) (w:World) (v:Value) (l:List Nat):Prop:=Own bU 85 B w v l
def Mn (v:Value) (X:World):Nat:=
 match v with
 |.pointer (some a)=>match X.cell? ⟨a.block,0,none⟩ with
  |some (.int _ n)=>n.toNat
  |_=>0
 |_=>0
theorem vP {X:World} {q lv:Nat} (h:X.cell? ⟨q,0,none⟩=some (.int .i64 lv)):Mn (.pointer (some ⟨q,0,none⟩)) X=lv:=by
 show (match X.cell? ⟨q,0,none⟩ with
  |some (.int _ n)=>n.toNat
  |_=>0)=lv
 rw[h]
 simp
structure XT (tb:Nat) (key:ByteArray) (P:Nat→Nat→Value→World→Prop) (Q:Nat→Nat→Value→World→Prop):Prop where
 uP:∀lv q pv X,P lv q pv X→X.cell? ⟨q,0,none⟩=some (.int .i64 lv)∧lv≤15∧(0<lv→Calls Tryz.prog 58 #[ptr q,.string key] X fun e X'=>∃a:Nat,e=.returned (.int .i64 a)∧(∃v,X'.cell? ⟨q,6,none⟩=some v)∧X'.frozen? ⟨q,6,none⟩=false∧
  Calls Tryz.prog 59 #[ptr tb,ptr q,.int .i64 a] (X'.setCell ⟨q,6,none⟩ (.int .i64 a)) fun e eu=>∃q' jr,e=.returned (.tuple #[ptr q',.int .i64 0])∧jr<lv∧Q jr q' pv eu)
 app:∀lv q pv X,Q lv q pv X→∃pl,sU 0 X pv pl∧pl.length≤100∧∀W SQ W',W=X.alloc (.cells #[.pointer (some ⟨q,0,none⟩)] 85)→sU 0 W' SQ (pl++[q])→W.grownBy W' pv.ownBlock→(SQ.ownBlock=pv.ownBlock∨∀k,SQ.ownBlock=some k→W.heap.size≤k)→P lv q SQ W'
section
variable {w:World} {tb:Nat}
theorem vQ {key:ByteArray} {P Q:Nat→Nat→Value→World→Prop} {G0:World→Prop} (hF:XT tb key P Q) (hR:Calls Tryz.prog 57 #[ptr tb] w fun e X=>(e=.returned (.tuple #[.pointer none,.int .i64 0])∧G0 X)∨∃q lv,e=.returned (.tuple #[ptr q,.int .i64 0])∧∀W,W=X.alloc (.cells #[.pointer (some ⟨q,0,none⟩)] 85)→P lv q (.slice (some ⟨X.heap.size,0,none⟩) 1 1) W):
  Calls Tryz.prog 32 #[ptr tb,.string key] w fun e w'=>(e=.returned (.tuple #[.slice none 0 0,.int .i64 0])∧G0 w')∨∃q pv,e=.returned (.tuple #[pv,.int .i64 0])∧P 0 q pv w':=by
 have HF:=aa hF
 have HR:=aa hR
 clear hF hR
 unfold ptr at HF HR ⊢
 go_enter Tryz.func32,Tryz.ntmps32
 go_wp2_with fail
 refine HR.out.mono ?_
 rintro e X (⟨rfl,hG⟩|⟨q,lv,rfl,hP⟩)
 ·have HG:=aa hG
  clear hG
  go_wp2_with fail
  go_ret2
  exact .inl ⟨rfl,HG.out⟩
 ·obtain⟨W0,kC⟩:∃W0,W0=X.alloc (.cells #[.pointer (some ⟨q,0,none⟩)] 85):=⟨_,rfl⟩
  have HP:=aa (hP W0 kC)
  clear hP
  go_wp2_with fail
  rw[←kC]
  clear kC
  go_loopw [6,7,8] (fun qv _ pv wr=>∃lv q,qv=.pointer (some ⟨q,0,none⟩)∧Hid (P lv q pv wr)) (fun qv _ _ wr=>Mn qv wr)
  case atStart=>exact⟨lv,q,rfl,HP⟩
  case round=>
   obtain⟨lv,q,rfl,hP⟩:=hrel
   obtain⟨c0,aaj,oP⟩:=HF.out.uP _ _ _ _ hP.out
   have gz:(lv:Int)≤15:=by omega
   by_cases h0:0<lv
   ·have hpos:(lv:Int)>0:=by omega
    have Uq:=aa (oP h0)
    have zw:=aa (vP c0)
    clear oP
    go_wp2_with fail
    refine Uq.out.mono ?_
    rintro e w2 ⟨a,rfl,⟨v,q6⟩,f6,hbel⟩
    obtain⟨W2,lY⟩:∃W2,W2=w2.setCell ⟨q,6,none⟩ (.int .i64 a):=⟨_,rfl⟩
    have s6:W2.cell? ⟨q,6,none⟩=some (.int .i64 a):=by rw[lY];exact World.cell?_setCell_same _ _ _ q6
    rw[←lY] at hbel
    have HBL:=aa hbel
    clear hbel c0
    go_wp2_with fail
    rw[←lY]
    clear lY q6 f6
    refine HBL.out.mono ?_
    rintro e w4 ⟨q',jr,rfl,hlt,hQ⟩
    unfold ptr
    obtain⟨pl,hown,bY,KI⟩:=HF.out.app _ _ _ _ hQ
    obtain⟨a8,c8,AU,G9⟩:=Own.slice hown
    subst AU
    have HO:=aa (And.intro hown bY)
    have XU:=aa KI
    have cB:=aa hlt
    obtain⟨N8,Ur⟩:∃N8,N8=pl.length:=⟨_,rfl⟩
    rw[←Ur] at HO XU G9 ⊢
    have HN:=aa Ur
    have G8:(N8:Int)≤100:=by have:=HO.out.2;omega
    have p8:=aa (show sU 0 (w4.alloc (.cells #[.pointer (some ⟨q',0,none⟩)] 85)) (.slice a8 N8 c8) pl∧aJ bU (w4.alloc (.cells #[.pointer (some ⟨q',0,none⟩)] 85)) w4.heap.size 0 [q']∧pl.length+1≤1000000000 from⟨HO.out.1.alloc _,aJ.dI (K:=bU) (l:=[q']) (aG.new w4 #[.pointer (some ⟨q',0,none⟩)] 85) rfl,by have:=HO.out.2;have:=HN.out;omega⟩)
    clear hown KI bY hlt hQ Ur s6
    go_wp2_with (at_builtin;refine Hid.out ?_)
    refine aa ?_
    refine bB (K:=bU) Ny rfl _ _ rfl rfl p8.out.1 (Nat.zero_le _) w4.heap.size 0 1 1 [q'] rfl rfl p8.out.2.1 p8.out.2.2 ?_
    intro v2 w5 cR cP gy
    have XV:=aa (XU.out _ v2 w5 rfl cR cP gy)
    clear cR cP gy
    go_wp2_with fail
    go_roundw
    case rel=>exact⟨jr,q',rfl,XV⟩
    case measure=>
     have h1:=vP (HF.out.uP _ _ _ _ XV.out).1
     have h2:=zw.out
     have h3:=cB.out
     rw[h1,h2]
     exact h3
   ·obtain rfl:lv=0:=by omega
    have hpos:¬((0:Nat):Int)>0:=by decide
    clear oP
    go_wp2_with fail
    go_ret2
    exact .inr ⟨q,_,rfl,hP.out⟩
end
structure Eac (tb q:Nat) (lo hi:ByteArray) (fn:Nat) (caps:Array Value) (xb rg ro NL cap:Nat) (L:Nat→World→Prop) (G:Bool→World→Prop):Prop where
 item:∀a X,L a X→X.cell? ⟨xb,0,none⟩=some (.string lo)∧X.cell? ⟨xb,1,none⟩=some (.string hi)∧X.cell? ⟨q,1,none⟩=some (.slice (some ⟨rg,ro,none⟩) NL cap)∧a≤NL∧NL≤cap∧(a=NL→G true X.drew)∧
  (a<NL→∃kb,X.cell? ⟨rg,ro+a*3,none⟩=some (.string kb)∧Calls Tryz.prog 72 #[.agg #[.string lo,.string hi],.string kb] X.drew fun e X'=>∃b,e=.returned (.bool b)∧X'.cell? ⟨xb,0,none⟩=some (.string lo)∧X'.cell? ⟨xb,1,none⟩=some (.string hi)∧X'.cell? ⟨q,1,none⟩=some (.slice (some ⟨rg,ro,none⟩) NL cap)∧X'.cell? ⟨rg,ro+a*3,none⟩=some (.string kb)∧(b=true→G true X')∧
   (b=false→Calls Tryz.prog 92 #[ptr tb,ptr q,.int .i64 a] X' fun e X1=>∃q',e=.returned (.tuple #[ptr q',.int .i64 0])∧X1.cell? ⟨xb,0,none⟩=some (.string lo)∧X1.cell? ⟨xb,1,none⟩=some (.string hi)∧
    Calls Tryz.prog 71 #[ptr tb,ptr q',.agg #[.string lo,.string hi],.func (.func fn) #[] caps] X1 fun e X2=>∃b,e=.returned (.tuple #[.bool b,.int .i64 0])∧(b=true→L (a+1) X2)∧(b=false→G false X2)))
section
variable {w:World} {tb q:Nat}
theorem vR {lo hi:ByteArray} {fn:Nat} {caps:Array Value} {lv:Nat} {G:Bool→World→Prop} (hE:∀(W:World) (args:Array Value),Sem.run Tryz.prog (callFunc fn args) W=.ok (.enter fn args) W) (hlv:lv≤15)
  (hS:∀W,W=w.alloc (.cells #[.string lo,.string hi] 88)→Calls Tryz.prog fn (#[ptr q]++caps) W fun e X=>∃b,e=.returned (.bool b)∧(b=false→G false X)∧(b=true→X.cell? ⟨q,0,none⟩=some (.int .i64 lv)∧X.cell? ⟨w.heap.size,0,none⟩=some (.string lo)∧(lv=0→G true X)∧
   (0<lv→Calls Tryz.prog 58 #[ptr q,.string lo] X fun e X1=>∃a:Nat,e=.returned (.int .i64 a)∧a≤400∧∃rg ro NL cap L,NL≤400∧Eac tb q lo hi fn caps w.heap.size rg ro NL cap L G∧L a X1))):
  Calls Tryz.prog 71 #[ptr tb,ptr q,.agg #[.string lo,.string hi],.func (.func fn) #[] caps] w fun e w'=>∃b,e=.returned (.tuple #[.bool b,.int .i64 0])∧G b w':=by
 obtain⟨W0,kC⟩:∃W0,W0=w.alloc (.cells #[.string lo,.string hi] 88):=⟨_,rfl⟩
 have HS:=aa (hS W0 kC)
 have gz:(lv:Int)≤15:=by omega
 have HE:=aa hE
 clear hS hlv hE
 unfold ptr at HS ⊢
 go_enter Tryz.func71,Tryz.ntmps71
 go_wp2_with fail
 rw[←kC]
 rw[HE.out,Oper.upon_enter]
 refine HS.out.mono ?_
 rintro e X ⟨b,rfl,AR,uA⟩
 obtain⟨xb,OZ⟩:∃xb,xb=w.heap.size:=⟨_,rfl⟩
 rw[←OZ] at uA ⊢
 clear kC OZ
 cases b with
 |false=>
  have HG:=aa (AR rfl)
  clear AR uA
  go_wp2_with fail
  go_ret2
  exact⟨false,rfl,HG.out⟩
 |true=>
  obtain⟨c0,s0,hz,oP⟩:=uA rfl
  clear AR uA
  by_cases h0:lv=0
  ·subst h0
   have HG:=aa (hz rfl)
   clear hz oP
   go_wp2_with fail
   go_ret2
   exact⟨true,rfl,HG.out⟩
  ·have OP:((lv:Int)==0)=false:=by rw[beq_eq_false_iff_ne];omega
   have Uq:=aa (oP (Nat.pos_of_ne_zero h0))
   clear hz oP
   go_wp2_with fail
   refine Uq.out.mono ?_
   rintro e X1 ⟨a,rfl,ha4,rg,ro,NL,cap,L,JE,Qu,hL⟩
   have Us:=aa Qu
   have HL:=aa hL
   have Jt:(a:Int)≤400:=by omega
   have G8:(NL:Int)≤400:=by omega
   clear c0 s0 ha4 Qu hL JE
   go_wp2_with fail
   go_loopw [10,11,12,13] (fun av _ _ _ wr=>∃a:Nat,av=.int .i64 a∧Hid (L a wr)) (fun av _ _ _ _=>NL-(RowKit.intOf av).toNat)
   case atStart=>exact⟨a,rfl,HL⟩
   case round=>
    obtain⟨a,rfl,hL⟩:=hrel
    obtain⟨s0,s1,q1,SP,XW,hend,Mo⟩:=Us.out.item _ _ hL.out
    have vB:(NL:Int)≤cap:=by omega
    by_cases hlt:a<NL
    ·have hI:(a:Int)<NL:=by omega
     obtain⟨kb,k1,bJ⟩:=Mo hlt
     have HEB:=aa bJ
     clear bJ hend Mo hL
     go_wp2_with (refine wp_region_held_drew (S:=(fun X=>X.cell? ⟨xb,0,none⟩=some (.string lo)∧X.cell? ⟨xb,1,none⟩=some (.string hi)∧X.cell? ⟨q,1,none⟩=some (.slice (some ⟨rg,ro,none⟩) NL cap)∧X.cell? ⟨rg,ro+a*3,none⟩=some (.string kb))) (by kernel_rfl) ?_ (fun aE=> ?_);focus skip;rotate_left;refine Hid.out ?_)
     refine aa ?_
     ·first|trivial|exact⟨s0,s1,q1,k1⟩
     refine bC 0 aE ?_
     refine bC 1 aE ?_
     refine bC 2 aE ?_
     refine bC 3 aE ?_
     refine bC 4 aE ?_
     refine bC 5 aE ?_
     refine bC 6 aE ?_
     refine bC 7 aE ?_
     try simp only[Act.put,List.setIfInBounds_toArray,List.set_cons_succ,List.set_cons_zero]
     refine bC 8 aE ?_
     refine bC 9 aE ?_
     refine bC 10 aE ?_
     refine bC 11 aE ?_
     refine bC 12 aE ?_
     try simp only[Act.put,List.setIfInBounds_toArray,List.set_cons_succ,List.set_cons_zero]
     refine bC 13 aE ?_
     refine bC 14 aE ?_
     refine bC 15 aE ?_
     refine bC 16 aE ?_
     refine bC 17 aE ?_
     try simp only[Act.put,List.setIfInBounds_toArray,List.set_cons_succ,List.set_cons_zero]
     refine j7 [18] (j8 fun K hK=> ?_)
     go_simp
     refine HEB.out.mono ?_
     rintro e w6 ⟨b,rfl,s0',s1',q1',k1',uA,AR⟩
     have JF:=aa (And.intro uA AR)
     refine hK.out _ _ ⟨s0',s1',q1',k1'⟩ (fun aE=> ?_);clear hK K uA AR
     refine bC 19 aE ?_
     refine bC 20 aE ?_
     refine wpAnyH_done (by kernel_rfl) ?_ _
     try simp only[Act.put,List.setIfInBounds_toArray,List.set_cons_succ,List.set_cons_zero]
     cases b with
     |true=>
      have HG:=aa (JF.out.1 rfl)
      clear JF
      go_wp2_with fail
      go_ret2
      exact⟨true,rfl,HG.out⟩
     |false=>
      have Qv:=aa (JF.out.2 rfl)
      clear JF
      unfold ptr at Qv
      go_wp2_with fail
      refine Qv.out.mono ?_
      rintro e w7 ⟨q',rfl,t0,t1,bJ⟩
      have Nz:=aa bJ
      clear bJ q1' k1' s0' s1'
      unfold ptr at Nz
      go_wp2_with fail
      refine Nz.out.mono ?_
      rintro e w8 ⟨b,rfl,uA,AR⟩
      clear t0 t1
      cases b with
      |true=>
       have OT:=aa (uA rfl)
       clear uA AR
       go_wp2_with fail
       go_roundw
       case rel=>exact⟨a+1,by go_num,OT⟩
       case measure=>simp[RowKit.intOf];omega
      |false=>
       have HG:=aa (AR rfl)
       clear uA AR
       go_wp2_with fail
       go_ret2
       exact⟨false,rfl,HG.out⟩
    ·obtain rfl:a=NL:=by omega
     have hI:¬(a:Int)<a:=by omega
     have HG:=aa (hend rfl)
     clear hend Mo hL
     go_wp2_with (refine wp_region_held_drew (S:=(fun X=>X.cell? ⟨xb,0,none⟩=some (.string lo)∧X.cell? ⟨xb,1,none⟩=some (.string hi)∧X.cell? ⟨q,1,none⟩=some (.slice (some ⟨rg,ro,none⟩) a cap))) (by kernel_rfl) ?_ (fun aE=> ?_);focus skip;rotate_left;refine Hid.out ?_)
     refine aa ?_
     ·first|trivial|exact⟨s0,s1,q1⟩
     refine wP 0 aE ?_
     refine wP 1 aE ?_
     refine wP 2 aE ?_
     refine wP 3 aE ?_
     refine wP 4 aE ?_
     refine wP 5 aE ?_
     refine wP 6 aE ?_
     refine wP 7 aE ?_
     try simp only[Act.put,List.setIfInBounds_toArray,List.set_cons_succ,List.set_cons_zero]
     refine Fv 8 aE ?_
     refine Fv 9 aE ?_
     try simp only[Act.put,List.setIfInBounds_toArray,List.set_cons_succ,List.set_cons_zero]
     refine Fv 10 aE ?_
     refine Fv 11 aE ?_
     try simp only[Act.put,List.setIfInBounds_toArray,List.set_cons_succ,List.set_cons_zero]
     refine Fv 12 aE ?_
     refine Fv 13 aE ?_
     try simp only[Act.put,List.setIfInBounds_toArray,List.set_cons_succ,List.set_cons_zero]
     refine Fv 14 aE ?_
     refine Fv 15 aE ?_
     try simp only[Act.put,List.setIfInBounds_toArray,List.set_cons_succ,List.set_cons_zero]
     refine Fv 16 aE ?_
     refine Fv 17 aE ?_
     try simp only[Act.put,List.setIfInBounds_toArray,List.set_cons_succ,List.set_cons_zero]
     refine Fv 18 aE ?_
     refine Fv 19 aE ?_
     try simp only[Act.put,List.setIfInBounds_toArray,List.set_cons_succ,List.set_cons_zero]
     refine wP 20 aE ?_
     refine wpAnyH_done (by kernel_rfl) ?_ _
     try simp only[Act.put,List.setIfInBounds_toArray,List.set_cons_succ,List.set_cons_zero]
     go_wp2_with fail
     go_ret2
     exact⟨true,rfl,HG.out⟩
end
end Go.Proofs.YtloekpcncjocaaaGreatDoor
namespace Go.Proofs.YtloekpcncjocaaaGreatDoor
namespace Tr
def aL (k:Nat) (x:Tx) (acc:List (Tx×E (k+1))) (sp:List Nat) (i:Tx×E (k+1)):List (Tx×E (k+1))×List Nat:=
 match acc.getLast? with
 |none=>([(x,i.2)],sp)
 |some a=>if cut (k+1) a.2 i.1 i.2 then (acc++[i],sp) else (acc.dropLast++[(a.1,(join k a.2 i.2 i.1).1)],sp++(join k a.2 i.2 i.1).2)
theorem gC (k:Nat) (x:Tx) (sp:List Nat) (i:Tx×E (k+1)):aL k x [] sp i=([(x,i.2)],sp):=rfl
theorem cm (k:Nat) (x:Tx) (A:List (Tx×E (k+1))) (a:Tx×E (k+1)) (sp:List Nat) (i:Tx×E (k+1)):
  aL k x (A++[a]) sp i=if cut (k+1) a.2 i.1 i.2 then (A++[a]++[i],sp) else (A++[(a.1,(join k a.2 i.2 i.1).1)],sp++(join k a.2 i.2 i.1).2):=by
 unfold aL
 rw[bA,mM]
def bZ (k:Nat) (x:Tx) (st:List (Tx×E (k+1))×List Nat) (c:Tx×E (k+1)):List (Tx×E (k+1))×List Nat:=
 if (its c.2).isEmpty then (st.1,st.2++(hd c.2).page.toList)
 else if sz k (its c.2)≤510 then aL k x st.1 st.2 c
 else aL k x (aL k x st.1 st.2 (c.1,(part k c.2).low)).1 (aL k x st.1 st.2 (c.1,(part k c.2).low)).2 ((part k c.2).key,(part k c.2).up)
def aO (k:Nat) (st:List (Tx×E (k+1))×List Nat) (c:Tx×E (k+1)):List (Tx×E (k+1))×List Nat:=bZ k c.1 st c
structure Acc (k:Nat) (x:Tx) (h:Option Tx) (acc:List (Tx×E (k+1))):Prop where
 seg:bT (Ok (k+1)) (cut (k+1)) h acc
 head:∀p,acc.head?=some p→p.1=x∧Old (k+1) p.2
theorem Acc.nil (k:Nat) (x:Tx) (h:Option Tx):Acc k x h []:=⟨trivial,fun _ h=>by cases h⟩
structure Ut (k:Nat) (x:Tx) (h:Option Tx) (acc:List (Tx×E (k+1))) (sp:List Nat) (i:Tx×E (k+1)) (r:List (Tx×E (k+1))×List Nat):Prop where
 row:Acc k x h r.1
 ne:r.1≠[]
 bE:bE (k+1) r.1=bE (k+1) acc++bE k (its i.2)
 bg:(b_ (k+1) r.1++r.2).Perm (b_ (k+1) acc++bg (k+1) i.2++sp)
 dr:iA (k+1) r.1=iA (k+1) acc+dr (k+1) i.2
 last:∀b,r.1.getLast?=some b→sz k (its i.2)≤sz k (its b.2)
 first:∀p,acc.head?=some p→∃q,r.1.head?=some q∧sz k (its p.2)≤sz k (its q.2)
 none:acc=[]→r.1=[(x,i.2)]
theorem eE (k:Nat) (p:Tx×E k):b_ k [p]=bg k p.2:=by simp[b_]
theorem fA (k:Nat) (p:Tx×E k):iA k [p]=dr k p.2:=by simp[iA]
theorem jU {k:Nat} {x:Tx} {h:Option Tx} {acc:List (Tx×E (k+1))} {sp:List Nat} {i:Tx×E (k+1)}
  (ha:Acc k x (some i.1) acc) (hx:acc=[]→le x i.1∧Old (k+1) i.2) (hl:acc≠[]→i.1.length≤96) (oi:Ok (k+1) i.1 h i.2)
  (hn:Old (k+1) i.2∨∀a,acc.getLast?=some a→cut (k+1) a.2 i.1 i.2):Ut k x h acc sp i (aL k x acc sp i):=by
 by_cases e:acc=[]
 ·subst e
  rw[gC]
  refine⟨⟨?_, ?_⟩,by simp, ?_, ?_, ?_, ?_, ?_,fun _=>rfl⟩
  ·exact oi.lo (hx rfl).1
  ·intro p hp;cases hp;exact⟨rfl,(hx rfl).2⟩
  ·rw[cD,iH];rfl
  ·rw[eE];exact List.Perm.refl _
  ·rw[fA];show dr (k+1) i.2=0+dr (k+1) i.2;omega
  ·intro b hb;cases hb;exact Nat.le_refl _
  ·intro p hp;cases hp
 ·have hl':=hl e
  obtain⟨A,a,rfl⟩:=ck e
  rw[cm]
  by_cases hc:cut (k+1) a.2 i.1 i.2
  ·rw[if_pos hc]
   have hai:lt a.1 i.1=true:=ha.seg.last.lt
   refine⟨⟨?_, ?_⟩,by simp, ?_, ?_, ?_, ?_, ?_,fun h=>absurd h e⟩
   ·show bT _ _ h (A++[a]++[i])
    rw[List.append_assoc]
    exact bT.append.2 ⟨ha.seg,⟨hai,hl',hc⟩,oi⟩
   ·intro p hp
    refine ha.head p ?_
    cases A<;>exact hp
   ·show bE (k+1) (A++[a]++[i])=_
    rw[aS,cD]
   ·show (b_ (k+1) (A++[a]++[i])++sp).Perm _
    rw[aT,eE]
   ·show iA (k+1) (A++[a]++[i])=_
    rw[bF,fA]
   ·intro b hb
    rw[bA] at hb
    cases hb;exact Nat.le_refl _
   ·intro p hp
    exact⟨p,by cases A<;>exact hp,Nat.le_refl _⟩
  ·rw[if_neg hc]
   have ho:Old (k+1) i.2:=hn.resolve_right fun hn=>hc (hn a (bA A a))
   have J:=ot k ha.seg.last oi hl' hc
   generalize join k a.2 i.2 i.1=j at J
   refine⟨⟨?_, ?_⟩,by simp, ?_, ?_, ?_, ?_, ?_,fun h=>absurd h e⟩
   ·exact bT.gq ha.seg J.ok fun _ _ hc=>ji hc J.left
   ·intro p hp
    cases A with
    |nil=>
     cases hp
     have:=ha.head a rfl
     exact⟨this.1,J.old this.2⟩
    |cons q A=>exact ha.head p hp
   ·show bE (k+1) (A++[(a.1,j.1)])=_
    rw[aS,aS,cD,cD,J.bE,List.append_assoc]
   ·show (b_ (k+1) (A++[(a.1,j.1)])++(sp++j.2)).Perm _
    rw[aT,aT,eE,eE]
    simp only[List.append_assoc]
    refine List.Perm.append_left _ ?_
    have h1:(bg (k+1) j.1++(sp++j.2)).Perm ((bg (k+1) j.1++j.2)++sp):=by
     rw[List.append_assoc]
     exact List.Perm.append_left _ List.perm_append_comm
    refine h1.trans ((List.Perm.append_right _ J.bg).trans ?_)
    rw[List.append_assoc]
   ·show iA (k+1) (A++[(a.1,j.1)])=_
    rw[bF,bF,fA,fA,J.dr ho,Nat.add_assoc]
   ·intro b hb
    rw[bA] at hb
    cases hb;exact J.right
   ·intro p hp
    cases A with
    |nil=>cases hp;exact⟨_,rfl,J.left⟩
    |cons q A=>exact⟨p,hp,Nat.le_refl _⟩
def fW (k:Nat) (h:Option Tx):List (Tx×E (k+1))→Prop
 |[]=>True
 |[a]=>fJ k a.1 h a.2∧qB a.1 h∧Old (k+1) a.2
 |a::b::r=>fJ k a.1 (some b.1) a.2∧(lt a.1 b.1=true∧b.1.length≤96∧Old (k+1) a.2)∧fW k h (b::r)
def rG {α:Type} (h:Option Tx):List (Tx×α)→Option Tx
 |[]=>h
 |b::_=>some b.1
theorem fW.at {k:Nat} {h:Option Tx} {a:Tx×E (k+1)}:∀{r:List (Tx×E (k+1))},fW k h (a::r)→fJ k a.1 (rG h r) a.2∧qB a.1 (rG h r)∧Old (k+1) a.2∧fW k h r∧(∀b l,r=b::l→b.1.length≤96)
 |[],h=>⟨h.1,h.2.1,h.2.2,trivial,fun _ _ e=>by cases e⟩
 |_::_,h=>⟨h.1,h.2.1.1,h.2.1.2.2,h.2.2,fun _ _ e=>by cases e;exact h.2.1.2.1⟩
def big (k:Nat):List (Tx×E (k+1))→Nat
 |[]=>0
 |c::r=>(if sz k (its c.2)≤510 then 0 else 1)+big k r
structure Walk (k:Nat) (x:Tx) (h:Option Tx) (acc:List (Tx×E (k+1))) (sp:List Nat) (W:List (Tx×E (k+1))) (r:List (Tx×E (k+1))×List Nat):Prop where
 row:Acc k x h r.1
 bE:bE (k+1) r.1=bE (k+1) acc++bE (k+1) W
 bg:(b_ (k+1) r.1++r.2).Perm (b_ (k+1) acc++b_ (k+1) W++sp)
 dr:iA (k+1) r.1=iA (k+1) acc+iA (k+1) W+big k W
 first:∀p,acc.head?=some p→∃q,r.1.head?=some q∧sz k (its p.2)≤sz k (its q.2)
 start:acc=[]→∀c l,W=c::l→its c.2≠[]→sz k (its c.2)≤510→∃q,r.1.head?=some q∧sz k (its c.2)≤sz k (its q.2)
 last:∀V c,W=V++[c]→its c.2≠[]→sz k (its c.2)≤510→∃b,r.1.getLast?=some b∧sz k (its c.2)≤sz k (its b.2)
 none:r.1=[]→acc=[]∧∀c∈W,its c.2=[]
theorem BT {α:Type} {l:List α} (h:l≠[]):∃b,l.getLast?=some b:=⟨l.getLast h,List.getLast?_eq_some_getLast h⟩
theorem KJ {k:Nat} {x:Tx} {h:Option Tx} {acc:List (Tx×E (k+1))} {sp:List Nat} {c:Tx×E (k+1)} (ha:Acc k x (some c.1) acc) (hx:acc=[]→le x c.1) (hl:acc≠[]→c.1.length≤96)
  (oc:fJ k c.1 h c.2) (hb:qB c.1 h) (ho:Old (k+1) c.2):Walk k x h acc sp [c] (bZ k x (acc,sp) c):=by
 unfold bZ
 cases e:(its c.2).isEmpty with
 |true=>
  have e':=List.isEmpty_iff.1 e
  rw[if_pos rfl]
  refine⟨⟨ha.seg.later (Bc hb),ha.head⟩, ?_, ?_, ?_,fun p hp=>⟨p,hp,Nat.le_refl _⟩, ?_, ?_, ?_⟩
  ·rw[cD,e',iH,List.append_nil]
  ·rw[eE,aK,e']
   show (b_ (k+1) acc++(sp++(hd c.2).page.toList)).Perm (b_ (k+1) acc++((hd c.2).page.toList++[])++sp)
   rw[List.append_nil,List.append_assoc]
   exact List.Perm.append_left _ List.perm_append_comm
  ·rw[fA,aV,if_pos ho.1,e']
   show iA (k+1) acc=_+(0+0)+((if sz k (its c.2)≤510 then 0 else 1)+0)
   rw[e',if_pos (show sz k ([]:List (Tx×E k))≤510 from Nat.zero_le _)]
   omega
  ·rintro _ c' l hW;cases hW;exact fun h=>absurd e' h
  ·intro V c' hW
   have:=List.append_inj_right' (s₁:=([]:List (Tx×E (k+1)))) (t₁:=[c]) (s₂:=V) (t₂:=[c']) hW rfl
   cases this
   exact fun h=>absurd e' h
  ·intro h
   exact⟨h,fun c' ve=>by rw[List.mem_singleton.1 ve];exact e'⟩
 |false=>
  have e':its c.2≠[]:=fun h=>by rw[h] at e;cases e
  rw[if_neg Bool.false_ne_true]
  by_cases hs:sz k (its c.2)≤510
  ·rw[if_pos hs]
   have J:=jU (sp:=sp) ha (fun e=>⟨hx e,ho⟩) hl (oc.ok e' hs) (.inl ho)
   refine⟨J.row, ?_, ?_, ?_,J.first, ?_, ?_,fun h=>absurd h J.ne⟩
   ·rw[cD];exact J.bE
   ·rw[eE];exact J.bg
   ·rw[fA]
    show _=_+((if sz k (its c.2)≤510 then 0 else 1)+0)
    rw[if_pos hs]
    exact J.dr
   ·rintro ha c' l hW _ _
    cases hW
    exact⟨(x,c.2),by rw[J.none ha];rfl,Nat.le_refl _⟩
   ·intro V c' hW _ _
    have:=List.append_inj_right' (s₁:=([]:List (Tx×E (k+1)))) (t₁:=[c]) (s₂:=V) (t₂:=[c']) hW rfl
    cases this
    obtain⟨b,hb⟩:=BT J.ne
    exact⟨b,hb,J.last b hb⟩
  ·rw[if_neg hs]
   have S:=lV k oc (by omega)
   generalize part k c.2=s at S
   have J:=jU (i:=(c.1,s.low)) (sp:=sp) ha (fun e=>⟨hx e,S.old ho⟩) hl S.low (.inl (S.old ho))
   show Walk k x h acc sp [c] (aL k x (aL k x acc sp (c.1,s.low)).1 (aL k x acc sp (c.1,s.low)).2 (s.key,s.up))
   generalize aL k x acc sp (c.1,s.low)=t at J
   have J2:=jU (i:=(s.key,s.up)) (sp:=t.2) J.row (fun e=>absurd e J.ne) (fun _=>S.len) S.up (.inr fun a ha=>kU S.cut (J.last a ha))
   generalize aL k x t.1 t.2 (s.key,s.up)=r at J2
   refine⟨J2.row, ?_, ?_, ?_, ?_, ?_, ?_,fun h=>absurd h J2.ne⟩
   ·rw[cD,J2.bE,J.bE,List.append_assoc,S.bE]
   ·rw[eE,←S.bg]
    refine J2.bg.trans ?_
    show (b_ (k+1) t.1++bg (k+1) s.up++t.2).Perm _
    have h1:(b_ (k+1) t.1++bg (k+1) s.up++t.2).Perm ((b_ (k+1) t.1++t.2)++bg (k+1) s.up):=by
     rw[List.append_assoc,List.append_assoc]
     exact List.Perm.append_left _ List.perm_append_comm
    refine h1.trans ((List.Perm.append_right _ J.bg).trans ?_)
    simp only[List.append_assoc]
    exact List.Perm.append_left _ (List.Perm.append_left _ List.perm_append_comm)
   ·have:=S.dr
    have h1:=J2.dr
    have h2:=J.dr
    rw[fA]
    show _=_+((if sz k (its c.2)≤510 then 0 else 1)+0)
    rw[if_neg hs]
    simp only at h1 h2
    omega
   ·intro p hp
    obtain⟨q,hq,jo⟩:=J.first p hp
    obtain⟨q2,J_,G_⟩:=J2.first q hq
    exact⟨q2,J_,Nat.le_trans jo G_⟩
   ·rintro _ c' l hW _ h;cases hW;exact absurd h hs
   ·intro V c' hW _ h
    have:=List.append_inj_right' (s₁:=([]:List (Tx×E (k+1)))) (t₁:=[c]) (s₂:=V) (t₂:=[c']) hW rfl
    cases this
    exact absurd h hs
theorem xC {k:Nat} {x:Tx} {h:Option Tx}:∀(W:List (Tx×E (k+1))) (acc:List (Tx×E (k+1))) (sp:List Nat),Acc k x (rG h W) acc→(∀c l,W=c::l→(acc=[]→le x c.1)∧(acc≠[]→c.1.length≤96))→fW k h W→
  Walk k x h acc sp W (W.foldl (bZ k x) (acc,sp))
 |[],acc,sp,ha,_,_=>by
  refine⟨ha, ?_, ?_,rfl,fun p hp=>⟨p,hp,Nat.le_refl _⟩,fun _ _ _ e=>(by cases e),fun V c e=>(by cases V<;>cases e),fun e=>⟨e,fun _ h=>(by cases h)⟩⟩
  ·rw[iH,List.append_nil];rfl
  ·show (b_ (k+1) acc++sp).Perm (b_ (k+1) acc++[]++sp)
   rw[List.append_nil]
 |c::W,acc,sp,ha,hx,hn=>by
  obtain⟨n1,n2,n3,n4,n5⟩:=hn.at
  obtain⟨x1,x2⟩:=hx c W rfl
  have S:=KJ (sp:=sp) ha x1 x2 n1 n2 n3
  show Walk k x h acc sp (c::W) (W.foldl (bZ k x) (bZ k x (acc,sp) c))
  generalize bZ k x (acc,sp) c=t at S
  obtain⟨t1,t2⟩:=t
  have hx':∀c' l,W=c'::l→(t1=[]→le x c'.1)∧(t1≠[]→c'.1.length≤96):=by
   rintro c' l rfl
   exact⟨fun h=>le_trans (x1 (S.none h).1) (le_of_lt n2),fun _=>n5 _ _ rfl⟩
  have F:=xC W t1 t2 S.row hx' n4
  generalize hr:W.foldl (bZ k x) (t1,t2)=r at F
  refine⟨F.row, ?_, ?_, ?_, ?_, ?_, ?_, ?_⟩
  ·rw[F.bE,S.bE,show c::W=[c]++W from rfl,aS,List.append_assoc]
  ·refine F.bg.trans ?_
   have h1:(b_ (k+1) t1++b_ (k+1) W++t2).Perm ((b_ (k+1) t1++t2)++b_ (k+1) W):=by
    rw[List.append_assoc,List.append_assoc]
    exact List.Perm.append_left _ List.perm_append_comm
   refine h1.trans ((List.Perm.append_right _ S.bg).trans ?_)
   rw[show c::W=[c]++W from rfl,aT]
   simp only[List.append_assoc]
   exact List.Perm.append_left _ (List.Perm.append_left _ List.perm_append_comm)
  ·have h1:=F.dr
   have h2:=S.dr
   simp only at h1 h2
   rw[fA] at h2
   rw[cV]
   simp only[big] at h2 ⊢
   omega
  ·intro p hp
   obtain⟨q,hq,jo⟩:=S.first p hp
   obtain⟨q2,J_,G_⟩:=F.first q hq
   exact⟨q2,J_,Nat.le_trans jo G_⟩
  ·rintro ha c' l hW h1 h2
   cases hW
   obtain⟨q,hq,jo⟩:=S.start ha c [] rfl h1 h2
   obtain⟨q2,J_,G_⟩:=F.first q hq
   exact⟨q2,J_,Nat.le_trans jo G_⟩
  ·intro V c' hW h1 h2
   cases V with
   |nil=>
    cases hW
    subst hr
    exact S.last [] c rfl h1 h2
   |cons v V=>
    cases hW
    exact F.last V c' rfl h1 h2
  ·intro h
   obtain⟨h1,h2⟩:=F.none h
   obtain⟨h3,h4⟩:=S.none h1
   exact⟨h3,fun c' ve=>by
    rcases List.mem_cons.1 ve with rfl|ve
    ·exact h4 _ List.mem_cons_self
    ·exact h2 c' ve⟩
end Tr
end Go.Proofs.YtloekpcncjocaaaGreatDoor
namespace Go.Proofs.YtloekpcncjocaaaGreatDoor
namespace Tr
section
variable {α:Type} {O:Tx→Option Tx→α→Prop} {C:α→Tx→α→Prop} {h:Option Tx}
theorem bT.glue:∀{A B:List (Tx×α)},bT O C (rG h B) A→bT O C h B→(∀a b,A.getLast?=some a→B.head?=some b→lt a.1 b.1=true∧b.1.length≤96∧C a.2 b.1 b.2)→bT O C h (A++B)
 |A,[],h1,_,_=>by rw[List.append_nil];exact h1
 |A,b::B,h1,h2,h3=>by
  by_cases e:A=[]
  ·subst e;exact h2
  ·obtain⟨A',a,rfl⟩:=ck e
   rw[List.append_assoc]
   exact bT.append.2 ⟨h1,h3 a b (bA A' a) rfl,h2⟩
theorem bT.sV:∀{A B:List (Tx×α)},bT O C h (A++B)→bT O C (rG h B) A∧bT O C h B∧(∀a b,A.getLast?=some a→B.head?=some b→lt a.1 b.1=true∧b.1.length≤96∧C a.2 b.1 b.2)
 |A,[],h1=>by rw[List.append_nil] at h1;exact⟨h1,trivial,fun _ _ _ e=>by cases e⟩
 |A,b::B,h1=>by
  by_cases e:A=[]
  ·subst e;exact⟨trivial,h1,fun _ _ e=>by cases e⟩
  ·obtain⟨A',a,rfl⟩:=ck e
   rw[List.append_assoc] at h1
   obtain⟨p1,p2,p3⟩:=bT.append.1 h1
   refine⟨p1,p3,fun a' b' ha hb=> ?_⟩
   rw[bA] at ha
   cases ha;cases hb
   exact p2
end
theorem gi (k:Nat) (x y:Tx) (acc:List (Tx×E (k+1))) (sp:List Nat) (i:Tx×E (k+1)):
  (aL k y acc sp i).2=(aL k x (aN x acc) sp i).2∧aN x (aL k y acc sp i).1=(aL k x (aN x acc) sp i).1:=by
 by_cases e:acc=[]
 ·subst e;exact⟨rfl,rfl⟩
 ·obtain⟨A,a,rfl⟩:=ck e
  obtain⟨A',z,h1,h2⟩:=gZ x A a
  rw[h1,cm,cm]
  by_cases hc:cut (k+1) a.2 i.1 i.2
  ·rw[if_pos hc,if_pos hc]
   refine⟨rfl, ?_⟩
   show aN x (A++[a]++[i])=_
   rw[dx _ _ _ (by simp),h1]
  ·rw[if_neg hc,if_neg hc]
   exact⟨rfl,h2 _⟩
theorem BU {k:Nat} {x y:Tx} {acc acc':List (Tx×E (k+1))} (h:acc'=aN x acc) (sp:List Nat) (i:Tx×E (k+1)):
  (aL k y acc sp i).2=(aL k x acc' sp i).2∧aN x (aL k y acc sp i).1=(aL k x acc' sp i).1:=by subst h;exact gi k x y acc sp i
theorem zx (k:Nat) (x y:Tx) (acc:List (Tx×E (k+1))) (sp:List Nat) (c:Tx×E (k+1)):
  (bZ k y (acc,sp) c).2=(bZ k x (aN x acc,sp) c).2∧aN x (bZ k y (acc,sp) c).1=(bZ k x (aN x acc,sp) c).1:=by
 unfold bZ
 by_cases e:(its c.2).isEmpty
 ·rw[if_pos e,if_pos e];exact⟨rfl,rfl⟩
 ·rw[if_neg e,if_neg e]
  by_cases hs:sz k (its c.2)≤510
  ·rw[if_pos hs,if_pos hs]
   exact gi k x y acc sp c
  ·rw[if_neg hs,if_neg hs]
   obtain⟨h1,h2⟩:=gi k x y acc sp (c.1,(part k c.2).low)
   rw[h1]
   exact BU h2.symm _ _
theorem lB (k:Nat) (x:Tx):∀(W:List (Tx×E (k+1))) (acc:List (Tx×E (k+1))) (sp:List Nat),
  (W.foldl (aO k) (acc,sp)).2=(W.foldl (bZ k x) (aN x acc,sp)).2∧aN x (W.foldl (aO k) (acc,sp)).1=(W.foldl (bZ k x) (aN x acc,sp)).1
 |[],acc,sp=>⟨rfl,rfl⟩
 |c::W,acc,sp=>by
  obtain⟨h1,h2⟩:=zx k x c.1 acc sp c
  have ih:=lB k x W (aO k (acc,sp) c).1 (aO k (acc,sp) c).2
  show (W.foldl (aO k) (aO k (acc,sp) c)).2=(W.foldl (bZ k x) (bZ k x (aN x acc,sp) c)).2∧_
  have e:bZ k x (aN x acc,sp) c=(aN x (aO k (acc,sp) c).1,(aO k (acc,sp) c).2):=by
   refine Prod.ext ?_ ?_
   ·exact h2.symm
   ·exact h1.symm
  rw[e]
  show _∧aN x (W.foldl (aO k) (aO k (acc,sp) c)).1=(W.foldl (bZ k x) (bZ k x (aN x acc,sp) c)).1
  rw[e]
  exact ih
theorem zy (k:Nat) (x z:Tx) (sp:List Nat) (W:List (Tx×E (k+1))):(aN z W).foldl (bZ k x) ([],sp)=W.foldl (bZ k x) ([],sp):=by
 cases W with
 |nil=>rfl
 |cons c W=>rfl
def O0 {k:Nat} (x:Tx):List (Tx×E (k+1))→List (Tx×E (k+1))→Nat
 |[],[]=>0
 |[],_::r=>4+x.length+sz (k+1) r
 |a::acc,W=>sz (k+1) (a::acc)+sz (k+1) W
theorem He {k:Nat} {x:Tx} {acc W:List (Tx×E (k+1))} (h:acc≠[]):O0 x acc W=sz (k+1) acc+sz (k+1) W:=by
 cases acc with
 |nil=>exact absurd rfl h
 |cons a acc=>rfl
theorem nA (k:Nat) (x:Tx) (acc:List (Tx×E (k+1))) (sp:List Nat) (i:Tx×E (k+1)):(aL k x acc sp i).1≠[]∧sz (k+1) (aL k x acc sp i).1≤sz (k+1) acc+4+(if acc=[] then x.length else i.1.length):=by
 by_cases e:acc=[]
 ·subst e
  rw[gC,if_pos rfl]
  refine⟨by simp, ?_⟩
  show sz (k+1) [(x,i.2)]≤0+4+x.length
  rw[sz,cw,sz]
  show 4+x.length+0≤_
  omega
 ·rw[if_neg e]
  obtain⟨A,a,rfl⟩:=ck e
  rw[cm]
  by_cases hc:cut (k+1) a.2 i.1 i.2
  ·rw[if_pos hc]
   refine⟨by simp, ?_⟩
   show sz (k+1) (A++[a]++[i])≤_
   rw[b9,sz,cw,sz]
   omega
  ·rw[if_neg hc]
   refine⟨by simp, ?_⟩
   show sz (k+1) (A++[(a.1,_)])≤_
   rw[b9,b9,sz,sz,sz,cw,cw]
   show _+(4+a.1.length+0)≤_
   omega
theorem C7 {k:Nat} {x:Tx}:∀(W:List (Tx×E (k+1))) (acc:List (Tx×E (k+1))) (sp:List Nat),(∀c∈W,510<sz k (its c.2)→(part k c.2).key.length≤96)→
  sz (k+1) (W.foldl (bZ k x) (acc,sp)).1≤O0 x acc W+100*big k W
 |[],[],sp,_=>Nat.zero_le _
 |[],a::acc,sp,_=>by show sz (k+1) (a::acc)≤sz (k+1) (a::acc)+0+_;omega
 |c::W,acc,sp,hb=>by
  have ih:=C7 (x:=x) W (bZ k x (acc,sp) c).1 (bZ k x (acc,sp) c).2 (fun d hd=>hb d (List.mem_cons_of_mem _ hd))
  show sz (k+1) (W.foldl (bZ k x) (bZ k x (acc,sp) c)).1≤_
  refine Nat.le_trans ih ?_
  show _≤_+100*((if sz k (its c.2)≤510 then 0 else 1)+big k W)
  have hsz:sz (k+1) (c::W)=4+c.1.length+sz (k+1) W:=by rw[sz,cw]
  unfold bZ
  by_cases e:(its c.2).isEmpty
  ·rw[if_pos e]
   show O0 x acc W+_≤_
   cases acc with
   |nil=>
    cases W with
    |nil=>show 0+_≤_;omega
    |cons d W=>
     show 4+x.length+sz (k+1) W+_≤4+x.length+sz (k+1) (d::W)+_
     rw[sz]
     omega
   |cons a acc=>
    show sz (k+1) (a::acc)+sz (k+1) W+_≤sz (k+1) (a::acc)+sz (k+1) (c::W)+_
    omega
  ·rw[if_neg e]
   by_cases hs:sz k (its c.2)≤510
   ·rw[if_pos hs,if_pos hs]
    obtain⟨h1,h2⟩:=nA k x acc sp c
    show O0 x (aL k x acc sp c).1 W+_≤_
    rw[He h1]
    cases acc with
    |nil=>
     rw[if_pos rfl] at h2
     show _≤4+x.length+sz (k+1) W+_
     have:sz (k+1) ([]:List (Tx×E (k+1)))=0:=rfl
     omega
    |cons a acc=>
     rw[if_neg (by simp)] at h2
     show _≤sz (k+1) (a::acc)+sz (k+1) (c::W)+_
     omega
   ·rw[if_neg hs,if_neg hs]
    have hk:=hb c List.mem_cons_self (by omega)
    generalize part k c.2=s at hk
    obtain⟨h1,h2⟩:=nA k x acc sp (c.1,s.low)
    obtain⟨h3,h4⟩:=nA k x (aL k x acc sp (c.1,s.low)).1 (aL k x acc sp (c.1,s.low)).2 (s.key,s.up)
    rw[if_neg h1] at h4
    show O0 x (aL k x (aL k x acc sp (c.1,s.low)).1 _ (s.key,s.up)).1 W+_≤_
    rw[He h3]
    simp only at h2 h4
    cases acc with
    |nil=>
     rw[if_pos rfl] at h2
     show _≤4+x.length+sz (k+1) W+_
     have:sz (k+1) ([]:List (Tx×E (k+1)))=0:=rfl
     omega
    |cons a acc=>
     rw[if_neg (by simp)] at h2
     show _≤sz (k+1) (a::acc)+sz (k+1) (c::W)+_
     omega
theorem l_ {k:Nat} {h:Option Tx} {kc:Tx} {c0 c:E (k+1)} {N:List (Tx×E (k+1))}:∀{P:List (Tx×E (k+1))},bT (Ok (k+1)) (cut (k+1)) h (P++(kc,c0)::N)→fJ k kc (rG h N) c→(∀p∈P,Old (k+1) p.2)→Old (k+1) c→(∀p∈N,Old (k+1) p.2)→fW k h (P++(kc,c)::N)
 |[],hs,hc,_,ho,hN=>by
  have all:∀(l:List (Tx×E (k+1))),bT (Ok (k+1)) (cut (k+1)) h l→(∀p∈l,Old (k+1) p.2)→fW k h l:=by
   intro l
   induction l with
   |nil=>intro _ _;trivial
   |cons a l ih=>
    intro hs ho
    cases l with
    |nil=>exact⟨hs.near,hs.lt,ho a List.mem_cons_self⟩
    |cons b l=>exact⟨hs.1.near,⟨hs.2.1.1,hs.2.1.2.1,ho a List.mem_cons_self⟩,ih hs.2.2 fun p hp=>ho p (List.mem_cons_of_mem _ hp)⟩
  cases N with
  |nil=>exact⟨hc,Ok.lt hs,ho⟩
  |cons b N=>exact⟨hc,⟨hs.2.1.1,hs.2.1.2.1,ho⟩,all _ hs.2.2 hN⟩
 |[p],hs,hc,hP,ho,hN=>by
  refine⟨hs.1.near,⟨hs.2.1.1,hs.2.1.2.1,hP p List.mem_cons_self⟩,l_ (P:=[]) hs.2.2 hc (fun _ h=>by cases h) ho hN⟩
 |p::q::P,hs,hc,hP,ho,hN=>⟨hs.1.near,⟨hs.2.1.1,hs.2.1.2.1,hP p List.mem_cons_self⟩,l_ (P:=q::P) hs.2.2 hc (fun x hx=>hP x (List.mem_cons_of_mem _ hx)) ho hN⟩
end Tr
end Go.Proofs.YtloekpcncjocaaaGreatDoor
namespace Go.Proofs.YtloekpcncjocaaaGreatDoor
namespace Tr
theorem sW {α:Type} (h:Option Tx) (B N:List (Tx×α)):rG h (B++N)=rG (rG h N) B:=by cases B<;>rfl
theorem zz {α:Type} (A:List (Tx×α)) (kc:Tx) (c c':α) (B:List (Tx×α)):bk (A++(kc,c)::B)=bk (A++(kc,c')::B):=by cases A<;>rfl
theorem KL {k:Nat} (W:List (Tx×E (k+1))):O0 (bk W) [] W=sz (k+1) W:=by
 cases W with
 |nil=>rfl
 |cons c r=>show 4+c.1.length+sz (k+1) r=_;rw[sz,cw]
theorem Hf {α:Type} {l:List α} (h:l≠[]):∃a,l.head?=some a:=by
 cases l with
 |nil=>exact absurd rfl h
 |cons a l=>exact⟨a,rfl⟩
structure NA (k:Nat) (x:Tx) (h:Option Tx) (P W N:List (Tx×E (k+1))) (sp:List Nat) (r:List (Tx×E (k+1))×List Nat):Prop where
 seg:bT (Ok (k+1)) (cut (k+1)) h (P++(r.1++N))
 bE:bE (k+1) r.1=bE (k+1) W
 bg:(b_ (k+1) r.1++r.2).Perm (b_ (k+1) W++sp)
 dr:iA (k+1) r.1=iA (k+1) W+big k W
 head:∀p,r.1.head?=some p→p.1=x∧Old (k+1) p.2
 none:r.1=[]→P=[]∧N=[]
 size:sz (k+1) r.1≤sz (k+1) W+100*big k W
 each:∀p∈W,sz k (its p.2)≤510→its p.2≠[]→r.1≠[]
theorem Eo {k:Nat} {h:Option Tx} {P A B N:List (Tx×E (k+1))} {kc:Tx} {c0 c:E (k+1)} (sp:List Nat)
  (s:bT (Ok (k+1)) (cut (k+1)) h (P++((A++(kc,c0)::B)++N))) (nc:fJ k kc (rG h (B++N)) c)
  (hA:A=[]→P=[]) (hB:B=[]→N=[]) (oA:∀p∈A,Old (k+1) p.2) (oc:Old (k+1) c) (oB:∀p∈B,Old (k+1) p.2):
  NA k (bk (A++(kc,c)::B)) h P (A++(kc,c)::B) N sp ((A++(kc,c)::B).foldl (bZ k (bk (A++(kc,c)::B))) ([],sp)):=by
 obtain⟨s1,s2,s3⟩:=bT.sV s
 obtain⟨s4,s5,s6⟩:=bT.sV s2
 rw[sW] at nc
 have ns:=l_ s4 nc oA oc oB
 have hx:=zz A kc c c0 B
 have hne:A++(kc,c)::B≠[]:=by simp
 have hWA:∀p∈A++(kc,c)::B,p.2=c∨(p∈A∨p∈B):=by
  intro p hp
  rcases List.mem_append.1 hp with hp|hp
  ·exact .inr (.inl hp)
  ·rcases List.mem_cons.1 hp with rfl|hp
   ·exact .inl rfl
   ·exact .inr (.inr hp)
 have BV:∀p,p∈A∨p∈B→its p.2≠[]∧sz k (its p.2)≤510:=by
  intro p hp
  have:p∈A++(kc,c0)::B:=by
   rcases hp with hp|hp
   ·exact List.mem_append.2 (.inl hp)
   ·exact List.mem_append.2 (.inr (List.mem_cons_of_mem _ hp))
  obtain⟨u,hu⟩:=s4.each p this
  exact⟨hu.1,hu.2.1⟩
 generalize SR:bk (A++(kc,c)::B)=x at*
 have F:=xC (x:=x) (A++(kc,c)::B) [] sp (Acc.nil k x _) (by
  intro c' l e
  refine⟨fun _=> ?_,fun h=>absurd rfl h⟩
  rw[e] at SR
  have:c'.1=x:=SR
  rw[this];exact le_refl _) ns
 have Z:=C7 (x:=x) (A++(kc,c)::B) [] sp (by
  intro d hd hb
  rcases hWA d hd with e|e
  ·rw[e] at hb ⊢
   exact (lV k nc hb).len
  ·have:=(BV d e).2;omega)
 have XX:=KL (A++(kc,c)::B)
 rw[SR] at XX
 rw[XX] at Z
 generalize hr:(A++(kc,c)::B).foldl (bZ k x) ([],sp)=r at F Z
 have hnone:r.1=[]→A=[]∧B=[]:=by
  intro e
  have:=(F.none e).2
  refine⟨?_, ?_⟩
  ·cases A with
   |nil=>rfl
   |cons a A=>exact absurd (this a List.mem_cons_self) (BV a (.inl List.mem_cons_self)).1
  ·cases B with
   |nil=>rfl
   |cons b B=>exact absurd (this b (List.mem_append.2 (.inr (List.mem_cons_of_mem _ List.mem_cons_self)))) (BV b (.inr List.mem_cons_self)).1
 have Uu:r.1=[]∨rG h (r.1++N)=some x:=by
  by_cases e:r.1=[]
  ·exact .inl e
  ·right
   obtain⟨q,hq⟩:=Hf e
   have:=(F.row.head q hq).1
   cases jf:r.1 with
   |nil=>exact absurd jf e
   |cons z r'=>
    rw[jf] at hq
    have hz:z=q:=Option.some.inj hq
    show some z.1=some x
    rw[hz,this]
 have Uv:rG h ((A++(kc,c0)::B)++N)=some x:=by
  rw[hx]
  cases A<;>rfl
 refine⟨?_, ?_, ?_, ?_, ?_, ?_,Z, ?_⟩
 ·have g1:bT (Ok (k+1)) (cut (k+1)) h (r.1++N):=by
   refine bT.glue F.row.seg s5 ?_
   intro a b ha hb
   by_cases eB:B=[]
   ·rw[hB eB] at hb;cases hb
   ·obtain⟨B',b',rfl⟩:=ck eB
    have e1:A++(kc,c)::(B'++[b'])=(A++(kc,c)::B')++[b']:=by simp
    obtain⟨q,hq,jo⟩:=F.last (A++(kc,c)::B') b' e1 (BV b' (.inr (by simp))).1 (BV b' (.inr (by simp))).2
    rw[hq] at ha
    cases ha
    have hl:=s6 b' b (by rw[show A++(kc,c0)::(B'++[b'])=(A++(kc,c0)::B')++[b'] by simp];exact bA _ _) hb
    refine⟨?_,hl.2.1,kU hl.2.2 jo⟩
    obtain⟨R',q',hR⟩:=ck (l:=r.1) (by intro e;rw[e] at hq;cases hq)
    rw[hR,bA] at hq
    cases hq
    have hrow:=F.row.seg
    rw[hR] at hrow
    have:=hrow.last.lt
    cases N with
    |nil=>cases hb
    |cons n N=>cases hb;exact this
  by_cases e:r.1=[]
  ·obtain⟨e1,e2⟩:=hnone e
   rw[hA e1]
   exact g1
  ·refine bT.glue ?_ g1 ?_
   ·rw[Uu.resolve_left e,←Uv];exact s1
   ·intro a b ha hb
    have Uw:A≠[]:=by intro eA;rw[hA eA] at ha;cases ha
    obtain⟨a',A',rfl⟩:=List.exists_cons_of_ne_nil Uw
    obtain⟨q,hq,jo⟩:=F.start rfl a' (A'++(kc,c)::B) rfl (BV a' (.inl List.mem_cons_self)).1 (BV a' (.inl List.mem_cons_self)).2
    have hb':b=q:=by
     cases jf:r.1 with
     |nil=>exact absurd jf e
     |cons z r'=>rw[jf] at hq hb;cases hq;cases hb;rfl
    subst hb'
    have hl:=s3 a a' ha rfl
    have hkey:=(F.row.head b hq).1
    have hxa:a'.1=x:=SR
    rw[hkey,←hxa]
    exact⟨hl.1,hl.2.1,ji hl.2.2 jo⟩
 ·have:=F.bE
  rw[iH] at this
  exact this
 ·have:=F.bg
  exact this
 ·have:=F.dr
  rw[show iA (k+1) ([]:List (Tx×E (k+1)))=0 from rfl,Nat.zero_add] at this
  exact this
 ·exact F.row.head
 ·intro e
  obtain⟨e1,e2⟩:=hnone e
  exact⟨hA e1,hB e2⟩
 ·intro p hp _ h2 e
  exact h2 ((F.none e).2 p hp)
theorem b7 (k:Nat) (lo:Tx) (l:List (Tx×E (k+1))):pI (k+1) lo l=aN lo l:=by unfold pI;rw[if_neg (Nat.succ_ne_zero _)]
theorem jt {k:Nat} {lo:Tx} {l:List (Tx×E (k+1))}:Head (k+1) lo l↔∀p,l.head?=some p→p.1=[]:=by
 unfold Head
 constructor
 ·intro h p hp;have:=h p hp;rwa [if_neg (Nat.succ_ne_zero _)] at this
 ·intro h p hp;rw[if_neg (Nat.succ_ne_zero _)];exact h p hp
structure rH (k:Nat) (lo:Tx) (h:Option Tx) (all l:List (Tx×E (k+1))) (b:Nat) (sp sp':List Nat):Prop where
 row:Rw (k+1) lo h l
 bE:bE (k+1) l=bE (k+1) all
 bg:(b_ (k+1) l++sp').Perm (b_ (k+1) all++sp)
 dr:iA (k+1) l=iA (k+1) all+b
 size:sz (k+1) l≤sz (k+1) all+100*b
 old:(∀p∈all,Old (k+1) p.2)→∀p,l.head?=some p→Old (k+1) p.2
theorem ju {α:Type} (x:Tx) (A:List (Tx×α)) (kc:Tx) (c:α) (B:List (Tx×α)):aN x (A++(kc,c)::B)=(aN x A)++((if A.isEmpty then x else kc),c)::B:=by
 cases A with
 |nil=>rfl
 |cons a A=>rfl
theorem sX {α:Type} (l:List (Tx×α)):aN (bk l) l=l:=by cases l<;>rfl
theorem iY {α:Type} (x:Tx) {l:List (Tx×α)} (h:l≠[]):bk (aN x l)=x:=by
 cases l with
 |nil=>exact absurd rfl h
 |cons a l=>rfl
theorem KM {k:Nat} {A B:List (Tx×E (k+1))} {kc:Tx} {c:E (k+1)} (h:∀p,p∈A∨p∈B→sz k (its p.2)≤510):big k (A++(kc,c)::B)=big k [(kc,c)]:=by
 have hz:∀(l:List (Tx×E (k+1))),(∀p∈l,sz k (its p.2)≤510)→big k l=0:=by
  intro l
  induction l with
  |nil=>intro _;rfl
  |cons a l ih=>
   intro hl
   show (if sz k (its a.2)≤510 then 0 else 1)+big k l=0
   rw[if_pos (hl a List.mem_cons_self),ih fun p hp=>hl p (List.mem_cons_of_mem _ hp)]
 have KI:∀(l r:List (Tx×E (k+1))),(∀p∈l,sz k (its p.2)≤510)→big k (l++r)=big k r:=by
  intro l r
  induction l with
  |nil=>intro _;rfl
  |cons a l ih=>
   intro hl
   show (if sz k (its a.2)≤510 then 0 else 1)+big k (l++r)=_
   rw[if_pos (hl a List.mem_cons_self),ih fun p hp=>hl p (List.mem_cons_of_mem _ hp)]
   omega
 rw[KI A _ fun p hp=>h p (.inl hp)]
 show (if sz k (its c)≤510 then 0 else 1)+big k B=(if sz k (its c)≤510 then 0 else 1)+0
 rw[hz B fun p hp=>h p (.inr hp)]
theorem Ep {k:Nat} {lo:Tx} {h:Option Tx} {P A B N:List (Tx×E (k+1))} {kc:Tx} {c0 c:E (k+1)} (sp:List Nat)
  (o:Rw (k+1) lo h (P++((A++(kc,c0)::B)++N))) (nc:fJ k (if P=[]∧A=[] then lo else kc) (rG h (B++N)) c)
  (hA:A=[]→P=[]) (hB:B=[]→N=[]) (oA:∀p∈A,Old (k+1) p.2) (oc:Old (k+1) c) (oB:∀p∈B,Old (k+1) p.2):
  rH k lo h (P++((A++(kc,c)::B)++N)) (P++(aN (bk (A++(kc,c)::B)) ((A++(kc,c)::B).foldl (aO k) ([],sp)).1++N)) (big k [(kc,c)]) sp ((A++(kc,c)::B).foldl (aO k) ([],sp)).2:=by
 obtain⟨h3,h4⟩:=o
 rw[b7] at h4
 rw[jt] at h3
 obtain⟨P',A',zA,Ux,Mp,hkc,XY,Uy,hAm⟩:∃(P' A':List (Tx×E (k+1))) (zA:Tx),
   (∀(x:E (k+1)) (R:List (Tx×E (k+1))),aN lo (P++((A++(kc,x)::B)++R))=P'++((A'++(zA,x)::B)++R))∧
   (∀x:E (k+1),A'++(zA,x)::B=A++(kc,x)::B∨(P=[]∧A'++(zA,x)::B=aN lo (A++(kc,x)::B)))∧
   zA=(if P=[]∧A=[] then lo else kc)∧(P'=[]↔P=[])∧(A'=[]↔A=[])∧(∀p∈A',∃q∈A,p.2=q.2):=by
  cases P with
  |cons p P=>
   refine⟨(lo,p.2)::P,A,kc,fun _ _=>rfl,fun _=>.inl rfl, ?_,by simp,Iff.rfl,fun p hp=>⟨p,hp,rfl⟩⟩
   rw[if_neg (by simp)]
  |nil=>
   cases A with
   |nil=>
    refine⟨[],[],lo,fun _ _=>rfl,fun _=>.inr ⟨rfl,rfl⟩, ?_,Iff.rfl,Iff.rfl,fun p hp=>(by cases hp)⟩
    rw[if_pos ⟨rfl,rfl⟩]
   |cons a A=>
    refine⟨[],(lo,a.2)::A,kc,fun _ _=>rfl,fun _=>.inr ⟨rfl,rfl⟩, ?_,Iff.rfl,by simp,fun p hp=> ?_⟩
    ·rw[if_neg (by simp)]
    ·rcases List.mem_cons.1 hp with rfl|hp
     ·exact⟨a,List.mem_cons_self,rfl⟩
     ·exact⟨p,List.mem_cons_of_mem _ hp,rfl⟩
 rw[Ux c0 N] at h4
 rw[←hkc] at nc
 have W:=Eo sp h4 nc (fun e=>XY.2 (hA (Uy.1 e))) hB (fun p hp=>by obtain⟨q,hq,e⟩:=hAm p hp;rw[e];exact oA q hq) oc oB
 have Qw:∀(x:Tx),x=bk (A'++(zA,c)::B)→((A'++(zA,c)::B).foldl (bZ k x) ([],sp)).2=((A++(kc,c)::B).foldl (aO k) ([],sp)).2∧((A'++(zA,c)::B).foldl (bZ k x) ([],sp)).1=aN x ((A++(kc,c)::B).foldl (aO k) ([],sp)).1:=by
  intro x hx
  obtain⟨f1,f2⟩:=lB k x (A++(kc,c)::B) [] sp
  rw[setHd_nil] at f1 f2
  rcases Mp c with e|⟨_,e⟩
  ·rw[e];exact⟨f1.symm,f2.symm⟩
  ·rw[e,zy];exact⟨f1.symm,f2.symm⟩
 obtain⟨f1,f2⟩:=Qw _ rfl
 generalize hx:bk (A'++(zA,c)::B)=x at*
 generalize (A'++(zA,c)::B).foldl (bZ k x) ([],sp)=r at*
 generalize (A++(kc,c)::B).foldl (aO k) ([],sp)=rc at*
 generalize mK:bk (A++(kc,c)::B)=k0 at*
 have kI:big k (A'++(zA,c)::B)=big k [(kc,c)]:=by
  rw[KM]
  ·rfl
  ·intro p hp
   have hm:p∈P'++((A'++(zA,c0)::B)++N):=by
    rcases hp with hp|hp
    ·exact List.mem_append.2 (.inr (List.mem_append.2 (.inl (List.mem_append.2 (.inl hp)))))
    ·exact List.mem_append.2 (.inr (List.mem_append.2 (.inl (List.mem_append.2 (.inr (List.mem_cons_of_mem _ hp))))))
   obtain⟨u,hu⟩:=h4.each p hm
   exact hu.2.1
 have Qx:bE (k+1) (A'++(zA,c)::B)=bE (k+1) (A++(kc,c)::B):=by
  rcases Mp c with e|⟨_,e⟩
  ·rw[e]
  ·rw[e,gR]
 have Qy:b_ (k+1) (A'++(zA,c)::B)=b_ (k+1) (A++(kc,c)::B):=by
  rcases Mp c with e|⟨_,e⟩
  ·rw[e]
  ·rw[e,pV]
 have Qz:iA (k+1) (A'++(zA,c)::B)=iA (k+1) (A++(kc,c)::B):=by
  rcases Mp c with e|⟨_,e⟩
  ·rw[e]
  ·rw[e,pW]
 have QA:bE (k+1) rc.1=bE (k+1) r.1:=by rw[f2,gR]
 have QB:b_ (k+1) rc.1=b_ (k+1) r.1:=by rw[f2,pV]
 have QC:iA (k+1) rc.1=iA (k+1) r.1:=by rw[f2,pW]
 have hkey:P=[]→k0=[]:=by
  intro e
  rw[←mK]
  cases A with
  |nil=>exact h3 (kc,c0) (by rw[e];rfl)
  |cons a A=>exact h3 a (by rw[e];rfl)
 have Uz:P≠[]→x=k0:=by
  intro e
  rcases Mp c with e2|⟨e2,_⟩
  ·rw[←hx,e2,mK]
  ·exact absurd e2 e
 have hP2:∀R:List (Tx×E (k+1)),P≠[]→aN lo (P++R)=P'++R:=by
  intro R e
  have:=Ux c0 []
  rw[dx _ _ _ e] at this
  have e2:aN lo P=P':=by
   rcases Mp c0 with e3|⟨e3,_⟩
   ·rw[e3] at this;exact List.append_cancel_right this
   ·exact absurd e3 e
  rw[dx _ _ _ e,e2]
 refine⟨⟨?_, ?_⟩, ?_, ?_, ?_, ?_, ?_⟩
 ·rw[jt]
  intro p hp
  by_cases e:P=[]
  ·subst e
   cases jf:rc.1 with
   |nil=>
    have:r.1=[]:=by rw[f2,jf];rfl
    rw[jf,(W.none this).2] at hp
    cases hp
   |cons q l=>
    rw[jf] at hp
    cases hp
    exact hkey rfl
  ·obtain⟨q,P2,rfl⟩:=List.exists_cons_of_ne_nil e
   exact h3 p hp
 ·rw[b7]
  have hW:=W.seg
  rw[f2] at hW
  by_cases e:P=[]
  ·have XZ:=XY.2 e
   subst e
   rw[XZ] at hW
   by_cases jf:rc.1=[]
   ·have:r.1=[]:=by rw[f2,jf];rfl
    rw[(W.none this).2,jf]
    trivial
   ·have hx2:aN lo (aN k0 rc.1++N)=aN x rc.1++N:=by
     rw[dx _ _ _ (by rw[ne_eq,jN];exact jf),yX]
     congr 1
     have hxl:x=lo:=by
      rcases Mp c with e2|⟨_,e2⟩
      ·have:=Ux c []
       rw[XZ,List.nil_append,List.nil_append,List.append_nil,List.append_nil] at this
       rw[←hx,←this]
       exact iY lo (by simp)
      ·rw[←hx,e2]
       exact iY lo (by simp)
     rw[hxl]
    rw[List.nil_append,hx2]
    exact hW
  ·rw[hP2 _ e,←Uz e]
   exact hW
 ·rw[aS,aS,aS,aS,gR,QA,W.bE,Qx]
 ·rw[aT,aT,aT,aT,pV,QB,←Qy]
  have hp:=W.bg
  rw[f1] at hp
  generalize b_ (k+1) r.1=a at*
  generalize b_ (k+1) (A'++(zA,c)::B)=b at*
  generalize b_ (k+1) P=pp
  generalize b_ (k+1) N=nn
  simp only[List.append_assoc]
  refine List.Perm.append_left _ ?_
  have h1:(a++(nn++rc.2)).Perm ((a++rc.2)++nn):=by
   rw[List.append_assoc]
   exact List.Perm.append_left _ List.perm_append_comm
  refine h1.trans ((List.Perm.append_right _ hp).trans ?_)
  rw[List.append_assoc]
  exact List.Perm.append_left _ List.perm_append_comm
 ·rw[bF,bF,bF,bF,pW,QC,W.dr,Qz,kI]
  omega
 ·have hs:=W.size
  rw[kI] at hs
  rw[b9,b9,b9,b9]
  have e1:sz (k+1) (aN k0 rc.1)≤sz (k+1) (A++(kc,c)::B)+100*big k [(kc,c)]:=by
   have QD:A++(kc,c)::B≠[]:=by simp
   have gP:sz (k+1) (aN x (A++(kc,c)::B))=sz (k+1) (A'++(zA,c)::B):=by
    rcases Mp c with e2|⟨_,e2⟩
    ·have:x=k0:=by rw[←hx,e2,mK]
     rw[this,←mK,sX,e2]
    ·rw[e2]
     have:x=lo:=by rw[←hx,e2];exact iY lo QD
     rw[this]
   have lY:∀y:Tx,sz (k+1) (aN y (A++(kc,c)::B))+k0.length=sz (k+1) (A++(kc,c)::B)+y.length:=by
    intro y
    obtain⟨q,l,e⟩:=List.exists_cons_of_ne_nil QD
    rw[e,setHd_cons]
    have:q.1=k0:=by rw[←mK,e];rfl
    simp only[sz,cw]
    rw[←this]
    omega
   have:=lY x
   rw[f2] at hs
   cases jf:rc.1 with
   |nil=>exact Nat.zero_le _
   |cons q l=>
    rw[jf,setHd_cons] at hs
    rw[setHd_cons]
    simp only[sz,cw] at hs ⊢
    omega
  omega
 ·intro ho p hp
  by_cases e:P=[]
  ·subst e
   cases jf:rc.1 with
   |nil=>
    have:r.1=[]:=by rw[f2,jf];rfl
    rw[jf,(W.none this).2] at hp
    cases hp
   |cons q l=>
    rw[jf] at hp
    cases hp
    exact (W.head (x,q.2) (by rw[f2,jf];rfl)).2
  ·obtain⟨q,P2,rfl⟩:=List.exists_cons_of_ne_nil e
   cases hp
   exact ho _ (by simp)
end Tr
end Go.Proofs.YtloekpcncjocaaaGreatDoor
namespace Go.Proofs.YtloekpcncjocaaaGreatDoor
open Go.RowKit Lib
def gD (hi:List UInt8):Option Tr.Tx:=if hi=[] then none else some hi
def cg:(k:Nat)→Tr.E k→List UInt8
 |0,v=>v
 |_+1,n=>pv ((Tr.hd n).page.getD 0)
def af (k:Nat) (l:List (Tr.Tx×Tr.E k)):List It:=l.map fun p=>⟨p.1,cg k p.2,none⟩
def bM (pg:List (Option Wl.Text)):(k:Nat)→Tr.E k→Prop
 |0,_=>True
 |k+1,n=>(∃page,(Tr.hd n).page=some page∧page<65536∧pg.getD page none=some (Dk.full (bH k (af k (Tr.its n)))))∧(Tr.hd n).fresh=false∧∀p∈Tr.its n,bM pg k p.2
def oQ:Option Nat→Int
 |none=>-1
 |some p=>p
def gE (pg:List (Option Wl.Text)) (k:Nat) (R:Nat→Tr.E (k+1)→List Nat→Prop) (i:It) (x:Tr.Tx×Tr.E (k+1)) (f:List Nat):Prop:=
 i.key=x.1∧i.val.length=2∧((i.node=none∧f=[]∧i.val=cg (k+1) x.2∧bM pg (k+1) x.2)∨∃q,i.node=some q∧R q x.2 f)
def aI (pg:List (Option Wl.Text)) (k:Nat) (R:Nat→Tr.E (k+1)→List Nat→Prop):List It→List (Tr.Tx×Tr.E (k+1))→List (List Nat)→Prop
 |[],[],[]=>True
 |i::is,x::xs,f::fs=>gE pg k R i x f∧aI pg k R is xs fs
 |_,_,_=>False
structure iC (pg:List (Option Wl.Text)) (k:Nat) (n:NV) (t:Tr.E (k+1)):Prop where
 level:n.level=k
 page:n.page=oQ (Tr.hd t).page
 fresh:n.fresh=(Tr.hd t).fresh
 near:Tr.fJ k n.lo (gD n.hi) t
 held:(Tr.hd t).fresh=false→∃page,(Tr.hd t).page=some page∧page<65536∧pg.getD page none=some (Dk.full (bH k (af k (Tr.its t))))∧(0<k→∀p∈Tr.its t,(match k,p.2 with|0,_=>True|_+1,c=>(Tr.hd c).page.isSome=true))
def b8 (M:Nat→Option NV) (pg:List (Option Wl.Text)):(k:Nat)→Nat→Tr.E (k+1)→List Nat→Prop
 |0,p,t,F=>∃n,M p=some n∧iC pg 0 n t∧n.its=af 0 (Tr.its t)∧F=[p]
 |k+1,p,t,F=>∃n fs,M p=some n∧iC pg (k+1) n t∧aI pg k (b8 M pg k) n.its (Tr.its t) fs∧F=p::fs.flatten
section
variable {M M':Nat→Option NV} {pg:List (Option Wl.Text)} {k:Nat} {R R':Nat→Tr.E (k+1)→List Nat→Prop}
theorem gE.mono {i:It} {x:Tr.Tx×Tr.E (k+1)} {f:List Nat} (h:gE pg k R i x f) (hR:∀q,i.node=some q→R q x.2 f→R' q x.2 f):gE pg k R' i x f:=by
 obtain⟨h1,h2,h3⟩:=h
 refine⟨h1,h2, ?_⟩
 rcases h3 with h3|⟨q,hq,h3⟩
 ·exact .inl h3
 ·exact .inr ⟨q,hq,hR q hq h3⟩
theorem aI.mono:∀{is:List It} {xs:List (Tr.Tx×Tr.E (k+1))} {fs:List (List Nat)},aI pg k R is xs fs→(∀q c f,f∈fs→R q c f→R' q c f)→aI pg k R' is xs fs
 |[],[],[],_,_=>trivial
 |_::_,_::_,f::_,h,hR=>⟨h.1.mono fun _ _ h'=>hR _ _ f List.mem_cons_self h',aI.mono h.2 fun q c g hg=>hR q c g (List.mem_cons_of_mem _ hg)⟩
 |[],[],_::_,h,_=>h.elim
 |[],_::_,_,h,_=>h.elim
 |_::_,[],_,h,_=>h.elim
 |_::_,_::_,[],h,_=>h.elim
theorem aI.len:∀{is:List It} {xs:List (Tr.Tx×Tr.E (k+1))} {fs:List (List Nat)},aI pg k R is xs fs→is.length=xs.length∧fs.length=xs.length
 |[],[],[],_=>⟨rfl,rfl⟩
 |_::_,_::_,_::_,h=>by have:=aI.len h.2;simp only[List.length_cons];omega
 |[],[],_::_,h=>h.elim
 |[],_::_,_,h=>h.elim
 |_::_,[],_,h=>h.elim
 |_::_,_::_,[],h=>h.elim
theorem aI.append:∀{is:List It} {xs:List (Tr.Tx×Tr.E (k+1))} {fs:List (List Nat)} {O1:List It} {xs':List (Tr.Tx×Tr.E (k+1))} {fs':List (List Nat)},aI pg k R is xs fs→aI pg k R O1 xs' fs'→aI pg k R (is++O1) (xs++xs') (fs++fs')
 |[],[],[],_,_,_,_,h=>h
 |_::_,_::_,_::_,_,_,_,h,h'=>⟨h.1,aI.append h.2 h'⟩
 |[],[],_::_,_,_,_,h,_=>h.elim
 |[],_::_,_,_,_,_,h,_=>h.elim
 |_::_,[],_,_,_,_,h,_=>h.elim
 |_::_,_::_,[],_,_,_,h,_=>h.elim
theorem aI.parts:∀{xs xs':List (Tr.Tx×Tr.E (k+1))} {is:List It} {fs:List (List Nat)},aI pg k R is (xs++xs') fs→∃i1 i2 f1 f2,is=i1++i2∧fs=f1++f2∧aI pg k R i1 xs f1∧aI pg k R i2 xs' f2
 |[],_,is,fs,h=>⟨[],is,[],fs,rfl,rfl,trivial,h⟩
 |x::xs,xs',i::is,f::fs,h=>by
  obtain⟨i1,i2,f1,f2,rfl,rfl,h1,h2⟩:=aI.parts (xs:=xs) h.2
  exact⟨i::i1,i2,f::f1,f2,rfl,rfl,⟨h.1,h1⟩,h2⟩
 |_::_,_,[],_,h=>h.elim
 |_::_,_,_::_,[],h=>h.elim
theorem aI.cons_inv {x:Tr.Tx×Tr.E (k+1)} {xs:List (Tr.Tx×Tr.E (k+1))} {is:List It} {fs:List (List Nat)} (h:aI pg k R is (x::xs) fs):∃i O1 f fs',is=i::O1∧fs=f::fs'∧gE pg k R i x f∧aI pg k R O1 xs fs':=by
 match is,fs,h with
 |i::is,f::fs,h=>exact⟨i,is,f,fs,rfl,rfl,h.1,h.2⟩
 |[],_,h=>exact h.elim
 |_::_,[],h=>exact h.elim
theorem aI.rI {is:List It} {fs:List (List Nat)} (h:aI pg k R is [] fs):is=[]∧fs=[]:=by
 match is,fs,h with
 |[],[],_=>exact⟨rfl,rfl⟩
 |_::_,_,h=>exact h.elim
 |[],_::_,h=>exact h.elim
end
section
variable {M M':Nat→Option NV} {pg:List (Option Wl.Text)}
theorem b8.head:∀{k p:Nat} {t:Tr.E (k+1)} {F:List Nat},b8 M pg k p t F→∃n,M p=some n∧iC pg k n t∧p∈F
 |0,_,_,_,⟨n,h1,h2,_,h4⟩=>⟨n,h1,h2,by rw[h4];exact List.mem_cons_self⟩
 |_+1,_,_,_,⟨n,_,h1,h2,_,h4⟩=>⟨n,h1,h2,by rw[h4];exact List.mem_cons_self⟩
theorem b8.frame:∀{k p:Nat} {t:Tr.E (k+1)} {F:List Nat},b8 M pg k p t F→(∀q∈F,M' q=M q)→b8 M' pg k p t F
 |0,_,_,_,⟨n,h1,h2,h3,h4⟩,hF=>⟨n,by rw[hF _ (by rw[h4];exact List.mem_cons_self)];exact h1,h2,h3,h4⟩
 |k+1,_,_,_,⟨n,fs,h1,h2,h3,h4⟩,hF=>⟨n,fs,by rw[hF _ (by rw[h4];exact List.mem_cons_self)];exact h1,h2,h3.mono fun _ _ f hf hr=>b8.frame hr fun q hq=>hF q (by rw[h4];exact List.mem_cons_of_mem _ (List.mem_flatten.2 ⟨f,hf,hq⟩)),h4⟩
theorem aI.frame {k:Nat} {is:List It} {xs:List (Tr.Tx×Tr.E (k+1))} {fs:List (List Nat)} (h:aI pg k (b8 M pg k) is xs fs) (hF:∀q∈fs.flatten,M' q=M q):aI pg k (b8 M' pg k) is xs fs:=
 h.mono fun _ _ f hf hr=>b8.frame hr fun q hq=>hF q (List.mem_flatten.2 ⟨f,hf,hq⟩)
end
theorem mP:∀(l:List (Tr.Tx×Tr.E 0)),bz (af 0 l)=Tr.sz 0 l
 |[]=>rfl
 |p::l=>by
  show 2+p.1.length+(cg 0 p.2).length+bz (af 0 l)=_
  rw[mP l];rfl
theorem NB (p:Nat):(pv p).length=2:=rfl
theorem mQ (k:Nat):∀(l:List (Tr.Tx×Tr.E (k+1))),bz (af (k+1) l)=Tr.sz (k+1) l
 |[]=>rfl
 |p::l=>by
  show 2+p.1.length+(cg (k+1) p.2).length+bz (af (k+1) l)=_
  rw[mQ k l];rfl
theorem fB:∀(k:Nat) (l:List (Tr.Tx×Tr.E k)),bz (af k l)=Tr.sz k l
 |0,l=>mP l
 |k+1,l=>mQ k l
theorem aI.sz {pg:List (Option Wl.Text)} {k:Nat} {R:Nat→Tr.E (k+1)→List Nat→Prop}:∀{is:List It} {xs:List (Tr.Tx×Tr.E (k+1))} {fs:List (List Nat)},aI pg k R is xs fs→bz is=Tr.sz (k+1) xs
 |[],[],[],_=>rfl
 |i::is,x::xs,_::fs,h=>by
  have ih:=aI.sz h.2
  show 2+i.key.length+i.val.length+bz is=2+x.1.length+2+Tr.sz (k+1) xs
  rw[ih,h.1.1,h.1.2.1]
 |[],[],_::_,h=>h.elim
 |[],_::_,_,h=>h.elim
 |_::_,[],_,h=>h.elim
 |_::_,_::_,[],h=>h.elim
theorem aI.keys {pg:List (Option Wl.Text)} {k:Nat} {R:Nat→Tr.E (k+1)→List Nat→Prop}:∀{is:List It} {xs:List (Tr.Tx×Tr.E (k+1))} {fs:List (List Nat)},aI pg k R is xs fs→is.map It.key=xs.map (·.1)
 |[],[],[],_=>rfl
 |i::is,x::xs,_::fs,h=>by
  rw[List.map_cons,List.map_cons,aI.keys h.2,h.1.1]
 |[],[],_::_,h=>h.elim
 |[],_::_,_,h=>h.elim
 |_::_,[],_,h=>h.elim
 |_::_,_::_,[],h=>h.elim
theorem b8.sz {M:Nat→Option NV} {pg:List (Option Wl.Text)}:∀{k p:Nat} {t:Tr.E (k+1)} {F:List Nat} {n:NV},b8 M pg k p t F→M p=some n→bz n.its=Tr.sz k (Tr.its t)∧n.its.map It.key=(Tr.its t).map (·.1)∧n.its.length=(Tr.its t).length
 |0,_,t,_,n,⟨n',h1,_,h3,_⟩,hn=>by
  rw[hn] at h1
  injection h1 with h1
  subst h1
  rw[h3]
  exact⟨fB 0 _,by unfold af;rw[List.map_map];rfl,by unfold af;rw[List.length_map]⟩
 |k+1,_,t,_,n,⟨n',fs,h1,_,h3,_⟩,hn=>by
  rw[hn] at h1
  injection h1 with h1
  subst h1
  exact⟨h3.sz,h3.keys,h3.len.1⟩
namespace Tr
theorem sY {α:Type} {O:Tx→Option Tx→α→Prop} {C:α→Tx→α→Prop} {h:Option Tx} (hO:∀a u x,O a u x→qB a u):∀{l:List (Tx×α)},bT O C h l→(l.map (·.1)).Pairwise (fun a b=>lt a b=true)∧∀p∈l,qB p.1 h
 |[],_=>⟨List.Pairwise.nil,fun p hp=>by cases hp⟩
 |[a],s=>⟨List.pairwise_singleton _ _,fun p hp=>by rw[List.mem_singleton.1 hp];exact hO _ _ _ s⟩
 |a::b::r,s=>by
  obtain⟨h1,h2⟩:=sY hO (l:=b::r) s.2.2
  refine⟨?_,fun p hp=> ?_⟩
  ·rw[List.map_cons,List.pairwise_cons]
   refine⟨fun c hc=> ?_,h1⟩
   rw[List.map_cons] at hc h1
   rcases List.mem_cons.1 hc with rfl|hc
   ·exact s.2.1.1
   ·exact lt_trans s.2.1.1 ((List.pairwise_cons.1 h1).1 c hc)
  ·rcases List.mem_cons.1 hp with rfl|hp
   ·exact sr (le_of_lt s.2.1.1) (h2 b List.mem_cons_self)
   ·exact h2 p hp
theorem fX:∀(k:Nat) (l:List (Tx×E k)),2*l.length≤sz k l
 |_,[]=>Nat.zero_le _
 |k,p::l=>by
  have:=fX k l
  rw[List.length_cons,sz]
  unfold gh
  omega
end Tr
theorem KN {lo hi key:List UInt8} (h1:Tr.le lo key) (h2:Tr.qB key (gD hi)):hasB lo hi key=true:=by
 unfold hasB
 have e1:Tr.lt key lo=false:=h1
 rw[e1]
 by_cases hh:hi=[]
 ·subst hh;rfl
 ·have e2:Tr.lt key hi=true:=by unfold gD at h2;rw[if_neg hh] at h2;exact h2
  rw[e2]
  simp
theorem fD {k:Nat} {lo:Tr.Tx} {h:Option Tr.Tx} {l:List (Tr.Tx×Tr.E k)} (hw:Tr.Rw k lo h l):
  (l.map (·.1)).Pairwise (fun a b=>Tr.lt a b=true)∧(∀p∈(if k=0 then l else l.tail),Tr.le lo p.1∧Tr.qB p.1 h)∧∀p∈l,p.1.length≤96:=by
 obtain⟨h1,h2⟩:=hw
 have hO:∀a u (x:Tr.E k),Tr.Ok k a u x→Tr.qB a u:=fun a u x=>Tr.Ok.lt
 unfold Tr.pI at h2
 cases l with
 |nil=>exact⟨List.Pairwise.nil,(fun p hp=>by by_cases hk:k=0<;>simp[hk] at hp),fun p hp=>by cases hp⟩
 |cons a r=>
  have hh:=h1 a rfl
  by_cases hk:k=0
  ·rw[if_pos hk] at h2 hh ⊢
   obtain⟨k1,k2⟩:=Tr.sY hO h2
   refine⟨k1,fun p hp=>⟨?_,k2 p hp⟩,fun p hp=> ?_⟩
   ·rcases List.mem_cons.1 hp with rfl|hp
    ·exact hh.1
    ·rw[List.map_cons,List.pairwise_cons] at k1
     exact Tr.le_trans hh.1 (Tr.le_of_lt (k1.1 _ (List.mem_map_of_mem hp)))
   ·rcases List.mem_cons.1 hp with rfl|hp
    ·exact hh.2
    ·exact Tr.bT.lens h2 p hp
  ·rw[if_neg hk] at h2 hh ⊢
   have h2':Tr.bT (Tr.Ok k) (Tr.cut k) h ((lo,a.2)::r):=h2
   obtain⟨k1,k2⟩:=Tr.sY hO h2'
   rw[List.map_cons,List.pairwise_cons] at k1
   have hlo:∀p∈r,Tr.lt lo p.1=true:=fun p hp=>k1.1 _ (List.mem_map_of_mem hp)
   refine⟨?_,fun p hp=>⟨Tr.le_of_lt (hlo p hp),k2 p (List.mem_cons_of_mem _ hp)⟩,fun p hp=> ?_⟩
   ·rw[List.map_cons,List.pairwise_cons]
    refine⟨fun c hc=> ?_,k1.2⟩
    rw[hh]
    have:=k1.1 c hc
    cases c with
    |nil=>exact absurd this (by rw[show Tr.lt lo []=false from by cases lo<;>rfl];decide)
    |cons _ _=>rfl
   ·rcases List.mem_cons.1 hp with rfl|hp
    ·rw[hh];exact Nat.zero_le _
    ·exact Tr.bT.lens h2' p hp
theorem bV (k:Nat) (l:List (Tr.Tx×Tr.E k)):(af k l).map It.key=l.map (·.1):=by unfold af;rw[List.map_map];rfl
theorem sZ {its:List It} (h:(its.map It.key).Pairwise (fun a b=>Tr.lt a b=true)):Gf its:=by
 unfold Gf
 exact List.pairwise_map.1 h
theorem eP {pg:List (Option Wl.Text)} {k page:Nat} {c:Tr.E (k+1)} {lo hi:List UInt8} (hk:k≤15) (hs:bM pg (k+1) c) (hp:(Tr.hd c).page=some page) (ho:Tr.Ok (k+1) lo (gD hi) c):KG pg page k (af k (Tr.its c)) lo hi:=by
 obtain⟨⟨Mq,hp',_,uQ⟩,_,oR⟩:=hs
 rw[hp] at hp'
 injection hp' with hp'
 subst hp'
 obtain⟨o1,o2,o3⟩:=ho
 obtain⟨k1,k2,k3⟩:=fD o3
 have hsz:=fB k (Tr.its c)
 have hlen:(af k (Tr.its c)).length=(Tr.its c).length:=by unfold af;rw[List.length_map]
 refine⟨uQ,fun rg cap=>⟨hk, ?_, ?_, ?_, ?_⟩, ?_, ?_,by rw[hsz];exact o2, ?_⟩
 ·show af k (Tr.its c)≠[]
  intro e
  have:(af k (Tr.its c)).length=0:=by rw[e];rfl
  rw[hlen] at this
  exact o1 (List.eq_nil_of_length_eq_zero this)
 ·show 0<k→∀h:0<(af k (Tr.its c)).length,(af k (Tr.its c))[0].key=[]
  intro mK h
  have hne:0<(Tr.its c).length:=by rw[←hlen];exact h
  have hh:=o3.1 ((Tr.its c)[0]) (by rw[List.head?_eq_getElem?,List.getElem?_eq_getElem hne])
  rw[if_neg (by omega)] at hh
  have e:(af k (Tr.its c))[0]=⟨((Tr.its c)[0]).1,cg k ((Tr.its c)[0]).2,none⟩:=List.getElem_map ..
  rw[e]
  exact hh
 ·exact sZ (by rw[show (NV.read k (af k (Tr.its c)) rg cap).its=af k (Tr.its c) from rfl,bV];exact k1)
 ·show ∀i∈af k (Tr.its c),i.key.length≤96∧i.val.length≤56∧(0<k→i.val.length=2)
  intro i hi'
  unfold af at hi'
  obtain⟨p,rJ,rfl⟩:=List.mem_map.1 hi'
  refine⟨k3 p rJ, ?_⟩
  match k,c,p,rJ,o3 with
  |0,c,p,rJ,o3=>
   have h2:Tr.bT (Tr.Ok 0) (Tr.cut 0) (gD hi) (Tr.its c):=o3.2
   obtain⟨u,hu⟩:=h2.each p rJ
   exact⟨hu.1,fun h=>absurd h (by decide)⟩
  |k+1,c,p,_,_=>exact⟨(by show (pv _).length≤56;rw[NB];decide),fun _=>rfl⟩
 ·rw[hlen]
  have:=Tr.fX k (Tr.its c)
  omega
 ·intro i hi'
  unfold af at hi'
  obtain⟨p,_,rfl⟩:=List.mem_map.1 hi'
  rfl
 ·intro i hi'
  have:∃p∈(if k=0 then Tr.its c else (Tr.its c).tail),i.key=p.1:=by
   by_cases mK:k=0
   ·rw[if_pos mK] at hi' ⊢
    unfold af at hi'
    obtain⟨p,rJ,rfl⟩:=List.mem_map.1 hi'
    exact⟨p,rJ,rfl⟩
   ·rw[if_neg mK] at hi' ⊢
    unfold af at hi'
    rw[←List.map_tail] at hi'
    obtain⟨p,rJ,rfl⟩:=List.mem_map.1 hi'
    exact⟨p,rJ,rfl⟩
  obtain⟨p,rJ,e⟩:=this
  rw[e]
  exact KN (k2 p rJ).1 (k2 p rJ).2
theorem b8.dom {M:Nat→Option NV} {pg:List (Option Wl.Text)}:∀{k p:Nat} {t:Tr.E (k+1)} {F:List Nat},b8 M pg k p t F→∀q∈F,∃m,M q=some m
 |0,p,_,_,⟨n,h1,_,_,h4⟩,q,hq=>by
  rw[h4] at hq
  rw[List.mem_singleton.1 hq]
  exact⟨n,h1⟩
 |k+1,p,t,_,⟨n,fs,h1,_,h3,h4⟩,q,hq=>by
  rw[h4] at hq
  rcases List.mem_cons.1 hq with rfl|hq
  ·exact⟨n,h1⟩
  ·have key:∀{is:List It} {xs:List (Tr.Tx×Tr.E (k+1))} {fs:List (List Nat)},aI pg k (b8 M pg k) is xs fs→∀q∈fs.flatten,∃m,M q=some m:=by
    intro is
    induction is with
    |nil=>
     intro xs fs h q hq
     cases xs with
     |nil=>cases fs with
      |nil=>cases hq
      |cons _ _=>exact h.elim
     |cons _ _=>exact h.elim
    |cons i is ih=>
     intro xs fs h q hq
     cases xs with
     |nil=>exact h.elim
     |cons x xs=>cases fs with
      |nil=>exact h.elim
      |cons f fs=>
       rw[List.flatten_cons] at hq
       rcases List.mem_append.1 hq with hq|hq
       ·obtain⟨⟨_,_,hi⟩,_⟩:=h
        rcases hi with⟨_,e,_⟩|⟨r,_,hr⟩
        ·rw[e] at hq;cases hq
        ·exact b8.dom hr q hq
       ·exact ih h.2 q hq
   exact key h3 q hq
theorem aI.dom {M:Nat→Option NV} {pg:List (Option Wl.Text)} {k:Nat}:∀{is:List It} {xs:List (Tr.Tx×Tr.E (k+1))} {fs:List (List Nat)},aI pg k (b8 M pg k) is xs fs→∀q∈fs.flatten,∃m,M q=some m
 |[],[],[],_,q,hq=>by cases hq
 |i::is,x::xs,f::fs,h,q,hq=>by
  rw[List.flatten_cons] at hq
  rcases List.mem_append.1 hq with hq|hq
  ·obtain⟨⟨_,_,hi⟩,_⟩:=h
   rcases hi with⟨_,e,_⟩|⟨r,_,hr⟩
   ·rw[e] at hq;cases hq
   ·exact b8.dom hr q hq
  ·exact aI.dom h.2 q hq
 |[],[],_::_,h,_,_=>h.elim
 |[],_::_,_,h,_,_=>h.elim
 |_::_,[],_,h,_,_=>h.elim
 |_::_,_::_,[],h,_,_=>h.elim
theorem eR {pg:List (Option Wl.Text)} {k:Nat} {R:Nat→Tr.E (k+1)→List Nat→Prop}:∀{l:List (Tr.Tx×Tr.E (k+1))},(∀p∈l,bM pg (k+1) p.2)→aI pg k R (af (k+1) l) l (l.map fun _=>[])
 |[],_=>trivial
 |p::l,h=>⟨⟨rfl,rfl,.inl ⟨rfl,rfl,rfl,h p List.mem_cons_self⟩⟩,eR (l:=l) fun q hq=>h q (List.mem_cons_of_mem _ hq)⟩
theorem fE {α β:Type} (l:List α):(l.map fun _=>([]:List β)).flatten=[]:=by
 induction l with
 |nil=>rfl
 |cons a l ih=>rw[List.map_cons,List.flatten_cons,ih];rfl
theorem nB {pg:List (Option Wl.Text)} {k page:Nat} {c:Tr.E (k+1)} {lo hi:List UInt8} {rg cap:Nat} (hs:bM pg (k+1) c) (hp:(Tr.hd c).page=some page) (ho:Tr.Ok (k+1) lo (gD hi) c):iC pg k (NV.got k (af k (Tr.its c)) rg cap page lo hi) c:=by
 obtain⟨⟨Mq,hp',hlt,uQ⟩,hfr,oR⟩:=hs
 rw[hp] at hp'
 injection hp' with hp'
 subst hp'
 refine⟨rfl,by rw[hp];rfl,hfr.symm,ho.near,fun _=>⟨page,hp,hlt,uQ,fun hk p hm=> ?_⟩⟩
 match k,c,p,oR p hm with
 |0,_,_,_=>trivial
 |k+1,_,_,hst=>obtain⟨⟨pq,e,_⟩,_⟩:=hst;show (Tr.hd _).page.isSome=true;rw[e];rfl
theorem C8 {M:Nat→Option NV} {pg:List (Option Wl.Text)} {k page p:Nat} {c:Tr.E (k+1)} {lo hi:List UInt8} {rg cap:Nat} (hs:bM pg (k+1) c) (hp:(Tr.hd c).page=some page) (ho:Tr.Ok (k+1) lo (gD hi) c) (hM:M p=some (NV.got k (af k (Tr.its c)) rg cap page lo hi)):b8 M pg k p c [p]:=by
 have hown:=nB (rg:=rg) (cap:=cap) hs hp ho
 match k,c,hs,hp,ho,hM,hown with
 |0,c,hs,hp,ho,hM,hown=>exact⟨_,hM,hown,rfl,rfl⟩
 |k+1,c,hs,hp,ho,hM,hown=>
  refine⟨_,(Tr.its c).map fun _=>[],hM,hown,eR hs.2.2, ?_⟩
  rw[fE]
theorem xD {α:Type} {O:Tr.Tx→Option Tr.Tx→α→Prop} {C:α→Tr.Tx→α→Prop} {h:Option Tr.Tx} {A:List (Tr.Tx×α)} {x:Tr.Tx×α} {B:List (Tr.Tx×α)} (s:Tr.bT O C h (A++x::B)):O x.1 (Tr.rG h B) x.2:=by
 have s2:=Tr.bT.behind s
 cases B with
 |nil=>exact s2
 |cons b B=>exact s2.1
theorem cS {α:Type} (f:α→List UInt8) (A:List α) (b:α) (B:List α):((A++b::B).map f).getD A.length []=f b:=by
 rw[List.getD_eq_getElem?_getD,List.getElem?_map,List.getElem?_append_right (Nat.le_refl _),Nat.sub_self]
 rfl
theorem jw {k:Nat} {n:NV} {t:Tr.E (k+2)} {A B:List (Tr.Tx×Tr.E (k+1))} {key:Tr.Tx} {c:Tr.E (k+1)} (hn:Tr.fJ (k+1) n.lo (gD n.hi) t) (ht:Tr.its t=A++(key,c)::B) (hks:n.its.map It.key=(Tr.its t).map (·.1)):
  Tr.Ok (k+1) (cZ n A.length) (gD (cL n A.length)) c:=by
 obtain⟨_,_,h4⟩:=hn
 rw[Tr.b7,ht] at h4
 have hlen:n.its.length=(A++(key,c)::B).length:=by
  have:=congrArg List.length hks
  rwa [List.length_map,List.length_map,ht] at this
 have hlo:cZ n A.length=if A=[] then n.lo else key:=by
  unfold cZ
  cases A with
  |nil=>rfl
  |cons a A=>
   rw[if_neg (by simp),if_neg (by simp),hks,ht]
   exact cS (·.1) (a::A) (key,c) B
 have hB:∀b B',B=b::B'→cL n A.length=b.1:=by
  intro b B' e
  unfold cL
  rw[if_pos (by rw[hlen,e];simp),hks,ht,e]
  have:=cS (·.1) (A++[(key,c)]) b B'
  rw[List.append_assoc,List.length_append] at this
  exact this
 have UB:B=[]→cL n A.length=n.hi:=by
  intro e
  unfold cL
  rw[if_neg (by rw[hlen,e];simp)]
 have gF:Tr.Ok (k+1) (if A=[] then n.lo else key) (Tr.rG (gD n.hi) B) c∧(∀b B',B=b::B'→b.1≠[]):=by
  cases A with
  |nil=>
   have h4':Tr.bT (Tr.Ok (k+1)) (Tr.cut (k+1)) (gD n.hi) ([]++(n.lo,c)::B):=h4
   refine⟨by rw[if_pos rfl];exact xD h4',fun b B' e=> ?_⟩
   rw[e] at h4'
   have:=h4'.2.1.1
   intro eb
   rw[eb] at this
   rw[show Tr.lt n.lo []=false from by cases n.lo<;>rfl] at this
   cases this
  |cons a A=>
   have h4':Tr.bT (Tr.Ok (k+1)) (Tr.cut (k+1)) (gD n.hi) (((n.lo,a.2)::A)++(key,c)::B):=h4
   refine⟨by rw[if_neg (by simp)];exact xD h4',fun b B' e=> ?_⟩
   rw[e] at h4'
   have:=(Tr.bT.append.1 h4').2.1.1
   intro eb
   rw[eb] at this
   rw[show Tr.lt key []=false from by cases key<;>rfl] at this
   cases this
 rw[hlo]
 cases B with
 |nil=>rw[UB rfl];exact gF.1
 |cons b B'=>
  rw[hB b B' rfl]
  have:gD b.1=some b.1:=by unfold gD;rw[if_neg (gF.2 b B' rfl)]
  rw[this]
  exact gF.1
end Go.Proofs.YtloekpcncjocaaaGreatDoor
