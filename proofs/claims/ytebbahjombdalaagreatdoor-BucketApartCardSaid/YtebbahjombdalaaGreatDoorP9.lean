/- Elder texts, cut down and merged (9). -/
import Derived.Test.YtebbahjombdalaaGreatDoorP7
import Derived.Test.YtebbahjombdalaaGreatDoorP8
import Derived.Test.YtebbahjombdalaaGreatDoorP1
import Derived.Test.YtebbahjombdalaaGreatDoorP4
import Derived.Test.YtebbahjombdalaaGreatDoorPTk
set_option maxRecDepth 100000
set_option maxHeartbeats 8000000
namespace Go.Proofs.YtebbahjombdalaaGreatDoor
open List renaming getD_eq_getElem?_getD→bT,getElem?_eq_getElem→aJ,getElem_mem→bB,setIfInBounds_toArray→az,set_cons_succ→ay,set_cons_zero→au,append_assoc→aB,append_nil→bh,perm_append_comm→l7,mem_singleton→cH,mem_cons→aQ,mem_cons_self→aA,mem_cons_of_mem→aF,mem_append→ah,exists_cons_of_ne_nil→rL,nil_append→dF,length_cons→aW,map_cons→bH,length_map→aM,pairwise_cons→cw,flatten_cons→cU,length_append→aq
open Nat renaming add_assoc→gd,le_trans→aG,zero_le→aC,le_refl→af,zero_add→bV,succ_ne_zero→cT
open World renaming drew→bD
section
open Go.RowKit Lib
section
variable {E:Ev} {X0 X X':World} {R0 R R' S:Nat→Prop} {ps ps':List (Nat×List UInt8)} {pg cP:List (Option Wl.Text)} {rt rt':List Nat} {M M':Nat→Option NV} {p q:Nat} {n m:NV}
structure Na (pg:List (Option Wl.Text)) (page level:Nat) (its:List It) (lo hi:List UInt8):Prop where
 page:pg.getD page none=some (Dk.full (cB level its))
 sound:∀rg cap,Sound (NV.read level its rg cap)
 len:its.length≤255
 none:∀i∈its,i.node=none
 size:cj its≤510
 within:∀i∈(if level=0 then its else its.tail),hasB lo hi i.key=true
theorem nh (h:TS E X0 R0 R ps pg rt M X) (hp:M p=some n) (j:Nat) (hj:j<n.its.length) (page:Nat) (nP:page<65536) (hv:n.its[j].val=pv page) (level:Nat) (hlv:n.level=level+1) (its:List It) (hh:Na pg page level its (eF n j) (dW n j)):
  Calls Tryz.prog 123 #[ptr E.tb,ptr p,.int .i64 j] X fun e X'=>qj E X0 R0 R ps pg rt M X (fun rg cap=>NV.got level its rg cap page (eF n j) (dW n j)) e X':=by
 have hnd:=h.mem.nd p n hp
 have c1:=hnd.c1
 have dH:=hnd.blk.lt
 have hl:=hnd.small.len
 have iY:(n.its.length:Int)≤400:=by omega
 have FU:(j:Int)<n.its.length:=by omega
 obtain⟨s1,s2,s3⟩:=aV hnd.row j hj
 rw[hv] at s2
 have HI:=aa h
 have HN:=aa (And.intro hnd (And.intro hj hp))
 have HH:=aa hh
 have HV:=aa (And.intro hlv nP)
 obtain⟨L,hL⟩:∃L,L=n.its.length:=⟨_,rfl⟩
 rw[←hL] at c1 iY FU
 have hp2:=aa (CQ X page nP)
 generalize hpv:bs (pv page)=pvb at*
 clear h hnd hh hv hl nP hL
 go_enter Tryz.func123,Tryz.ntmps123
 unfold ptr
 go_wp2_with fail
 refine hp2.o.mono ?_
 rintro e X1 ⟨rfl,bF⟩
 have H1:=aa (show TS E X0 R0 R ps pg rt M X1∧Below X.heap.size X X1 from⟨HI.o.still bF (fun _ h=>h) (fun _ h=>.inl h),bF⟩)
 clear bF
 go_wp2_with fail
 refine (As (H1.o.1.mem.nd p n HN.o.2.2) j HN.o.2.1).mono ?_
 rintro e X2 ⟨rfl,aP⟩
 have H2:=aa (show TS E X0 R0 R ps pg rt M X2∧Below X.heap.size X X2 from⟨H1.o.1.still aP (fun _ h=>h) (fun _ h=>.inl h),H1.o.2.trans (aP.mono H1.o.2.size)⟩)
 clear aP
 go_wp2_with fail
 refine (xI H2.o.1 page level its (eF n j) (dW n j) HH.o.page HH.o.sound HH.o.len HH.o.none HH.o.size HH.o.within).mono ?_
 rintro e X3 ⟨c,rg,cap,R3,rfl,h3,bY,LW,Cs,ZV,Th⟩
 unfold ptr
 have IB:p≠c:=fun e=>by
  have:=(H2.o.1.mem.lt HN.o.2.2).1
  omega
 have H3:=aa (show qj E X0 R0 R ps pg rt M X (fun rg cap=>NV.got level its rg cap page (eF n j) (dW n j)) (.returned (.tuple #[ptr c,.int .i64 0])) X3 from⟨c,rg,cap,R3,rfl,h3,H2.o.2.trans (bY.mono H2.o.2.size),by have:=H2.o.2.size;omega,by have:=H2.o.2.size;omega,ZV,fun k hk=>(Th k hk).imp_right fun h=>by have:=H2.o.2.size;omega⟩)
 have d0:=(h3.mem.nd c _ (bz _ _ _)).c0
 have d1:=(h3.mem.nd p n ((aO IB).trans HN.o.2.2)).c0
 have Ti:((NV.got level its rg cap page (eF n j) (dW n j)).level:Int)=level:=rfl
 have W3:(n.level:Int)-1=level:=by have:=HV.o.1;omega
 have aat:IntKind.i64.wrap ((n.level:Int)-1)=level:=by rw[W3];exact cN _ (by have:=(HH.o.sound 0 0).level;have h5:level≤15:=this;omega)
 rw[Ti] at d0
 clear h3 bY LW Cs ZV Th s1 s2 s3 c1 Ti hj
 have aau:IntKind.i64.wrap (level:Int)=level:=cN _ (by have:=(HH.o.sound 0 0).level;have h5:level≤15:=this;omega)
 go_wp2_with fail
 go_quiet (fail)
 have HE:=aa (show qj E X0 R0 R ps pg rt M X (fun rg cap=>NV.got level its rg cap page (eF n j) (dW n j)) (.returned (.tuple #[ptr c,.int .i64 0])) (X3.drewN nq) from by
  obtain⟨p',rg',cap',R',e,ht,hb,h1,h2,h3,h4⟩:=H3.o
  exact⟨p',rg',cap',R',e,ht.still (ep _ _) (fun _ h=>h) (fun _ h=>.inl h),hb.trans ((ep X3 nq).mono hb.size),h1,h2,h3,h4⟩)
 go_wp2
 go_ret2
 exact HE.o
theorem sG (h:TS E X0 R0 R ps pg rt M X) (hp:M p=some n) (j:Nat) (hj:j<n.its.length) (hq:n.its[j].node=some q):
  Calls Tryz.prog 79 #[ptr E.tb,ptr p,.int .i64 j] X fun e X'=>e=.returned (.tuple #[ptr q,.int .i64 0])∧X'=X:=by
 have hnd:=h.mem.nd p n hp
 have c1:=hnd.c1
 have hl:=hnd.small.len
 have iY:(n.its.length:Int)≤400:=by omega
 have FU:(j:Int)<n.its.length:=by omega
 obtain⟨s1,s2,s3⟩:=aV hnd.row j hj
 rw[hq] at s3
 have s3':X.cell? ⟨n.rg,n.ro+j*3+2,none⟩=some (.pointer (some ⟨q,0,none⟩)):=s3
 clear h hnd hq hl s3 hp
 go_enter Tryz.func79,Tryz.ntmps79
 unfold ptr
 go_wp2
 go_ret2
 exact⟨rfl,rfl⟩
def ET (E:Ev) (X0:World) (R0 R:Nat→Prop) (ps:List (Nat×List UInt8)) (pg:List (Option Wl.Text)) (rt:List Nat) (M:Nat→Option NV) (X:World) (p j:Nat) (n:NV) (got:Nat→Nat→NV) (e:Ending) (X':World):Prop:=
 ∃c rg cap R',e=.returned (.tuple #[ptr c,.int .i64 0])∧TS E X0 R0 R' ps pg rt (upd (upd M c (got rg cap)) p {n with its:=n.its.set j {(n.its.getD j ⟨[],[],none⟩) with node:=some c}}) X'∧X.heap.size≤c∧X.heap.size≤rg∧aE (fun k=>k=n.rg) X X'∧(∀k,R k→R' k)∧∀k,R' k→R k∨X.heap.size≤k
theorem Gl (h:TS E X0 R0 R ps pg rt M X) (hp:M p=some n) (j:Nat) (hj:j<n.its.length) (got:Nat→Nat→NV) {c rg cap:Nat} {R1:Nat→Prop} {X1:World} (h1:TS E X0 R0 R1 ps pg rt (upd M c (got rg cap)) X1) (hb:Below X.heap.size X X1) (hc:X.heap.size≤c) (hr:X.heap.size≤rg) (hR:∀k,R k→R1 k) (Cq:∀k,R1 k→R k∨X.heap.size≤k):
  ET E X0 R0 R ps pg rt M X p j n got (.returned (.tuple #[ptr c,.int .i64 0])) (X1.setCell ⟨n.rg,n.ro+(j*3+2),none⟩ (.pointer (some ⟨c,0,none⟩))):=by
 have dH:=h.mem.lt hp
 have hpc:p≠c:=by omega
 have hp1:upd M c (got rg cap) p=some n:=(aO hpc).trans hp
 have hnd:=h.mem.nd p n hp
 have jf:n.its.getD j ⟨[],[],none⟩=n.its[j]:=by rw[bT,aJ hj];rfl
 refine⟨c,rg,cap,R1,rfl, ?_,hc,hr, ?_,hR,Cq⟩
 ·rw[jf]
  have hm:=h1.mem.item hp1 j 2 hj (by decide) {n.its[j] with node:=some c} (.pointer (some ⟨c,0,none⟩)) rfl (by have:=hnd.small.each n.its[j] (bB hj);exact this)
  refine h1.own (S:=fun k=>k=n.rg) ((aE.refl (fun k=>k=n.rg) X1).setCell _ _ fun _=>rfl) (fun k _ e=>by rw[e];exact h1.jR _ ⟨p,n,hp1,.inr rfl⟩) hm ?_ (fun _ h=>h) (fun _ h=>.inl h)
  rintro k ⟨q,m,hq,hk⟩
  rcases aI hq with⟨rfl,rfl⟩|⟨_,hq⟩
  ·exact h1.jR k ⟨_,n,hp1,hk⟩
  ·exact h1.jR k ⟨q,m,hq,hk⟩
 ·exact ((aE.aH hb (fun k=>k=n.rg)).trans ((aE.refl (fun k=>k=n.rg) X1).setCell _ _ fun _=>rfl) (fun _ _ h=>h))
theorem rJ (h:TS E X0 R0 R ps pg rt M X) (hp:M p=some n) (j:Nat) (hj:j<n.its.length) (hq:n.its[j].node=none) (page:Nat) (nP:page<65536) (hv:n.its[j].val=pv page) (level:Nat) (hlv:n.level=level+1) (its:List It) (hh:Na pg page level its (eF n j) (dW n j)):
  Calls Tryz.prog 79 #[ptr E.tb,ptr p,.int .i64 j] X fun e X'=>ET E X0 R0 R ps pg rt M X p j n (fun rg cap=>NV.got level its rg cap page (eF n j) (dW n j)) e X':=by
 have hnd:=h.mem.nd p n hp
 have c1:=hnd.c1
 have hl:=hnd.small.len
 have iY:(n.its.length:Int)≤400:=by omega
 have FU:(j:Int)<n.its.length:=by omega
 obtain⟨s1,s2,s3⟩:=aV hnd.row j hj
 rw[hq] at s3
 have s3':X.cell? ⟨n.rg,n.ro+j*3+2,none⟩=some (.pointer none):=s3
 have HC:=aa (nh h hp j hj page nP hv level hlv its hh)
 have HI:=aa (And.intro h hp)
 have HJ:=aa hj
 obtain⟨L,hL⟩:∃L,L=n.its.length:=⟨_,rfl⟩
 rw[←hL] at c1 iY FU
 unfold ptr at HC
 have HL:=aa hL
 clear h hnd hq hl s1 s2 s3 hp hv hlv hh nP hL
 go_enter Tryz.func79,Tryz.ntmps79
 unfold ptr
 go_wp2_with fail
 refine HC.o.mono ?_
 rintro e X1 ⟨c,rg,cap,R1,rfl,h1,bF,hc1,lS,Rn,Tj⟩
 unfold ptr
 have hpc:p≠c:=by have:=HI.o.1.mem.lt HI.o.2;omega
 have hp1:=(aO (M:=M) (n:=NV.got level its rg cap page (eF n j) (dW n j)) hpc).trans HI.o.2
 have d1:=(h1.mem.nd p n hp1).c1
 rw[←HL.o] at d1
 have d3:=(aV (h1.mem.nd p n hp1).row j HJ.o).2.2
 have fz:X1.frozen? ⟨n.rg,n.ro+j*3+2,none⟩=false:=by
  obtain⟨cur,mP⟩:=h1.mem.ty p n hp1
  simp[World.frozen?,mP]
 have HE:=aa (Gl HI.o.1 HI.o.2 j HJ.o (fun rg cap=>NV.got level its rg cap page (eF n j) (dW n j)) h1 bF hc1 lS Rn Tj)
 rw[←gd] at HE
 clear h1 bF hc1 lS Rn Tj hp1 s3' c1 hj
 go_wp2
 go_ret2
 exact HE.o
end
section
variable {E:Ev} {X0 X:World} {R0 R:Nat→Prop} {ps:List (Nat×List UInt8)} {pg:List (Option Wl.Text)} {rt:List Nat} {M:Nat→Option NV}
theorem ni (h:TS E X0 R0 R ps pg rt M X) (hk:E.place<16) (hz:rt.getD E.place 0=0):
  Calls Tryz.prog 77 #[ptr E.tb] X fun e X'=>e=.returned (.tuple #[.pointer none,.int .i64 0])∧Below X.heap.size X X':=by
 have t0:=h.tree.cell (j:=0) rfl
 have t1:=h.tree.cell (j:=1) rfl
 have htl:=h.tree.lt
 have HR:=aa (fun W (hb:Below X.heap.size X W)=>nN (h.rm.still hb) E.place hk)
 rw[hz] at HR
 clear h hk hz
 go_enter Tryz.func77,Tryz.ntmps77
 unfold ptr at t0 HR ⊢
 go_wp2_with fail
 go_wp2_with (refine wp_region_any (by kernel_rfl) ?_;refine Hid.o ?_)
 refine aa ?_
 try (change wpAny _ _ _ _ _ _ _ (bD _))
 refine tk 0 ?_
 refine tk 1 ?_
 refine tk 2 ?_
 refine tk 4 ?_
 refine tk 5 ?_
 refine tk 6 ?_
 try simp only[Act.put,az,ay,au]
 refine rd [3,7] (AllReady.cons rfl (fun K hK=> ?_) (rn fun K hK=> ?_))
 focus
  go_simp
  refine hK _ _ ?_;clear hK K
  refine rd [7] (rn fun K hK=> ?_)
  go_simp
  refine hK _ _ ?_;clear hK K
  refine rd [8] (rn fun K hK=> ?_)
  go_simp
  refine (HR.o _ ((Below.refl _ X).drew)).mono ?_
  rintro e w2 ⟨rfl,aP⟩
  have H2:=aa (show Below X.heap.size X w2 from ((Below.refl _ X).drew).trans aP)
  refine hK _ _ ?_;clear hK K aP HR
 rotate_left
 focus
  go_simp
  refine hK _ _ ?_;clear hK K
  refine rd [3] (rn fun K hK=> ?_)
  go_simp
  refine hK _ _ ?_;clear hK K
  refine rd [8] (rn fun K hK=> ?_)
  go_simp
  refine (HR.o _ ((Below.refl _ X).drew)).mono ?_
  rintro e w2 ⟨rfl,aP⟩
  have H2:=aa (show Below X.heap.size X w2 from ((Below.refl _ X).drew).trans aP)
  refine hK _ _ ?_;clear hK K aP HR
 all_goals
  try simp only[Act.put,az,ay,au]
  refine tk 9 ?_
  refine tk 10 ?_
  refine tk 11 ?_
  refine tk 12 ?_
  refine tk 13 ?_
  refine wpAny_done (by kernel_rfl) ?_ _
  go_wp2_with fail
  go_ret2
  exact⟨rfl,H2.o⟩
theorem EU (n:Nat) (h:n≤1000000):IntKind.u64.wrap (n:Int)=n:=by
 unfold IntKind.wrap
 simp[IntKind.bits,IntKind.signed]
 omega
theorem qj.back {X w:World} {got:Nat→Nat→NV} {e:Ending} {X':World} (hb:Below X.heap.size X w) (h:qj E X0 R0 R ps pg rt M w got e X'):qj E X0 R0 R ps pg rt M X got e X':=by
 obtain⟨p,rg,cap,R',h1,h2,h3,h4,h5,h6,h7⟩:=h
 exact⟨p,rg,cap,R',h1,h2,hb.trans (h3.mono hb.size),aG hb.size h4,aG hb.size h5,h6,fun k hk=>(h7 k hk).imp_right fun h=>aG hb.size h⟩
theorem nj (h:TS E X0 R0 R ps pg rt M X) (hk:E.place<16) (page level:Nat) (its:List It) (hz:rt.getD E.place 0=page+1) (hd:Na pg page level its [] []) (nP:page<pg.length):
  Calls Tryz.prog 77 #[ptr E.tb] X fun e X'=>qj E X0 R0 R ps pg rt M X (fun rg cap=>NV.got level its rg cap page [] []) e X':=by
 have t0:=h.tree.cell (j:=0) rfl
 have t1:=h.tree.cell (j:=1) rfl
 have htl:=h.tree.lt
 have HR:=aa (fun W (hb:Below X.heap.size X W)=>nN (h.rm.still hb) E.place hk)
 rw[hz] at HR
 have Nb:=h.rm.rep.few
 have OE:(page:Int)<pg.length:=by omega
 have hfI:(pg.length:Int)≤1000000:=by omega
 have HD:=aa hd
 have h:=aa h
 clear hk hz hd nP Nb
 go_enter Tryz.func77,Tryz.ntmps77
 unfold ptr at t0 HR ⊢
 go_wp2_with fail
 go_wp2_with (refine wp_region_any (by kernel_rfl) ?_;refine Hid.o ?_)
 refine aa ?_
 try (change wpAny _ _ _ _ _ _ _ (bD _))
 refine tk 0 ?_
 refine tk 1 ?_
 refine tk 2 ?_
 refine tk 4 ?_
 refine tk 5 ?_
 refine tk 6 ?_
 try simp only[Act.put,az,ay,au]
 refine rd [3,7] (AllReady.cons rfl (fun K hK=> ?_) (rn fun K hK=> ?_))
 focus
  go_simp
  refine hK _ _ ?_;clear hK K
  refine rd [7] (rn fun K hK=> ?_)
  go_simp
  refine hK _ _ ?_;clear hK K
  refine rd [8] (rn fun K hK=> ?_)
  go_simp
  refine (HR.o _ ((Below.refl _ X).drew)).mono ?_
  rintro e w2 ⟨rfl,aP⟩
  have H2:=aa (show Below X.heap.size X w2 from ((Below.refl _ X).drew).trans aP)
  refine hK _ _ ?_;clear hK K aP HR
 rotate_left
 focus
  go_simp
  refine hK _ _ ?_;clear hK K
  refine rd [3] (rn fun K hK=> ?_)
  go_simp
  refine hK _ _ ?_;clear hK K
  refine rd [8] (rn fun K hK=> ?_)
  go_simp
  refine (HR.o _ ((Below.refl _ X).drew)).mono ?_
  rintro e w2 ⟨rfl,aP⟩
  have H2:=aa (show Below X.heap.size X w2 from ((Below.refl _ X).drew).trans aP)
  refine hK _ _ ?_;clear hK K aP HR
 all_goals
  try simp only[Act.put,az,ay,au]
  refine tk 9 ?_
  refine tk 10 ?_
  refine tk 11 ?_
  refine tk 12 ?_
  refine tk 13 ?_
  refine wpAny_done (by kernel_rfl) ?_ _
  have HT:=aa (h.o.still H2.o (fun _ h=>h) (fun _ h=>.inl h))
  have HP:=aa (fL HT.o.rm)
  have HG:=aa (xI HT.o page level its [] [] HD.o.page HD.o.sound HD.o.len HD.o.none HD.o.size HD.o.within)
  have t2:=(H2.o.cell (p:=⟨E.tb,0,none⟩) htl).trans t0
  unfold ptr at HP HG
  go_wp2_with fail
  refine HP.o.mono ?_
  rintro e w3 ⟨rfl,rfl⟩
  have hgt:decide ((page:Int)+1>pg.length)=false:=decide_eq_false (by omega)
  have aav:¬(page:Int)+1>pg.length:=by omega
  have hw1:IntKind.u64.wrap (pg.length:Int)=pg.length:=EU _ (by omega)
  have jT:IntKind.u64.wrap ((page:Int)+1-1)=page:=by rw[Int.add_sub_cancel];exact EU _ (by omega)
  have kO:IntKind.i64.wrap (page:Int)=page:=cN _ (by omega)
  clear HP
  go_wp2_with fail
  refine HG.o.mono ?_
  intro e w4 hg
  have HQ:=aa (hg.back H2.o)
  obtain⟨c,rg,cap,R9,rfl,-⟩:=id hg
  clear hg HG
  go_wp2_with fail
  go_ret2
  exact HQ.o
end
theorem P6:dD Tryz.prog 115 118 cZ.size:=dD.of (size:=1) (bytes:=8) (z:=.pointer none) Tryz.underlying115 (by kernel_rfl) rfl (by decide)
abbrev uM (B:Nat) (w:World) (v:Value) (l:List Nat):Prop:=Own cZ 118 B w v l
def OY (v:Value) (X:World):Nat:=
 match v with
 |.pointer (some a)=>match X.cell? ⟨a.block,0,none⟩ with
  |some (.int _ n)=>n.toNat
  |_=>0
 |_=>0
theorem xM {X:World} {q lv:Nat} (h:X.cell? ⟨q,0,none⟩=some (.int .i64 lv)):OY (.pointer (some ⟨q,0,none⟩)) X=lv:=by
 show (match X.cell? ⟨q,0,none⟩ with
  |some (.int _ n)=>n.toNat
  |_=>0)=lv
 rw[h]
 simp
structure ZW (tb:Nat) (key:ByteArray) (P:Nat→Nat→Value→World→Prop) (Q:Nat→Nat→Value→World→Prop):Prop where
 wO:∀lv q pv X,P lv q pv X→X.cell? ⟨q,0,none⟩=some (.int .i64 lv)∧lv≤15∧(0<lv→Calls Tryz.prog 78 #[ptr q,.string key] X fun e X'=>∃a:Nat,e=.returned (.int .i64 a)∧(∃v,X'.cell? ⟨q,6,none⟩=some v)∧X'.frozen? ⟨q,6,none⟩=false∧
  Calls Tryz.prog 79 #[ptr tb,ptr q,.int .i64 a] (X'.setCell ⟨q,6,none⟩ (.int .i64 a)) fun e gm=>∃q' lp,e=.returned (.tuple #[ptr q',.int .i64 0])∧lp<lv∧Q lp q' pv gm)
 app:∀lv q pv X,Q lv q pv X→∃pl,uM 0 X pv pl∧pl.length≤100∧∀W Vr W',W=X.alloc (.cells #[.pointer (some ⟨q,0,none⟩)] 118)→uM 0 W' Vr (pl++[q])→W.grownBy W' pv.ownBlock→(Vr.ownBlock=pv.ownBlock∨∀k,Vr.ownBlock=some k→W.heap.size≤k)→P lv q Vr W'
section
variable {w:World} {tb:Nat}
theorem xN {key:ByteArray} {P Q:Nat→Nat→Value→World→Prop} {G0:World→Prop} (hF:ZW tb key P Q) (hR:Calls Tryz.prog 77 #[ptr tb] w fun e X=>(e=.returned (.tuple #[.pointer none,.int .i64 0])∧G0 X)∨∃q lv,e=.returned (.tuple #[ptr q,.int .i64 0])∧∀W,W=X.alloc (.cells #[.pointer (some ⟨q,0,none⟩)] 118)→P lv q (.slice (some ⟨X.heap.size,0,none⟩) 1 1) W):
  Calls Tryz.prog 51 #[ptr tb,.string key] w fun e w'=>(e=.returned (.tuple #[.slice none 0 0,.int .i64 0])∧G0 w')∨∃q pv,e=.returned (.tuple #[pv,.int .i64 0])∧P 0 q pv w':=by
 have HF:=aa hF
 have HR:=aa hR
 clear hF hR
 unfold ptr at HF HR ⊢
 go_enter Tryz.func51,Tryz.ntmps51
 go_wp2_with fail
 refine HR.o.mono ?_
 rintro e X (⟨rfl,hG⟩|⟨q,lv,rfl,hP⟩)
 ·have HG:=aa hG
  clear hG
  go_wp2_with fail
  go_ret2
  exact .inl ⟨rfl,HG.o⟩
 ·obtain⟨W0,lP⟩:∃W0,W0=X.alloc (.cells #[.pointer (some ⟨q,0,none⟩)] 118):=⟨_,rfl⟩
  have HP:=aa (hP W0 lP)
  clear hP
  go_wp2_with fail
  rw[←lP]
  clear lP
  go_loopw [6,7,8] (fun qv _ pv wr=>∃lv q,qv=.pointer (some ⟨q,0,none⟩)∧Hid (P lv q pv wr)) (fun qv _ _ wr=>OY qv wr)
  case atStart=>exact⟨lv,q,rfl,HP⟩
  case round=>
   obtain⟨lv,q,rfl,hP⟩:=hrel
   obtain⟨c0,aaw,rK⟩:=HF.o.wO _ _ _ _ hP.o
   have iY:(lv:Int)≤15:=by omega
   by_cases h0:0<lv
   ·have hpos:(lv:Int)>0:=by omega
    have W5:=aa (rK h0)
    have AV:=aa (xM c0)
    clear rK
    go_wp2_with fail
    refine W5.o.mono ?_
    rintro e w2 ⟨a,rfl,⟨v,q6⟩,f6,hbel⟩
    obtain⟨W2,rC⟩:∃W2,W2=w2.setCell ⟨q,6,none⟩ (.int .i64 a):=⟨_,rfl⟩
    have s6:W2.cell? ⟨q,6,none⟩=some (.int .i64 a):=by rw[rC];exact World.cell?_setCell_same _ _ _ q6
    rw[←rC] at hbel
    have Gm:=aa hbel
    clear hbel c0
    go_wp2_with fail
    rw[←rC]
    clear rC q6 f6
    refine Gm.o.mono ?_
    rintro e w4 ⟨q',lp,rfl,hlt,hQ⟩
    unfold ptr
    obtain⟨pl,hown,dH,Dm⟩:=HF.o.app _ _ _ _ hQ
    obtain⟨a8,c8,LU,hc8⟩:=Own.slice hown
    subst LU
    have HO:=aa (And.intro hown dH)
    have Nc:=aa Dm
    have dJ:=aa hlt
    obtain⟨N8,W6⟩:∃N8,N8=pl.length:=⟨_,rfl⟩
    rw[←W6] at HO Nc hc8 ⊢
    have HN:=aa W6
    have Rp:(N8:Int)≤100:=by have:=HO.o.2;omega
    have W8:=aa (show uM 0 (w4.alloc (.cells #[.pointer (some ⟨q',0,none⟩)] 118)) (.slice a8 N8 c8) pl∧a_ cZ (w4.alloc (.cells #[.pointer (some ⟨q',0,none⟩)] 118)) w4.heap.size 0 [q']∧pl.length+1≤1000000000 from⟨HO.o.1.alloc _,a_.gh (K:=cZ) (l:=[q']) (aS.new w4 #[.pointer (some ⟨q',0,none⟩)] 118) rfl,by have:=HO.o.2;have:=HN.o;omega⟩)
    clear hown Dm dH hlt hQ W6 s6
    go_wp2_with (at_builtin;refine Hid.o ?_)
    refine aa ?_
    refine eS (K:=cZ) P6 rfl _ _ rfl rfl W8.o.1 (aC _) w4.heap.size 0 1 1 [q'] rfl rfl W8.o.2.1 W8.o.2.2 ?_
    intro v2 w5 fD fK jT
    have ZX:=aa (Nc.o _ v2 w5 rfl fD fK jT)
    clear fD fK jT
    go_wp2_with fail
    go_roundw
    case rel=>exact⟨lp,q',rfl,ZX⟩
    case measure=>
     have h1:=xM (HF.o.wO _ _ _ _ ZX.o).1
     have h2:=AV.o
     have h3:=dJ.o
     rw[h1,h2]
     exact h3
   ·obtain rfl:lv=0:=by omega
    have hpos:¬((0:Nat):Int)>0:=by decide
    clear rK
    go_wp2_with fail
    go_ret2
    exact .inr ⟨q,_,rfl,hP.o⟩
end
structure Eac (tb q:Nat) (lo hi:ByteArray) (fn:Nat) (caps:Array Value) (xb rg ro NL cap:Nat) (L:Nat→World→Prop) (G:Bool→World→Prop):Prop where
 item:∀a X,L a X→X.cell? ⟨xb,0,none⟩=some (.string lo)∧X.cell? ⟨xb,1,none⟩=some (.string hi)∧X.cell? ⟨q,1,none⟩=some (.slice (some ⟨rg,ro,none⟩) NL cap)∧a≤NL∧NL≤cap∧(a=NL→G true X.drew)∧
  (a<NL→∃kb,X.cell? ⟨rg,ro+a*3,none⟩=some (.string kb)∧Calls Tryz.prog 144 #[.agg #[.string lo,.string hi],.string kb] X.drew fun e X'=>∃b,e=.returned (.bool b)∧X'.cell? ⟨xb,0,none⟩=some (.string lo)∧X'.cell? ⟨xb,1,none⟩=some (.string hi)∧X'.cell? ⟨q,1,none⟩=some (.slice (some ⟨rg,ro,none⟩) NL cap)∧X'.cell? ⟨rg,ro+a*3,none⟩=some (.string kb)∧(b=true→G true X')∧
   (b=false→Calls Tryz.prog 123 #[ptr tb,ptr q,.int .i64 a] X' fun e X1=>∃q',e=.returned (.tuple #[ptr q',.int .i64 0])∧X1.cell? ⟨xb,0,none⟩=some (.string lo)∧X1.cell? ⟨xb,1,none⟩=some (.string hi)∧
    Calls Tryz.prog 143 #[ptr tb,ptr q',.agg #[.string lo,.string hi],.func (.func fn) #[] caps] X1 fun e X2=>∃b,e=.returned (.tuple #[.bool b,.int .i64 0])∧(b=true→L (a+1) X2)∧(b=false→G false X2)))
section
variable {w:World} {tb q:Nat}
theorem xO {lo hi:ByteArray} {fn:Nat} {caps:Array Value} {lv:Nat} {G:Bool→World→Prop} (hE:∀(W:World) (args:Array Value),Sem.run Tryz.prog (callFunc fn args) W=.ok (.enter fn args) W) (hlv:lv≤15)
  (hS:∀W,W=w.alloc (.cells #[.string lo,.string hi] 125)→Calls Tryz.prog fn (#[ptr q]++caps) W fun e X=>∃b,e=.returned (.bool b)∧(b=false→G false X)∧(b=true→X.cell? ⟨q,0,none⟩=some (.int .i64 lv)∧X.cell? ⟨w.heap.size,0,none⟩=some (.string lo)∧(lv=0→G true X)∧
   (0<lv→Calls Tryz.prog 78 #[ptr q,.string lo] X fun e X1=>∃a:Nat,e=.returned (.int .i64 a)∧a≤400∧∃rg ro NL cap L,NL≤400∧Eac tb q lo hi fn caps w.heap.size rg ro NL cap L G∧L a X1))):
  Calls Tryz.prog 143 #[ptr tb,ptr q,.agg #[.string lo,.string hi],.func (.func fn) #[] caps] w fun e w'=>∃b,e=.returned (.tuple #[.bool b,.int .i64 0])∧G b w':=by
 obtain⟨W0,lP⟩:∃W0,W0=w.alloc (.cells #[.string lo,.string hi] 125):=⟨_,rfl⟩
 have HS:=aa (hS W0 lP)
 have iY:(lv:Int)≤15:=by omega
 have HE:=aa hE
 clear hS hlv hE
 unfold ptr at HS ⊢
 go_enter Tryz.func143,Tryz.ntmps143
 go_wp2_with fail
 rw[←lP]
 rw[HE.o,Oper.upon_enter]
 refine HS.o.mono ?_
 rintro e X ⟨b,rfl,Co,wy⟩
 obtain⟨xb,Rq⟩:∃xb,xb=w.heap.size:=⟨_,rfl⟩
 rw[←Rq] at wy ⊢
 clear lP Rq
 cases b with
 |false=>
  have HG:=aa (Co rfl)
  clear Co wy
  go_wp2_with fail
  go_ret2
  exact⟨false,rfl,HG.o⟩
 |true=>
  obtain⟨c0,s0,hz,rK⟩:=wy rfl
  clear Co wy
  by_cases h0:lv=0
  ·subst h0
   have HG:=aa (hz rfl)
   clear hz rK
   go_wp2_with fail
   go_ret2
   exact⟨true,rfl,HG.o⟩
  ·have Re:((lv:Int)==0)=false:=by rw[beq_eq_false_iff_ne];omega
   have W5:=aa (rK (Nat.pos_of_ne_zero h0))
   clear hz rK
   go_wp2_with fail
   refine W5.o.mono ?_
   rintro e X1 ⟨a,rfl,ha4,rg,ro,NL,cap,L,LX,Tk,hL⟩
   have W_:=aa Tk
   have HL:=aa hL
   have MZ:(a:Int)≤400:=by omega
   have Rp:(NL:Int)≤400:=by omega
   clear c0 s0 ha4 Tk hL LX
   go_wp2_with fail
   go_loopw [10,11,12,13] (fun av _ _ _ wr=>∃a:Nat,av=.int .i64 a∧Hid (L a wr)) (fun av _ _ _ _=>NL-(RowKit.intOf av).toNat)
   case atStart=>exact⟨a,rfl,HL⟩
   case round=>
    obtain⟨a,rfl,hL⟩:=hrel
    obtain⟨s0,s1,q1,Vq,ZY,hend,P7⟩:=W_.o.item _ _ hL.o
    have Cm:(NL:Int)≤cap:=by omega
    by_cases hlt:a<NL
    ·have hI:(a:Int)<NL:=by omega
     obtain⟨kb,k1,cG⟩:=P7 hlt
     have HEB:=aa cG
     clear cG hend P7 hL
     go_wp2_with (refine wp_region_held_drew (S:=(fun X=>X.cell? ⟨xb,0,none⟩=some (.string lo)∧X.cell? ⟨xb,1,none⟩=some (.string hi)∧X.cell? ⟨q,1,none⟩=some (.slice (some ⟨rg,ro,none⟩) NL cap)∧X.cell? ⟨rg,ro+a*3,none⟩=some (.string kb))) (by kernel_rfl) ?_ (fun aD=> ?_);focus skip;rotate_left;refine Hid.o ?_)
     refine aa ?_
     ·first|trivial|exact⟨s0,s1,q1,k1⟩
     refine bu 0 aD ?_
     refine bu 1 aD ?_
     refine bu 2 aD ?_
     refine bu 3 aD ?_
     refine bu 4 aD ?_
     refine bu 5 aD ?_
     refine bu 6 aD ?_
     refine bu 7 aD ?_
     try simp only[Act.put,az,ay,au]
     refine bu 8 aD ?_
     refine bu 9 aD ?_
     refine bu 10 aD ?_
     refine bu 11 aD ?_
     refine bu 12 aD ?_
     try simp only[Act.put,az,ay,au]
     refine bu 13 aD ?_
     refine bu 14 aD ?_
     refine bu 15 aD ?_
     refine bu 16 aD ?_
     refine bu 17 aD ?_
     try simp only[Act.put,az,ay,au]
     refine iL [18] (iM fun K hK=> ?_)
     go_simp
     refine HEB.o.mono ?_
     rintro e w6 ⟨b,rfl,s0',s1',q1',k1',wy,Co⟩
     have Gn:=aa (And.intro wy Co)
     refine hK.out _ _ ⟨s0',s1',q1',k1'⟩ (fun aD=> ?_);clear hK K wy Co
     refine bu 19 aD ?_
     refine bu 20 aD ?_
     refine wpAnyH_done (by kernel_rfl) ?_ _
     try simp only[Act.put,az,ay,au]
     cases b with
     |true=>
      have HG:=aa (Gn.o.1 rfl)
      clear Gn
      go_wp2_with fail
      go_ret2
      exact⟨true,rfl,HG.o⟩
     |false=>
      have ZZ:=aa (Gn.o.2 rfl)
      clear Gn
      unfold ptr at ZZ
      go_wp2_with fail
      refine ZZ.o.mono ?_
      rintro e w7 ⟨q',rfl,t0,t1,cG⟩
      have IE:=aa cG
      clear cG q1' k1' s0' s1'
      unfold ptr at IE
      go_wp2_with fail
      refine IE.o.mono ?_
      rintro e w8 ⟨b,rfl,wy,Co⟩
      clear t0 t1
      cases b with
      |true=>
       have Ax:=aa (wy rfl)
       clear wy Co
       go_wp2_with fail
       go_roundw
       case rel=>exact⟨a+1,by go_num,Ax⟩
       case measure=>simp[RowKit.intOf];omega
      |false=>
       have HG:=aa (Co rfl)
       clear wy Co
       go_wp2_with fail
       go_ret2
       exact⟨false,rfl,HG.o⟩
    ·obtain rfl:a=NL:=by omega
     have hI:¬(a:Int)<a:=by omega
     have HG:=aa (hend rfl)
     clear hend P7 hL
     go_wp2_with (refine wp_region_held_drew (S:=(fun X=>X.cell? ⟨xb,0,none⟩=some (.string lo)∧X.cell? ⟨xb,1,none⟩=some (.string hi)∧X.cell? ⟨q,1,none⟩=some (.slice (some ⟨rg,ro,none⟩) a cap))) (by kernel_rfl) ?_ (fun aD=> ?_);focus skip;rotate_left;refine Hid.o ?_)
     refine aa ?_
     ·first|trivial|exact⟨s0,s1,q1⟩
     refine yw 0 aD ?_
     refine yw 1 aD ?_
     refine yw 2 aD ?_
     refine yw 3 aD ?_
     refine yw 4 aD ?_
     refine yw 5 aD ?_
     refine yw 6 aD ?_
     refine yw 7 aD ?_
     try simp only[Act.put,az,ay,au]
     refine Iu 8 aD ?_
     refine Iu 9 aD ?_
     try simp only[Act.put,az,ay,au]
     refine Iu 10 aD ?_
     refine Iu 11 aD ?_
     try simp only[Act.put,az,ay,au]
     refine Iu 12 aD ?_
     refine Iu 13 aD ?_
     try simp only[Act.put,az,ay,au]
     refine Iu 14 aD ?_
     refine Iu 15 aD ?_
     try simp only[Act.put,az,ay,au]
     refine Iu 16 aD ?_
     refine Iu 17 aD ?_
     try simp only[Act.put,az,ay,au]
     refine Iu 18 aD ?_
     refine Iu 19 aD ?_
     try simp only[Act.put,az,ay,au]
     refine yw 20 aD ?_
     refine wpAnyH_done (by kernel_rfl) ?_ _
     try simp only[Act.put,az,ay,au]
     go_wp2_with fail
     go_ret2
     exact⟨true,rfl,HG.o⟩
end
end
namespace Tr
def bG (k:Nat) (x:Tx) (acc:List (Tx×E (k+1))) (sp:List Nat) (i:Tx×E (k+1)):List (Tx×E (k+1))×List Nat:=
 match acc.getLast? with
 |none=>([(x,i.2)],sp)
 |some a=>if cut (k+1) a.2 i.1 i.2 then (acc++[i],sp) else (acc.dropLast++[(a.1,(join k a.2 i.2 i.1).1)],sp++(join k a.2 i.2 i.1).2)
theorem iU (k:Nat) (x:Tx) (sp:List Nat) (i:Tx×E (k+1)):bG k x [] sp i=([(x,i.2)],sp):=rfl
theorem dB (k:Nat) (x:Tx) (A:List (Tx×E (k+1))) (a:Tx×E (k+1)) (sp:List Nat) (i:Tx×E (k+1)):
  bG k x (A++[a]) sp i=if cut (k+1) a.2 i.1 i.2 then (A++[a]++[i],sp) else (A++[(a.1,(join k a.2 i.2 i.1).1)],sp++(join k a.2 i.2 i.1).2):=by
 unfold bG
 rw[cF,oH]
def dn (k:Nat) (x:Tx) (st:List (Tx×E (k+1))×List Nat) (c:Tx×E (k+1)):List (Tx×E (k+1))×List Nat:=
 if (its c.2).isEmpty then (st.1,st.2++(hd c.2).page.toList)
 else if sz k (its c.2)≤510 then bG k x st.1 st.2 c
 else bG k x (bG k x st.1 st.2 (c.1,(part k c.2).low)).1 (bG k x st.1 st.2 (c.1,(part k c.2).low)).2 ((part k c.2).key,(part k c.2).up)
def bC (k:Nat) (st:List (Tx×E (k+1))×List Nat) (c:Tx×E (k+1)):List (Tx×E (k+1))×List Nat:=dn k c.1 st c
structure Acc (k:Nat) (x:Tx) (h:Option Tx) (acc:List (Tx×E (k+1))):Prop where
 seg:cV (Ok (k+1)) (cut (k+1)) h acc
 head:∀p,acc.head?=some p→p.1=x∧Old (k+1) p.2
theorem Acc.nil (k:Nat) (x:Tx) (h:Option Tx):Acc k x h []:=⟨trivial,fun _ h=>by cases h⟩
structure Xa (k:Nat) (x:Tx) (h:Option Tx) (acc:List (Tx×E (k+1))) (sp:List Nat) (i:Tx×E (k+1)) (r:List (Tx×E (k+1))×List Nat):Prop where
 row:Acc k x h r.1
 ne:r.1≠[]
 ct:ct (k+1) r.1=ct (k+1) acc++ct k (its i.2)
 b8:(dI (k+1) r.1++r.2).Perm (dI (k+1) acc++b8 (k+1) i.2++sp)
 eT:jP (k+1) r.1=jP (k+1) acc+eT (k+1) i.2
 last:∀b,r.1.getLast?=some b→sz k (its i.2)≤sz k (its b.2)
 first:∀p,acc.head?=some p→∃q,r.1.head?=some q∧sz k (its p.2)≤sz k (its q.2)
 none:acc=[]→r.1=[(x,i.2)]
theorem gC (k:Nat) (p:Tx×E k):dI k [p]=b8 k p.2:=by simp[dI]
theorem gW (k:Nat) (p:Tx×E k):jP k [p]=eT k p.2:=by simp[jP]
theorem mj {k:Nat} {x:Tx} {h:Option Tx} {acc:List (Tx×E (k+1))} {sp:List Nat} {i:Tx×E (k+1)}
  (ha:Acc k x (some i.1) acc) (hx:acc=[]→le x i.1∧Old (k+1) i.2) (hl:acc≠[]→i.1.length≤96) (oi:Ok (k+1) i.1 h i.2)
  (hn:Old (k+1) i.2∨∀a,acc.getLast?=some a→cut (k+1) a.2 i.1 i.2):Xa k x h acc sp i (bG k x acc sp i):=by
 by_cases e:acc=[]
 ·subst e
  rw[iU]
  refine⟨⟨?_, ?_⟩,by simp, ?_, ?_, ?_, ?_, ?_,fun _=>rfl⟩
  ·exact oi.lo (hx rfl).1
  ·grind
  ·rw[dK,j8];rfl
  ·rw[gC];exact List.Perm.refl _
  ·rw[gW];show eT (k+1) i.2=0+eT (k+1) i.2;omega
  ·grind
  ·intro p hp;cases hp
 ·have hl':=hl e
  obtain⟨A,a,rfl⟩:=dA e
  rw[dB]
  by_cases hc:cut (k+1) a.2 i.1 i.2
  ·rw[if_pos hc]
   have hai:lt a.1 i.1=true:=ha.seg.last.lt
   refine⟨⟨?_, ?_⟩,by simp, ?_, ?_, ?_, ?_, ?_,fun h=>absurd h e⟩
   ·show cV _ _ h (A++[a]++[i])
    rw[aB]
    exact cV.append.2 ⟨ha.seg,⟨hai,hl',hc⟩,oi⟩
   ·intro p hp
    refine ha.head p ?_
    cases A<;>exact hp
   ·simp_all[ct]
   ·simp_all[dI]
   ·grind [jP,cz,gW]
   ·grind
   ·grind
  ·rw[if_neg hc]
   have ho:Old (k+1) i.2:=hn.resolve_right fun hn=>hc (hn a (cF A a))
   have J:=pZ k ha.seg.last oi hl' hc
   generalize join k a.2 i.2 i.1=j at J
   refine⟨⟨?_, ?_⟩,by simp, ?_, ?_, ?_, ?_, ?_,fun h=>absurd h e⟩
   ·exact cV.iE ha.seg J.ok fun _ _ hc=>kY hc J.left
   ·intro p hp
    cases A with
    |nil=>
     cases hp
     have:=ha.head a rfl
     exact⟨this.1,J.old this.2⟩
    |cons q A=>exact ha.head p hp
   ·show ct (k+1) (A++[(a.1,j.1)])=_
    rw[bJ,bJ,dK,dK,J.ct,aB]
   ·show (dI (k+1) (A++[(a.1,j.1)])++(sp++j.2)).Perm _
    rw[bK,bK,gC,gC]
    simp only[aB]
    refine List.Perm.append_left _ ?_
    have h1:(b8 (k+1) j.1++(sp++j.2)).Perm ((b8 (k+1) j.1++j.2)++sp):=by
     grind
    refine h1.trans ((List.Perm.append_right _ J.b8).trans ?_)
    rw[aB]
   ·show jP (k+1) (A++[(a.1,j.1)])=_
    rw[cz,cz,gW,gW,J.eT ho,gd]
   ·intro b hb
    rw[cF] at hb
    cases hb;exact J.right
   ·intro p hp
    cases A with
    |nil=>cases hp;exact⟨_,rfl,J.left⟩
    |cons q A=>exact⟨p,hp,af _⟩
def iI (k:Nat) (h:Option Tx):List (Tx×E (k+1))→Prop
 |[]=>True
 |[a]=>ig k a.1 h a.2∧su a.1 h∧Old (k+1) a.2
 |a::b::r=>ig k a.1 (some b.1) a.2∧(lt a.1 b.1=true∧b.1.length≤96∧Old (k+1) a.2)∧iI k h (b::r)
def tC {α:Type} (h:Option Tx):List (Tx×α)→Option Tx
 |[]=>h
 |b::_=>some b.1
theorem iI.at {k:Nat} {h:Option Tx} {a:Tx×E (k+1)}:∀{r:List (Tx×E (k+1))},iI k h (a::r)→ig k a.1 (tC h r) a.2∧su a.1 (tC h r)∧Old (k+1) a.2∧iI k h r∧(∀b l,r=b::l→b.1.length≤96)
 |[],h=>⟨h.1,h.2.1,h.2.2,trivial,fun _ _ e=>by cases e⟩
 |_::_,h=>⟨h.1,h.2.1.1,h.2.1.2.2,h.2.2,fun _ _ e=>by cases e;exact h.2.1.2.1⟩
def big (k:Nat):List (Tx×E (k+1))→Nat
 |[]=>0
 |c::r=>(if sz k (its c.2)≤510 then 0 else 1)+big k r
structure Walk (k:Nat) (x:Tx) (h:Option Tx) (acc:List (Tx×E (k+1))) (sp:List Nat) (W:List (Tx×E (k+1))) (r:List (Tx×E (k+1))×List Nat):Prop where
 row:Acc k x h r.1
 ct:ct (k+1) r.1=ct (k+1) acc++ct (k+1) W
 b8:(dI (k+1) r.1++r.2).Perm (dI (k+1) acc++dI (k+1) W++sp)
 eT:jP (k+1) r.1=jP (k+1) acc+jP (k+1) W+big k W
 first:∀p,acc.head?=some p→∃q,r.1.head?=some q∧sz k (its p.2)≤sz k (its q.2)
 start:acc=[]→∀c l,W=c::l→its c.2≠[]→sz k (its c.2)≤510→∃q,r.1.head?=some q∧sz k (its c.2)≤sz k (its q.2)
 last:∀V c,W=V++[c]→its c.2≠[]→sz k (its c.2)≤510→∃b,r.1.getLast?=some b∧sz k (its c.2)≤sz k (its b.2)
 none:r.1=[]→acc=[]∧∀c∈W,its c.2=[]
theorem Dn {α:Type} {l:List α} (h:l≠[]):∃b,l.getLast?=some b:=⟨l.getLast h,List.getLast?_eq_some_getLast h⟩
theorem step_ok {k:Nat} {x:Tx} {h:Option Tx} {acc:List (Tx×E (k+1))} {sp:List Nat} {c:Tx×E (k+1)} (ha:Acc k x (some c.1) acc) (hx:acc=[]→le x c.1) (hl:acc≠[]→c.1.length≤96)
  (oc:ig k c.1 h c.2) (hb:su c.1 h) (ho:Old (k+1) c.2):Walk k x h acc sp [c] (dn k x (acc,sp) c):=by
 unfold dn
 cases e:(its c.2).isEmpty with
 |true=>
  have e':=List.isEmpty_iff.1 e
  rw[if_pos rfl]
  refine⟨⟨ha.seg.later (CI hb),ha.head⟩, ?_, ?_, ?_,fun p hp=>⟨p,hp,af _⟩, ?_, ?_, ?_⟩
  ·rw[dK,e',j8,bh]
  ·simp_all[bp,dI,hd,bh,aB,List.Perm.append_left,l7]
  ·rw[gW,bR,if_pos ho.1,e']
   show jP (k+1) acc=_+(0+0)+((if sz k (its c.2)≤510 then 0 else 1)+0)
   rw[e',if_pos (show sz k ([]:List (Tx×E k))≤510 from aC _)]
   omega
  ·grind
  ·intro V c' hW
   have:=List.append_inj_right' (s₁:=([]:List (Tx×E (k+1)))) (t₁:=[c]) (s₂:=V) (t₂:=[c']) hW rfl
   cases this
   exact fun h=>absurd e' h
  ·intro h
   exact⟨h,fun c' xh=>by rw[cH.1 xh];exact e'⟩
 |false=>
  have e':its c.2≠[]:=fun h=>by rw[h] at e;cases e
  rw[if_neg Bool.false_ne_true]
  by_cases hs:sz k (its c.2)≤510
  ·rw[if_pos hs]
   have J:=mj (sp:=sp) ha (fun e=>⟨hx e,ho⟩) hl (oc.ok e' hs) (.inl ho)
   refine⟨J.row, ?_, ?_, ?_,J.first, ?_, ?_,fun h=>absurd h J.ne⟩
   ·rw[dK];exact J.ct
   ·rw[gC];exact J.b8
   ·rw[gW]
    show _=_+((if sz k (its c.2)≤510 then 0 else 1)+0)
    rw[if_pos hs]
    exact J.eT
   ·rintro ha c' l hW _ _
    cases hW
    exact⟨(x,c.2),by rw[J.none ha];rfl,af _⟩
   ·intro V c' hW _ _
    have:=List.append_inj_right' (s₁:=([]:List (Tx×E (k+1)))) (t₁:=[c]) (s₂:=V) (t₂:=[c']) hW rfl
    cases this
    obtain⟨b,hb⟩:=Dn J.ne
    exact⟨b,hb,J.last b hb⟩
  ·rw[if_neg hs]
   have S:=nJ k oc (by omega)
   generalize part k c.2=s at S
   have J:=mj (i:=(c.1,s.low)) (sp:=sp) ha (fun e=>⟨hx e,S.old ho⟩) hl S.low (.inl (S.old ho))
   show Walk k x h acc sp [c] (bG k x (bG k x acc sp (c.1,s.low)).1 (bG k x acc sp (c.1,s.low)).2 (s.key,s.up))
   generalize bG k x acc sp (c.1,s.low)=t at J
   have J2:=mj (i:=(s.key,s.up)) (sp:=t.2) J.row (fun e=>absurd e J.ne) (fun _=>S.len) S.up (.inr fun a ha=>mX S.cut (J.last a ha))
   generalize bG k x t.1 t.2 (s.key,s.up)=r at J2
   refine⟨J2.row, ?_, ?_, ?_, ?_, ?_, ?_,fun h=>absurd h J2.ne⟩
   ·rw[dK,J2.ct,J.ct,aB,S.ct]
   ·rw[gC,←S.b8]
    refine J2.b8.trans ?_
    show (dI (k+1) t.1++b8 (k+1) s.up++t.2).Perm _
    have h1:(dI (k+1) t.1++b8 (k+1) s.up++t.2).Perm ((dI (k+1) t.1++t.2)++b8 (k+1) s.up):=by
     rw[aB,aB]
     exact List.Perm.append_left _ l7
    refine h1.trans ((List.Perm.append_right _ J.b8).trans ?_)
    simp only[aB]
    exact List.Perm.append_left _ (List.Perm.append_left _ l7)
   ·have:=S.eT
    have h1:=J2.eT
    have h2:=J.eT
    rw[gW]
    show _=_+((if sz k (its c.2)≤510 then 0 else 1)+0)
    rw[if_neg hs]
    simp only at h1 h2
    omega
   ·intro p hp
    obtain⟨q,hq,lN⟩:=J.first p hp
    obtain⟨q2,Jc,J3⟩:=J2.first q hq
    exact⟨q2,Jc,aG lN J3⟩
   ·rintro _ c' l hW _ h;cases hW;exact absurd h hs
   ·intro V c' hW _ h
    have:=List.append_inj_right' (s₁:=([]:List (Tx×E (k+1)))) (t₁:=[c]) (s₂:=V) (t₂:=[c']) hW rfl
    cases this
    exact absurd h hs
theorem y9 {k:Nat} {x:Tx} {h:Option Tx}:∀(W:List (Tx×E (k+1))) (acc:List (Tx×E (k+1))) (sp:List Nat),Acc k x (tC h W) acc→(∀c l,W=c::l→(acc=[]→le x c.1)∧(acc≠[]→c.1.length≤96))→iI k h W→
  Walk k x h acc sp W (W.foldl (dn k x) (acc,sp))
 |[],acc,sp,ha,_,_=>by
  refine⟨ha, ?_, ?_,rfl,fun p hp=>⟨p,hp,af _⟩,fun _ _ _ e=>(by cases e),fun V c e=>(by cases V<;>cases e),fun e=>⟨e,fun _ h=>(by cases h)⟩⟩
  ·rw[j8,bh];rfl
  ·simp_all[dI,bh]
 |c::W,acc,sp,ha,hx,hn=>by
  obtain⟨n1,n2,n3,n4,n5⟩:=hn.at
  obtain⟨x1,x2⟩:=hx c W rfl
  have S:=step_ok (sp:=sp) ha x1 x2 n1 n2 n3
  show Walk k x h acc sp (c::W) (W.foldl (dn k x) (dn k x (acc,sp) c))
  generalize dn k x (acc,sp) c=t at S
  obtain⟨t1,t2⟩:=t
  have hx':∀c' l,W=c'::l→(t1=[]→le x c'.1)∧(t1≠[]→c'.1.length≤96):=by
   rintro c' l rfl
   exact⟨fun h=>le_trans (x1 (S.none h).1) (le_of_lt n2),fun _=>n5 _ _ rfl⟩
  have F:=y9 W t1 t2 S.row hx' n4
  generalize hr:W.foldl (dn k x) (t1,t2)=r at F
  refine⟨F.row, ?_, ?_, ?_, ?_, ?_, ?_, ?_⟩
  ·rw[F.ct,S.ct,show c::W=[c]++W from rfl,bJ,aB]
  ·refine F.b8.trans ?_
   have h1:(dI (k+1) t1++dI (k+1) W++t2).Perm ((dI (k+1) t1++t2)++dI (k+1) W):=by
    grind
   refine h1.trans ((List.Perm.append_right _ S.b8).trans ?_)
   rw[show c::W=[c]++W from rfl,bK]
   simp only[aB]
   exact List.Perm.append_left _ (List.Perm.append_left _ l7)
  ·have h1:=F.eT
   have h2:=S.eT
   simp only at h1 h2
   rw[gW] at h2
   rw[ew]
   simp only[big] at h2 ⊢
   omega
  ·intro p hp
   obtain⟨q,hq,lN⟩:=S.first p hp
   obtain⟨q2,Jc,J3⟩:=F.first q hq
   exact⟨q2,Jc,aG lN J3⟩
  ·rintro ha c' l hW h1 h2
   cases hW
   obtain⟨q,hq,lN⟩:=S.start ha c [] rfl h1 h2
   obtain⟨q2,Jc,J3⟩:=F.first q hq
   exact⟨q2,Jc,aG lN J3⟩
  ·intro V c' hW h1 h2
   cases V with
   |nil=>
    cases hW
    subst hr
    exact S.last [] c rfl h1 h2
   |cons v V=>
    cases hW
    exact F.last V c' rfl h1 h2
  ·intro h
   obtain⟨h1,h2⟩:=F.none h
   obtain⟨h3,h4⟩:=S.none h1
   exact⟨h3,fun c' xh=>by
    rcases aQ.1 xh with rfl|xh
    ·exact h4 _ aA
    ·exact h2 c' xh⟩
end Tr
namespace Tr
section
variable {α:Type} {O:Tx→Option Tx→α→Prop} {C:α→Tx→α→Prop} {h:Option Tx}
theorem cV.glue:∀{A B:List (Tx×α)},cV O C (tC h B) A→cV O C h B→(∀a b,A.getLast?=some a→B.head?=some b→lt a.1 b.1=true∧b.1.length≤96∧C a.2 b.1 b.2)→cV O C h (A++B)
 |A,[],h1,_,_=>by rw[bh];exact h1
 |A,b::B,h1,h2,h3=>by
  by_cases e:A=[]
  ·subst e;exact h2
  ·obtain⟨A',a,rfl⟩:=dA e
   rw[aB]
   exact cV.append.2 ⟨h1,h3 a b (cF A' a) rfl,h2⟩
theorem cV.uN:∀{A B:List (Tx×α)},cV O C h (A++B)→cV O C (tC h B) A∧cV O C h B∧(∀a b,A.getLast?=some a→B.head?=some b→lt a.1 b.1=true∧b.1.length≤96∧C a.2 b.1 b.2)
 |A,[],h1=>by rw[bh] at h1;exact⟨h1,trivial,fun _ _ _ e=>by cases e⟩
 |A,b::B,h1=>by
  by_cases e:A=[]
  ·subst e;exact⟨trivial,h1,fun _ _ e=>by cases e⟩
  ·obtain⟨A',a,rfl⟩:=dA e
   rw[aB] at h1
   obtain⟨p1,p2,p3⟩:=cV.append.1 h1
   refine⟨p1,p3,fun a' b' ha hb=> ?_⟩
   rw[cF] at ha
   cases ha;cases hb
   exact p2
end
theorem kG (k:Nat) (x y:Tx) (acc:List (Tx×E (k+1))) (sp:List Nat) (i:Tx×E (k+1)):
  (bG k y acc sp i).2=(bG k x (bA x acc) sp i).2∧bA x (bG k y acc sp i).1=(bG k x (bA x acc) sp i).1:=by
 by_cases e:acc=[]
 ·subst e;exact⟨rfl,rfl⟩
 ·obtain⟨A,a,rfl⟩:=dA e
  obtain⟨A',z,h1,h2⟩:=jB x A a
  rw[h1,dB,dB]
  by_cases hc:cut (k+1) a.2 i.1 i.2
  ·grind [bA,eW]
  ·grind
theorem Dp {k:Nat} {x y:Tx} {acc acc':List (Tx×E (k+1))} (h:acc'=bA x acc) (sp:List Nat) (i:Tx×E (k+1)):
  (bG k y acc sp i).2=(bG k x acc' sp i).2∧bA x (bG k y acc sp i).1=(bG k x acc' sp i).1:=by subst h;exact kG k x y acc sp i
theorem AW (k:Nat) (x y:Tx) (acc:List (Tx×E (k+1))) (sp:List Nat) (c:Tx×E (k+1)):
  (dn k y (acc,sp) c).2=(dn k x (bA x acc,sp) c).2∧bA x (dn k y (acc,sp) c).1=(dn k x (bA x acc,sp) c).1:=by
 unfold dn
 by_cases e:(its c.2).isEmpty
 ·grind
 ·grind [sz,its,kG,part,Dp]
theorem nk (k:Nat) (x:Tx):∀(W:List (Tx×E (k+1))) (acc:List (Tx×E (k+1))) (sp:List Nat),
  (W.foldl (bC k) (acc,sp)).2=(W.foldl (dn k x) (bA x acc,sp)).2∧bA x (W.foldl (bC k) (acc,sp)).1=(W.foldl (dn k x) (bA x acc,sp)).1
 |[],acc,sp=>⟨rfl,rfl⟩
 |c::W,acc,sp=>by
  obtain⟨h1,h2⟩:=AW k x c.1 acc sp c
  have ih:=nk k x W (bC k (acc,sp) c).1 (bC k (acc,sp) c).2
  show (W.foldl (bC k) (bC k (acc,sp) c)).2=(W.foldl (dn k x) (dn k x (bA x acc,sp) c)).2∧_
  have e:dn k x (bA x acc,sp) c=(bA x (bC k (acc,sp) c).1,(bC k (acc,sp) c).2):=by
   refine Prod.ext ?_ ?_
   ·exact h2.symm
   ·exact h1.symm
  rw[e]
  show _∧bA x (W.foldl (bC k) (bC k (acc,sp) c)).1=(W.foldl (dn k x) (dn k x (bA x acc,sp) c)).1
  rw[e]
  exact ih
theorem AX (k:Nat) (x z:Tx) (sp:List Nat) (W:List (Tx×E (k+1))):(bA z W).foldl (dn k x) ([],sp)=W.foldl (dn k x) ([],sp):=by
 cases W with
 |nil=>rfl
 |cons c W=>rfl
def Tl {k:Nat} (x:Tx):List (Tx×E (k+1))→List (Tx×E (k+1))→Nat
 |[],[]=>0
 |[],_::r=>4+x.length+sz (k+1) r
 |a::acc,W=>sz (k+1) (a::acc)+sz (k+1) W
theorem P8 {k:Nat} {x:Tx} {acc W:List (Tx×E (k+1))} (h:acc≠[]):Tl x acc W=sz (k+1) acc+sz (k+1) W:=by
 cases acc with
 |nil=>exact absurd rfl h
 |cons a acc=>rfl
theorem Dq (k:Nat) (x:Tx) (acc:List (Tx×E (k+1))) (sp:List Nat) (i:Tx×E (k+1)):(bG k x acc sp i).1≠[]∧sz (k+1) (bG k x acc sp i).1≤sz (k+1) acc+4+(if acc=[] then x.length else i.1.length):=by
 by_cases e:acc=[]
 ·simp_all[iU,sz,d_]
 ·rw[if_neg e]
  obtain⟨A,a,rfl⟩:=dA e
  rw[dB]
  by_cases hc:cut (k+1) a.2 i.1 i.2
  ·grind [sz,dV,d_]
  ·grind [sz,dV,d_]
theorem EV {k:Nat} {x:Tx}:∀(W:List (Tx×E (k+1))) (acc:List (Tx×E (k+1))) (sp:List Nat),(∀c∈W,510<sz k (its c.2)→(part k c.2).key.length≤96)→
  sz (k+1) (W.foldl (dn k x) (acc,sp)).1≤Tl x acc W+100*big k W
 |[],[],sp,_=>aC _
 |[],a::acc,sp,_=>by show sz (k+1) (a::acc)≤sz (k+1) (a::acc)+0+_;omega
 |c::W,acc,sp,hb=>by
  have ih:=EV (x:=x) W (dn k x (acc,sp) c).1 (dn k x (acc,sp) c).2 (fun d hd=>hb d (aF _ hd))
  show sz (k+1) (W.foldl (dn k x) (dn k x (acc,sp) c)).1≤_
  refine aG ih ?_
  show _≤_+100*((if sz k (its c.2)≤510 then 0 else 1)+big k W)
  have hsz:sz (k+1) (c::W)=4+c.1.length+sz (k+1) W:=by rw[sz,d_]
  unfold dn
  by_cases e:(its c.2).isEmpty
  ·rw[if_pos e]
   show Tl x acc W+_≤_
   cases acc with
   |nil=>
    cases W with
    |nil=>show 0+_≤_;omega
    |cons d W=>
     show 4+x.length+sz (k+1) W+_≤4+x.length+sz (k+1) (d::W)+_
     rw[sz]
     omega
   |cons a acc=>
    show sz (k+1) (a::acc)+sz (k+1) W+_≤sz (k+1) (a::acc)+sz (k+1) (c::W)+_
    omega
  ·grind [sz,its,Dq,Tl,bG,P8,E,aA]
theorem nQ {k:Nat} {h:Option Tx} {kc:Tx} {c0 c:E (k+1)} {N:List (Tx×E (k+1))}:∀{P:List (Tx×E (k+1))},cV (Ok (k+1)) (cut (k+1)) h (P++(kc,c0)::N)→ig k kc (tC h N) c→(∀p∈P,Old (k+1) p.2)→Old (k+1) c→(∀p∈N,Old (k+1) p.2)→iI k h (P++(kc,c)::N)
 |[],hs,hc,_,ho,hN=>by
  have all:∀(l:List (Tx×E (k+1))),cV (Ok (k+1)) (cut (k+1)) h l→(∀p∈l,Old (k+1) p.2)→iI k h l:=by
   intro l
   induction l with
   |nil=>intro _ _;trivial
   |cons a l ih=>
    intro hs ho
    cases l with
    |nil=>exact⟨hs.near,hs.lt,ho a aA⟩
    |cons b l=>exact⟨hs.1.near,⟨hs.2.1.1,hs.2.1.2.1,ho a aA⟩,ih hs.2.2 fun p hp=>ho p (aF _ hp)⟩
  cases N with
  |nil=>exact⟨hc,Ok.lt hs,ho⟩
  |cons b N=>exact⟨hc,⟨hs.2.1.1,hs.2.1.2.1,ho⟩,all _ hs.2.2 hN⟩
 |[p],hs,hc,hP,ho,hN=>by
  refine⟨hs.1.near,⟨hs.2.1.1,hs.2.1.2.1,hP p aA⟩,nQ (P:=[]) hs.2.2 hc (fun _ h=>by cases h) ho hN⟩
 |p::q::P,hs,hc,hP,ho,hN=>⟨hs.1.near,⟨hs.2.1.1,hs.2.1.2.1,hP p aA⟩,nQ (P:=q::P) hs.2.2 hc (fun x hx=>hP x (aF _ hx)) ho hN⟩
end Tr
namespace Tr
theorem uO {α:Type} (h:Option Tx) (B N:List (Tx×α)):tC h (B++N)=tC (tC h N) B:=by cases B<;>rfl
theorem AY {α:Type} (A:List (Tx×α)) (kc:Tx) (c c':α) (B:List (Tx×α)):b7 (A++(kc,c)::B)=b7 (A++(kc,c')::B):=by cases A<;>rfl
theorem Nf {k:Nat} (W:List (Tx×E (k+1))):Tl (b7 W) [] W=sz (k+1) W:=by
 cases W with
 |nil=>rfl
 |cons c r=>show 4+c.1.length+sz (k+1) r=_;rw[sz,d_]
theorem J4 {α:Type} {l:List α} (h:l≠[]):∃a,l.head?=some a:=by
 cases l with
 |nil=>exact absurd rfl h
 |cons a l=>exact⟨a,rfl⟩
structure P9 (k:Nat) (x:Tx) (h:Option Tx) (P W N:List (Tx×E (k+1))) (sp:List Nat) (r:List (Tx×E (k+1))×List Nat):Prop where
 seg:cV (Ok (k+1)) (cut (k+1)) h (P++(r.1++N))
 ct:ct (k+1) r.1=ct (k+1) W
 b8:(dI (k+1) r.1++r.2).Perm (dI (k+1) W++sp)
 eT:jP (k+1) r.1=jP (k+1) W+big k W
 head:∀p,r.1.head?=some p→p.1=x∧Old (k+1) p.2
 none:r.1=[]→P=[]∧N=[]
 size:sz (k+1) r.1≤sz (k+1) W+100*big k W
 each:∀p∈W,sz k (its p.2)≤510→its p.2≠[]→r.1≠[]
theorem Gp {k:Nat} {h:Option Tx} {P A B N:List (Tx×E (k+1))} {kc:Tx} {c0 c:E (k+1)} (sp:List Nat)
  (s:cV (Ok (k+1)) (cut (k+1)) h (P++((A++(kc,c0)::B)++N))) (nc:ig k kc (tC h (B++N)) c)
  (hA:A=[]→P=[]) (hB:B=[]→N=[]) (oA:∀p∈A,Old (k+1) p.2) (oc:Old (k+1) c) (oB:∀p∈B,Old (k+1) p.2):
  P9 k (b7 (A++(kc,c)::B)) h P (A++(kc,c)::B) N sp ((A++(kc,c)::B).foldl (dn k (b7 (A++(kc,c)::B))) ([],sp)):=by
 obtain⟨s1,s2,s3⟩:=cV.uN s
 obtain⟨s4,s5,s6⟩:=cV.uN s2
 rw[uO] at nc
 have ns:=nQ s4 nc oA oc oB
 have hx:=AY A kc c c0 B
 have hne:A++(kc,c)::B≠[]:=by simp
 have hWA:∀p∈A++(kc,c)::B,p.2=c∨(p∈A∨p∈B):=by
  grind
 have Dr:∀p,p∈A∨p∈B→its p.2≠[]∧sz k (its p.2)≤510:=by
  intro p hp
  have:p∈A++(kc,c0)::B:=by
   grind
  obtain⟨u,hu⟩:=s4.each p this
  exact⟨hu.1,hu.2.1⟩
 generalize Rr:b7 (A++(kc,c)::B)=x at*
 have F:=y9 (x:=x) (A++(kc,c)::B) [] sp (Acc.nil k x _) (by
  intro c' l e
  refine⟨fun _=> ?_,fun h=>absurd rfl h⟩
  rw[e] at Rr
  have:c'.1=x:=Rr
  rw[this];exact le_refl _) ns
 have Z:=EV (x:=x) (A++(kc,c)::B) [] sp (by
  intro d hd hb
  rcases hWA d hd with e|e
  ·rw[e] at hb ⊢
   exact (nJ k nc hb).len
  ·have:=(Dr d e).2;omega)
 have Z0:=Nf (A++(kc,c)::B)
 rw[Rr] at Z0
 rw[Z0] at Z
 generalize hr:(A++(kc,c)::B).foldl (dn k x) ([],sp)=r at F Z
 have hnone:r.1=[]→A=[]∧B=[]:=by
  intro e
  have:=(F.none e).2
  refine⟨?_, ?_⟩
  ·cases A with
   |nil=>rfl
   |cons a A=>exact absurd (this a aA) (Dr a (.inl aA)).1
  ·cases B with
   |nil=>rfl
   |cons b B=>exact absurd (this b (ah.2 (.inr (aF _ aA)))) (Dr b (.inr aA)).1
 have aax:r.1=[]∨tC h (r.1++N)=some x:=by
  by_cases e:r.1=[]
  ·exact .inl e
  ·right
   obtain⟨q,hq⟩:=J4 e
   have:=(F.row.head q hq).1
   cases lS:r.1 with
   |nil=>exact absurd lS e
   |cons z r'=>
    rw[lS] at hq
    have hz:z=q:=Option.some.inj hq
    show some z.1=some x
    rw[hz,this]
 have aay:tC h ((A++(kc,c0)::B)++N)=some x:=by
  rw[hx]
  cases A<;>rfl
 refine⟨?_, ?_, ?_, ?_, ?_, ?_,Z, ?_⟩
 ·have g1:cV (Ok (k+1)) (cut (k+1)) h (r.1++N):=by
   refine cV.glue F.row.seg s5 ?_
   intro a b ha hb
   by_cases eB:B=[]
   ·grind
   ·obtain⟨B',b',rfl⟩:=dA eB
    have e1:A++(kc,c)::(B'++[b'])=(A++(kc,c)::B')++[b']:=by simp
    obtain⟨q,hq,lN⟩:=F.last (A++(kc,c)::B') b' e1 (Dr b' (.inr (by simp))).1 (Dr b' (.inr (by simp))).2
    rw[hq] at ha
    cases ha
    have hl:=s6 b' b (by rw[show A++(kc,c0)::(B'++[b'])=(A++(kc,c0)::B')++[b'] by simp];exact cF _ _) hb
    refine⟨?_,hl.2.1,mX hl.2.2 lN⟩
    obtain⟨R',q',hR⟩:=dA (l:=r.1) (by intro e;rw[e] at hq;cases hq)
    rw[hR,cF] at hq
    cases hq
    have hrow:=F.row.seg
    rw[hR] at hrow
    have:=hrow.last.lt
    cases N with
    |nil=>cases hb
    |cons n N=>cases hb;exact this
  by_cases e:r.1=[]
  ·grind
  ·refine cV.glue ?_ g1 ?_
   ·grind
   ·intro a b ha hb
    have Xc:A≠[]:=by intro eA;rw[hA eA] at ha;cases ha
    obtain⟨a',A',rfl⟩:=rL Xc
    obtain⟨q,hq,lN⟩:=F.start rfl a' (A'++(kc,c)::B) rfl (Dr a' (.inl aA)).1 (Dr a' (.inl aA)).2
    have hb':b=q:=by
     cases lS:r.1 with
     |nil=>exact absurd lS e
     |cons z r'=>rw[lS] at hq hb;cases hq;cases hb;rfl
    subst hb'
    have hl:=s3 a a' ha rfl
    have hkey:=(F.row.head b hq).1
    have hxa:a'.1=x:=Rr
    rw[hkey,←hxa]
    exact⟨hl.1,hl.2.1,kY hl.2.2 lN⟩
 ·have:=F.ct
  rw[j8] at this
  exact this
 ·have:=F.b8
  exact this
 ·have:=F.eT
  rw[show jP (k+1) ([]:List (Tx×E (k+1)))=0 from rfl,bV] at this
  exact this
 ·exact F.row.head
 ·intro e
  obtain⟨e1,e2⟩:=hnone e
  exact⟨hA e1,hB e2⟩
 ·intro p hp _ h2 e
  exact h2 ((F.none e).2 p hp)
theorem dr (k:Nat) (lo:Tx) (l:List (Tx×E (k+1))):qT (k+1) lo l=bA lo l:=by unfold qT;rw[if_neg (cT _)]
theorem lq {k:Nat} {lo:Tx} {l:List (Tx×E (k+1))}:Head (k+1) lo l↔∀p,l.head?=some p→p.1=[]:=by
 simp_all[Head]
structure tD (k:Nat) (lo:Tx) (h:Option Tx) (all l:List (Tx×E (k+1))) (b:Nat) (sp sp':List Nat):Prop where
 row:Rw (k+1) lo h l
 ct:ct (k+1) l=ct (k+1) all
 b8:(dI (k+1) l++sp').Perm (dI (k+1) all++sp)
 eT:jP (k+1) l=jP (k+1) all+b
 size:sz (k+1) l≤sz (k+1) all+100*b
 old:(∀p∈all,Old (k+1) p.2)→∀p,l.head?=some p→Old (k+1) p.2
theorem lz {α:Type} (x:Tx) (A:List (Tx×α)) (kc:Tx) (c:α) (B:List (Tx×α)):bA x (A++(kc,c)::B)=(bA x A)++((if A.isEmpty then x else kc),c)::B:=by
 cases A with
 |nil=>rfl
 |cons a A=>rfl
theorem uP {α:Type} (l:List (Tx×α)):bA (b7 l) l=l:=by cases l<;>rfl
theorem kH {α:Type} (x:Tx) {l:List (Tx×α)} (h:l≠[]):b7 (bA x l)=x:=by
 cases l with
 |nil=>exact absurd rfl h
 |cons a l=>rfl
theorem Ng {k:Nat} {A B:List (Tx×E (k+1))} {kc:Tx} {c:E (k+1)} (h:∀p,p∈A∨p∈B→sz k (its p.2)≤510):big k (A++(kc,c)::B)=big k [(kc,c)]:=by
 have hz:∀(l:List (Tx×E (k+1))),(∀p∈l,sz k (its p.2)≤510)→big k l=0:=by
  intro l
  induction l with
  |nil=>intro _;rfl
  |cons a l ih=>
   intro hl
   show (if sz k (its a.2)≤510 then 0 else 1)+big k l=0
   rw[if_pos (hl a aA),ih fun p hp=>hl p (aF _ hp)]
 have Dm:∀(l r:List (Tx×E (k+1))),(∀p∈l,sz k (its p.2)≤510)→big k (l++r)=big k r:=by
  intro l r
  induction l with
  |nil=>intro _;rfl
  |cons a l ih=>
   intro hl
   show (if sz k (its a.2)≤510 then 0 else 1)+big k (l++r)=_
   rw[if_pos (hl a aA),ih fun p hp=>hl p (aF _ hp)]
   omega
 rw[Dm A _ fun p hp=>h p (.inl hp)]
 show (if sz k (its c)≤510 then 0 else 1)+big k B=(if sz k (its c)≤510 then 0 else 1)+0
 rw[hz B fun p hp=>h p (.inr hp)]
theorem Gq {k:Nat} {lo:Tx} {h:Option Tx} {P A B N:List (Tx×E (k+1))} {kc:Tx} {c0 c:E (k+1)} (sp:List Nat)
  (o:Rw (k+1) lo h (P++((A++(kc,c0)::B)++N))) (nc:ig k (if P=[]∧A=[] then lo else kc) (tC h (B++N)) c)
  (hA:A=[]→P=[]) (hB:B=[]→N=[]) (oA:∀p∈A,Old (k+1) p.2) (oc:Old (k+1) c) (oB:∀p∈B,Old (k+1) p.2):
  tD k lo h (P++((A++(kc,c)::B)++N)) (P++(bA (b7 (A++(kc,c)::B)) ((A++(kc,c)::B).foldl (bC k) ([],sp)).1++N)) (big k [(kc,c)]) sp ((A++(kc,c)::B).foldl (bC k) ([],sp)).2:=by
 obtain⟨h3,h4⟩:=o
 rw[dr] at h4
 rw[lq] at h3
 obtain⟨P',A',AZ,Xd,OZ,hkc,Z2,Xe,hAm⟩:∃(P' A':List (Tx×E (k+1))) (AZ:Tx),
   (∀(x:E (k+1)) (R:List (Tx×E (k+1))),bA lo (P++((A++(kc,x)::B)++R))=P'++((A'++(AZ,x)::B)++R))∧
   (∀x:E (k+1),A'++(AZ,x)::B=A++(kc,x)::B∨(P=[]∧A'++(AZ,x)::B=bA lo (A++(kc,x)::B)))∧
   AZ=(if P=[]∧A=[] then lo else kc)∧(P'=[]↔P=[])∧(A'=[]↔A=[])∧(∀p∈A',∃q∈A,p.2=q.2):=by
  cases P with
  |cons p P=>
   refine⟨(lo,p.2)::P,A,kc,fun _ _=>rfl,fun _=>.inl rfl, ?_,by simp,Iff.rfl,fun p hp=>⟨p,hp,rfl⟩⟩
   rw[if_neg (by simp)]
  |nil=>
   cases A with
   |nil=>
    refine⟨[],[],lo,fun _ _=>rfl,fun _=>.inr ⟨rfl,rfl⟩, ?_,Iff.rfl,Iff.rfl,fun p hp=>(by cases hp)⟩
    rw[if_pos ⟨rfl,rfl⟩]
   |cons a A=>
    refine⟨[],(lo,a.2)::A,kc,fun _ _=>rfl,fun _=>.inr ⟨rfl,rfl⟩, ?_,Iff.rfl,by simp,fun p hp=> ?_⟩
    ·rw[if_neg (by simp)]
    ·grind
 rw[Xd c0 N] at h4
 rw[←hkc] at nc
 have W:=Gp sp h4 nc (fun e=>Z2.2 (hA (Xe.1 e))) hB (fun p hp=>by obtain⟨q,hq,e⟩:=hAm p hp;rw[e];exact oA q hq) oc oB
 have Tm:∀(x:Tx),x=b7 (A'++(AZ,c)::B)→((A'++(AZ,c)::B).foldl (dn k x) ([],sp)).2=((A++(kc,c)::B).foldl (bC k) ([],sp)).2∧((A'++(AZ,c)::B).foldl (dn k x) ([],sp)).1=bA x ((A++(kc,c)::B).foldl (bC k) ([],sp)).1:=by
  intro x hx
  obtain⟨f1,f2⟩:=nk k x (A++(kc,c)::B) [] sp
  rw[setHd_nil] at f1 f2
  rcases OZ c with e|⟨_,e⟩
  ·rw[e];exact⟨f1.symm,f2.symm⟩
  ·rw[e,AX];exact⟨f1.symm,f2.symm⟩
 obtain⟨f1,f2⟩:=Tm _ rfl
 generalize hx:b7 (A'++(AZ,c)::B)=x at*
 generalize (A'++(AZ,c)::B).foldl (dn k x) ([],sp)=r at*
 generalize (A++(kc,c)::B).foldl (bC k) ([],sp)=rc at*
 generalize oh:b7 (A++(kc,c)::B)=k0 at*
 have hbig:big k (A'++(AZ,c)::B)=big k [(kc,c)]:=by
  rw[Ng]
  ·rfl
  ·intro p hp
   have hm:p∈P'++((A'++(AZ,c0)::B)++N):=by
    rcases hp with hp|hp
    ·exact ah.2 (.inr (ah.2 (.inl (ah.2 (.inl hp)))))
    ·exact ah.2 (.inr (ah.2 (.inl (ah.2 (.inr (aF _ hp))))))
   obtain⟨u,hu⟩:=h4.each p hm
   exact hu.2.1
 have Tn:ct (k+1) (A'++(AZ,c)::B)=ct (k+1) (A++(kc,c)::B):=by
  rcases OZ c with e|⟨_,e⟩
  ·rw[e]
  ·rw[e,jo]
 have Tp:dI (k+1) (A'++(AZ,c)::B)=dI (k+1) (A++(kc,c)::B):=by
  rcases OZ c with e|⟨_,e⟩
  ·rw[e]
  ·rw[e,ry]
 have Tq:jP (k+1) (A'++(AZ,c)::B)=jP (k+1) (A++(kc,c)::B):=by
  rcases OZ c with e|⟨_,e⟩
  ·rw[e]
  ·rw[e,rz]
 have Ts:ct (k+1) rc.1=ct (k+1) r.1:=by rw[f2,jo]
 have Tt:dI (k+1) rc.1=dI (k+1) r.1:=by rw[f2,ry]
 have Tu:jP (k+1) rc.1=jP (k+1) r.1:=by rw[f2,rz]
 have hkey:P=[]→k0=[]:=by
  intro e
  rw[←oh]
  cases A with
  |nil=>exact h3 (kc,c0) (by rw[e];rfl)
  |cons a A=>exact h3 a (by rw[e];rfl)
 have Xf:P≠[]→x=k0:=by
  intro e
  rcases OZ c with e2|⟨e2,_⟩
  ·rw[←hx,e2,oh]
  ·exact absurd e2 e
 have Rt:∀R:List (Tx×E (k+1)),P≠[]→bA lo (P++R)=P'++R:=by
  intro R e
  have:=Xd c0 []
  rw[eW _ _ _ e] at this
  have e2:bA lo P=P':=by
   rcases OZ c0 with e3|⟨e3,_⟩
   ·rw[e3] at this;exact List.append_cancel_right this
   ·exact absurd e3 e
  rw[eW _ _ _ e,e2]
 refine⟨⟨?_, ?_⟩, ?_, ?_, ?_, ?_, ?_⟩
 ·rw[lq]
  intro p hp
  by_cases e:P=[]
  ·subst e
   cases lS:rc.1 with
   |nil=>
    have:r.1=[]:=by rw[f2,lS];rfl
    rw[lS,(W.none this).2] at hp
    cases hp
   |cons q l=>
    rw[lS] at hp
    cases hp
    exact hkey rfl
  ·obtain⟨q,P2,rfl⟩:=rL e
   exact h3 p hp
 ·rw[dr]
  have hW:=W.seg
  rw[f2] at hW
  by_cases e:P=[]
  ·have Z3:=Z2.2 e
   subst e
   rw[Z3] at hW
   by_cases lS:rc.1=[]
   ·have:r.1=[]:=by rw[f2,lS];rfl
    rw[(W.none this).2,lS]
    trivial
   ·have hx2:bA lo (bA k0 rc.1++N)=bA x rc.1++N:=by
     rw[eW _ _ _ (by rw[ne_eq,pX];exact lS),Aq]
     congr 1
     have hxl:x=lo:=by
      rcases OZ c with e2|⟨_,e2⟩
      ·have:=Xd c []
       rw[Z3,dF,dF,bh,bh] at this
       rw[←hx,←this]
       exact kH lo (by simp)
      ·rw[←hx,e2]
       exact kH lo (by simp)
     rw[hxl]
    rw[dF,hx2]
    exact hW
  ·rw[Rt _ e,←Xf e]
   exact hW
 ·rw[bJ,bJ,bJ,bJ,jo,Ts,W.ct,Tn]
 ·rw[bK,bK,bK,bK,ry,Tt,←Tp]
  have hp:=W.b8
  rw[f1] at hp
  generalize dI (k+1) r.1=a at*
  generalize dI (k+1) (A'++(AZ,c)::B)=b at*
  generalize dI (k+1) P=pp
  generalize dI (k+1) N=nn
  simp only[aB]
  refine List.Perm.append_left _ ?_
  have h1:(a++(nn++rc.2)).Perm ((a++rc.2)++nn):=by
   rw[aB]
   exact List.Perm.append_left _ l7
  refine h1.trans ((List.Perm.append_right _ hp).trans ?_)
  rw[aB]
  exact List.Perm.append_left _ l7
 ·rw[cz,cz,cz,cz,rz,Tu,W.eT,Tq,hbig]
  omega
 ·have hs:=W.size
  rw[hbig] at hs
  rw[dV,dV,dV,dV]
  have e1:sz (k+1) (bA k0 rc.1)≤sz (k+1) (A++(kc,c)::B)+100*big k [(kc,c)]:=by
   have Tv:A++(kc,c)::B≠[]:=by simp
   have jQ:sz (k+1) (bA x (A++(kc,c)::B))=sz (k+1) (A'++(AZ,c)::B):=by
    rcases OZ c with e2|⟨_,e2⟩
    ·have:x=k0:=by rw[←hx,e2,oh]
     rw[this,←oh,uP,e2]
    ·rw[e2]
     have:x=lo:=by rw[←hx,e2];exact kH lo Tv
     rw[this]
   have rC:∀y:Tx,sz (k+1) (bA y (A++(kc,c)::B))+k0.length=sz (k+1) (A++(kc,c)::B)+y.length:=by
    intro y
    obtain⟨q,l,e⟩:=rL Tv
    rw[e,setHd_cons]
    have:q.1=k0:=by rw[←oh,e];rfl
    simp only[sz,d_]
    rw[←this]
    omega
   have:=rC x
   rw[f2] at hs
   cases lS:rc.1 with
   |nil=>exact aC _
   |cons q l=>
    rw[lS,setHd_cons] at hs
    rw[setHd_cons]
    simp only[sz,d_] at hs ⊢
    omega
  omega
 ·intro ho p hp
  by_cases e:P=[]
  ·subst e
   cases lS:rc.1 with
   |nil=>
    have:r.1=[]:=by rw[f2,lS];rfl
    rw[lS,(W.none this).2] at hp
    cases hp
   |cons q l=>
    rw[lS] at hp
    cases hp
    exact (W.head (x,q.2) (by rw[f2,lS];rfl)).2
  ·obtain⟨q,P2,rfl⟩:=rL e
   cases hp
   exact ho _ (by simp)
end Tr
section
open Go.RowKit Lib
def iV (hi:List UInt8):Option Tr.Tx:=if hi=[] then none else some hi
def dS:(k:Nat)→Tr.E k→List UInt8
 |0,v=>v
 |_+1,n=>pv ((Tr.hd n).page.getD 0)
def ak (k:Nat) (l:List (Tr.Tx×Tr.E k)):List It:=l.map fun p=>⟨p.1,dS k p.2,none⟩
def cK (pg:List (Option Wl.Text)):(k:Nat)→Tr.E k→Prop
 |0,_=>True
 |k+1,n=>(∃page,(Tr.hd n).page=some page∧page<65536∧pg.getD page none=some (Dk.full (cB k (ak k (Tr.its n)))))∧(Tr.hd n).fresh=false∧∀p∈Tr.its n,cK pg k p.2
def xP:Option Nat→Int
 |none=>-1
 |some p=>p
def iW (pg:List (Option Wl.Text)) (k:Nat) (R:Nat→Tr.E (k+1)→List Nat→Prop) (i:It) (x:Tr.Tx×Tr.E (k+1)) (f:List Nat):Prop:=
 i.key=x.1∧i.val.length=2∧((i.node=none∧f=[]∧i.val=dS (k+1) x.2∧cK pg (k+1) x.2)∨∃q,i.node=some q∧R q x.2 f)
def aX (pg:List (Option Wl.Text)) (k:Nat) (R:Nat→Tr.E (k+1)→List Nat→Prop):List It→List (Tr.Tx×Tr.E (k+1))→List (List Nat)→Prop
 |[],[],[]=>True
 |i::is,x::xs,f::fs=>iW pg k R i x f∧aX pg k R is xs fs
 |_,_,_=>False
structure jU (pg:List (Option Wl.Text)) (k:Nat) (n:NV) (t:Tr.E (k+1)):Prop where
 level:n.level=k
 page:n.page=xP (Tr.hd t).page
 fresh:n.fresh=(Tr.hd t).fresh
 near:Tr.ig k n.lo (iV n.hi) t
 held:(Tr.hd t).fresh=false→∃page,(Tr.hd t).page=some page∧page<65536∧pg.getD page none=some (Dk.full (cB k (ak k (Tr.its t))))∧(0<k→∀p∈Tr.its t,(match k,p.2 with|0,_=>True|_+1,c=>(Tr.hd c).page.isSome=true))
def dx (M:Nat→Option NV) (pg:List (Option Wl.Text)):(k:Nat)→Nat→Tr.E (k+1)→List Nat→Prop
 |0,p,t,F=>∃n,M p=some n∧jU pg 0 n t∧n.its=ak 0 (Tr.its t)∧F=[p]
 |k+1,p,t,F=>∃n fs,M p=some n∧jU pg (k+1) n t∧aX pg k (dx M pg k) n.its (Tr.its t) fs∧F=p::fs.flatten
section
variable {M M':Nat→Option NV} {pg:List (Option Wl.Text)} {k:Nat} {R R':Nat→Tr.E (k+1)→List Nat→Prop}
theorem iW.mono {i:It} {x:Tr.Tx×Tr.E (k+1)} {f:List Nat} (h:iW pg k R i x f) (hR:∀q,i.node=some q→R q x.2 f→R' q x.2 f):iW pg k R' i x f:=by
 obtain⟨h1,h2,h3⟩:=h
 refine⟨h1,h2, ?_⟩
 rcases h3 with h3|⟨q,hq,h3⟩
 ·exact .inl h3
 ·grind
theorem aX.mono:∀{is:List It} {xs:List (Tr.Tx×Tr.E (k+1))} {fs:List (List Nat)},aX pg k R is xs fs→(∀q c f,f∈fs→R q c f→R' q c f)→aX pg k R' is xs fs
 |[],[],[],_,_=>trivial
 |_::_,_::_,f::_,h,hR=>⟨h.1.mono fun _ _ h'=>hR _ _ f aA h',aX.mono h.2 fun q c g hg=>hR q c g (aF _ hg)⟩
 |[],[],_::_,h,_=>h.elim
 |[],_::_,_,h,_=>h.elim
 |_::_,[],_,h,_=>h.elim
 |_::_,_::_,[],h,_=>h.elim
theorem aX.len:∀{is:List It} {xs:List (Tr.Tx×Tr.E (k+1))} {fs:List (List Nat)},aX pg k R is xs fs→is.length=xs.length∧fs.length=xs.length
 |[],[],[],_=>⟨rfl,rfl⟩
 |_::_,_::_,_::_,h=>by have:=aX.len h.2;simp only[aW];omega
 |[],[],_::_,h=>h.elim
 |[],_::_,_,h=>h.elim
 |_::_,[],_,h=>h.elim
 |_::_,_::_,[],h=>h.elim
theorem aX.append:∀{is:List It} {xs:List (Tr.Tx×Tr.E (k+1))} {fs:List (List Nat)} {Ru:List It} {xs':List (Tr.Tx×Tr.E (k+1))} {fs':List (List Nat)},aX pg k R is xs fs→aX pg k R Ru xs' fs'→aX pg k R (is++Ru) (xs++xs') (fs++fs')
 |[],[],[],_,_,_,_,h=>h
 |_::_,_::_,_::_,_,_,_,h,h'=>⟨h.1,aX.append h.2 h'⟩
 |[],[],_::_,_,_,_,h,_=>h.elim
 |[],_::_,_,_,_,_,h,_=>h.elim
 |_::_,[],_,_,_,_,h,_=>h.elim
 |_::_,_::_,[],_,_,_,h,_=>h.elim
theorem aX.parts:∀{xs xs':List (Tr.Tx×Tr.E (k+1))} {is:List It} {fs:List (List Nat)},aX pg k R is (xs++xs') fs→∃i1 i2 f1 f2,is=i1++i2∧fs=f1++f2∧aX pg k R i1 xs f1∧aX pg k R i2 xs' f2
 |[],_,is,fs,h=>⟨[],is,[],fs,rfl,rfl,trivial,h⟩
 |x::xs,xs',i::is,f::fs,h=>by
  obtain⟨i1,i2,f1,f2,rfl,rfl,h1,h2⟩:=aX.parts (xs:=xs) h.2
  exact⟨i::i1,i2,f::f1,f2,rfl,rfl,⟨h.1,h1⟩,h2⟩
 |_::_,_,[],_,h=>h.elim
 |_::_,_,_::_,[],h=>h.elim
theorem aX.cons_inv {x:Tr.Tx×Tr.E (k+1)} {xs:List (Tr.Tx×Tr.E (k+1))} {is:List It} {fs:List (List Nat)} (h:aX pg k R is (x::xs) fs):∃i Ru f fs',is=i::Ru∧fs=f::fs'∧iW pg k R i x f∧aX pg k R Ru xs fs':=by
 match is,fs,h with
 |i::is,f::fs,h=>exact⟨i,is,f,fs,rfl,rfl,h.1,h.2⟩
 |[],_,h=>exact h.elim
 |_::_,[],h=>exact h.elim
theorem aX.tE {is:List It} {fs:List (List Nat)} (h:aX pg k R is [] fs):is=[]∧fs=[]:=by
 match is,fs,h with
 |[],[],_=>exact⟨rfl,rfl⟩
 |_::_,_,h=>exact h.elim
 |[],_::_,h=>exact h.elim
end
section
variable {M M':Nat→Option NV} {pg:List (Option Wl.Text)}
theorem dx.head:∀{k p:Nat} {t:Tr.E (k+1)} {F:List Nat},dx M pg k p t F→∃n,M p=some n∧jU pg k n t∧p∈F
 |0,_,_,_,⟨n,h1,h2,_,h4⟩=>⟨n,h1,h2,by rw[h4];exact aA⟩
 |_+1,_,_,_,⟨n,_,h1,h2,_,h4⟩=>⟨n,h1,h2,by rw[h4];exact aA⟩
theorem dx.frame:∀{k p:Nat} {t:Tr.E (k+1)} {F:List Nat},dx M pg k p t F→(∀q∈F,M' q=M q)→dx M' pg k p t F
 |0,_,_,_,⟨n,h1,h2,h3,h4⟩,hF=>⟨n,by rw[hF _ (by rw[h4];exact aA)];exact h1,h2,h3,h4⟩
 |k+1,_,_,_,⟨n,fs,h1,h2,h3,h4⟩,hF=>⟨n,fs,by rw[hF _ (by rw[h4];exact aA)];exact h1,h2,h3.mono fun _ _ f hf hr=>dx.frame hr fun q hq=>hF q (by rw[h4];exact aF _ (List.mem_flatten.2 ⟨f,hf,hq⟩)),h4⟩
theorem aX.frame {k:Nat} {is:List It} {xs:List (Tr.Tx×Tr.E (k+1))} {fs:List (List Nat)} (h:aX pg k (dx M pg k) is xs fs) (hF:∀q∈fs.flatten,M' q=M q):aX pg k (dx M' pg k) is xs fs:=
 h.mono fun _ _ f hf hr=>dx.frame hr fun q hq=>hF q (List.mem_flatten.2 ⟨f,hf,hq⟩)
end
theorem oJ:∀(l:List (Tr.Tx×Tr.E 0)),cj (ak 0 l)=Tr.sz 0 l
 |[]=>rfl
 |p::l=>by
  show 2+p.1.length+(dS 0 p.2).length+cj (ak 0 l)=_
  rw[oJ l];rfl
theorem P_ (p:Nat):(pv p).length=2:=rfl
theorem oK (k:Nat):∀(l:List (Tr.Tx×Tr.E (k+1))),cj (ak (k+1) l)=Tr.sz (k+1) l
 |[]=>rfl
 |p::l=>by
  show 2+p.1.length+(dS (k+1) p.2).length+cj (ak (k+1) l)=_
  rw[oK k l];rfl
theorem gX:∀(k:Nat) (l:List (Tr.Tx×Tr.E k)),cj (ak k l)=Tr.sz k l
 |0,l=>oJ l
 |k+1,l=>oK k l
theorem aX.sz {pg:List (Option Wl.Text)} {k:Nat} {R:Nat→Tr.E (k+1)→List Nat→Prop}:∀{is:List It} {xs:List (Tr.Tx×Tr.E (k+1))} {fs:List (List Nat)},aX pg k R is xs fs→cj is=Tr.sz (k+1) xs
 |[],[],[],_=>rfl
 |i::is,x::xs,_::fs,h=>by
  have ih:=aX.sz h.2
  show 2+i.key.length+i.val.length+cj is=2+x.1.length+2+Tr.sz (k+1) xs
  rw[ih,h.1.1,h.1.2.1]
 |[],[],_::_,h=>h.elim
 |[],_::_,_,h=>h.elim
 |_::_,[],_,h=>h.elim
 |_::_,_::_,[],h=>h.elim
theorem aX.keys {pg:List (Option Wl.Text)} {k:Nat} {R:Nat→Tr.E (k+1)→List Nat→Prop}:∀{is:List It} {xs:List (Tr.Tx×Tr.E (k+1))} {fs:List (List Nat)},aX pg k R is xs fs→is.map It.key=xs.map (·.1)
 |[],[],[],_=>rfl
 |i::is,x::xs,_::fs,h=>by
  rw[bH,bH,aX.keys h.2,h.1.1]
 |[],[],_::_,h=>h.elim
 |[],_::_,_,h=>h.elim
 |_::_,[],_,h=>h.elim
 |_::_,_::_,[],h=>h.elim
theorem dx.sz {M:Nat→Option NV} {pg:List (Option Wl.Text)}:∀{k p:Nat} {t:Tr.E (k+1)} {F:List Nat} {n:NV},dx M pg k p t F→M p=some n→cj n.its=Tr.sz k (Tr.its t)∧n.its.map It.key=(Tr.its t).map (·.1)∧n.its.length=(Tr.its t).length
 |0,_,t,_,n,⟨n',h1,_,h3,_⟩,hn=>by
  rw[hn] at h1
  injection h1 with h1
  subst h1
  rw[h3]
  exact⟨gX 0 _,by unfold ak;rw[List.map_map];rfl,by unfold ak;rw[aM]⟩
 |k+1,_,t,_,n,⟨n',fs,h1,_,h3,_⟩,hn=>by
  rw[hn] at h1
  injection h1 with h1
  subst h1
  exact⟨h3.sz,h3.keys,h3.len.1⟩
namespace Tr
theorem uQ {α:Type} {O:Tx→Option Tx→α→Prop} {C:α→Tx→α→Prop} {h:Option Tx} (hO:∀a u x,O a u x→su a u):∀{l:List (Tx×α)},cV O C h l→(l.map (·.1)).Pairwise (fun a b=>lt a b=true)∧∀p∈l,su p.1 h
 |[],_=>⟨List.Pairwise.nil,fun p hp=>by cases hp⟩
 |[a],s=>⟨List.pairwise_singleton _ _,fun p hp=>by rw[cH.1 hp];exact hO _ _ _ s⟩
 |a::b::r,s=>by
  obtain⟨h1,h2⟩:=uQ hO (l:=b::r) s.2.2
  refine⟨?_,fun p hp=> ?_⟩
  ·rw[bH,cw]
   refine⟨fun c hc=> ?_,h1⟩
   rw[bH] at hc h1
   rcases aQ.1 hc with rfl|hc
   ·exact s.2.1.1
   ·exact lt_trans s.2.1.1 ((cw.1 h1).1 c hc)
  ·rcases aQ.1 hp with rfl|hp
   ·exact ug (le_of_lt s.2.1.1) (h2 b aA)
   ·exact h2 p hp
theorem iJ:∀(k:Nat) (l:List (Tx×E k)),2*l.length≤sz k l
 |_,[]=>aC _
 |k,p::l=>by
  have:=iJ k l
  rw[aW,sz]
  unfold iQ
  omega
end Tr
theorem Nh {lo hi key:List UInt8} (h1:Tr.le lo key) (h2:Tr.su key (iV hi)):hasB lo hi key=true:=by
 unfold hasB
 have e1:Tr.lt key lo=false:=h1
 rw[e1]
 by_cases hh:hi=[]
 ·subst hh;rfl
 ·have e2:Tr.lt key hi=true:=by unfold iV at h2;rw[if_neg hh] at h2;exact h2
  rw[e2]
  simp
theorem gY {k:Nat} {lo:Tr.Tx} {h:Option Tr.Tx} {l:List (Tr.Tx×Tr.E k)} (hw:Tr.Rw k lo h l):
  (l.map (·.1)).Pairwise (fun a b=>Tr.lt a b=true)∧(∀p∈(if k=0 then l else l.tail),Tr.le lo p.1∧Tr.su p.1 h)∧∀p∈l,p.1.length≤96:=by
 obtain⟨h1,h2⟩:=hw
 have hO:∀a u (x:Tr.E k),Tr.Ok k a u x→Tr.su a u:=fun a u x=>Tr.Ok.lt
 unfold Tr.qT at h2
 cases l with
 |nil=>exact⟨List.Pairwise.nil,(fun p hp=>by by_cases hk:k=0<;>simp[hk] at hp),fun p hp=>by cases hp⟩
 |cons a r=>
  have hh:=h1 a rfl
  by_cases hk:k=0
  ·rw[if_pos hk] at h2 hh ⊢
   obtain⟨k1,k2⟩:=Tr.uQ hO h2
   refine⟨k1,fun p hp=>⟨?_,k2 p hp⟩,fun p hp=> ?_⟩
   ·rcases aQ.1 hp with rfl|hp
    ·exact hh.1
    ·rw[bH,cw] at k1
     exact Tr.le_trans hh.1 (Tr.le_of_lt (k1.1 _ (List.mem_map_of_mem hp)))
   ·rcases aQ.1 hp with rfl|hp
    ·exact hh.2
    ·exact Tr.cV.lens h2 p hp
  ·rw[if_neg hk] at h2 hh ⊢
   have h2':Tr.cV (Tr.Ok k) (Tr.cut k) h ((lo,a.2)::r):=h2
   obtain⟨k1,k2⟩:=Tr.uQ hO h2'
   rw[bH,cw] at k1
   have hlo:∀p∈r,Tr.lt lo p.1=true:=fun p hp=>k1.1 _ (List.mem_map_of_mem hp)
   refine⟨?_,fun p hp=>⟨Tr.le_of_lt (hlo p hp),k2 p (aF _ hp)⟩,fun p hp=> ?_⟩
   ·rw[bH,cw]
    refine⟨fun c hc=> ?_,k1.2⟩
    rw[hh]
    have:=k1.1 c hc
    cases c with
    |nil=>exact absurd this (by rw[show Tr.lt lo []=false from by cases lo<;>rfl];decide)
    |cons _ _=>rfl
   ·rcases aQ.1 hp with rfl|hp
    ·grind
    ·exact Tr.cV.lens h2' p hp
theorem c9 (k:Nat) (l:List (Tr.Tx×Tr.E k)):(ak k l).map It.key=l.map (·.1):=by unfold ak;rw[List.map_map];rfl
theorem uR {its:List It} (h:(its.map It.key).Pairwise (fun a b=>Tr.lt a b=true)):Jg its:=by
 grind [Jg]
theorem gL {pg:List (Option Wl.Text)} {k page:Nat} {c:Tr.E (k+1)} {lo hi:List UInt8} (hk:k≤15) (hs:cK pg (k+1) c) (hp:(Tr.hd c).page=some page) (ho:Tr.Ok (k+1) lo (iV hi) c):Na pg page k (ak k (Tr.its c)) lo hi:=by
 obtain⟨⟨O0,hp',_,wP⟩,_,qp⟩:=hs
 rw[hp] at hp'
 injection hp' with hp'
 subst hp'
 obtain⟨o1,o2,o3⟩:=ho
 obtain⟨k1,k2,k3⟩:=gY o3
 have hsz:=gX k (Tr.its c)
 have hlen:(ak k (Tr.its c)).length=(Tr.its c).length:=by unfold ak;rw[aM]
 refine⟨wP,fun rg cap=>⟨hk, ?_, ?_, ?_, ?_⟩, ?_, ?_,by rw[hsz];exact o2, ?_⟩
 ·show ak k (Tr.its c)≠[]
  intro e
  have:(ak k (Tr.its c)).length=0:=by rw[e];rfl
  rw[hlen] at this
  exact o1 (List.eq_nil_of_length_eq_zero this)
 ·show 0<k→∀h:0<(ak k (Tr.its c)).length,(ak k (Tr.its c))[0].key=[]
  intro oh h
  have hne:0<(Tr.its c).length:=by rw[←hlen];exact h
  have hh:=o3.1 ((Tr.its c)[0]) (by rw[List.head?_eq_getElem?,aJ hne])
  rw[if_neg (by omega)] at hh
  have e:(ak k (Tr.its c))[0]=⟨((Tr.its c)[0]).1,dS k ((Tr.its c)[0]).2,none⟩:=List.getElem_map ..
  rw[e]
  exact hh
 ·exact uR (by rw[show (NV.read k (ak k (Tr.its c)) rg cap).its=ak k (Tr.its c) from rfl,c9];exact k1)
 ·show ∀i∈ak k (Tr.its c),i.key.length≤96∧i.val.length≤56∧(0<k→i.val.length=2)
  intro i hi'
  unfold ak at hi'
  obtain⟨p,wQ,rfl⟩:=List.mem_map.1 hi'
  refine⟨k3 p wQ, ?_⟩
  match k,c,p,wQ,o3 with
  |0,c,p,wQ,o3=>
   have h2:Tr.cV (Tr.Ok 0) (Tr.cut 0) (iV hi) (Tr.its c):=o3.2
   obtain⟨u,hu⟩:=h2.each p wQ
   exact⟨hu.1,fun h=>absurd h (by decide)⟩
  |k+1,c,p,_,_=>exact⟨(by show (pv _).length≤56;rw[P_];decide),fun _=>rfl⟩
 ·rw[hlen]
  have:=Tr.iJ k (Tr.its c)
  omega
 ·grind [ak]
 ·intro i hi'
  have:∃p∈(if k=0 then Tr.its c else (Tr.its c).tail),i.key=p.1:=by
   by_cases oh:k=0
   ·grind [ak]
   ·rw[if_neg oh] at hi' ⊢
    unfold ak at hi'
    rw[←List.map_tail] at hi'
    obtain⟨p,wQ,rfl⟩:=List.mem_map.1 hi'
    exact⟨p,wQ,rfl⟩
  obtain⟨p,wQ,e⟩:=this
  rw[e]
  exact Nh (k2 p wQ).1 (k2 p wQ).2
theorem dx.dom {M:Nat→Option NV} {pg:List (Option Wl.Text)}:∀{k p:Nat} {t:Tr.E (k+1)} {F:List Nat},dx M pg k p t F→∀q∈F,∃m,M q=some m
 |0,p,_,_,⟨n,h1,_,_,h4⟩,q,hq=>by
  rw[h4] at hq
  rw[cH.1 hq]
  exact⟨n,h1⟩
 |k+1,p,t,_,⟨n,fs,h1,_,h3,h4⟩,q,hq=>by
  rw[h4] at hq
  rcases aQ.1 hq with rfl|hq
  ·exact⟨n,h1⟩
  ·have key:∀{is:List It} {xs:List (Tr.Tx×Tr.E (k+1))} {fs:List (List Nat)},aX pg k (dx M pg k) is xs fs→∀q∈fs.flatten,∃m,M q=some m:=by
    intro is
    induction is with
    |nil=>
     intro xs fs h q hq
     cases xs with
     |nil=>cases fs with
      |nil=>cases hq
      |cons _ _=>exact h.elim
     |cons _ _=>exact h.elim
    |cons i is ih=>
     intro xs fs h q hq
     cases xs with
     |nil=>exact h.elim
     |cons x xs=>cases fs with
      |nil=>exact h.elim
      |cons f fs=>
       rw[cU] at hq
       rcases ah.1 hq with hq|hq
       ·obtain⟨⟨_,_,hi⟩,_⟩:=h
        rcases hi with⟨_,e,_⟩|⟨r,_,hr⟩
        ·rw[e] at hq;cases hq
        ·exact dx.dom hr q hq
       ·exact ih h.2 q hq
   exact key h3 q hq
theorem aX.dom {M:Nat→Option NV} {pg:List (Option Wl.Text)} {k:Nat}:∀{is:List It} {xs:List (Tr.Tx×Tr.E (k+1))} {fs:List (List Nat)},aX pg k (dx M pg k) is xs fs→∀q∈fs.flatten,∃m,M q=some m
 |[],[],[],_,q,hq=>by cases hq
 |i::is,x::xs,f::fs,h,q,hq=>by
  rw[cU] at hq
  rcases ah.1 hq with hq|hq
  ·obtain⟨⟨_,_,hi⟩,_⟩:=h
   rcases hi with⟨_,e,_⟩|⟨r,_,hr⟩
   ·rw[e] at hq;cases hq
   ·exact dx.dom hr q hq
  ·exact aX.dom h.2 q hq
 |[],[],_::_,h,_,_=>h.elim
 |[],_::_,_,h,_,_=>h.elim
 |_::_,[],_,h,_,_=>h.elim
 |_::_,_::_,[],h,_,_=>h.elim
theorem gM {pg:List (Option Wl.Text)} {k:Nat} {R:Nat→Tr.E (k+1)→List Nat→Prop}:∀{l:List (Tr.Tx×Tr.E (k+1))},(∀p∈l,cK pg (k+1) p.2)→aX pg k R (ak (k+1) l) l (l.map fun _=>[])
 |[],_=>trivial
 |p::l,h=>⟨⟨rfl,rfl,.inl ⟨rfl,rfl,rfl,h p aA⟩⟩,gM (l:=l) fun q hq=>h q (aF _ hq)⟩
theorem gZ {α β:Type} (l:List α):(l.map fun _=>([]:List β)).flatten=[]:=by
 simp_all
theorem oY {pg:List (Option Wl.Text)} {k page:Nat} {c:Tr.E (k+1)} {lo hi:List UInt8} {rg cap:Nat} (hs:cK pg (k+1) c) (hp:(Tr.hd c).page=some page) (ho:Tr.Ok (k+1) lo (iV hi) c):jU pg k (NV.got k (ak k (Tr.its c)) rg cap page lo hi) c:=by
 obtain⟨⟨O0,hp',hlt,wP⟩,hfr,qp⟩:=hs
 rw[hp] at hp'
 injection hp' with hp'
 subst hp'
 refine⟨rfl,by rw[hp];rfl,hfr.symm,ho.near,fun _=>⟨page,hp,hlt,wP,fun hk p hm=> ?_⟩⟩
 match k,c,p,qp p hm with
 |0,_,_,_=>trivial
 |k+1,_,_,hst=>obtain⟨⟨pq,e,_⟩,_⟩:=hst;show (Tr.hd _).page.isSome=true;rw[e];rfl
theorem EW {M:Nat→Option NV} {pg:List (Option Wl.Text)} {k page p:Nat} {c:Tr.E (k+1)} {lo hi:List UInt8} {rg cap:Nat} (hs:cK pg (k+1) c) (hp:(Tr.hd c).page=some page) (ho:Tr.Ok (k+1) lo (iV hi) c) (hM:M p=some (NV.got k (ak k (Tr.its c)) rg cap page lo hi)):dx M pg k p c [p]:=by
 have hown:=oY (rg:=rg) (cap:=cap) hs hp ho
 match k,c,hs,hp,ho,hM,hown with
 |0,c,hs,hp,ho,hM,hown=>exact⟨_,hM,hown,rfl,rfl⟩
 |k+1,c,hs,hp,ho,hM,hown=>
  refine⟨_,(Tr.its c).map fun _=>[],hM,hown,gM hs.2.2, ?_⟩
  rw[gZ]
theorem y_ {α:Type} {O:Tr.Tx→Option Tr.Tx→α→Prop} {C:α→Tr.Tx→α→Prop} {h:Option Tr.Tx} {A:List (Tr.Tx×α)} {x:Tr.Tx×α} {B:List (Tr.Tx×α)} (s:Tr.cV O C h (A++x::B)):O x.1 (Tr.tC h B) x.2:=by
 have s2:=Tr.cV.behind s
 cases B with
 |nil=>exact s2
 |cons b B=>exact s2.1
theorem ff {α:Type} (f:α→List UInt8) (A:List α) (b:α) (B:List α):((A++b::B).map f).getD A.length []=f b:=by
 grind
theorem lB {k:Nat} {n:NV} {t:Tr.E (k+2)} {A B:List (Tr.Tx×Tr.E (k+1))} {key:Tr.Tx} {c:Tr.E (k+1)} (hn:Tr.ig (k+1) n.lo (iV n.hi) t) (ht:Tr.its t=A++(key,c)::B) (hks:n.its.map It.key=(Tr.its t).map (·.1)):
  Tr.Ok (k+1) (eF n A.length) (iV (dW n A.length)) c:=by
 obtain⟨_,_,h4⟩:=hn
 rw[Tr.dr,ht] at h4
 have hlen:n.its.length=(A++(key,c)::B).length:=by
  grind [List.length,aM]
 have hlo:eF n A.length=if A=[] then n.lo else key:=by
  simp_all[eF]
 have hB:∀b B',B=b::B'→dW n A.length=b.1:=by
  simp_all[dW,aq]
 have LY:B=[]→dW n A.length=n.hi:=by
  simp_all[dW]
 have iX:Tr.Ok (k+1) (if A=[] then n.lo else key) (Tr.tC (iV n.hi) B) c∧(∀b B',B=b::B'→b.1≠[]):=by
  cases A with
  |nil=>
   have h4':Tr.cV (Tr.Ok (k+1)) (Tr.cut (k+1)) (iV n.hi) ([]++(n.lo,c)::B):=h4
   refine⟨by rw[if_pos rfl];exact y_ h4',fun b B' e=> ?_⟩
   rw[e] at h4'
   have:=h4'.2.1.1
   intro eb
   rw[eb] at this
   rw[show Tr.lt n.lo []=false from by cases n.lo<;>rfl] at this
   cases this
  |cons a A=>
   have h4':Tr.cV (Tr.Ok (k+1)) (Tr.cut (k+1)) (iV n.hi) (((n.lo,a.2)::A)++(key,c)::B):=h4
   refine⟨by rw[if_neg (by simp)];exact y_ h4',fun b B' e=> ?_⟩
   rw[e] at h4'
   have:=(Tr.cV.append.1 h4').2.1.1
   intro eb
   rw[eb] at this
   rw[show Tr.lt key []=false from by cases key<;>rfl] at this
   cases this
 rw[hlo]
 cases B with
 |nil=>rw[LY rfl];exact iX.1
 |cons b B'=>
  rw[hB b B' rfl]
  have:iV b.1=some b.1:=by unfold iV;rw[if_neg (iX.2 b B' rfl)]
  rw[this]
  exact iX.1
end
end Go.Proofs.YtebbahjombdalaaGreatDoor
