/- Elder texts, cut down and merged (7). -/
import Derived.Test.YtloekpcncjocaaaGreatDoorP3
import Derived.Test.YtloekpcncjocaaaGreatDoorP6
import Derived.Test.YtloekpcncjocaaaGreatDoorP5
import Derived.Deep.RegionHeld3
import Derived.Deep.RegionHeldLaw
import Derived.Laws.CopyOwn
import Derived.Lib.AppendZerosOnto
import Derived.Lib.Overlaps
import Derived.Test.YtloekpcncjocaaaGreatDoorPTk
set_option maxRecDepth 100000
set_option maxHeartbeats 8000000
namespace Go.Proofs.YtloekpcncjocaaaGreatDoor
open Go.RowKit Lib
structure gA (R:Nat→Prop) (ring g N lb tb rb:Nat) (H:List Wl.Text) (ps:List (Nat×List UInt8)) (pg:List (Option Wl.Text)) (rt:List Nat) (X:World):Prop where
 c:C1 R ring g N lb tb H ps X
 blk:aG X rb 75 [ptr tb]
 rr:R rb
 rep:Rm.b8 (Wl.along H (Tx.lZ ps)) pg rt
 ins:∀p∈ps,p.1<H.length
 pos:1≤pg.length
section
variable {X X':World} {R R' S:Nat→Prop} {ring g N lb tb rb:Nat} {H H':List Wl.Text} {ps ps':List (Nat×List UInt8)} {pg bN:List (Option Wl.Text)} {rt rt':List Nat}
theorem gA.len (h:gA R ring g N lb tb rb H ps pg rt X):H.length=pg.length+2:=by
 have:=h.rep.len
 rwa [Wl.bL] at this
theorem gA.cell (h:gA R ring g N lb tb rb H ps pg rt X):X.cell? ⟨rb,0,none⟩=some (.pointer (some ⟨tb,0,none⟩)):=h.blk.cell rfl
theorem gA.gq (h:gA R ring g N lb tb rb H ps pg rt X) (hb:aj S X X') (hS:∀k,k<X.heap.size→S k→R k) (hr:¬S rb) (vI:∀k,R' k→R k∨(X.heap.size≤k∧k<X'.heap.size)) (hr':R' rb):gA R' ring g N lb tb rb H ps pg rt X':=
 ⟨h.c.gq hb hS vI,h.blk.but hb hr,hr',h.rep,h.ins,h.pos⟩
theorem gA.still (h:gA R ring g N lb tb rb H ps pg rt X) (hb:Below X.heap.size X X'):gA R ring g N lb tb rb H ps pg rt X':=
 ⟨h.c.still hb,h.blk.below hb h.blk.lt,h.rr,h.rep,h.ins,h.pos⟩
theorem cG (h:gA R ring g N lb tb rb H ps pg rt X):
  Calls Tryz.prog 26 #[ptr rb] X fun e X'=>e=.returned (.int .i64 pg.length)∧X'=X:=by
 have c0:=h.cell
 have hl:=h.len
 have hf:=h.rep.few
 have hp:=h.pos
 have HI:=aa h
 clear h
 have HP:=aa (show Rm.pages H.length=pg.length by rw[hl,Rm.DR (by omega) (by omega)];omega)
 have HL:=aa (show H.length≤5000 by omega)
 clear hl
 go_enter Tryz.func26,Tryz.ntmps26
 unfold ptr
 go_wp2_with fail
 refine (GR HI.out.c).mono ?_
 rintro e X' ⟨rfl,rfl⟩
 go_wp2_with fail
 refine (DS X' H.length (by have:=HL.out;omega)).mono ?_
 rintro e X' ⟨rfl,rfl⟩
 rw[HP.out]
 go_wp2
 go_ret
 exact⟨rfl,rfl⟩
theorem l7 (h:gA R ring g N lb tb rb H ps pg rt X) (i:Nat) (hi:i<H.length):
  Calls Tryz.prog 75 #[ptr rb,.int .i64 i] X fun e X'=>e=.returned (.tuple #[.string (bs ((Wl.along H (Tx.lZ ps)).getD i [])),.int .i64 0])∧Below X.heap.size X X':=by
 have c0:=h.cell
 have HI:=aa h
 have HL:=aa (show i<H.length∧H.length≤65536 by have:=h.len;have:=h.rep.few;omega)
 clear h hi
 go_enter Tryz.func75,Tryz.ntmps75
 unfold ptr
 go_wp2_with fail
 refine (KA HI.out.c i HL.out.1 HL.out.2).mono ?_
 rintro e X' ⟨rfl,hb⟩
 go_wp2
 go_ret2
 exact⟨rfl,hb⟩
theorem oJ (h:gA R ring g N lb tb rb H ps pg rt X):
  Calls Tryz.prog 75 #[ptr rb,.int .i64 (-1)] X fun e X'=>e=.returned (.tuple #[.string ⟨#[]⟩,.int .i64 2])∧Below X.heap.size X X':=by
 have c0:=h.cell
 have HI:=aa h
 clear h
 go_enter Tryz.func75,Tryz.ntmps75
 unfold ptr
 go_wp2_with fail
 refine (BL HI.out.c (-1) (.inl (by decide)) (by decide) HI.out.ins).mono ?_
 rintro e X' ⟨rfl,hb⟩
 go_wp2
 go_ret2
 exact⟨rfl,hb⟩
theorem sJ (h:gA R ring g N lb tb rb H ps pg rt X):
  Calls Tryz.prog 44 #[ptr rb] X fun e X'=>e=.returned (.int .i64 0)∧Below X.heap.size X X':=by
 have HI:=aa h
 clear h
 go_enter Tryz.func44,Tryz.ntmps44
 unfold ptr
 go_wp2_with fail
 refine (l7 HI.out 0 (by have:=HI.out.len;omega)).mono ?_
 rintro e X' ⟨rfl,hb⟩
 go_wp2
 go_ret
 exact⟨rfl,hb⟩
theorem l8 (h:gA R ring g N lb tb rb H ps pg rt X) (p:Nat) (hp:p<pg.length):
  Calls Tryz.prog 45 #[ptr rb,.int .i64 p] X fun e X'=>e=.returned (.tuple #[.string (bs ((Wl.along H (Tx.lZ ps)).getD 1 [])),.int .i64 0])∧Below X.heap.size X X':=by
 have HI:=aa h
 have HP:=aa (show p<pg.length∧p≤4095 by have:=h.rep.few;omega)
 clear h
 have h1:¬(p:Int)<0:=by omega
 have h2:¬(pg.length:Int)≤p:=by omega
 clear hp
 go_enter Tryz.func45,Tryz.ntmps45
 unfold ptr
 go_wp2_with fail
 refine (cG HI.out).mono ?_
 rintro e X' ⟨rfl,rfl⟩
 go_wp2_with fail
 refine (oh X' p (by have:=HP.out;omega)).mono ?_
 rintro e X' ⟨rfl,rfl⟩
 rw[show 1+p/4096=1 by have:=HP.out;omega]
 go_wp2_with fail
 refine (l7 HI.out 1 (by have:=HI.out.len;omega)).mono ?_
 rintro e X' ⟨rfl,hb⟩
 go_wp2
 go_ret2
 exact⟨rfl,hb⟩
theorem xp (h:gA R ring g N lb tb rb H ps pg rt X) (i:Int) (hi:i<0∨(pg.length:Int)≤i):
  Calls Tryz.prog 45 #[ptr rb,.int .i64 i] X fun e X'=>e=.returned (.tuple #[.string ⟨#[]⟩,.int .i64 2])∧Below X.heap.size X X':=by
 have HI:=aa h
 clear h
 by_cases h1:i<0
 ·go_enter Tryz.func45,Tryz.ntmps45
  unfold ptr
  go_wp2_with fail
  refine (oJ HI.out).mono ?_
  rintro e X' ⟨rfl,hb⟩
  go_wp2
  go_ret2
  exact⟨rfl,hb⟩
 ·have h2:(pg.length:Int)≤i:=hi.resolve_left h1
  clear hi
  go_enter Tryz.func45,Tryz.ntmps45
  unfold ptr
  go_wp2_with fail
  refine (cG HI.out).mono ?_
  rintro e X' ⟨rfl,rfl⟩
  go_wp2_with fail
  refine (oJ HI.out).mono ?_
  rintro e X' ⟨rfl,hb⟩
  go_wp2
  go_ret2
  exact⟨rfl,hb⟩
theorem dW (h:gA R ring g N lb tb rb H ps pg rt X) (p:Nat) (hp:p<pg.length):
  Calls Tryz.prog 179 #[ptr rb,.int .i64 p] X fun e X'=>e=.returned (.int .i64 (2+p:Nat))∧X'=X:=by
 have HI:=aa h
 have HP:=aa (show p<pg.length∧pg.length≤4096∧1≤pg.length by have:=h.rep.few;have:=h.pos;omega)
 have OS:(p:Int)≤4095:=by have:=HP.out;omega
 clear h hp
 go_enter Tryz.func179,Tryz.ntmps179
 unfold ptr
 go_wp2_with fail
 refine (cG HI.out).mono ?_
 rintro e X' ⟨rfl,rfl⟩
 go_wp2_with fail
 refine (pT X' pg.length 4096 (by have:=HP.out;omega) (by decide) (by decide)).mono ?_
 rintro e X' ⟨rfl,rfl⟩
 rw[show (pg.length+4096-1)/4096=1 by have:=HP.out;omega]
 go_wp2
 go_ret
 exact⟨by simp,rfl⟩
theorem zn (h:gA R ring g N lb tb rb H ps pg rt X) (i:Int):
  Calls Tryz.prog 25 #[ptr rb,.int .i64 i] X fun e X'=>e=.returned (.tuple #[.bool (Rm.has pg i),.int .i64 (Rm.kQ pg i)])∧Below X.heap.size X X':=by
 have HI:=aa h
 have key:∀p:Nat,p<pg.length→Calls Tryz.prog 25 #[ptr rb,.int .i64 p] X fun e X'=>e=.returned (.tuple #[.bool (pg.getD p none).isSome,.int .i64 0])∧Below X.heap.size X X':=by
  intro p hp
  have HP:=aa (show p<pg.length∧p≤4095 by have:=h.rep.few;omega)
  have HB:=aa (h.rep.bit p hp)
  have HS:=aa (h.rep.home (i:=1) (by rw[Wl.bL,h.len];omega))
  clear h
  generalize (pg.getD p none).isSome=o at*
  have hm:(p:Int).tmod 4096=(p:Int):=by rw[Int.tmod_eq_emod_of_nonneg (by omega)];have:=HP.out;omega
  clear hp
  go_enter Tryz.func25,Tryz.ntmps25
  unfold ptr
  go_wp2_with fail
  refine (l8 HI.out p HP.out.1).mono ?_
  rintro e X' ⟨rfl,hb⟩
  generalize (Wl.along H (Tx.lZ ps)).getD 1 []=T at*
  go_wp2_with fail
  refine (DT X' (bs T) p (by rw[aB,HS.out];have:=HP.out;omega) (by rw[aB,HS.out];decide)).mono ?_
  rintro e X' ⟨rfl,rfl⟩
  rw[cj,HB.out]
  go_wp2
  go_ret2
  exact⟨rfl,hb⟩
 rcases Rm.r9 pg i with⟨ho,hr,hg,hh,hn⟩|⟨p,rfl,hp,hs,hr,hg,hh,hn⟩|⟨p,t,rfl,hp,hs,hr,hg,hh,hn⟩
 ·rw[hh,hn]
  clear h key
  go_enter Tryz.func25,Tryz.ntmps25
  unfold ptr
  go_wp2_with fail
  refine (xp HI.out i ho).mono ?_
  rintro e X' ⟨rfl,hb⟩
  go_wp2
  go_ret2
  exact⟨rfl,hb⟩
 ·rw[hh,hn]
  have:=key p hp
  rwa [hs] at this
 ·rw[hh,hn]
  have:=key p hp
  rwa [hs] at this
theorem jT (h:gA R ring g N lb tb rb H ps pg rt X) (i:Int):
  Calls Tryz.prog 153 #[ptr rb,.int .i64 i] X fun e X'=>e=.returned (.int .i64 (Rm.refuse pg i))∧Below X.heap.size X X':=by
 have hc:=zn h i
 clear h
 rcases Rm.r9 pg i with⟨ho,hr,hg,hh,hn⟩|⟨p,rfl,hp,hs,hr,hg,hh,hn⟩|⟨p,t,rfl,hp,hs,hr,hg,hh,hn⟩
 all_goals (
  rw[hh,hn] at hc
  rw[hr]
  have HC:=aa hc
  clear hc hh hn hr hg
  go_enter Tryz.func153,Tryz.ntmps153
  unfold ptr
  go_wp2_with fail
  refine HC.out.mono ?_
  rintro e X' ⟨rfl,hb⟩
  go_wp2
  go_ret
  exact⟨rfl,hb⟩)
end
section
variable {X X':World} {R R' S:Nat→Prop} {ring g N lb tb rb:Nat} {H H':List Wl.Text} {ps ps':List (Nat×List UInt8)} {pg bN:List (Option Wl.Text)} {rt rt':List Nat}
theorem oK (w:World) (p:Nat) (hp:p≤4095):Calls Tryz.prog 76 #[.int .i64 p] w fun e w'=>e=.returned (.int .i64 (1:Nat))∧w'=w:=by
 have:=oh w p (by omega)
 rwa [show 1+p/4096=1 by omega] at this
theorem sK (H:List Wl.Text) (ps:List (Nat×List UInt8)) (i:Nat) (t:List UInt8):Wl.along H (Tx.lZ (ps++[(i,t)]))=(Wl.along H (Tx.lZ ps)).set i (Dk.full t):=by
 unfold Tx.lZ
 rw[List.map_append,Wl.wV]
 rfl
theorem GU {n i:Nat} {t:List UInt8} (h:∀p∈ps,p.1<n) (hi:i<n):∀p∈ps++[(i,t)],p.1<n:=by
 intro p hp
 rcases List.mem_append.1 hp with hp|hp
 ·exact h p hp
 ·rw[List.mem_singleton.1 hp];exact hi
theorem uM {α:Type} {l:List (Option α)} {p:Nat} {t:α} (h:l.getD p none=some t):l[p]?=some (some t):=by
 rw[List.getD_eq_getElem?_getD] at h
 cases e:l[p]? with
 |none=>rw[e] at h;cases h
 |some o=>rw[e] at h;rw[Option.getD_some] at h;rw[h]
theorem Ee (h:gA R ring g N lb tb rb H ps pg rt X) (i:Int):
  Calls Tryz.prog 136 #[ptr rb,.int .i64 i] X fun e X'=>e=.returned (.tuple #[.string (bs (Rm.got pg i)),.int .i64 (Rm.refuse pg i)])∧Below X.heap.size X X':=by
 have hc:=jT h i
 have HC:=aa hc
 clear hc
 rcases Rm.r9 pg i with⟨ho,hr,hg,hh,hn⟩|⟨p,rfl,hp,hs,hr,hg,hh,hn⟩|⟨p,t,rfl,hp,hs,hr,hg,hh,hn⟩
 ·rw[hg,hr]
  have HR:=aa hr
  clear hr hg hh hn h ho
  go_enter Tryz.func136,Tryz.ntmps136
  unfold ptr
  go_wp2_with fail
  refine HC.out.mono ?_
  rintro e X' ⟨rfl,hb⟩
  rw[HR.out]
  go_wp2
  go_ret2
  exact⟨rfl,hb⟩
 ·rw[hg,hr]
  have HR:=aa hr
  clear hr hg hh hn h hp hs
  go_enter Tryz.func136,Tryz.ntmps136
  unfold ptr
  go_wp2_with fail
  refine HC.out.mono ?_
  rintro e X' ⟨rfl,hb⟩
  rw[HR.out]
  go_wp2
  go_ret2
  exact⟨rfl,hb⟩
 ·rw[hg,hr]
  have HR:=aa hr
  have HI:=aa h
  have HP:=aa (show p<pg.length∧2+p<H.length by have:=h.len;omega)
  have HT:=aa (h.rep.page p t (uM hs))
  clear hr hg hh hn h hp hs
  go_enter Tryz.func136,Tryz.ntmps136
  unfold ptr
  go_wp2_with fail
  refine HC.out.mono ?_
  rintro e X' ⟨rfl,hb⟩
  rw[HR.out]
  have H1:=aa (HI.out.still hb)
  go_wp2_with fail
  refine (dW H1.out p HP.out.1).mono ?_
  rintro e X2 ⟨rfl,rfl⟩
  go_wp2_with fail
  try simp only[Act.eval]
  refine (l7 H1.out (2+p) HP.out.2).mono ?_
  rintro e X3 ⟨rfl,cC⟩
  rw[HT.out]
  go_wp2
  go_ret2
  exact⟨rfl,hb.trans (cC.mono hb.size)⟩
theorem p4 (h:gA R ring g N lb tb rb H ps pg rt X):
  Calls Tryz.prog 24 #[ptr rb] X fun e X'=>e=.returned (.tuple #[.int .i64 (Rm.used pg:Nat),.int .i64 0])∧Below X.heap.size X X':=by
 have HI:=aa h
 have HU:=aa (Rm.A_ h.rep.bit)
 have HS:=aa (h.rep.home (i:=1) (by rw[Wl.bL,h.len];omega))
 have HL:=aa (show 1≤pg.length∧pg.length≤4096 from⟨h.pos,h.rep.few⟩)
 have kg:(0:Int)<pg.length:=by have:=HL.out;omega
 have hl2:(pg.length:Int)≤4096:=by have:=HL.out;omega
 have CR:¬(4096:Int)<pg.length:=by omega
 have hu:=Rm.gO pg
 have Z7:(Rm.used pg:Int)≤4096:=by omega
 clear h hu
 go_enter Tryz.func24,Tryz.ntmps24
 unfold ptr
 go_wp2_with fail
 refine (sJ HI.out).mono ?_
 rintro e X1 ⟨rfl,aQ⟩
 have H1:=aa (HI.out.still aQ)
 go_wp2
 go_loopw [5,6] (fun c i wr=>(i=.int .i64 0∧c=.int .i64 0∧wr=X1)∨(i=.int .i64 4096∧c=.int .i64 (Rm.used pg:Nat)∧Below X.heap.size X wr∧Hid (gA R ring g N lb tb rb H ps pg rt wr))) (fun _ i _=>if RowKit.intOf i=0 then 1 else 0)
 case atStart=>exact .inl ⟨rfl,rfl,rfl⟩
 case round=>
  rcases hrel with⟨rfl,rfl,rfl⟩|⟨rfl,rfl,GQ,hw⟩
  ·go_wp2_with fail
   refine (cG H1.out).mono ?_
   rintro e X2 ⟨rfl,rfl⟩
   go_wp2_with fail
   refine (l8 H1.out 0 (by have:=HL.out;omega)).mono ?_
   rintro e X3 ⟨rfl,cC⟩
   have H3:=aa (H1.out.still cC)
   have Gw:=aa (aQ.trans (cC.mono aQ.size))
   generalize (Wl.along H (Tx.lZ ps)).getD 1 []=T at*
   clear aQ cC
   go_wp2_with fail
   refine (cG H3.out).mono ?_
   rintro e X4 ⟨rfl,rfl⟩
   go_wp2_with fail
   rw[show min (pg.length:Int) 4096=pg.length by omega]
   refine (wY X4 (bs T) pg.length (by rw[aB,HS.out];decide) (by rw[aB,HS.out];have:=HL.out;omega)).mono ?_
   rintro e X5 ⟨rfl,cH⟩
   rw[cj,HU.out]
   have H5:=aa (H3.out.still cH)
   have HB5:=aa (Gw.out.trans (cH.mono Gw.out.size))
   clear cH
   go_wp2
   go_roundw
   case rel=>exact .inr ⟨rfl,rfl,HB5.out,H5⟩
   case measure=>decide
  ·go_wp2_with fail
   refine (cG hw.out).mono ?_
   rintro e X2 ⟨rfl,rfl⟩
   go_wp2
   go_ret2
   exact⟨rfl,GQ⟩
theorem sL (h:gA R ring g N lb tb rb H ps pg rt X):
  Calls Tryz.prog 196 #[ptr rb] X fun e X'=>e=.returned (match Rm.firstFree pg with|some p=>.tuple #[.int .i64 (p:Nat),.int .i64 0]|none=>.tuple #[.int .i64 0,.int .i64 4])∧Below X.heap.size X X':=by
 have HI:=aa h
 have HB:=aa h.rep.bit
 have HS:=aa (h.rep.home (i:=1) (by rw[Wl.bL,h.len];omega))
 have HL:=aa (show 1≤pg.length∧pg.length≤4096 from⟨h.pos,h.rep.few⟩)
 have kg:(0:Int)<pg.length:=by have:=HL.out;omega
 have hl2:(pg.length:Int)≤4096:=by have:=HL.out;omega
 have CR:¬(4096:Int)<pg.length:=by omega
 obtain⟨V,hV⟩:∃V,V=(match Rm.firstFree pg with|some p=>Value.tuple #[.int .i64 (p:Nat),.int .i64 0]|none=>.tuple #[.int .i64 0,.int .i64 4]):=⟨_,rfl⟩
 rw[←hV]
 have HV:=aa hV
 clear h hV
 go_enter Tryz.func196,Tryz.ntmps196
 unfold ptr
 go_wp2_with fail
 refine (sJ HI.out).mono ?_
 rintro e X1 ⟨rfl,aQ⟩
 have H1:=aa (HI.out.still aQ)
 go_wp2
 go_loopw [5] (fun i wr=>(i=.int .i64 0∧wr=X1)∨(i=.int .i64 4096∧Rm.firstFree pg=none∧Below X.heap.size X wr∧Hid (gA R ring g N lb tb rb H ps pg rt wr))) (fun i _=>if RowKit.intOf i=0 then 1 else 0)
 case atStart=>exact .inl ⟨rfl,rfl⟩
 case round=>
  rcases hrel with⟨rfl,rfl⟩|⟨rfl,hnone,GQ,hw⟩
  ·go_wp2_with fail
   refine (cG H1.out).mono ?_
   rintro e X2 ⟨rfl,rfl⟩
   go_wp2_with fail
   refine (l8 H1.out 0 (by have:=HL.out;omega)).mono ?_
   rintro e X3 ⟨rfl,cC⟩
   have H3:=aa (H1.out.still cC)
   have Gw:=aa (aQ.trans (cC.mono aQ.size))
   generalize (Wl.along H (Tx.lZ ps)).getD 1 []=T at*
   clear aQ cC
   go_wp2_with fail
   refine (sj X3 (bs T) (by rw[aB,HS.out];decide)).mono ?_
   rintro e X4 ⟨f,rfl,hf,rfl⟩
   rw[cj] at hf
   have hf4:(f:Int)≤4096:=by have:=hf.2.1;rw[HS.out] at this;omega
   rcases Rm.Ba HB.out HS.out HL.out.2 hf with⟨h1,h2⟩|⟨h1,h2⟩
   ·have HF:=aa h2
    have hI:¬(f:Int)<pg.length:=by omega
    clear hf h1 h2
    go_wp2_with fail
    refine (cG H3.out).mono ?_
    rintro e X5 ⟨rfl,rfl⟩
    have hmn:min (pg.length:Int) 4096=pg.length:=by omega
    go_wp2
    go_roundw
    case rel=>exact .inr ⟨rfl,HF.out,Gw.out,H3⟩
    case measure=>decide
   ·have HF:=aa h2
    have hI:(f:Int)<pg.length:=by omega
    clear hf h1 h2
    go_wp2_with fail
    refine (cG H3.out).mono ?_
    rintro e X5 ⟨rfl,rfl⟩
    have hmn:min (pg.length:Int) 4096=pg.length:=by omega
    go_wp2
    go_ret2
    exact⟨by rw[HV.out,HF.out];rfl,Gw.out⟩
  ·have T7:=HV.out
   rw[hnone] at T7
   have HV3:=aa T7
   clear hnone T7
   go_wp2_with fail
   refine (cG hw.out).mono ?_
   rintro e X2 ⟨rfl,rfl⟩
   go_wp2
   go_ret2
   exact⟨by rw[HV3.out];rfl,GQ⟩
theorem gA.put (h:gA R ring g N lb tb rb H ps pg rt X) {i:Nat} {t:List UInt8} (hi:i<H.length) (hc:C1 R ring g N lb tb H (ps++[(i,t)]) X') (hb:aj (fun k=>¬R k) X X') (hr:Rm.b8 ((Wl.along H (Tx.lZ ps)).set i (Dk.full t)) bN rt') (hl:bN.length=pg.length):gA R ring g N lb tb rb H (ps++[(i,t)]) bN rt' X':=
 ⟨hc,h.blk.but hb (fun hn=>hn h.rr),h.rr,by rw[sK];exact hr,GU h.ins hi,by rw[hl];exact h.pos⟩
theorem vJ (h:gA R ring g N lb tb rb H ps pg rt X) (p:Nat) (hp:p<pg.length) (hq:ps.length≤90000000):
  Calls Tryz.prog 154 #[ptr rb,.int .i64 p] X fun e X'=>e=.returned (.int .i64 0)∧C1 R ring g N lb tb H (ps++[(1,Rm.flip ((Wl.along H (Tx.lZ ps)).getD 1 []) p)]) X'∧aj (fun k=>¬R k) X X':=by
 have HI:=aa h
 obtain⟨T,hT⟩:∃T,T=(Wl.along H (Tx.lZ ps)).getD 1 []:=⟨_,rfl⟩
 have HT:=aa hT
 have HS:=aa (show T.length=512 by rw[hT];exact h.rep.home (i:=1) (by rw[Wl.bL,h.len];omega))
 rw[←hT]
 clear hT
 have HP:=aa (show p<pg.length∧p≤4095∧1<H.length∧H.length≤65536∧ps.length≤90000000 by have:=h.rep.few;have:=h.len;omega)
 have hm:(p:Int).tmod 4096=(p:Int):=by rw[Int.tmod_eq_emod_of_nonneg (by omega)];have:=HP.out;omega
 clear h hp hq
 go_enter Tryz.func154,Tryz.ntmps154
 unfold ptr
 go_wp2_with fail
 refine (l8 HI.out p HP.out.1).mono ?_
 rintro e X1 ⟨rfl,aQ⟩
 rw[←HT.out]
 have H1:=aa (HI.out.still aQ)
 have rC:=aa (H1.out.still ((Below.refl X1.heap.size X1).drew))
 have iI:=aa (show aj (fun k=>¬R k) X X1.drew from (aj.aq aQ _).drew)
 have HC:=aa (show X1.drew.cell? ⟨rb,0,none⟩=some (.pointer (some ⟨tb,0,none⟩)) from rC.out.cell)
 clear aQ
 have Ju:=HC.out
 go_wp2_with (refine wp_region_any (by kernel_rfl) ?_;refine Hid.out ?_)
 refine aa ?_
 try (change wpAny _ _ _ _ _ _ _ (World.drew _))
 refine tk 0 ?_
 refine tk 1 ?_
 refine tk 2 ?_
 refine tk 4 ?_
 refine tk 6 ?_
 refine tk 7 ?_
 refine tk 8 ?_
 try simp only[Act.put,List.setIfInBounds_toArray,List.set_cons_succ,List.set_cons_zero]
 refine rd [3,5] (AllReady.cons rfl (fun K hK=> ?_) (rn fun K hK=> ?_))
 focus
  go_simp
  refine hK _ _ ?_;clear hK K
  refine rd [5] (rn fun K hK=> ?_)
  go_simp
  refine (oK _ p HP.out.2.1).mono ?_
  rintro e w1 ⟨rfl,rfl⟩
  refine hK _ _ ?_;clear hK K
  refine rd [9] (rn fun K hK=> ?_)
  go_simp
  refine (kR _ (bs T) p (by rw[aB,HS.out];have:=HP.out;omega) (by rw[aB,HS.out];decide)).mono ?_
  rintro e w2 ⟨rfl,aC⟩
  have H2:=aa (rC.out.still aC)
  have vg:=H2.out.cell
  have kf:=aa (iI.out.trans (aj.aq aC (fun k=>¬R k)) (fun _ _ h=>h))
  clear aC
  refine hK _ _ ?_;clear hK K
 rotate_left
 focus
  go_simp
  refine (oK _ p HP.out.2.1).mono ?_
  rintro e w1 ⟨rfl,rfl⟩
  refine hK _ _ ?_;clear hK K
  refine rd [3,9] (AllReady.cons rfl (fun K hK=> ?_) (rn fun K hK=> ?_))
  focus
   go_simp
   refine hK _ _ ?_;clear hK K
   refine rd [9] (rn fun K hK=> ?_)
   go_simp
   refine (kR _ (bs T) p (by rw[aB,HS.out];have:=HP.out;omega) (by rw[aB,HS.out];decide)).mono ?_
   rintro e w2 ⟨rfl,aC⟩
   have H2:=aa (rC.out.still aC)
   have vg:=H2.out.cell
   have kf:=aa (iI.out.trans (aj.aq aC (fun k=>¬R k)) (fun _ _ h=>h))
   clear aC
   refine hK _ _ ?_;clear hK K
  rotate_left
  focus
   go_simp
   refine (kR _ (bs T) p (by rw[aB,HS.out];have:=HP.out;omega) (by rw[aB,HS.out];decide)).mono ?_
   rintro e w2 ⟨rfl,aC⟩
   have H2:=aa (rC.out.still aC)
   have vg:=H2.out.cell
   have kf:=aa (iI.out.trans (aj.aq aC (fun k=>¬R k)) (fun _ _ h=>h))
   clear aC
   refine hK _ _ ?_;clear hK K
   refine rd [3] (rn fun K hK=> ?_)
   go_simp
   refine hK _ _ ?_;clear hK K
 all_goals
  refine rd [10] (rn fun K hK=> ?_)
  go_simp
  refine (oI H2.out.c 1 _ HP.out.2.2.1 HP.out.2.2.2.1 (by rw[aB,Rm.iG,cj,HS.out];decide) HP.out.2.2.2.2).mono ?_;rintro e w3 ⟨rfl,h3,cC⟩
  refine hK _ _ ?_;clear hK K
  rw[cj,cj] at h3
  have HE:=aa (And.intro h3 (kf.out.trans cC (fun _ _ h=>h)))
  clear cC h3
  refine rd [11] (rn fun K hK=> ?_)
  go_simp
  refine hK _ _ ?_;clear hK K
  refine wpAny_done (by kernel_rfl) ?_ _
  go_wp2
  go_ret
  exact⟨rfl,HE.out⟩
end
namespace Rm
def oL (pg:List (Option Wl.Text)) (i:Int):List (Option Wl.Text):=if refuse pg i=0 then pg.set i.toNat none else pg
def written (pg:List (Option Wl.Text)) (i:Int) (s:Wl.Text):List (Option Wl.Text):=if wrote pg i s.length=0 then pg.set i.toNat (some (Dk.full s)) else pg
def iM (pg:List (Option Wl.Text)):List (Option Wl.Text):=match firstFree pg with|some p=>pg.set p (some (Dk.full []))|none=>pg
def alloc (pg:List (Option Wl.Text)):Int×Int:=match firstFree pg with|some p=>((p:Nat),0)|none=>(0,4)
end Rm
section
variable {X X':World} {R R' S:Nat→Prop} {ring g N lb tb rb:Nat} {H H':List Wl.Text} {ps ps':List (Nat×List UInt8)} {pg bN:List (Option Wl.Text)} {rt rt':List Nat}
def xq (R:Nat→Prop) (ring g N lb tb rb:Nat) (H:List Wl.Text) (ps:List (Nat×List UInt8)) (pg:List (Option Wl.Text)) (rt:List Nat) (X X':World):Prop:=
 ∃ps',(ps'.length≤ps.length+2∧ps<+:ps')∧gA R ring g N lb tb rb H ps' pg rt X'∧aj (fun k=>¬R k) X X'
theorem xq.none (h:gA R ring g N lb tb rb H ps pg rt X) (hb:Below X.heap.size X X'):xq R ring g N lb tb rb H ps pg rt X X':=⟨ps,⟨by omega,List.prefix_refl _⟩,h.still hb,aj.aq hb _⟩
theorem Ef (h:gA R ring g N lb tb rb H ps pg rt X) (p:Nat) (hp:p<pg.length) (hs:pg.getD p none=none) (hq:ps.length≤80000000):
  Calls Tryz.prog 197 #[ptr rb,.int .i64 p] X fun e X'=>e=.returned (.int .i64 0)∧xq R ring g N lb tb rb H ps (pg.set p (some (Dk.full []))) rt X X':=by
 have HI:=aa h
 have HP:=aa (show p<pg.length∧2+p<H.length∧H.length≤65536∧ps.length≤90000000 by have:=h.rep.few;have:=h.len;omega)
 have HS:=aa (And.intro hs hq)
 have hc:=h.cell
 have rC:=aa (h.still ((Below.refl X.heap.size X).drew))
 have iI:=aa (show aj (fun k=>¬R k) X X.drew from (aj.refl _ _).drew)
 clear h hp hq hs
 have key:∀w3:World,C1 R ring g N lb tb H (ps++[(2+p,[])]) w3→aj (fun k=>¬R k) X w3→gA R ring g N lb tb rb H (ps++[(2+p,[])]) pg rt w3:=fun w3 hc hb=>
  HI.out.put HP.out.2.1 hc hb (HI.out.rep.M7 HP.out.1 HS.out.1 (by decide)) rfl
 have KEY:=aa key
 have Qb:∀w3 w4:World,gA R ring g N lb tb rb H (ps++[(2+p,[])]) pg rt w3→aj (fun k=>¬R k) X w3→C1 R ring g N lb tb H ((ps++[(2+p,[])])++[(1,Rm.flip ((Wl.along H (Tx.lZ (ps++[(2+p,[])]))).getD 1 []) p)]) w4→aj (fun k=>¬R k) w3 w4→xq R ring g N lb tb rb H ps (pg.set p (some (Dk.full []))) rt X w4:=by
  intro w3 w4 h3 hb hc aC
  have hl:=HP.out.2.1
  have hK:(Wl.along H (Tx.lZ ps)).length=H.length:=Wl.bL _ _
  refine⟨_, ?_,gA.put (bN:=pg.set p (some (Dk.full []))) (rt':=rt) h3 (by omega) hc aC ?_ (by rw[List.length_set]),hb.trans aC (fun _ _ h=>h)⟩
  ·exact⟨by rw[List.length_append,List.length_append];exact Nat.le_refl _,by rw[List.append_assoc];exact List.prefix_append _ _⟩
  ·have h1:=h3.rep.home (i:=1) (by rw[Wl.bL];omega)
   rw[show Dk.full (Rm.flip ((Wl.along H (Tx.lZ (ps++[(2+p,[])]))).getD 1 []) p)=Rm.flip ((Wl.along H (Tx.lZ (ps++[(2+p,[])]))).getD 1 []) p from Wl.jK (by rw[Rm.iG];exact h1)]
   refine h3.rep.gq HP.out.1 (by rw[HS.out.1];rfl) (fun t ht=> ?_)
   injection ht with ht
   rw[sK,Rm.b8.ct _ _ _ _ _ (by rw[hK];exact hl),if_pos rfl,ht]
 have T8:=aa Qb
 clear key Qb
 go_enter Tryz.func197,Tryz.ntmps197
 unfold ptr
 go_wp2_with (refine wp_region_any (by kernel_rfl) ?_;refine Hid.out ?_)
 refine aa ?_
 try (change wpAny _ _ _ _ _ _ _ (World.drew _))
 refine tk 0 ?_
 refine tk 1 ?_
 refine tk 2 ?_
 refine tk 4 ?_
 refine tk 5 ?_
 try simp only[Act.put,List.setIfInBounds_toArray,List.set_cons_succ,List.set_cons_zero]
 refine rd [3,6] (AllReady.cons rfl (fun K hK=> ?_) (rn fun K hK=> ?_))
 focus
  go_simp
  refine hK _ _ ?_;clear hK K
  refine rd [6] (rn fun K hK=> ?_)
  go_simp
  refine (dW rC.out p HP.out.1).mono ?_
  rintro e w1 ⟨rfl,rfl⟩
  refine hK _ _ ?_;clear hK K
 rotate_left
 focus
  go_simp
  refine (dW rC.out p HP.out.1).mono ?_
  rintro e w1 ⟨rfl,rfl⟩
  refine hK _ _ ?_;clear hK K
  refine rd [3] (rn fun K hK=> ?_)
  go_simp
  refine hK _ _ ?_;clear hK K
 all_goals
  refine rd [7] (rn fun K hK=> ?_)
  go_simp
  refine (oI rC.out.c (2+p) ⟨#[]⟩ HP.out.2.1 HP.out.2.2.1 (by decide) HP.out.2.2.2).mono ?_;rintro e w3 ⟨rfl,h3,cC⟩
  refine hK _ _ ?_;clear hK K
  have HE:=aa (And.intro h3 (iI.out.trans cC (fun _ _ h=>h)))
  clear cC h3
  refine rd [8] (rn fun K hK=> ?_)
  go_simp
  refine hK _ _ ?_;clear hK K
  refine wpAny_done (by kernel_rfl) ?_ _
  have HR:=aa (KEY.out _ HE.out.1 HE.out.2)
  go_wp2_with fail
  refine (vJ HR.out p HP.out.1 (by have:=HS.out.2;rw[List.length_append];show ps.length+1≤90000000;omega)).mono ?_
  rintro e w4 ⟨rfl,h4,hb4⟩
  have HE4:=aa (T8.out _ _ HR.out HE.out.2 h4 hb4)
  clear h4 hb4
  go_wp2
  go_ret
  exact⟨rfl,HE4.out⟩
theorem BM (h:gA R ring g N lb tb rb H ps pg rt X) (hq:ps.length≤80000000):
  Calls Tryz.prog 183 #[ptr rb] X fun e X'=>e=.returned (.tuple #[.int .i64 (Rm.alloc pg).1,.int .i64 (Rm.alloc pg).2])∧xq R ring g N lb tb rb H ps (Rm.iM pg) rt X X':=by
 have hf:=sL h
 rcases Rm.ke pg with e|⟨p,e,hp,hs⟩
 ·have ha:Rm.iM pg=pg:=by unfold Rm.iM;rw[e]
  have hb:Rm.alloc pg=(0,4):=by unfold Rm.alloc;rw[e]
  rw[ha,hb]
  rw[e] at hf
  have HF:=aa hf
  have HI:=aa h
  clear h hf ha hb e hq
  go_enter Tryz.func183,Tryz.ntmps183
  unfold ptr
  go_wp2_with fail
  refine HF.out.mono ?_
  rintro e X1 ⟨rfl,aQ⟩
  go_wp2
  go_ret2
  exact⟨rfl,xq.none HI.out aQ⟩
 ·have ha:Rm.iM pg=pg.set p (some (Dk.full [])):=by unfold Rm.iM;rw[e]
  have hb:Rm.alloc pg=(((p:Nat):Int),0):=by unfold Rm.alloc;rw[e]
  rw[ha,hb]
  rw[e] at hf
  have HF:=aa hf
  have HI:=aa h
  have HP:=aa (And.intro hp (And.intro hs hq))
  clear h hf ha hb e hq hp hs
  go_enter Tryz.func183,Tryz.ntmps183
  unfold ptr
  go_wp2_with fail
  refine HF.out.mono ?_
  rintro e X1 ⟨rfl,aQ⟩
  have H1:=aa (HI.out.still aQ)
  have iI:=aa (aj.aq aQ (fun k=>¬R k))
  clear aQ
  go_wp2_with fail
  refine (Ef H1.out p HP.out.1 HP.out.2.1 HP.out.2.2).mono ?_
  rintro e X2 ⟨rfl,ps2,hl2,h2,aC⟩
  have HE:=aa (show xq R ring g N lb tb rb H ps (pg.set p (some (Dk.full []))) rt X X2 from⟨ps2,hl2,h2,iI.out.trans aC (fun _ _ h=>h)⟩)
  clear h2 aC hl2
  go_wp2
  go_ret2
  exact⟨rfl,HE.out⟩
theorem Eg (h:gA R ring g N lb tb rb H ps pg rt X) (i:Int) (hq:ps.length≤80000000):
  Calls Tryz.prog 106 #[ptr rb,.int .i64 i] X fun e X'=>e=.returned (.int .i64 (Rm.refuse pg i))∧xq R ring g N lb tb rb H ps (Rm.oL pg i) rt X X':=by
 have HC:=aa (jT h i)
 rcases Rm.r9 pg i with⟨ho,hr,hg,hh,hn⟩|⟨p,rfl,hp,hs,hr,hg,hh,hn⟩|⟨p,t,rfl,hp,hs,hr,hg,hh,hn⟩
 ·have ha:Rm.oL pg i=pg:=by unfold Rm.oL;rw[hr,if_neg (by decide)]
  rw[ha,hr]
  have HR:=aa hr
  have HI:=aa h
  clear hr hg hh hn h ho ha hq
  go_enter Tryz.func106,Tryz.ntmps106
  unfold ptr
  go_wp2_with fail
  refine HC.out.mono ?_
  rintro e X' ⟨rfl,hb⟩
  rw[HR.out]
  go_wp2
  go_ret
  exact⟨rfl,xq.none HI.out hb⟩
 ·have ha:Rm.oL pg p=pg:=by unfold Rm.oL;rw[hr,if_neg (by decide)]
  rw[ha,hr]
  have HR:=aa hr
  have HI:=aa h
  clear hr hg hh hn h hp hs ha hq
  go_enter Tryz.func106,Tryz.ntmps106
  unfold ptr
  go_wp2_with fail
  refine HC.out.mono ?_
  rintro e X' ⟨rfl,hb⟩
  rw[HR.out]
  go_wp2
  go_ret
  exact⟨rfl,xq.none HI.out hb⟩
 ·have ha:Rm.oL pg p=pg.set p none:=by unfold Rm.oL;rw[hr,if_pos rfl,Int.toNat_natCast]
  rw[ha,hr]
  have HR:=aa hr
  have HI:=aa h
  have HP:=aa (show p<pg.length∧(pg.getD p none).isSome∧ps.length≤90000000∧1<H.length from⟨hp,by rw[hs];rfl,by omega,by have:=h.len;omega⟩)
  clear hr hg hh hn h hp hs ha hq
  go_enter Tryz.func106,Tryz.ntmps106
  unfold ptr
  go_wp2_with fail
  refine HC.out.mono ?_
  rintro e X' ⟨rfl,hb⟩
  rw[HR.out]
  have H1:=aa (HI.out.still hb)
  have iI:=aa (aj.aq hb (fun k=>¬R k))
  clear hb
  go_wp2_with fail
  refine (vJ H1.out p HP.out.1 HP.out.2.2.1).mono ?_
  rintro e X2 ⟨rfl,h2,aC⟩
  have HE:=aa (show xq R ring g N lb tb rb H ps (pg.set p none) rt X X2 by
   have h1:=H1.out.rep.home (i:=1) (by rw[Wl.bL];exact HP.out.2.2.2)
   refine⟨_, ?_,gA.put (bN:=pg.set p none) (rt':=rt) H1.out HP.out.2.2.2 h2 aC ?_ (by rw[List.length_set]),iI.out.trans aC (fun _ _ h=>h)⟩
   ·exact⟨by rw[List.length_append];show ps.length+1≤_;omega,List.prefix_append _ _⟩
   ·rw[show Dk.full (Rm.flip ((Wl.along H (Tx.lZ ps)).getD 1 []) p)=Rm.flip ((Wl.along H (Tx.lZ ps)).getD 1 []) p from Wl.jK (by rw[Rm.iG];exact h1)]
    exact H1.out.rep.free HP.out.1 HP.out.2.1)
  clear h2 aC
  go_wp2
  go_ret
  exact⟨rfl,HE.out⟩
theorem BN (h:gA R ring g N lb tb rb H ps pg rt X) (i:Int) (s:ByteArray) (hq:ps.length≤80000000):
  Calls Tryz.prog 151 #[ptr rb,.int .i64 i,.string s] X fun e X'=>e=.returned (.int .i64 (Rm.wrote pg i s.size))∧xq R ring g N lb tb rb H ps (Rm.written pg i s.data.toList) rt X X':=by
 have HC:=aa (jT h i)
 have hsz:s.data.toList.length=s.size:=Array.length_toList
 rcases Rm.r9 pg i with⟨ho,hr,hg,hh,hn⟩|⟨p,rfl,hp,hs,hr,hg,hh,hn⟩|⟨p,t,rfl,hp,hs,hr,hg,hh,hn⟩
 ·have hw:∀n,Rm.wrote pg i n=2:=fun n=>by unfold Rm.wrote;rw[hr,if_neg (by decide)]
  have ha:Rm.written pg i s.data.toList=pg:=by unfold Rm.written;rw[hw,if_neg (by decide)]
  rw[ha,hw]
  have HR:=aa hr
  have HI:=aa h
  clear hr hg hh hn h ho ha hq hw hsz
  go_enter Tryz.func151,Tryz.ntmps151
  unfold ptr
  go_wp2_with fail
  refine HC.out.mono ?_
  rintro e X' ⟨rfl,hb⟩
  rw[HR.out]
  go_wp2
  go_ret
  exact⟨rfl,xq.none HI.out hb⟩
 ·have hw:∀n,Rm.wrote pg p n=6:=fun n=>by unfold Rm.wrote;rw[hr,if_neg (by decide)]
  have ha:Rm.written pg p s.data.toList=pg:=by unfold Rm.written;rw[hw,if_neg (by decide)]
  rw[ha,hw]
  have HR:=aa hr
  have HI:=aa h
  clear hr hg hh hn h hp hs ha hq hw hsz
  go_enter Tryz.func151,Tryz.ntmps151
  unfold ptr
  go_wp2_with fail
  refine HC.out.mono ?_
  rintro e X' ⟨rfl,hb⟩
  rw[HR.out]
  go_wp2
  go_ret
  exact⟨rfl,xq.none HI.out hb⟩
 ·by_cases hz:s.size≤512
  ·have hw:Rm.wrote pg p s.size=0:=by unfold Rm.wrote;rw[hr,if_pos rfl,if_neg (by omega)]
   have ha:Rm.written pg p s.data.toList=pg.set p (some (Dk.full s.data.toList)):=by unfold Rm.written;rw[hsz,hw,if_pos rfl,Int.toNat_natCast]
   rw[ha,hw]
   have HR:=aa hr
   have HI:=aa h
   have HZ:=aa hz
   have HP:=aa (show p<pg.length∧2+p<H.length∧H.length≤65536∧ps.length≤90000000∧(pg.getD p none).isSome from⟨hp,by have:=h.len;omega,by have:=h.len;have:=h.rep.few;omega,by omega,by rw[hs];rfl⟩)
   clear hr hg hh hn h hp hs ha hq hw hsz hz
   go_enter Tryz.func151,Tryz.ntmps151
   unfold ptr
   go_wp2_with fail
   refine HC.out.mono ?_
   rintro e X1 ⟨rfl,hb⟩
   rw[HR.out]
   have H1:=aa (HI.out.still hb)
   have rC:=aa (H1.out.still ((Below.refl X1.heap.size X1).drew))
   have iI:=aa (show aj (fun k=>¬R k) X X1.drew from (aj.aq hb _).drew)
   have Ju:=rC.out.cell
   clear hb
   go_wp2_with (refine wp_region_any (by kernel_rfl) ?_;refine Hid.out ?_)
   refine aa ?_
   try (change wpAny _ _ _ _ _ _ _ (World.drew _))
   refine tk 0 ?_
   refine tk 1 ?_
   refine tk 2 ?_
   refine tk 4 ?_
   refine tk 5 ?_
   refine tk 7 ?_
   try simp only[Act.put,List.setIfInBounds_toArray,List.set_cons_succ,List.set_cons_zero]
   refine rd [3,6] (AllReady.cons rfl (fun K hK=> ?_) (rn fun K hK=> ?_))
   focus
    go_simp
    refine hK _ _ ?_;clear hK K
    refine rd [6] (rn fun K hK=> ?_)
    go_simp
    refine (dW rC.out p HP.out.1).mono ?_
    rintro e w1 ⟨rfl,rfl⟩
    refine hK _ _ ?_;clear hK K
   rotate_left
   focus
    go_simp
    refine (dW rC.out p HP.out.1).mono ?_
    rintro e w1 ⟨rfl,rfl⟩
    refine hK _ _ ?_;clear hK K
    refine rd [3] (rn fun K hK=> ?_)
    go_simp
    refine hK _ _ ?_;clear hK K
   all_goals
    refine rd [8] (rn fun K hK=> ?_)
    go_simp
    refine (oI rC.out.c (2+p) s HP.out.2.1 HP.out.2.2.1 HZ.out HP.out.2.2.2.1).mono ?_;rintro e w3 ⟨rfl,h3,cC⟩
    refine hK _ _ ?_;clear hK K
    have HE:=aa (show xq R ring g N lb tb rb H ps (pg.set p (some (Dk.full s.data.toList))) rt X w3 by
     refine⟨_, ?_,gA.put (bN:=pg.set p (some (Dk.full s.data.toList))) (rt':=rt) rC.out HP.out.2.1 h3 cC (rC.out.rep.write HP.out.1 HP.out.2.2.2.2 (Dk.dw _ (by rw[Array.length_toList];exact HZ.out))) (by rw[List.length_set]),iI.out.trans cC (fun _ _ h=>h)⟩
     exact⟨by rw[List.length_append];show ps.length+1≤_;omega,List.prefix_append _ _⟩)
    clear cC h3
    refine rd [9] (rn fun K hK=> ?_)
    go_simp
    refine hK _ _ ?_;clear hK K
    refine wpAny_done (by kernel_rfl) ?_ _
    go_wp2
    go_ret
    exact⟨rfl,HE.out⟩
  ·have hw:Rm.wrote pg p s.size=5:=by unfold Rm.wrote;rw[hr,if_pos rfl,if_pos (by omega)]
   have ha:Rm.written pg p s.data.toList=pg:=by unfold Rm.written;rw[hsz,hw,if_neg (by decide)]
   rw[ha,hw]
   have HR:=aa hr
   have HI:=aa h
   have HZ:=aa (show 512<s.size by omega)
   have HP:=aa (show p<pg.length∧2+p<H.length from⟨hp,by have:=h.len;omega⟩)
   clear hr hg hh hn h hp hs ha hq hw hsz hz
   go_enter Tryz.func151,Tryz.ntmps151
   unfold ptr
   go_wp2_with fail
   refine HC.out.mono ?_
   rintro e X1 ⟨rfl,hb⟩
   rw[HR.out]
   have H1:=aa (HI.out.still hb)
   have rC:=aa (H1.out.still ((Below.refl X1.heap.size X1).drew))
   have HBl:=aa (hb.drew)
   have Ju:=rC.out.cell
   clear hb
   go_wp2_with (refine wp_region_any (by kernel_rfl) ?_;refine Hid.out ?_)
   refine aa ?_
   try (change wpAny _ _ _ _ _ _ _ (World.drew _))
   refine tk 0 ?_
   refine tk 1 ?_
   refine tk 2 ?_
   refine tk 4 ?_
   refine tk 5 ?_
   refine tk 7 ?_
   try simp only[Act.put,List.setIfInBounds_toArray,List.set_cons_succ,List.set_cons_zero]
   refine rd [3,6] (AllReady.cons rfl (fun K hK=> ?_) (rn fun K hK=> ?_))
   focus
    go_simp
    refine hK _ _ ?_;clear hK K
    refine rd [6] (rn fun K hK=> ?_)
    go_simp
    refine (dW rC.out p HP.out.1).mono ?_
    rintro e w1 ⟨rfl,rfl⟩
    refine hK _ _ ?_;clear hK K
   rotate_left
   focus
    go_simp
    refine (dW rC.out p HP.out.1).mono ?_
    rintro e w1 ⟨rfl,rfl⟩
    refine hK _ _ ?_;clear hK K
    refine rd [3] (rn fun K hK=> ?_)
    go_simp
    refine hK _ _ ?_;clear hK K
   all_goals
    refine rd [8] (rn fun K hK=> ?_)
    go_simp
    refine (zm rC.out.c (2+p:Nat) s 5 (.inr ⟨rfl,by omega,by have:=HP.out.2;omega,HZ.out⟩)).mono ?_;rintro e w3 ⟨rfl,rfl⟩
    refine hK _ _ ?_;clear hK K
    refine rd [9] (rn fun K hK=> ?_)
    go_simp
    refine hK _ _ ?_;clear hK K
    refine wpAny_done (by kernel_rfl) ?_ _
    go_wp2
    go_ret
    exact⟨rfl,xq.none HI.out HBl.out⟩
end
theorem xu (w:World) (s:ByteArray) (k:Nat) (hs:s.size=512) (hk:k<16):
  Calls Tryz.prog 135 #[.string s,.int .i64 k] w fun e w'=>e=.returned (.int .u64 (Rm.num s.data.toList k:Nat))∧w'=w:=by
 have FR:(s.size:Int)=512:=by omega
 have pH:(k:Int)≤15:=by omega
 have HS:=aa hs
 clear hs
 go_enter Tryz.func135,Tryz.ntmps135
 go_wp2
 go_loop [5,7] (fun n i=>∃j:Nat,j≤8∧i=.int .i64 j∧n=.int .u64 (Rm.gm s.data.toList k j:Nat)) (fun _ i=>8-(RowKit.intOf i).toNat)
 case atStart=>exact⟨0,Nat.zero_le _,rfl,rfl⟩
 case round=>
  obtain⟨j,hj,rfl,rfl⟩:=hrel
  by_cases hlt:j<8
  ·have hI:(j:Int)<8:=by omega
   have hd:Rm.gm s.data.toList k j<2^56:=by
    have h1:=Rm.yV s.data.toList k j
    have h3:256^j≤256^7:=Nat.pow_le_pow_right (by decide) (by omega)
    have h4:(256:Nat)^7=2^56:=by decide
    omega
   have hin:8*k+j<s.size:=by rw[HS.out];omega
   obtain⟨q,hq⟩:∃q:Nat,q=8*k+j:=⟨_,rfl⟩
   have TJ:8*(k:Int)+j=(q:Int):=by omega
   have hqs:q<s.size:=by rw[hq];exact hin
   have aaf:(q:Int)<512:=by have:=HS.out;omega
   have hb:=s[q].toNat_lt
   have HN:=aa (show Rm.gm s.data.toList k (j+1)=Rm.gm s.data.toList k j*256+s[q].toNat by
    show _*256+(s.data.toList.getD (8*k+j) 0).toNat=_
    rw[←hq,pU s q hqs])
   have HO:=aa (J8 _ _ hd hb)
   generalize Rm.gm s.data.toList k j=a at*
   have Jt:(a:Int)<72057594037927936:=by omega
   have ha0:(0:Int)≤a:=by omega
   have HL:=aa hlt
   clear hd hin hq hlt
   go_wp2
   go_round
   case rel=>exact⟨j+1,HL.out,by go_num,by rw[HN.out,HO.out]⟩
   case measure=>have:=HL.out;simp[RowKit.intOf];omega
  ·have T9:=aa (show j=8 by omega)
   have hI:¬(j:Int)<8:=by omega
   go_wp2
   go_ret
   refine⟨?_,rfl⟩
   rw[T9.out]
   rfl
theorem GV (n k:Nat):(n:Int)/2^(8*(7-k))%256=((UInt8.ofNat (n/256^(7-k))).toNat:Int):=vk n (7-k)
theorem kZ (w:World) (s:ByteArray) (k n:Nat) (hk:k<16) (hs:s.size=512) (hn:n<18446744073709551616):
  Calls Tryz.prog 156 #[.string s,.int .i64 k,.int .u64 n] w fun e w'=>e=.returned (.string (bs (Rm.put s.data.toList k n)))∧Below w.heap.size w w':=by
 have pH:(k:Int)≤15:=by omega
 have LX:(n:Int)≤18446744073709551615:=by omega
 have hn0:(0:Int)≤n:=by omega
 obtain⟨v,o,Px,hown⟩:=mJ w s (by omega)
 obtain⟨gb,cap,rfl,hgb⟩:=hown.slice
 have hl:s.data.toList.length=512:=by rw[Array.length_toList];exact hs
 rw[hl] at Px hown
 have HO:=aa hown.Xo
 have HB:=aa (show Below w.heap.size w (w.drew.alloc o) from (Below.refl _ w).drew.alloc (Nat.le_refl _) o)
 obtain⟨W,hW⟩:∃W,W=w.drew.alloc o:=⟨_,rfl⟩
 rw[←hW] at Px HO HB
 have HK:=aa hk
 have HL:=aa hl
 have HG:=aa hgb
 clear hown hl hW hs hk hgb
 go_enter Tryz.func156,Tryz.ntmps156
 go_wp2
 go_loopw [11] (fun i wr=>∃j:Nat,j≤8∧i=.int .i64 j∧Hid (dL false w.heap.size wr (.slice (some ⟨gb,0,none⟩) 512 cap) (Rm.mI s.data.toList k n j))∧Hid (Below w.heap.size w wr)) (fun i _=>8-(RowKit.intOf i).toNat)
 case atStart=>exact⟨0,Nat.zero_le _,rfl,HO,HB⟩
 case round=>
  obtain⟨j,hj,rfl,hO,hB⟩:=hrel
  by_cases hlt:j<8
  ·have hI:(j:Int)<8:=by omega
   obtain⟨q,hq⟩:∃q:Nat,q=8*k+j:=⟨_,rfl⟩
   have TJ:8*(k:Int)+j=(q:Int):=by omega
   have ZM:(q:Int)<512:=by have:=HK.out;omega
   have GX:q<(Rm.mI s.data.toList k n j).length:=by rw[Rm.gN,HL.out];omega
   obtain⟨t,ht⟩:∃t:Nat,t=8*(7-j):=⟨_,rfl⟩
   have htI:8*((7:Int)-j)=(t:Int):=by omega
   have L6:(0:Int)≤t:=by omega
   have ht5:(t:Int)≤56:=by omega
   have c1:=hO.out.cell q GX
   have f1:=hO.out.frozen q GX
   have TE:=aa (show (n:Int)/2^t%256=((UInt8.ofNat (n/256^(7-j))).toNat:Int) by rw[ht];exact GV n j)
   have HN:=aa (show dL false w.heap.size (wr.setCell ⟨gb,q,none⟩ (aR (UInt8.ofNat (n/256^(7-j))))) (.slice (some ⟨gb,0,none⟩) 512 cap) (Rm.mI s.data.toList k n (j+1)) by
    show dL false w.heap.size _ _ ((Rm.mI s.data.toList k n j).set (8*k+j) _)
    rw[←hq]
    exact hO.out.store q _)
   unfold aR at c1
   obtain⟨b,hb⟩:∃b,b=(Rm.mI s.data.toList k n j)[q]:=⟨_,rfl⟩
   rw[←hb] at c1
   have HJ:=aa (And.intro hlt hB.out)
   clear hq GX hlt hb ht
   go_wp2
   rw[TE.out]
   refine⟨⟨j+1,HJ.out.1,by go_num,HN,aa (HJ.out.2.setCell (by show w.heap.size≤gb;exact HG.out) _)⟩, ?_⟩
   have:=HJ.out.1;simp[RowKit.intOf];omega
  ·have T9:=aa (show j=8 by omega)
   have hI:¬(j:Int)<8:=by omega
   have Py:=hO.out.back
   go_wp2
   go_ret
   refine⟨?_,hB.out⟩
   rw[T9.out]
   rfl
section
variable {X X':World} {R R' S:Nat→Prop} {ring g N lb tb rb:Nat} {H H':List Wl.Text} {ps ps':List (Nat×List UInt8)} {pg bN:List (Option Wl.Text)} {rt rt':List Nat}
theorem sM (h:gA R ring g N lb tb rb H ps pg rt X) (k:Nat) (hk:k<16):
  Calls Tryz.prog 134 #[ptr rb,.int .i64 k] X fun e X'=>e=.returned (.tuple #[.string (bs ((Wl.along H (Tx.lZ ps)).getD 0 [])),.int .i64 0])∧Below X.heap.size X X':=by
 have HI:=aa h
 clear h
 have h1:¬(k:Int)<0:=by omega
 have h2:¬(16:Int)≤k:=by omega
 go_enter Tryz.func134,Tryz.ntmps134
 unfold ptr
 go_wp2_with fail
 refine (l7 HI.out 0 (by have:=HI.out.len;omega)).mono ?_
 rintro e X' ⟨rfl,hb⟩
 go_wp2
 go_ret2
 exact⟨rfl,hb⟩
theorem p5 (h:gA R ring g N lb tb rb H ps pg rt X) (k:Nat) (hk:k<16):
  Calls Tryz.prog 90 #[ptr rb,.int .i64 k] X fun e X'=>e=.returned (.tuple #[.int .u64 (rt.getD k 0:Nat),.int .i64 0])∧Below X.heap.size X X':=by
 have HI:=aa h
 have HN:=aa (h.rep.num k hk)
 have HS:=aa (h.rep.home (i:=0) (by rw[Wl.bL,h.len];omega))
 have HK:=aa hk
 clear h hk
 go_enter Tryz.func90,Tryz.ntmps90
 unfold ptr
 go_wp2_with fail
 refine (sM HI.out k HK.out).mono ?_
 rintro e X' ⟨rfl,hb⟩
 generalize (Wl.along H (Tx.lZ ps)).getD 0 []=T at*
 go_wp2_with fail
 refine (xu X' (bs T) k (by rw[aB];exact HS.out) HK.out).mono ?_
 rintro e X' ⟨rfl,rfl⟩
 rw[cj,HN.out]
 go_wp2
 go_ret2
 exact⟨rfl,hb⟩
theorem xw (h:gA R ring g N lb tb rb H ps pg rt X) (k n:Nat) (hk:k<16) (hn:n<18446744073709551616) (hq:ps.length≤80000000):
  Calls Tryz.prog 107 #[ptr rb,.int .i64 k,.int .u64 n] X fun e X'=>e=.returned (.int .i64 0)∧xq R ring g N lb tb rb H ps pg (rt.set k n) X X':=by
 have HI:=aa h
 obtain⟨T,hT⟩:∃T,T=(Wl.along H (Tx.lZ ps)).getD 0 []:=⟨_,rfl⟩
 have HT:=aa hT
 have HS:=aa (show T.length=512 by rw[hT];exact h.rep.home (i:=0) (by rw[Wl.bL,h.len];omega))
 have HK:=aa (show k<16∧n<18446744073709551616∧0<H.length∧H.length≤65536∧ps.length≤90000000 by have:=h.rep.few;have:=h.len;omega)
 clear hT h hk hn hq
 go_enter Tryz.func107,Tryz.ntmps107
 unfold ptr
 go_wp2_with fail
 refine (sM HI.out k HK.out.1).mono ?_
 rintro e X1 ⟨rfl,hb⟩
 rw[←HT.out]
 have H1:=aa (HI.out.still hb)
 have rC:=aa (H1.out.still ((Below.refl X1.heap.size X1).drew))
 have iI:=aa (show aj (fun k=>¬R k) X X1.drew from (aj.aq hb _).drew)
 have Ju:=rC.out.cell
 clear hb
 go_wp2_with (refine wp_region_any (by kernel_rfl) ?_;refine Hid.out ?_)
 refine aa ?_
 try (change wpAny _ _ _ _ _ _ _ (World.drew _))
 refine tk 0 ?_
 refine tk 1 ?_
 refine tk 2 ?_
 refine tk 4 ?_
 refine tk 5 ?_
 refine tk 6 ?_
 try simp only[Act.put,List.setIfInBounds_toArray,List.set_cons_succ,List.set_cons_zero]
 refine rd [3,7] (AllReady.cons rfl (fun K hK=> ?_) (rn fun K hK=> ?_))
 focus
  go_simp
  refine hK _ _ ?_;clear hK K
  refine rd [7] (rn fun K hK=> ?_)
  go_simp
  refine (kZ _ (bs T) k n HK.out.1 (by rw[aB];exact HS.out) HK.out.2.1).mono ?_
  rintro e w2 ⟨rfl,aC⟩
  have H2:=aa (rC.out.still aC)
  have vg:=H2.out.cell
  have kf:=aa (iI.out.trans (aj.aq aC (fun k=>¬R k)) (fun _ _ h=>h))
  clear aC
  refine hK _ _ ?_;clear hK K
 rotate_left
 focus
  go_simp
  refine (kZ _ (bs T) k n HK.out.1 (by rw[aB];exact HS.out) HK.out.2.1).mono ?_
  rintro e w2 ⟨rfl,aC⟩
  have H2:=aa (rC.out.still aC)
  have vg:=H2.out.cell
  have kf:=aa (iI.out.trans (aj.aq aC (fun k=>¬R k)) (fun _ _ h=>h))
  clear aC
  refine hK _ _ ?_;clear hK K
  refine rd [3] (rn fun K hK=> ?_)
  go_simp
  refine hK _ _ ?_;clear hK K
 all_goals
  refine rd [8] (rn fun K hK=> ?_)
  go_simp
  refine (oI H2.out.c 0 _ HK.out.2.2.1 HK.out.2.2.2.1 (by rw[aB,Rm.m7,cj,HS.out];decide) HK.out.2.2.2.2).mono ?_;rintro e w3 ⟨rfl,h3,cC⟩
  refine hK _ _ ?_;clear hK K
  rw[cj,cj] at h3
  have HE:=aa (show xq R ring g N lb tb rb H ps pg (rt.set k n) X w3 by
   refine⟨_, ?_,gA.put (bN:=pg) (rt':=rt.set k n) H2.out HK.out.2.2.1 h3 cC ?_ rfl,kf.out.trans cC (fun _ _ h=>h)⟩
   ·exact⟨by rw[List.length_append];show ps.length+1≤_;omega,List.prefix_append _ _⟩
   ·rw[show Dk.full (Rm.put T k n)=Rm.put T k n from Wl.jK (by rw[Rm.m7];exact HS.out),HT.out]
    exact H2.out.rep.set HK.out.1 (by have:=HK.out.2.1;rw[show (256:Nat)^8=18446744073709551616 by decide];exact this))
  clear cC h3
  refine rd [9] (rn fun K hK=> ?_)
  go_simp
  refine hK _ _ ?_;clear hK K
  refine wpAny_done (by kernel_rfl) ?_ _
  go_wp2
  go_ret
  exact⟨rfl,HE.out⟩
end
def upd (M:Nat→Option NV) (p:Nat) (n:NV):Nat→Option NV:=fun q=>if q=p then some n else M q
theorem aM (M:Nat→Option NV) (p:Nat) (n:NV):upd M p n p=some n:=if_pos rfl
theorem aA {M:Nat→Option NV} {p q:Nat} {n:NV} (h:q≠p):upd M p n q=M q:=if_neg h
theorem ak {M:Nat→Option NV} {p q:Nat} {n m:NV} (h:upd M p n q=some m):(q=p∧m=n)∨(q≠p∧M q=some m):=by
 by_cases e:q=p
 ·subst e;rw[aM] at h;exact .inl ⟨rfl,(Option.some.inj h).symm⟩
 ·rw[aA e] at h;exact .inr ⟨e,h⟩
structure Mem (X:World) (M:Nat→Option NV):Prop where
 nd:∀p n,M p=some n→Nd X p n
 ty:∀p n,M p=some n→∃cur,X.heap[n.rg]?=some (.cells cur 95 (0,0))
 apart:∀p q n m,M p=some n→M q=some m→p≠q→n.rg≠m.rg∨(n.own=false∧m.own=false∧(n.ro+3*n.its.length≤m.ro∨m.ro+3*m.its.length≤n.ro))
 own:∀p n,M p=some n→n.own=true→n.ro=0∧aD 0 X (.slice (some ⟨n.rg,0,none⟩) n.its.length n.cap) n.its
def MB (M:Nat→Option NV) (k:Nat):Prop:=∃p n,M p=some n∧(k=p∨k=n.rg)
section
variable {X X':World} {M:Nat→Option NV} {S:Nat→Prop} {p q:Nat} {n m:NV}
theorem Nd.but (h:Nd X p n) (hb:aj S X X') (hp:¬S p) (hr:¬S n.rg):Nd X' p n:=⟨h.blk.but hb hp,h.row.but hb hr,h.small⟩
theorem Mem.lt (h:Mem X M) (hp:M p=some n):p<X.heap.size∧n.rg<X.heap.size:=⟨(h.nd p n hp).blk.lt,by
 obtain⟨cur,hc⟩:=h.ty p n hp
 exact (Array.getElem?_eq_some_iff.1 hc).1⟩
theorem Mem.iN (h:Mem X M) {k:Nat} (hk:MB M k):k<X.heap.size:=by
 obtain⟨p,n,hp,rfl|rfl⟩:=hk
 ·exact (h.lt hp).1
 ·exact (h.lt hp).2
theorem Mem.BO (h:Mem X M) (hp:M p=some n) (hq:M q=some m):n.rg≠q:=by
 intro e
 obtain⟨cur,hc⟩:=h.ty p n hp
 have:=(h.nd q m hq).blk
 unfold aG at this
 rw[←e,hc] at this
 injection this with this
 injection this with _ e2
 exact absurd e2 (by decide)
theorem Mem.keep (h:Mem X M) (hb:aj S X X') (hS:∀k,MB M k→¬S k):Mem X' M:=by
 refine⟨fun p n hp=>(h.nd p n hp).but hb (hS p ⟨p,n,hp,.inl rfl⟩) (hS _ ⟨p,n,hp,.inr rfl⟩),fun p n hp=> ?_,h.apart,fun p n hp ho=>⟨(h.own p n hp ho).1,Own.but (h.own p n hp ho).2 hb fun k hk=> ?_⟩⟩
 ·obtain⟨cur,hc⟩:=h.ty p n hp
  exact⟨cur,by rw[hb.block n.rg (h.lt hp).2 (hS _ ⟨p,n,hp,.inr rfl⟩)];exact hc⟩
 ·have e:some n.rg=some k:=hk
  injection e with e
  rw[←e];exact hS _ ⟨p,n,hp,.inr rfl⟩
theorem Mem.still (h:Mem X M) (hb:Below X.heap.size X X'):Mem X' M:=h.keep (aj.aq hb (fun _=>False)) fun _ _ hf=>hf
theorem aD.ty {B g l c:Nat} {its:List It} (h:aD B X (.slice (some ⟨g,0,none⟩) l c) its):∃cur,X.heap[g]?=some (.cells cur 95 (0,0)):=Own.typed h rfl
theorem Mem.add (h:Mem X M) (hb:Below X.heap.size X X') (hp:X.heap.size≤p) (hr:X.heap.size≤n.rg) (hn:Nd X' p n) (ho:n.ro=0∧aD 0 X' (.slice (some ⟨n.rg,0,none⟩) n.its.length n.cap) n.its):Mem X' (upd M p n):=by
 have k:=h.still hb
 refine⟨fun q m hq=> ?_,fun q m hq=> ?_,fun q q' m m' hq jo hne=> ?_,fun q m hq hown=> ?_⟩
 ·rcases ak hq with⟨rfl,rfl⟩|⟨_,mw⟩
  ·exact hn
  ·exact k.nd q m mw
 ·rcases ak hq with⟨rfl,rfl⟩|⟨_,mw⟩
  ·exact aD.ty ho.2
  ·exact k.ty q m mw
 ·rcases ak hq with⟨rfl,rfl⟩|⟨_,mw⟩
  ·rcases ak jo with⟨rfl,rfl⟩|⟨_,sN⟩
   ·exact absurd rfl hne
   ·left;have:=(h.lt sN).2;omega
  ·rcases ak jo with⟨rfl,rfl⟩|⟨_,sN⟩
   ·left;have:=(h.lt mw).2;omega
   ·exact h.apart q q' m m' mw sN hne
 ·rcases ak hq with⟨rfl,rfl⟩|⟨_,mw⟩
  ·exact ho
  ·exact k.own q m mw hown
theorem Mem.cell (h:Mem X M) (hp:M p=some n) (n':NV) (k:Nat) (v:Value) (hi:n'.its=n.its) (hg:n'.rg=n.rg) (ho:n'.ro=n.ro) (hc:n'.cap=n.cap) (hw:n'.own=n.own) (hcs:n.cells.set k v=n'.cells):Mem (X.setCell ⟨p,k,none⟩ v) (upd M p n'):=by
 have hb:aj (fun b=>b=p) X (X.setCell ⟨p,k,none⟩ v):=(aj.refl (fun b=>b=p) X).setCell _ _ fun _=>rfl
 have pK:=h.nd p n hp
 have nn:Nd (X.setCell ⟨p,k,none⟩ v) p n':=⟨by rw[←hcs];exact pK.blk.set k v,by rw[hg,ho,hi];exact pK.row.but hb (h.BO hp hp),⟨by rw[hi];exact pK.small.len,by rw[hi];exact pK.small.each,by rw[hi,hc];exact pK.small.cap⟩⟩
 refine⟨fun q m hq=> ?_,fun q m hq=> ?_,fun q q' m m' hq jo hne=> ?_,fun q m hq hown=> ?_⟩
 ·rcases ak hq with⟨rfl,rfl⟩|⟨hne,mw⟩
  ·exact nn
  ·exact (h.nd q m mw).but hb hne (h.BO mw hp)
 ·rcases ak hq with⟨rfl,rfl⟩|⟨hne,mw⟩
  ·obtain⟨cur,hc⟩:=h.ty _ n hp
   exact⟨cur,by rw[hg,hb.block n.rg (h.lt hp).2 (h.BO hp hp)];exact hc⟩
  ·obtain⟨cur,hc⟩:=h.ty q m mw
   exact⟨cur,by rw[hb.block m.rg (h.lt mw).2 (h.BO mw hp)];exact hc⟩
 ·rcases ak hq with⟨rfl,rfl⟩|⟨Nr,mw⟩
  ·rcases ak jo with⟨rfl,rfl⟩|⟨qW,sN⟩
   ·exact absurd rfl hne
   ·rw[hg,hw,ho,hi];exact h.apart _ q' n m' hp sN hne
  ·rcases ak jo with⟨rfl,rfl⟩|⟨qW,sN⟩
   ·rw[hg,hw,ho,hi];exact h.apart q _ m n mw hp hne
   ·exact h.apart q q' m m' mw sN hne
 ·rcases ak hq with⟨rfl,rfl⟩|⟨hne,mw⟩
  ·rw[hg,ho,hi,hc]
   rw[hw] at hown
   obtain⟨h1,h2⟩:=h.own _ n hp hown
   exact⟨h1,Own.but h2 hb fun k hk=>by have e:some n.rg=some k:=hk;injection e with e;rw[←e];exact h.BO hp hp⟩
  ·obtain⟨h1,h2⟩:=h.own q m mw hown
   exact⟨h1,Own.but h2 hb fun k hk=>by have e:some m.rg=some k:=hk;injection e with e;rw[←e];exact h.BO mw hp⟩
theorem sO (its:List It) (j f:Nat) (hj:j<its.length) (hf:f<3) (it:It) (v:Value) (he:ah.enc it=(ah.enc its[j]).set f v):ah.cells (its.set j it)=(ah.cells its).set (j*3+f) v:=by
 induction its generalizing j with
 |nil=>cases hj
 |cons a its ih=>
  cases j with
  |zero=>
   rw[List.set_cons_zero,Elem.cF,Elem.cF,he]
   have hl:(ah.enc a).length=3:=ah.len a
   show (ah.enc a).set f v++_=_
   rw[Nat.zero_mul,Nat.zero_add,List.set_append_left _ _ (by omega)]
  |succ j=>
   rw[List.set_cons_succ,Elem.cF,Elem.cF,ih j (by simpa using hj) he]
   have hl:(ah.enc a).length=3:=ah.len a
   rw[List.set_append_right _ _ (by omega),hl,show (j+1)*3+f-3=j*3+f by omega]
theorem aJ.stored {g o:Nat} {its:List It} (h:aJ ah X g o its) (k:Nat) (v:Value) (hk:k<its.length*3) {gB:List It} (he:ah.cells gB=(ah.cells its).set k v):aJ ah (X.setCell ⟨g,o+k,none⟩ v) g o gB:=by
 intro j u hu
 rw[he] at hu
 by_cases e:j=k
 ·subst e
  rw[List.getElem?_set_self (by rw[ah.a_];exact hk)] at hu
  have hv:v=u:=Option.some.inj hu
  subst hv
  have h0:j<(ah.cells its).length:=by rw[ah.a_];exact hk
  exact World.cell?_setCell_same _ _ _ (h j _ (List.getElem?_eq_getElem h0))
 ·rw[List.getElem?_set_ne (Ne.symm e)] at hu
  have:=h j u hu
  rw[←this]
  exact World.cell?_setCell_other _ _ _ _ (by intro e2;injection e2 with _ e3;omega)
theorem aJ.apart {g o g2 o2:Nat} {its:List It} (h:aJ ah X g2 o2 its) (k:Nat) (v:Value) (hk:g2≠g∨o+k<o2∨o2+its.length*3≤o+k):aJ ah (X.setCell ⟨g,o+k,none⟩ v) g2 o2 its:=by
 intro j u hu
 have hj:j<its.length*3:=by
  have:=(List.getElem?_eq_some_iff.1 hu).1
  rwa [ah.a_] at this
 have:=h j u hu
 rw[←this]
 refine World.cell?_setCell_other _ _ _ _ (by intro e2;injection e2 with e1 e3;omega)
theorem Mem.item (h:Mem X M) (hp:M p=some n) (j f:Nat) (hj:j<n.its.length) (hf:f<3) (it:It) (v:Value) (he:ah.enc it=(ah.enc n.its[j]).set f v) (hs:it.key.length≤200∧it.val.length≤200):
  Mem (X.setCell ⟨n.rg,n.ro+(j*3+f),none⟩ v) (upd M p {n with its:=n.its.set j it}):=by
 have hb:aj (fun b=>b=n.rg) X (X.setCell ⟨n.rg,n.ro+(j*3+f),none⟩ v):=(aj.refl (fun b=>b=n.rg) X).setCell _ _ fun _=>rfl
 have pK:=h.nd p n hp
 have hk:j*3+f<n.its.length*3:=by omega
 have hcells:=sO n.its j f hj hf it v he
 have hlen:(n.its.set j it).length=n.its.length:=List.length_set
 have nn:Nd (X.setCell ⟨n.rg,n.ro+(j*3+f),none⟩ v) p {n with its:=n.its.set j it}:=⟨by
  have e:NV.cells {n with its:=n.its.set j it}=n.cells:=by unfold NV.cells;simp only[hlen]
  rw[e]
  exact pK.blk.but hb (fun e=>h.BO hp hp e.symm),pK.row.stored _ v hk hcells,⟨by show (n.its.set j it).length≤400;rw[hlen];exact pK.small.len,fun i hi=>by
   rcases List.mem_or_eq_of_mem_set hi with hi|rfl
   ·exact pK.small.each i hi
   ·exact hs,by show (n.its.set j it).length≤_∧_;rw[hlen];exact pK.small.cap⟩⟩
 have XM:∀q m,M q=some m→∃cur,(X.setCell ⟨n.rg,n.ro+(j*3+f),none⟩ v).heap[m.rg]?=some (.cells cur 95 (0,0)):=by
  intro q m hq
  obtain⟨cur,hc⟩:=h.ty q m hq
  by_cases e:m.rg=n.rg
  ·rw[e] at hc ⊢
   exact⟨_,heap_setCell_same X n.rg _ cur _ v hc⟩
  ·exact⟨cur,by rw[hb.block m.rg (h.lt hq).2 e];exact hc⟩
 refine⟨fun q m hq=> ?_,fun q m hq=> ?_,fun q q' m m' hq jo hne=> ?_,fun q m hq hown=> ?_⟩
 ·rcases ak hq with⟨rfl,rfl⟩|⟨hne,mw⟩
  ·exact nn
  ·have hm:=h.nd q m mw
   refine⟨hm.blk.but hb (fun e=>h.BO hp mw e.symm),hm.row.apart _ v ?_,hm.small⟩
   rcases h.apart q p m n mw hp hne with e|⟨_,_,e|e⟩
   ·exact .inl e
   ·right;right;omega
   ·right;left;omega
 ·rcases ak hq with⟨rfl,rfl⟩|⟨hne,mw⟩
  ·exact XM _ n hp
  ·exact XM q m mw
 ·rcases ak hq with⟨rfl,rfl⟩|⟨Nr,mw⟩
  ·rcases ak jo with⟨rfl,rfl⟩|⟨qW,sN⟩
   ·exact absurd rfl hne
   ·show n.rg≠m'.rg∨(n.own=false∧m'.own=false∧(n.ro+3*(n.its.set j it).length≤m'.ro∨_))
    rw[hlen];exact h.apart _ q' n m' hp sN hne
  ·rcases ak jo with⟨rfl,rfl⟩|⟨qW,sN⟩
   ·show m.rg≠n.rg∨(m.own=false∧n.own=false∧(_∨n.ro+3*(n.its.set j it).length≤m.ro))
    rw[hlen];exact h.apart q _ m n mw hp hne
   ·exact h.apart q q' m m' mw sN hne
 ·rcases ak hq with⟨rfl,rfl⟩|⟨hne,mw⟩
  ·obtain⟨h1,h2⟩:=h.own _ n hp hown
   refine⟨h1, ?_⟩
   show aD 0 _ (.slice (some ⟨n.rg,0,none⟩) (n.its.set j it).length n.cap) (n.its.set j it)
   rw[h1,Nat.zero_add]
   have:=(World.ownsRow.stored h2 (j*3+f) v).1
   unfold aD Own
   rw[hcells,hlen]
   exact this
  ·obtain⟨h1,h2⟩:=h.own q m mw hown
   refine⟨h1,Own.but h2 hb fun k hk=> ?_⟩
   have e:some m.rg=some k:=hk
   injection e with e
   rw[←e]
   rcases h.apart q p m n mw hp hne with e|⟨e,_⟩
   ·exact e
   ·rw[hown] at e;cases e
end
structure Ev where
 ring:Nat
 g:Nat
 N:Nat
 lb:Nat
 xb:Nat
 rb:Nat
 tb:Nat
 place:Nat
 H:List Wl.Text
structure TS (E:Ev) (X0:World) (R0 R:Nat→Prop) (ps:List (Nat×List UInt8)) (pg:List (Option Wl.Text)) (rt:List Nat) (M:Nat→Option NV) (X:World):Prop where
 rm:gA R E.ring E.g E.N E.lb E.xb E.rb E.H ps pg rt X
 sub:∀k,R0 k→R k
 new:∀k,R k→R0 k∨X0.heap.size≤k
 but:aj (fun k=>¬R0 k) X0 X
 tree:aG X E.tb 81 [ptr E.rb,.int .i64 E.place]
 tr:R0 E.tb
 mem:Mem X M
 gM:∀k,MB M k→R k∧X0.heap.size≤k
 SI:∀k,R0 k→k<X0.heap.size
 SJ:R0 E.rb
section
variable {E:Ev} {X0 X X':World} {R0 R R' S:Nat→Prop} {ps ps':List (Nat×List UInt8)} {pg bN:List (Option Wl.Text)} {rt rt':List Nat} {M M':Nat→Option NV}
theorem TS.Eh (h:TS E X0 R0 R ps pg rt M X):∀k,R k→k<X.heap.size:=h.rm.c.lt
theorem TS.still (h:TS E X0 R0 R ps pg rt M X) (hb:Below X.heap.size X X') (h1:∀k,R k→R' k) (h2:∀k,R' k→R k∨(X.heap.size≤k∧k<X'.heap.size)):TS E X0 R0 R' ps pg rt M X':=
 ⟨h.rm.gq (aj.aq hb (fun _=>False)) (fun _ _ f=>f.elim) (fun f=>f) h2 (h1 _ h.rm.rr),fun k hk=>h1 k (h.sub k hk),fun k hk=>by
  rcases h2 k hk with hk|hk
  ·exact h.new k hk
  ·right;have:=h.but.size;omega,h.but.trans (aj.aq hb (fun _=>False)) (fun _ _ f=>f.elim),h.tree.below hb h.tree.lt,h.tr,h.mem.still hb,fun k hk=>⟨h1 k (h.gM k hk).1,(h.gM k hk).2⟩,h.SI,h.SJ⟩
theorem TS.sP (h:TS E X0 R0 R ps pg rt M X) (hr:gA R E.ring E.g E.N E.lb E.xb E.rb E.H ps' bN rt' X') (hb:aj (fun k=>¬R k) X X'):TS E X0 R0 R ps' bN rt' M X':=
 ⟨hr,h.sub,h.new,h.but.trans hb (fun k _ hn OQ=>hn (h.sub k OQ)),h.tree.but hb (fun hn=>hn (h.sub _ h.tr)),h.tr,h.mem.keep hb (fun k hk hn=>hn (h.gM k hk).1),h.gM,h.SI,h.SJ⟩
theorem TS.own (h:TS E X0 R0 R ps pg rt M X) (hb:aj S X X') (hS:∀k,k<X.heap.size→S k→R k∧X0.heap.size≤k) (hm:Mem X' M') (hM:∀k,MB M' k→R' k∧X0.heap.size≤k) (h1:∀k,R k→R' k) (h2:∀k,R' k→R k∨(X.heap.size≤k∧k<X'.heap.size)):TS E X0 R0 R' ps pg rt M' X':=by
 have hn:∀k,R0 k→¬S k:=fun k hk hs=>by
  have h3:=h.SI k hk
  have h4:=(hS k (Nat.lt_of_lt_of_le h3 h.but.size) hs).2
  omega
 exact⟨h.rm.gq hb (fun k hk hs=>(hS k hk hs).1) (hn _ h.SJ) h2 (h1 _ h.rm.rr),fun k hk=>h1 k (h.sub k hk),fun k hk=>by
  rcases h2 k hk with hk|hk
  ·exact h.new k hk
  ·right;have:=h.but.size;omega,h.but.trans hb (fun k _ hs OQ=>hn k OQ hs),h.tree.but hb (hn _ h.tr),h.tr,hm,hM,h.SI,h.SJ⟩
def NV.got (level:Nat) (its:List It) (rg cap page:Nat) (lo hi:List UInt8):NV:=⟨level,its,rg,0,cap,page,lo,hi,bz its,0,false,true⟩
def oM (E:Ev) (X0:World) (R0 R:Nat→Prop) (ps:List (Nat×List UInt8)) (pg:List (Option Wl.Text)) (rt:List Nat) (M:Nat→Option NV) (X:World) (n:Nat→Nat→NV) (e:Ending) (X':World):Prop:=
 ∃p rg cap R',e=.returned (.tuple #[ptr p,.int .i64 0])∧TS E X0 R0 R' ps pg rt (upd M p (n rg cap)) X'∧Below X.heap.size X X'∧X.heap.size≤p∧X.heap.size≤rg∧(∀k,R k→R' k)∧∀k,R' k→R k∨X.heap.size≤k
theorem xx (h:TS E X0 R0 R ps pg rt M X) {page level:Nat} {its:List It} {lo hi:List UInt8} {l hh:ByteArray} {p rg cap:Nat} {w8 W9:World} (hlo:bs lo=l) (hhi:bs hi=hh) (hp:X.heap.size≤p) (hr:X.heap.size≤rg) (hn:Nd w8 p (NV.read level its rg cap)) (ho:aD X.heap.size w8 (.slice (some ⟨rg,0,none⟩) its.length cap) its) (hb:Below X.heap.size X w8)
  (hW:W9=(((w8.setCell ⟨p,2,none⟩ (.int .i64 (page:Int))).setCell ⟨p,3,none⟩ (.string l)).setCell ⟨p,4,none⟩ (.string hh)).setCell ⟨p,5,none⟩ (.int .i64 (bz (NV.read level its rg cap).its:Int))):
  oM E X0 R0 R ps pg rt M X (fun rg cap=>NV.got level its rg cap page lo hi) (.returned (.tuple #[ptr p,.int .i64 0])) W9:=by
 have KB:rg≠p:=by
  intro e
  have:=Own.bK ho hn.blk (by decide)
  exact this (by rw[←e];rfl)
 have gI:aj (fun k=>k=p) w8 W9:=by
  rw[hW]
  exact ((((aj.refl (fun k=>k=p) w8).setCell _ _ fun _=>rfl).setCell _ _ fun _=>rfl).setCell _ _ fun _=>rfl).setCell _ _ fun _=>rfl
 have hnd:Nd W9 p (NV.got level its rg cap page lo hi):=⟨by
  rw[hW,←hlo,←hhi]
  exact (((hn.blk.set 2 _).set 3 _).set 4 _).set 5 _,hn.row.but gI KB,⟨hn.small.len,hn.small.each,hn.small.cap⟩⟩
 have how:aD 0 W9 (.slice (some ⟨rg,0,none⟩) its.length cap) its:=Own.but (Own.mono ho (Nat.zero_le _)) gI fun k hk e=>KB (by have e2:some rg=some k:=hk;injection e2 with e2;rw[e2,e])
 have hB:Below X.heap.size X W9:=hb.trans ⟨gI.os,gI.tape,gI.output,gI.size,fun k hk=>gI.block k (by have:=hb.size;omega) (by omega)⟩
 have hsz:p<W9.heap.size∧rg<W9.heap.size:=⟨hnd.blk.lt,by
  have:=gI.size
  have:=(Own.block ho rg rfl).2
  omega⟩
 refine⟨p,rg,cap,fun k=>R k∨k=p∨k=rg,rfl, ?_,hB,hp,hr,fun k hk=>.inl hk,fun k hk=>by
  rcases hk with hk|hk|hk
  ·exact .inl hk
  ·right;omega
  ·right;omega⟩
 refine h.own (S:=fun _=>False) (aj.aq hB _) (fun _ _ f=>f.elim) (h.mem.add hB hp hr hnd ⟨rfl,how⟩) ?_ (fun k hk=>.inl hk) (fun k hk=> ?_)
 ·rintro k ⟨q,m,hq,hk⟩
  have h0:=h.but.size
  rcases ak hq with⟨rfl,rfl⟩|⟨_,hq⟩
  ·rcases hk with hk|hk
   ·exact⟨.inr (.inl hk),by omega⟩
   ·have hk':k=rg:=hk
    exact⟨.inr (.inr hk'),by omega⟩
  ·have:=h.gM k ⟨q,m,hq,hk⟩
   exact⟨.inl this.1,this.2⟩
 ·rcases hk with hk|hk|hk
  ·exact .inl hk
  ·right;omega
  ·right;omega
theorem vK (h:TS E X0 R0 R ps pg rt M X) (page level:Nat) (its:List It) (lo hi:List UInt8) (hp:pg.getD page none=some (Dk.full (bH level its)))
  (hS:∀rg cap,Sound (NV.read level its rg cap)) (hl:its.length≤255) (hn:∀i∈its,i.node=none) (hsz:bz its≤510)
  (hw:∀i∈(if level=0 then its else its.tail),hasB lo hi i.key=true):
  Calls Tryz.prog 91 #[ptr E.tb,.int .i64 page,.agg #[.string (bs lo),.string (bs hi)]] X fun e X'=>oM E X0 R0 R ps pg rt M X (fun rg cap=>NV.got level its rg cap page lo hi) e X':=by
 have c0:=h.tree.cell (j:=0) rfl
 have htl:=h.tree.lt
 have HI:=aa h
 have HH:=aa (And.intro hp (And.intro hS (And.intro hl (And.intro hn (And.intro hsz hw)))))
 clear h hp hS hl hn hsz hw
 generalize hlo:bs lo=l at*
 generalize hhi:bs hi=hh at*
 have Mg:=aa (And.intro hlo hhi)
 clear hlo hhi
 obtain⟨XB,Qc⟩:∃XB,XB=X.alloc (.cells #[.string l,.string hh] 88):=⟨_,rfl⟩
 obtain⟨sb,hsb⟩:∃sb,sb=X.heap.size:=⟨_,rfl⟩
 have GY:Below X.heap.size X XB:=by rw[Qc];exact (Below.refl _ X).alloc (Nat.le_refl _) _
 have HB:=aa (show aG XB sb 88 [.string l,.string hh]∧Below X.heap.size X XB∧XB.heap.size=sb+1∧TS E X0 R0 R ps pg rt M XB from⟨by rw[Qc,hsb];exact aG.new X _ _,GY,by rw[Qc,hsb];simp[World.size_alloc],HI.out.still GY (fun _ h=>h) (fun _ h=>.inl h)⟩)
 have HX:=aa (And.intro Qc hsb)
 clear Qc hsb GY
 go_enter Tryz.func91,Tryz.ntmps91
 unfold ptr
 go_wp2_with fail
 rw[←HX.out.2,←HX.out.1]
 refine (Ee HB.out.2.2.2.rm page).mono ?_
 rintro e X1 ⟨rfl,aQ⟩
 have hin:page<pg.length:=by
  by_cases hc:page<pg.length
  ·exact hc
  ·have:=HH.out.1
   rw[List.getD_eq_getElem?_getD,List.getElem?_eq_none (by omega)] at this
   cases this
 have hr:Rm.refuse pg page=0:=by
  unfold Rm.refuse
  rw[if_pos (by omega),Int.toNat_natCast,HH.out.1]
  rfl
 have hg:Rm.got pg page=Dk.full (bH level its):=by
  unfold Rm.got
  rw[if_pos (by omega),Int.toNat_natCast,HH.out.1]
  rfl
 rw[hr,hg]
 have hb:Below X.heap.size X X1:=HB.out.2.1.trans (aQ.mono HB.out.2.1.size)
 have H1:=aa (show TS E X0 R0 R ps pg rt M X1∧Below X.heap.size X X1∧aG X1 sb 88 [.string l,.string hh] from⟨HB.out.2.2.2.still aQ (fun _ h=>h) (fun _ h=>.inl h),hb,HB.out.1.below aQ HB.out.1.lt⟩)
 have s0:=H1.out.2.2.cell (j:=0) rfl
 have s1:=H1.out.2.2.cell (j:=1) rfl
 have hfl:(Dk.full (bH level its)).length=512:=Dk.dw _ (by rw[iW];have:=HH.out.2.2.2.2.1;omega)
 have HF:=aa (Bu X1 (bs (Dk.full (bH level its))) level its (List.replicate (512-(bH level its).length) 0) rfl (Wl.j_ _) (by rw[aB,hfl];decide) HH.out.2.1 HH.out.2.2.1 HH.out.2.2.2.1)
 clear hin hr hg hb aQ hfl
 generalize bs (Dk.full (bH level its))=held at*
 go_wp2_with fail
 refine HF.out.mono ?_
 rintro e X2 ⟨p,rg,cap,rfl,hp1,hn2,cR,aC⟩
 unfold ptr
 have uy:X1.heap.size≤rg:=(Own.block cR rg rfl).1
 have H2:=aa (show Nd X2 p (NV.read level its rg cap)∧aD X.heap.size X2 (.slice (some ⟨rg,0,none⟩) its.length cap) its∧Below X.heap.size X X2∧aG X2 sb 88 [.string l,.string hh]∧X.heap.size≤p∧X.heap.size≤rg from⟨hn2,Own.mono cR H1.out.2.1.size,H1.out.2.1.trans (aC.mono H1.out.2.1.size),H1.out.2.2.below aC H1.out.2.2.lt,by have:=H1.out.2.1.size;omega,by have:=H1.out.2.1.size;omega⟩)
 clear s0 s1 hp1 hn2 cR aC uy
 have t0:=H2.out.2.2.2.1.cell (j:=0) rfl
 have t1:=H2.out.2.2.2.1.cell (j:=1) rfl
 have HW:=aa (show Calls Tryz.prog 138 #[ptr p,.agg #[.string l,.string hh]] X2 fun e w'=>e=.returned (.bool true)∧Below X2.heap.size X2 w' by
  rw[←Mg.out.1,←Mg.out.2]
  have hw:=HH.out.2.2.2.2.2
  by_cases h0:level=0
  ·rw[if_pos h0] at hw
   exact uH H2.out.1 lo hi h0 (HH.out.2.1 0 0).ne hw
  ·rw[if_neg h0] at hw
   exact sB H2.out.1 lo hi (Nat.pos_of_ne_zero h0) (HH.out.2.1 0 0).ne hw)
 unfold ptr at HW
 go_wp2_with fail
 refine HW.out.mono ?_
 rintro e W ⟨rfl,cC⟩
 have CS:=aa (show Nd W p (NV.read level its rg cap)∧aD X.heap.size W (.slice (some ⟨rg,0,none⟩) its.length cap) its∧Below X.heap.size X W from⟨H2.out.1.still cC,Own.below H2.out.2.1 cC (Nat.le_refl _),H2.out.2.2.1.trans (cC.mono H2.out.2.2.1.size)⟩)
 have hsb:=H2.out.2.2.2.1.below cC H2.out.2.2.2.1.lt
 have s0:=hsb.cell (j:=0) rfl
 have s1:=hsb.cell (j:=1) rfl
 have hne:¬sb=p:=hsb.ne CS.out.1.blk (by decide)
 have qW:¬p=sb:=fun e=>hne e.symm
 clear t0 t1 cC hsb
 go_wp2_with (refine wp_region_any (by kernel_rfl) ?_;refine Hid.out ?_)
 refine aa ?_
 try (change wpAny _ _ _ _ _ _ _ (World.drew _))
 refine tk 0 ?_
 refine tk 1 ?_
 refine tk 2 ?_
 refine tk 3 ?_
 refine tk 5 ?_
 try simp only[Act.put,List.setIfInBounds_toArray,List.set_cons_succ,List.set_cons_zero]
 refine rd [4,6] (AllReady.cons rfl (fun K hK=> ?_) (rn fun K hK=> ?_))
 ·skip
  go_simp
  refine hK _ _ ?_;clear hK K
  refine rd [6] (rn fun K hK=> ?_)
  go_simp
  refine (eM (show Nd W.drew p (NV.read level its rg cap) from CS.out.1.drew)).mono ?_
  rintro e w8 ⟨rfl,kL⟩
  have b0:=(kL.cell (p:=⟨sb,0,none⟩) (World.block_lt_of_cell? W ⟨sb,0,none⟩ s0)).trans s0
  have b1:=(kL.cell (p:=⟨sb,1,none⟩) (World.block_lt_of_cell? W ⟨sb,1,none⟩ s1)).trans s1
  have H8:=aa kL
  refine hK _ _ ?_;clear hK K kL
  have qF:=aa (show Nd w8 p (NV.read level its rg cap)∧aD X.heap.size w8 (.slice (some ⟨rg,0,none⟩) its.length cap) its∧Below X.heap.size X w8 from⟨CS.out.1.drew.still H8.out,Own.below CS.out.2.1.drew H8.out (Nat.le_refl _),CS.out.2.2.drew.trans (H8.out.mono CS.out.2.2.size)⟩)
  have q2:=qF.out.1.c2
  have q3:=qF.out.1.c3
  have q4:=qF.out.1.c4
  have q5:=qF.out.1.c5
  have f2:=qF.out.1.blk.frozen 2
  have f3:=qF.out.1.blk.frozen 3
  have f4:=qF.out.1.blk.frozen 4
  have f5:=qF.out.1.blk.frozen 5
  try simp only[Act.put,List.setIfInBounds_toArray,List.set_cons_succ,List.set_cons_zero]
  refine tk 7 ?_
  refine tk 8 ?_
  try simp only[Act.put,List.setIfInBounds_toArray,List.set_cons_succ,List.set_cons_zero]
  refine rd [9] (rn fun K hK=> ?_)
  go_simp
  refine hK _ _ ?_;clear hK K
  refine tk 10 ?_
  refine tk 11 ?_
  try simp only[Act.put,List.setIfInBounds_toArray,List.set_cons_succ,List.set_cons_zero]
  refine rd [12] (rn fun K hK=> ?_)
  go_simp
  refine hK _ _ ?_;clear hK K
  refine tk 13 ?_
  refine tk 14 ?_
  try simp only[Act.put,List.setIfInBounds_toArray,List.set_cons_succ,List.set_cons_zero]
  refine rd [15] (rn fun K hK=> ?_)
  go_simp
  refine hK _ _ ?_;clear hK K
  refine wpAny_done (by kernel_rfl) ?_ _
  obtain⟨W9,nu⟩:∃W9,W9=(((w8.setCell ⟨p,2,none⟩ (.int .i64 (page:Int))).setCell ⟨p,3,none⟩ (.string l)).setCell ⟨p,4,none⟩ (.string hh)).setCell ⟨p,5,none⟩ (.int .i64 (bz (NV.read level its rg cap).its:Int)):=⟨_,rfl⟩
  rw[←nu]
  have H9:=aa (xx HI.out Mg.out.1 Mg.out.2 H2.out.2.2.2.2.1 H2.out.2.2.2.2.2 qF.out.1 qF.out.2.1 qF.out.2.2 nu)
  clear nu q2 q3 q4 q5 f2 f3 f4 f5
  go_wp2
  go_ret2
  exact H9.out
 ·skip
  go_simp
  refine (eM (show Nd W.drew p (NV.read level its rg cap) from CS.out.1.drew)).mono ?_
  rintro e w8 ⟨rfl,kL⟩
  have b0:=(kL.cell (p:=⟨sb,0,none⟩) (World.block_lt_of_cell? W ⟨sb,0,none⟩ s0)).trans s0
  have b1:=(kL.cell (p:=⟨sb,1,none⟩) (World.block_lt_of_cell? W ⟨sb,1,none⟩ s1)).trans s1
  have H8:=aa kL
  refine hK _ _ ?_;clear hK K kL
  have qF:=aa (show Nd w8 p (NV.read level its rg cap)∧aD X.heap.size w8 (.slice (some ⟨rg,0,none⟩) its.length cap) its∧Below X.heap.size X w8 from⟨CS.out.1.drew.still H8.out,Own.below CS.out.2.1.drew H8.out (Nat.le_refl _),CS.out.2.2.drew.trans (H8.out.mono CS.out.2.2.size)⟩)
  have q2:=qF.out.1.c2
  have q3:=qF.out.1.c3
  have q4:=qF.out.1.c4
  have q5:=qF.out.1.c5
  have f2:=qF.out.1.blk.frozen 2
  have f3:=qF.out.1.blk.frozen 3
  have f4:=qF.out.1.blk.frozen 4
  have f5:=qF.out.1.blk.frozen 5
  try simp only[Act.put,List.setIfInBounds_toArray,List.set_cons_succ,List.set_cons_zero]
  refine tk 7 ?_
  refine tk 8 ?_
  try simp only[Act.put,List.setIfInBounds_toArray,List.set_cons_succ,List.set_cons_zero]
  refine rd [4,9] (AllReady.cons rfl (fun K hK=> ?_) (rn fun K hK=> ?_))
  ·skip
   go_simp
   refine hK _ _ ?_;clear hK K
   refine rd [9] (rn fun K hK=> ?_)
   go_simp
   refine hK _ _ ?_;clear hK K
   refine tk 10 ?_
   refine tk 11 ?_
   try simp only[Act.put,List.setIfInBounds_toArray,List.set_cons_succ,List.set_cons_zero]
   refine rd [12] (rn fun K hK=> ?_)
   go_simp
   refine hK _ _ ?_;clear hK K
   refine tk 13 ?_
   refine tk 14 ?_
   try simp only[Act.put,List.setIfInBounds_toArray,List.set_cons_succ,List.set_cons_zero]
   refine rd [15] (rn fun K hK=> ?_)
   go_simp
   refine hK _ _ ?_;clear hK K
   refine wpAny_done (by kernel_rfl) ?_ _
   obtain⟨W9,nu⟩:∃W9,W9=(((w8.setCell ⟨p,2,none⟩ (.int .i64 (page:Int))).setCell ⟨p,3,none⟩ (.string l)).setCell ⟨p,4,none⟩ (.string hh)).setCell ⟨p,5,none⟩ (.int .i64 (bz (NV.read level its rg cap).its:Int)):=⟨_,rfl⟩
   rw[←nu]
   have H9:=aa (xx HI.out Mg.out.1 Mg.out.2 H2.out.2.2.2.2.1 H2.out.2.2.2.2.2 qF.out.1 qF.out.2.1 qF.out.2.2 nu)
   clear nu q2 q3 q4 q5 f2 f3 f4 f5
   go_wp2
   go_ret2
   exact H9.out
  ·skip
   go_simp
   refine hK _ _ ?_;clear hK K
   refine rd [4] (rn fun K hK=> ?_)
   go_simp
   refine hK _ _ ?_;clear hK K
   refine tk 10 ?_
   refine tk 11 ?_
   try simp only[Act.put,List.setIfInBounds_toArray,List.set_cons_succ,List.set_cons_zero]
   refine rd [12] (rn fun K hK=> ?_)
   go_simp
   refine hK _ _ ?_;clear hK K
   refine tk 13 ?_
   refine tk 14 ?_
   try simp only[Act.put,List.setIfInBounds_toArray,List.set_cons_succ,List.set_cons_zero]
   refine rd [15] (rn fun K hK=> ?_)
   go_simp
   refine hK _ _ ?_;clear hK K
   refine wpAny_done (by kernel_rfl) ?_ _
   obtain⟨W9,nu⟩:∃W9,W9=(((w8.setCell ⟨p,2,none⟩ (.int .i64 (page:Int))).setCell ⟨p,3,none⟩ (.string l)).setCell ⟨p,4,none⟩ (.string hh)).setCell ⟨p,5,none⟩ (.int .i64 (bz (NV.read level its rg cap).its:Int)):=⟨_,rfl⟩
   rw[←nu]
   have H9:=aa (xx HI.out Mg.out.1 Mg.out.2 H2.out.2.2.2.2.1 H2.out.2.2.2.2.2 qF.out.1 qF.out.2.1 qF.out.2.2 nu)
   clear nu q2 q3 q4 q5 f2 f3 f4 f5
   go_wp2
   go_ret2
   exact H9.out
end
theorem BP:cI Tryz.prog 56 3 (cO .i64).size:=cI.of (size:=1) (bytes:=8) (z:=.int .i64 0) Tryz.underlying56 (by kernel_rfl) rfl (by decide)
def h_ (w:World) (sb tb:Nat) (sv:Value) (l:List Int) (e:Ending) (w':World):Prop:=
 e=.returned (.tuple #[])∧∃cM,aG w' sb 132 [ptr tb,cM]∧eo 0 w' cM l∧aj (fun k=>k=sb∨sv.ownBlock=some k) w w'∧(cM.ownBlock=sv.ownBlock∨∀k,cM.ownBlock=some k→w.heap.size≤k)
theorem fU (w:World) (sb tb p:Nat) (sv:Value) (l:List Int) (n:NV) (hs:aG w sb 132 [ptr tb,sv]) (ho:eo 0 w sv l) (hn:Nd w p n) (hl:l.length≤1000000):
  Calls Tryz.prog 101 #[ptr sb,ptr p] w fun e w'=>h_ w sb tb sv (l++[n.page]) e w':=by
 obtain⟨sa,sc,rfl,hsc⟩:=Own.slice ho
 obtain⟨sn,Ei⟩:∃sn,sn=l.length:=⟨_,rfl⟩
 rw[←Ei] at hs ho ⊢
 have c1:=hs.cell (j:=1) rfl
 have f1:=hs.frozen 1
 have q2:=hn.c2
 have q_:=hs.lt
 have bY:=hn.blk.lt
 have HO:=aa (And.intro ho (And.intro hs (And.intro hn hl)))
 clear hs ho hn hsc Ei hl
 go_enter Tryz.func101,Tryz.ntmps101
 unfold ptr
 go_wp2_with (refine wp_region_any (by kernel_rfl) ?_;refine Hid.out ?_)
 refine aa ?_
 try (change wpAny _ _ _ _ _ _ _ (World.drew _))
 refine tk 0 ?_
 refine tk 1 ?_
 refine tk 2 ?_
 refine tk 3 ?_
 refine tk 5 ?_
 refine tk 6 ?_
 refine tk 7 ?_
 try simp only[Act.put,List.setIfInBounds_toArray,List.set_cons_succ,List.set_cons_zero]
 refine rd [4,8] (AllReady.cons rfl (fun K hK=> ?_) (rn fun K hK=> ?_))
 focus
  go_simp
  refine hK _ _ ?_;clear hK K
  refine rd [8] (rn fun K hK=> ?_)
  go_simp
  refine hK _ _ ?_;clear hK K
  refine rd [9] (rn fun K hK=> ?_)
  go_simp
  refine hK _ _ ?_;clear hK K
 rotate_left
 focus
  go_simp
  refine hK _ _ ?_;clear hK K
  refine rd [4,9] (AllReady.cons rfl (fun K hK=> ?_) (rn fun K hK=> ?_))
  focus
   go_simp
   refine hK _ _ ?_;clear hK K
   refine rd [9] (rn fun K hK=> ?_)
   go_simp
   refine hK _ _ ?_;clear hK K
  rotate_left
  focus
   go_simp
   refine hK _ _ ?_;clear hK K
   refine rd [4] (rn fun K hK=> ?_)
   go_simp
   refine hK _ _ ?_;clear hK K
 all_goals
  try simp only[Act.put,List.setIfInBounds_toArray,List.set_cons_succ,List.set_cons_zero]
  have L8:eo 0 (w.drew.alloc (.cells #[.int .i64 n.page] 3)) (.slice sa sn sc) l:=Own.alloc (show eo 0 w.drew (.slice sa sn sc) l from HO.out.1) _
  have CR:aJ (cO .i64) (w.drew.alloc (.cells #[.int .i64 n.page] 3)) w.drew.heap.size 0 [n.page]:=aJ.dI (aG.new w.drew _ _) rfl
  have L5:aG (w.drew.alloc (.cells #[.int .i64 n.page] 3)) sb 132 [ptr tb,.slice sa sn sc]:=aG.alloc (show aG w.drew sb _ _ from HO.out.2.1) _
  have H3:=aa (And.intro L8 (And.intro CR L5))
  clear L8 CR L5
  refine rd [10] (rn fun K hK=> ?_)
  refine dN (K:=cO .i64) BP _ _ rfl rfl H3.out.1 (Nat.zero_le _) w.drew.heap.size 0 1 1 [n.page] rfl rfl H3.out.2.1 (show l.length+1≤1000000000 by have:=HO.out.2.2.2;omega) ?_;intro v5 w5 iB eN vL
  refine hK _ _ ?_;clear hK K
  have xg:World.grownBy _ w5 (Value.slice sa sn sc).ownBlock:=eN
  have GZ:v5.ownBlock=(Value.slice sa sn sc).ownBlock∨∀k,v5.ownBlock=some k→w.heap.size≤k:=vL.imp_right fun h k hk=>by have:=h k hk;simp only[World.size_drew,World.size_alloc] at this;omega
  have KC:aj (fun k=>(Value.slice sa sn sc).ownBlock=some k) w (w.drew.alloc (.cells #[.int .i64 n.page] 3)):=((aj.refl _ w).drew).alloc _
  have cH:=KC.grown xg fun k e _=>e
  have hne:=Own.bK HO.out.1 HO.out.2.1 (by decide)
  have hs5:=HO.out.2.1.but cH hne
  obtain⟨a5,jR,qX,qY⟩:=Own.slice iB
  have y_:=Own.bK iB hs5 (by decide)
  generalize (l++[n.page]).length=N5 at qX qY
  subst qX
  have c5:=hs5.cell (j:=1) rfl
  have f5:=hs5.frozen 1
  have HE:=aa (show h_ w sb tb (.slice sa sn sc) (l++[n.page]) (.returned (.tuple #[])) (w5.setCell ⟨sb,1,none⟩ (.slice a5 N5 jR)) from
   ⟨rfl,_,hs5.set 1 _,Own.but iB ((aj.refl (fun k=>k=sb) w5).setCell _ _ fun _=>rfl) (fun k hk e=>y_ (by rw[hk,e])),(cH.mono (fun k _ e=>.inr e)).setCell _ _ (fun _=>.inl rfl),GZ⟩)
  clear iB eN xg vL GZ KC cH hne hs5 y_
  try simp only[Act.put,List.setIfInBounds_toArray]
  refine tk 11 ?_
  refine tk 12 ?_
  try simp only[Act.put]
  refine rd [13] (rn fun K hK=> ?_)
  go_simp
  refine hK _ _ ?_;clear hK K
  refine wpAny_done (by kernel_rfl) ?_ _
  refine bodyPost_end (results_none rfl _ _ _) rfl ?_
  exact HE.out
section
variable {P:Program}
theorem uN (w:World) (dT sT ty elem:TypeId) (size:Nat) (g o dLen dCap:Nat) (a:Addr) (sLen sCap:Nat) (cur:Array Value) (t:TypeId) (cs:List Value)
  (hu:P.underlying dT=some (.slice elem)) (hs:(P.info? elem).map (·.size)=some size)
  (hg:w.heap[g]?=some (.cells cur t (0,0))) (hn:cs.length=Nat.min sLen dLen*size)
  (hsrc:∀j v,cs[j]?=some v→w.cell? (a.add j)=some v) (hfit:o+cs.length≤cur.size) (h1:∀v∈cs,v.oneCell'=true):
  (Builtin.copy_ #[dT,sT] ty #[.slice (some ⟨g,o,none⟩) dLen dCap,.slice (some a) sLen sCap]).run P w=
   .ok (goInt (Nat.min sLen dLen)) (w.setRow g (cur.toList.take o++cs++cur.toList.drop (o+cs.length)).toArray):=by
 have hl:=run_loadCells_list (P:=P) w a cs hsrc
 have hst:=run_storeCells_at P g o t cs 0 cur w hg (by simpa using hfit) h1
 cases hq:P.info? elem with
 |none=>simp[hq] at hs
 |some i=>
  have hi:i.size=size:=by simpa[hq] using hs
  simp[Builtin.copy_,run_underlying hu,Builtin.lenOf,Builtin.firstCells,sizeOf,typeInfo,hq,hi,←hn,hl,hst]
theorem uO (w:World) (dT sT ty elem:TypeId) (size:Nat) (d a:Option Addr) (dLen dCap sLen sCap:Nat) (hu:P.underlying dT=some (.slice elem)) (hs:(P.info? elem).map (·.size)=some size) (hn:Nat.min sLen dLen=0):
  (Builtin.copy_ #[dT,sT] ty #[.slice d dLen dCap,.slice a sLen sCap]).run P w=.ok (goInt 0) w:=by
 cases hq:P.info? elem with
 |none=>simp[hq] at hs
 |some i=>cases d<;>cases a<;>simp[Builtin.copy_,run_underlying hu,Builtin.lenOf,Builtin.firstCells,sizeOf,typeInfo,hq,hn,storeCells,loadCells,loadCellsFrom]
end
theorem dF {w:World} {o:Oper} {a:Act} {K':Act→World→Prop} {Q:Exit→Act→World→Prop} (d s:Operand)
  (ho:o.op=.call {callee:=.builtin .copy,args:=#[d,s],argTypes:=#[86,86]})
  (dp sp:Option Addr) (dLen dCap sLen sCap:Nat) (hd:a.eval d=.slice dp dLen dCap) (hs:a.eval s=.slice sp sLen sCap)
  (g off:Nat) (cur:List Value) (hg:w.heap[g]?=some (.cells cur.toArray 95 (0,0))) (ms:List It) (hn:ms.length=Nat.min sLen dLen)
  (hpos:0<ms.length→dp=some ⟨g,off,none⟩∧∃sg so,sp=some ⟨sg,so,none⟩∧aJ ah w sg so ms)
  (hfit:off+ms.length*3≤cur.length)
  (h:∀w',w'.heap[g]?=some (.cells (splice cur off (ah.cells ms)).toArray 95 (0,0))→aj (fun k=>k=g) w w'→K' (a.put o.dst (goInt ms.length)) w'):o.wp Tryz.prog a w K' Q:=by
 have hl:(ah.cells ms).length=ms.length*3:=ah.a_ ms
 by_cases h0:ms.length=0
 ·obtain rfl:ms=[]:=List.eq_nil_of_length_eq_zero h0
  have hrun:=uO (P:=Tryz.prog) w 86 86 o.type 95 3 dp sp dLen dCap sLen sCap Tryz.underlying86 (by kernel_rfl) (by simpa using hn.symm)
  unfold Oper.wp
  simp[execOp,ho,resolve,invoke,builtin,hd,hs,hrun,Result.andThen]
  exact h w (by rw[show splice cur off (ah.cells [])=cur by simp[splice,Elem.cells]];exact hg) (aj.refl _ _)
 ·obtain⟨rfl,sg,so,rfl,hsrc⟩:=hpos (by omega)
  have hrun:=uN (P:=Tryz.prog) w 86 86 o.type 95 3 g off dLen dCap ⟨sg,so,none⟩ sLen sCap cur.toArray 95 (ah.cells ms) Tryz.underlying86 (by kernel_rfl) hg (by rw[hl,hn]) hsrc.news (by rw[hl];simpa using hfit) (ah.lK ms)
  unfold Oper.wp
  simp[execOp,ho,resolve,invoke,builtin,hd,hs,hrun,Result.andThen]
  rw[←hn]
  refine h _ ?_ ?_
  ·rw[setRow_heap w g cur.toArray _ _ _ hg]
   simp[splice]
  ·exact (aj.refl (fun k=>k=g) w).setRow g _ (fun _=>rfl)
theorem cW {w:World} {ops:Array Oper} {rest:List Oper} {o:Oper} {a:Act} {Q:Exit→Act→World→Prop} (hgd:o.guard=none) (d s:Operand)
  (ho:o.op=.call {callee:=.builtin .copy,args:=#[d,s],argTypes:=#[86,86]})
  (dp sp:Option Addr) (dLen dCap sLen sCap:Nat) (hd:a.eval d=.slice dp dLen dCap) (hs:a.eval s=.slice sp sLen sCap)
  (g off:Nat) (cur:List Value) (hg:w.heap[g]?=some (.cells cur.toArray 95 (0,0))) (ms:List It) (hn:ms.length=Nat.min sLen dLen)
  (hpos:0<ms.length→dp=some ⟨g,off,none⟩∧∃sg so,sp=some ⟨sg,so,none⟩∧aJ ah w sg so ms)
  (hfit:off+ms.length*3≤cur.length)
  (h:∀w',w'.heap[g]?=some (.cells (splice cur off (ah.cells ms)).toArray 95 (0,0))→aj (fun k=>k=g) w w'→wpList Tryz.prog ops Q rest (a.put o.dst (goInt ms.length)) w'):wpList Tryz.prog ops Q (o::rest) a w:=
 wpList_plain hgd fun _ hK=>dF d s ho dp sp dLen dCap sLen sCap hd hs g off cur hg ms hn hpos hfit fun w' h1 h2=>hK _ _ (h w' h1 h2)
theorem dG {α:Type} {C X cs R:List α} (h:C=X++R):splice C X.length cs=X++(cs++R.drop cs.length):=by
 unfold splice
 rw[h,List.take_left,←List.drop_drop,List.drop_left]
theorem gT {B:Nat} {w:World} {g n cap:Nat} {l:List It} (h:aD B w (.slice (some ⟨g,0,none⟩) n cap) l):∃R:List Value,w.heap[g]?=some (.cells (ah.cells l++R).toArray 95 (0,0))∧(ah.cells l++R).length=cap*3∧n=l.length∧n≤cap∧cap≤maxLen∧B≤g:=by
 rcases h.2 with⟨e,_⟩|⟨g',cap',cur,e,h1,h2,h3,h4,h5,h6⟩
 ·cases e
 ·injection e with e1 e2 e3
  injection e1 with e1
  injection e1 with e1
  subst e1 e3
  have h5':cur.size=cap*3:=h5
  have h6':cur.toList.take (l.length*3)=ah.cells l:=h6
  refine⟨cur.toList.drop (l.length*3), ?_, ?_,e2,by omega,h4,h1⟩
  ·rw[←h6',List.take_append_drop];exact h2
  ·rw[←h6',List.take_append_drop,Array.length_toList,h5']
theorem dy {B:Nat} {w:World} {g n cap:Nat} {l:List It} {R:List Value} (h:w.heap[g]?=some (.cells (ah.cells l++R).toArray 95 (0,0))) (hl:(ah.cells l++R).length=cap*3) (hn:n=l.length) (hc:n≤cap) (hm:cap≤maxLen) (hB:B≤g):aD B w (.slice (some ⟨g,0,none⟩) n cap) l:=by
 subst hn
 refine⟨ah.a_ l,.inr ⟨g,cap,_,rfl,hB,h,hc,hm, ?_, ?_⟩⟩
 ·show (ah.cells l++R).toArray.size=cap*3
  rw[List.size_toArray];exact hl
 ·show (ah.cells l++R).toArray.toList.take (l.length*3)=ah.cells l
  have e:l.length*3=(ah.cells l).length:=(ah.a_ l).symm
  rw[List.toList_toArray,e]
  exact List.take_left
theorem iX {w:World} {g:Nat} {X:List Value} {l:List It} {R:List Value} (h:w.heap[g]?=some (.cells (X++(ah.cells l++R)).toArray 95 (0,0))):aJ ah w g X.length l:=by
 intro j u hu
 have hj:=(List.getElem?_eq_some_iff.1 hu).1
 have:(X++(ah.cells l++R))[X.length+j]?=some u:=by
  rw[List.getElem?_append_right (by omega),Nat.add_sub_cancel_left,List.getElem?_append_left hj]
  exact hu
 simp[World.cell?,h,this]
theorem k_ {B:Nat} {w:World} {l:List It} {o:Oper} {a:Act} {K':Act→World→Prop} {Q:Exit→Act→World→Prop} (s x:Operand)
  (ho:o.op=.call {callee:=.builtin .append,args:=#[s,x],argTypes:=#[86,86]}) (g k cap:Nat)
  (hs:a.eval s=.slice (some ⟨g,0,none⟩) k cap) (hown:aD B w (.slice (some ⟨g,0,none⟩) k cap) l) (hk:k=l.length) (sg so m c:Nat) (ms:List It) (hx:a.eval x=.slice (some ⟨sg,so,none⟩) m c) (hm:ms.length=m) (hnews:ms≠[]→aJ ah w sg so ms) (hc:k+m≤cap)
  (h:∀w',aD B w' (.slice (some ⟨g,0,none⟩) (k+m) cap) (l++ms)→w.grownBy w' (some g)→K' (a.put o.dst (.slice (some ⟨g,0,none⟩) (k+m) cap)) w'):o.wp Tryz.prog a w K' Q:=by
 obtain⟨i,z,hi,hz,hsize,hzs,hby⟩:=sq.info
 subst hk
 obtain⟨w',hr,h2,h3⟩:=run_append_fits (P:=Tryz.prog) (w:=w) (ty:=o.type) B 86 95 i ah.size sq.under hi hsize g l.length cap (ah.cells l) hown ⟨sg,so,none⟩ m c (ah.cells ms) (by rw[ah.a_,hm]) (fun j u hu=>by
  have hne:ms≠[]:=by rintro rfl;simp[Elem.cells] at hu
  exact (hnews hne).news j u hu) (ah.lK _) hc
 unfold Oper.wp execOp
 simp only[ho,resolve,invoke,builtin,Sem.run_bind,Sem.run_pure,Result.andThen_ok,List.map_toArray,List.map_cons,List.map_nil,hs,hx,hr]
 refine h w' ?_ h3
 unfold aD Own
 rw[List.length_append,ah.bh,hm]
 exact h2
theorem dD (w:World) (o k cap:Nat) (l:List It) (h:aD 0 w (.slice (some ⟨o,0,none⟩) k cap) l) (d:Nat) (hk:k+d≤cap) (hd:0<d):
  ∃vs,∀(c:Nat) (ty:TypeId),(Builtin.clear_ #[86] ty #[.slice (some ⟨o,k*3,none⟩) d c]).run Tryz.prog w=.ok (.tuple #[]) (w.setCells o (k*3) vs):=by
 obtain⟨z,hz⟩:∃z,z=(Builtin.zeroCells (Value.agg #[.string ⟨#[]⟩,.string ⟨#[]⟩,.pointer none]).cells d).toList:=⟨_,rfl⟩
 have P7:z=(Builtin.zeroCells #[.string ⟨#[]⟩,.string ⟨#[]⟩,.pointer none] d).toList:=hz
 have hzl:z.length=d*3:=by rw[P7];simp[Builtin.zeroCells]
 have D1:∀v∈z,v.oneCell'=true:=by
  intro v hv
  rw[P7] at hv
  simp only[Builtin.zeroCells,Array.toList_map,List.mem_map] at hv
  obtain⟨i,_,rfl⟩:=hv
  have:i%3=0∨i%3=1∨i%3=2:=by omega
  rcases this with e|e|e<;>simp[e]<;>rfl
 refine⟨z,fun c ty=> ?_⟩
 have hst:=run_storeCells_cells (P:=Tryz.prog) o (k*3) z 0 w
  (fun j hj=>by rw[Nat.add_zero];exact (Own.spare h (k*3+j) (by show _<cap*3;omega)).1)
  (fun j hj=>by rw[Nat.add_zero];exact (Own.spare h (k*3+j) (by show _<cap*3;omega)).2) D1
 simp only[Nat.add_zero] at hst
 obtain⟨m,rfl⟩:∃m,d=m+1:=⟨d-1,by omega⟩
 simp[Builtin.clear_,run_underlying Tryz.underlying86,←hz,hst]
end Go.Proofs.YtloekpcncjocaaaGreatDoor
