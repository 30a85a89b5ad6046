/- Elder texts, cut down and merged (7). -/
import Derived.Test.YtebbahjombdalaaGreatDoorP3
import Derived.Test.YtebbahjombdalaaGreatDoorP6
import Derived.Test.YtebbahjombdalaaGreatDoorP5
import Derived.Deep.RegionHeld3
import Derived.Deep.RegionHeldLaw
import Derived.Laws.CopyOwn
import Derived.Lib.AppendZerosOnto
import Derived.Lib.Overlaps
import Derived.Test.YtebbahjombdalaaGreatDoorPTk
set_option maxRecDepth 100000
set_option maxHeartbeats 8000000
namespace Go.Proofs.YtebbahjombdalaaGreatDoor
open List renaming map_append→bI,setIfInBounds_toArray→az,set_cons_succ→ay,set_cons_zero→au,length_set→bP,length_append→aq,getElem?_eq_getElem→aJ,getElem?_set_ne→qZ,getD_eq_getElem?_getD→bT,replicate→bg,take_left→fF,take_append_drop→cL,map_cons→bH
open World renaming drew→bD,size_alloc→bk,block_lt_of_cell?→bt
open Int renaming toNat_natCast→cX
open _root_.Array renaming length_toList→aZ,getElem?_eq_some_iff→iA
open Nat renaming zero_le→aC,le_refl→af,zero_add→bV,lt_of_lt_of_le→cW,add_zero→dN
open UInt8 renaming ofNat→aY
section
open Go.RowKit Lib
structure iZ (R:Nat→Prop) (ring g N lb tb rb:Nat) (H:List Wl.Text) (ps:List (Nat×List UInt8)) (pg:List (Option Wl.Text)) (rt:List Nat) (X:World):Prop where
 c:C1 R ring g N lb tb H ps X
 blk:aS X rb 74 [ptr tb]
 rr:R rb
 rep:Rm.dx (Wl.along H (Tx.oq ps)) pg rt
 ins:∀p∈ps,p.1<H.length
 pos:1≤pg.length
section
variable {X X':World} {R R' S:Nat→Prop} {ring g N lb tb rb:Nat} {H H':List Wl.Text} {ps ps':List (Nat×List UInt8)} {pg cP:List (Option Wl.Text)} {rt rt':List Nat}
theorem iZ.len (h:iZ R ring g N lb tb rb H ps pg rt X):H.length=pg.length+2:=by
 have:=h.rep.len
 rwa [Wl.cO] at this
theorem iZ.cell (h:iZ R ring g N lb tb rb H ps pg rt X):X.cell? ⟨rb,0,none⟩=some (.pointer (some ⟨tb,0,none⟩)):=h.blk.cell rfl
theorem iZ.iE (h:iZ R ring g N lb tb rb H ps pg rt X) (hb:aE S X X') (hS:∀k,k<X.heap.size→S k→R k) (hr:¬S rb) (Cq:∀k,R' k→R k∨(X.heap.size≤k∧k<X'.heap.size)) (hr':R' rb):iZ R' ring g N lb tb rb H ps pg rt X':=
 ⟨h.c.iE hb hS Cq,h.blk.but hb hr,hr',h.rep,h.ins,h.pos⟩
theorem iZ.still (h:iZ R ring g N lb tb rb H ps pg rt X) (hb:Below X.heap.size X X'):iZ R ring g N lb tb rb H ps pg rt X':=
 ⟨h.c.still hb,h.blk.below hb h.blk.lt,h.rr,h.rep,h.ins,h.pos⟩
theorem fL (h:iZ R ring g N lb tb rb H ps pg rt X):
  Calls Tryz.prog 121 #[ptr rb] X fun e X'=>e=.returned (.int .i64 pg.length)∧X'=X:=by
 have c0:=h.cell
 have hl:=h.len
 have hf:=h.rep.few
 have hp:=h.pos
 have HI:=aa h
 clear h
 have HP:=aa (show Rm.pages H.length=pg.length by rw[hl,Rm.FM (by omega) (by omega)];omega)
 have HL:=aa (show H.length≤5000 by omega)
 clear hl
 go_enter Tryz.func121,Tryz.ntmps121
 unfold ptr
 go_wp2_with fail
 refine (JO HI.o.c).mono ?_
 rintro e X' ⟨rfl,rfl⟩
 go_wp2_with fail
 refine (FN X' H.length (by have:=HL.o;omega)).mono ?_
 rintro e X' ⟨rfl,rfl⟩
 rw[HP.o]
 go_wp2
 go_ret
 exact⟨rfl,rfl⟩
theorem nM (h:iZ R ring g N lb tb rb H ps pg rt X) (i:Nat) (hi:i<H.length):
  Calls Tryz.prog 119 #[ptr rb,.int .i64 i] X fun e X'=>e=.returned (.tuple #[.string (bs ((Wl.along H (Tx.oq ps)).getD i [])),.int .i64 0])∧Below X.heap.size X X':=by
 have c0:=h.cell
 have HI:=aa h
 have HL:=aa (show i<H.length∧H.length≤65536 by have:=h.len;have:=h.rep.few;omega)
 clear h hi
 go_enter Tryz.func119,Tryz.ntmps119
 unfold ptr
 go_wp2_with fail
 refine (MY HI.o.c i HL.o.1 HL.o.2).mono ?_
 rintro e X' ⟨rfl,hb⟩
 go_wp2
 go_ret2
 exact⟨rfl,hb⟩
theorem qg (h:iZ R ring g N lb tb rb H ps pg rt X):
  Calls Tryz.prog 119 #[ptr rb,.int .i64 (-1)] X fun e X'=>e=.returned (.tuple #[.string ⟨#[]⟩,.int .i64 2])∧Below X.heap.size X X':=by
 have c0:=h.cell
 have HI:=aa h
 clear h
 go_enter Tryz.func119,Tryz.ntmps119
 unfold ptr
 go_wp2_with fail
 refine (Db HI.o.c (-1) (.inl (by decide)) (by decide) HI.o.ins).mono ?_
 rintro e X' ⟨rfl,hb⟩
 go_wp2
 go_ret2
 exact⟨rfl,hb⟩
theorem Dc (h:iZ R ring g N lb tb rb H ps pg rt X):
  Calls Tryz.prog 229 #[ptr rb] X fun e X'=>e=.returned (.int .i64 0)∧Below X.heap.size X X':=by
 have HI:=aa h
 clear h
 go_enter Tryz.func229,Tryz.ntmps229
 unfold ptr
 go_wp2_with fail
 refine (nM HI.o 0 (by have:=HI.o.len;omega)).mono ?_
 rintro e X' ⟨rfl,hb⟩
 go_wp2
 go_ret
 exact⟨rfl,hb⟩
theorem rF (h:iZ R ring g N lb tb rb H ps pg rt X) (p:Nat) (hp:p<pg.length):
  Calls Tryz.prog 211 #[ptr rb,.int .i64 p] X fun e X'=>e=.returned (.tuple #[.string (bs ((Wl.along H (Tx.oq ps)).getD 1 [])),.int .i64 0])∧Below X.heap.size X X':=by
 have HI:=aa h
 have HP:=aa (show p<pg.length∧p≤4095 by have:=h.rep.few;omega)
 clear h
 have h1:¬(p:Int)<0:=by omega
 have h2:¬(pg.length:Int)≤p:=by omega
 clear hp
 go_enter Tryz.func211,Tryz.ntmps211
 unfold ptr
 go_wp2_with fail
 refine (fL HI.o).mono ?_
 rintro e X' ⟨rfl,rfl⟩
 go_wp2_with fail
 refine (pW X' p (by have:=HP.o;omega)).mono ?_
 rintro e X' ⟨rfl,rfl⟩
 rw[show 1+p/4096=1 by have:=HP.o;omega]
 go_wp2_with fail
 refine (nM HI.o 1 (by have:=HI.o.len;omega)).mono ?_
 rintro e X' ⟨rfl,hb⟩
 go_wp2
 go_ret2
 exact⟨rfl,hb⟩
theorem yU (h:iZ R ring g N lb tb rb H ps pg rt X) (i:Int) (hi:i<0∨(pg.length:Int)≤i):
  Calls Tryz.prog 211 #[ptr rb,.int .i64 i] X fun e X'=>e=.returned (.tuple #[.string ⟨#[]⟩,.int .i64 2])∧Below X.heap.size X X':=by
 have HI:=aa h
 clear h
 by_cases h1:i<0
 ·go_enter Tryz.func211,Tryz.ntmps211
  unfold ptr
  go_wp2_with fail
  refine (qg HI.o).mono ?_
  rintro e X' ⟨rfl,hb⟩
  go_wp2
  go_ret2
  exact⟨rfl,hb⟩
 ·have h2:(pg.length:Int)≤i:=hi.resolve_left h1
  clear hi
  go_enter Tryz.func211,Tryz.ntmps211
  unfold ptr
  go_wp2_with fail
  refine (fL HI.o).mono ?_
  rintro e X' ⟨rfl,rfl⟩
  go_wp2_with fail
  refine (qg HI.o).mono ?_
  rintro e X' ⟨rfl,hb⟩
  go_wp2
  go_ret2
  exact⟨rfl,hb⟩
theorem fM (h:iZ R ring g N lb tb rb H ps pg rt X) (p:Nat) (hp:p<pg.length):
  Calls Tryz.prog 201 #[ptr rb,.int .i64 p] X fun e X'=>e=.returned (.int .i64 (2+p:Nat))∧X'=X:=by
 have HI:=aa h
 have HP:=aa (show p<pg.length∧pg.length≤4096∧1≤pg.length by have:=h.rep.few;have:=h.pos;omega)
 have OE:(p:Int)≤4095:=by have:=HP.o;omega
 clear h hp
 go_enter Tryz.func201,Tryz.ntmps201
 unfold ptr
 go_wp2_with fail
 refine (fL HI.o).mono ?_
 rintro e X' ⟨rfl,rfl⟩
 go_wp2_with fail
 refine (q_ X' pg.length 4096 (by have:=HP.o;omega) (by decide) (by decide)).mono ?_
 rintro e X' ⟨rfl,rfl⟩
 rw[show (pg.length+4096-1)/4096=1 by have:=HP.o;omega]
 go_wp2
 go_ret
 exact⟨by simp,rfl⟩
theorem JP (h:iZ R ring g N lb tb rb H ps pg rt X) (i:Int):
  Calls Tryz.prog 210 #[ptr rb,.int .i64 i] X fun e X'=>e=.returned (.tuple #[.bool (Rm.has pg i),.int .i64 (Rm.uc pg i)])∧Below X.heap.size X X':=by
 have HI:=aa h
 have key:∀p:Nat,p<pg.length→Calls Tryz.prog 210 #[ptr rb,.int .i64 p] X fun e X'=>e=.returned (.tuple #[.bool (pg.getD p none).isSome,.int .i64 0])∧Below X.heap.size X X':=by
  intro p hp
  have HP:=aa (show p<pg.length∧p≤4095 by have:=h.rep.few;omega)
  have HB:=aa (h.rep.bit p hp)
  have HS:=aa (h.rep.home (i:=1) (by rw[Wl.cO,h.len];omega))
  clear h
  generalize (pg.getD p none).isSome=o at*
  have hm:(p:Int).tmod 4096=(p:Int):=by rw[Int.tmod_eq_emod_of_nonneg (by omega)];have:=HP.o;omega
  clear hp
  go_enter Tryz.func210,Tryz.ntmps210
  unfold ptr
  go_wp2_with fail
  refine (rF HI.o p HP.o.1).mono ?_
  rintro e X' ⟨rfl,hb⟩
  generalize (Wl.along H (Tx.oq ps)).getD 1 []=T at*
  go_wp2_with fail
  refine (FO X' (bs T) p (by rw[aK,HS.o];have:=HP.o;omega) (by rw[aK,HS.o];decide)).mono ?_
  rintro e X' ⟨rfl,rfl⟩
  rw[bO,HB.o]
  go_wp2
  go_ret2
  exact⟨rfl,hb⟩
 rcases Rm.ud pg i with⟨ho,hr,hg,hh,hn⟩|⟨p,rfl,hp,hs,hr,hg,hh,hn⟩|⟨p,t,rfl,hp,hs,hr,hg,hh,hn⟩
 ·rw[hh,hn]
  clear h key
  go_enter Tryz.func210,Tryz.ntmps210
  unfold ptr
  go_wp2_with fail
  refine (yU HI.o i ho).mono ?_
  rintro e X' ⟨rfl,hb⟩
  go_wp2
  go_ret2
  exact⟨rfl,hb⟩
 ·rw[hh,hn]
  have:=key p hp
  rwa [hs] at this
 ·rw[hh,hn]
  have:=key p hp
  rwa [hs] at this
theorem mh (h:iZ R ring g N lb tb rb H ps pg rt X) (i:Int):
  Calls Tryz.prog 183 #[ptr rb,.int .i64 i] X fun e X'=>e=.returned (.int .i64 (Rm.refuse pg i))∧Below X.heap.size X X':=by
 have hc:=JP h i
 clear h
 rcases Rm.ud pg i with⟨ho,hr,hg,hh,hn⟩|⟨p,rfl,hp,hs,hr,hg,hh,hn⟩|⟨p,t,rfl,hp,hs,hr,hg,hh,hn⟩
 all_goals (
  rw[hh,hn] at hc
  rw[hr]
  have HC:=aa hc
  clear hc hh hn hr hg
  go_enter Tryz.func183,Tryz.ntmps183
  unfold ptr
  go_wp2_with fail
  refine HC.o.mono ?_
  rintro e X' ⟨rfl,hb⟩
  go_wp2
  go_ret
  exact⟨rfl,hb⟩)
end
section
variable {X X':World} {R R' S:Nat→Prop} {ring g N lb tb rb:Nat} {H H':List Wl.Text} {ps ps':List (Nat×List UInt8)} {pg cP:List (Option Wl.Text)} {rt rt':List Nat}
theorem qh (w:World) (p:Nat) (hp:p≤4095):Calls Tryz.prog 212 #[.int .i64 p] w fun e w'=>e=.returned (.int .i64 (1:Nat))∧w'=w:=by
 grind [pW]
theorem uC (H:List Wl.Text) (ps:List (Nat×List UInt8)) (i:Nat) (t:List UInt8):Wl.along H (Tx.oq (ps++[(i,t)]))=(Wl.along H (Tx.oq ps)).set i (Dk.full t):=by
 unfold Tx.oq
 rw[bI,Wl.yE]
 rfl
theorem JQ {n i:Nat} {t:List UInt8} (h:∀p∈ps,p.1<n) (hi:i<n):∀p∈ps++[(i,t)],p.1<n:=by
 grind
theorem wL {α:Type} {l:List (Option α)} {p:Nat} {t:α} (h:l.getD p none=some t):l[p]?=some (some t):=by
 grind
theorem Gd (h:iZ R ring g N lb tb rb H ps pg rt X) (i:Int):
  Calls Tryz.prog 166 #[ptr rb,.int .i64 i] X fun e X'=>e=.returned (.tuple #[.string (bs (Rm.got pg i)),.int .i64 (Rm.refuse pg i)])∧Below X.heap.size X X':=by
 have hc:=mh h i
 have HC:=aa hc
 clear hc
 rcases Rm.ud pg i with⟨ho,hr,hg,hh,hn⟩|⟨p,rfl,hp,hs,hr,hg,hh,hn⟩|⟨p,t,rfl,hp,hs,hr,hg,hh,hn⟩
 ·rw[hg,hr]
  have HR:=aa hr
  clear hr hg hh hn h ho
  go_enter Tryz.func166,Tryz.ntmps166
  unfold ptr
  go_wp2_with fail
  refine HC.o.mono ?_
  rintro e X' ⟨rfl,hb⟩
  rw[HR.o]
  go_wp2
  go_ret2
  exact⟨rfl,hb⟩
 ·rw[hg,hr]
  have HR:=aa hr
  clear hr hg hh hn h hp hs
  go_enter Tryz.func166,Tryz.ntmps166
  unfold ptr
  go_wp2_with fail
  refine HC.o.mono ?_
  rintro e X' ⟨rfl,hb⟩
  rw[HR.o]
  go_wp2
  go_ret2
  exact⟨rfl,hb⟩
 ·rw[hg,hr]
  have HR:=aa hr
  have HI:=aa h
  have HP:=aa (show p<pg.length∧2+p<H.length by have:=h.len;omega)
  have HT:=aa (h.rep.page p t (wL hs))
  clear hr hg hh hn h hp hs
  go_enter Tryz.func166,Tryz.ntmps166
  unfold ptr
  go_wp2_with fail
  refine HC.o.mono ?_
  rintro e X' ⟨rfl,hb⟩
  rw[HR.o]
  have H1:=aa (HI.o.still hb)
  go_wp2_with fail
  refine (fM H1.o p HP.o.1).mono ?_
  rintro e X2 ⟨rfl,rfl⟩
  go_wp2_with fail
  try simp only[Act.eval]
  refine (nM H1.o (2+p) HP.o.2).mono ?_
  rintro e X3 ⟨rfl,bY⟩
  rw[HT.o]
  go_wp2
  go_ret2
  exact⟨rfl,hb.trans (bY.mono hb.size)⟩
theorem uD (h:iZ R ring g N lb tb rb H ps pg rt X):
  Calls Tryz.prog 224 #[ptr rb] X fun e X'=>e=.returned (match Rm.firstFree pg with|some p=>.tuple #[.int .i64 (p:Nat),.int .i64 0]|none=>.tuple #[.int .i64 0,.int .i64 4])∧Below X.heap.size X X':=by
 have HI:=aa h
 have HB:=aa h.rep.bit
 have HS:=aa (h.rep.home (i:=1) (by rw[Wl.cO,h.len];omega))
 have HL:=aa (show 1≤pg.length∧pg.length≤4096 from⟨h.pos,h.rep.few⟩)
 have xz:(0:Int)<pg.length:=by have:=HL.o;omega
 have hl2:(pg.length:Int)≤4096:=by have:=HL.o;omega
 have zV:¬(4096:Int)<pg.length:=by omega
 obtain⟨V,hV⟩:∃V,V=(match Rm.firstFree pg with|some p=>Value.tuple #[.int .i64 (p:Nat),.int .i64 0]|none=>.tuple #[.int .i64 0,.int .i64 4]):=⟨_,rfl⟩
 rw[←hV]
 have HV:=aa hV
 clear h hV
 go_enter Tryz.func224,Tryz.ntmps224
 unfold ptr
 go_wp2_with fail
 refine (Dc HI.o).mono ?_
 rintro e X1 ⟨rfl,bF⟩
 have H1:=aa (HI.o.still bF)
 go_wp2
 go_loopw [5] (fun i wr=>(i=.int .i64 0∧wr=X1)∨(i=.int .i64 4096∧Rm.firstFree pg=none∧Below X.heap.size X wr∧Hid (iZ R ring g N lb tb rb H ps pg rt wr))) (fun i _=>if RowKit.intOf i=0 then 1 else 0)
 case atStart=>exact .inl ⟨rfl,rfl⟩
 case round=>
  rcases hrel with⟨rfl,rfl⟩|⟨rfl,hnone,MV,hw⟩
  ·go_wp2_with fail
   refine (fL H1.o).mono ?_
   rintro e X2 ⟨rfl,rfl⟩
   go_wp2_with fail
   refine (rF H1.o 0 (by have:=HL.o;omega)).mono ?_
   rintro e X3 ⟨rfl,bY⟩
   have H3:=aa (H1.o.still bY)
   have p8:=aa (bF.trans (bY.mono bF.size))
   generalize (Wl.along H (Tx.oq ps)).getD 1 []=T at*
   clear bF bY
   go_wp2_with fail
   refine (ue X3 (bs T) (by rw[aK,HS.o];decide)).mono ?_
   rintro e X4 ⟨f,rfl,hf,rfl⟩
   rw[bO] at hf
   have hf4:(f:Int)≤4096:=by have:=hf.2.1;rw[HS.o] at this;omega
   rcases Rm.CG HB.o HS.o HL.o.2 hf with⟨h1,h2⟩|⟨h1,h2⟩
   ·have HF:=aa h2
    have hI:¬(f:Int)<pg.length:=by omega
    clear hf h1 h2
    go_wp2_with fail
    refine (fL H3.o).mono ?_
    rintro e X5 ⟨rfl,rfl⟩
    have hmn:min (pg.length:Int) 4096=pg.length:=by omega
    go_wp2
    go_roundw
    case rel=>exact .inr ⟨rfl,HF.o,p8.o,H3⟩
    case measure=>decide
   ·have HF:=aa h2
    have hI:(f:Int)<pg.length:=by omega
    clear hf h1 h2
    go_wp2_with fail
    refine (fL H3.o).mono ?_
    rintro e X5 ⟨rfl,rfl⟩
    have hmn:min (pg.length:Int) 4096=pg.length:=by omega
    go_wp2
    go_ret2
    exact⟨by rw[HV.o,HF.o];rfl,p8.o⟩
  ·have WH:=HV.o
   rw[hnone] at WH
   have HV3:=aa WH
   clear hnone WH
   go_wp2_with fail
   refine (fL hw.o).mono ?_
   rintro e X2 ⟨rfl,rfl⟩
   go_wp2
   go_ret2
   exact⟨by rw[HV3.o];rfl,MV⟩
theorem iZ.put (h:iZ R ring g N lb tb rb H ps pg rt X) {i:Nat} {t:List UInt8} (hi:i<H.length) (hc:C1 R ring g N lb tb H (ps++[(i,t)]) X') (hb:aE (fun k=>¬R k) X X') (hr:Rm.dx ((Wl.along H (Tx.oq ps)).set i (Dk.full t)) cP rt') (hl:cP.length=pg.length):iZ R ring g N lb tb rb H (ps++[(i,t)]) cP rt' X':=
 ⟨hc,h.blk.but hb (fun hn=>hn h.rr),h.rr,by rw[uC];exact hr,JQ h.ins hi,by rw[hl];exact h.pos⟩
theorem xH (h:iZ R ring g N lb tb rb H ps pg rt X) (p:Nat) (hp:p<pg.length) (hq:ps.length≤90000000):
  Calls Tryz.prog 184 #[ptr rb,.int .i64 p] X fun e X'=>e=.returned (.int .i64 0)∧C1 R ring g N lb tb H (ps++[(1,Rm.flip ((Wl.along H (Tx.oq ps)).getD 1 []) p)]) X'∧aE (fun k=>¬R k) X X':=by
 have HI:=aa h
 obtain⟨T,hT⟩:∃T,T=(Wl.along H (Tx.oq ps)).getD 1 []:=⟨_,rfl⟩
 have HT:=aa hT
 have HS:=aa (show T.length=512 by rw[hT];exact h.rep.home (i:=1) (by rw[Wl.cO,h.len];omega))
 rw[←hT]
 clear hT
 have HP:=aa (show p<pg.length∧p≤4095∧1<H.length∧H.length≤65536∧ps.length≤90000000 by have:=h.rep.few;have:=h.len;omega)
 have hm:(p:Int).tmod 4096=(p:Int):=by rw[Int.tmod_eq_emod_of_nonneg (by omega)];have:=HP.o;omega
 clear h hp hq
 go_enter Tryz.func184,Tryz.ntmps184
 unfold ptr
 go_wp2_with fail
 refine (rF HI.o p HP.o.1).mono ?_
 rintro e X1 ⟨rfl,bF⟩
 rw[←HT.o]
 have H1:=aa (HI.o.still bF)
 have tu:=aa (H1.o.still ((Below.refl X1.heap.size X1).drew))
 have fY:=aa (show aE (fun k=>¬R k) X X1.drew from (aE.aH bF _).drew)
 have HC:=aa (show X1.drew.cell? ⟨rb,0,none⟩=some (.pointer (some ⟨tb,0,none⟩)) from tu.o.cell)
 clear bF
 have Rk:=HC.o
 go_wp2_with (refine wp_region_any (by kernel_rfl) ?_;refine Hid.o ?_)
 refine aa ?_
 try (change wpAny _ _ _ _ _ _ _ (bD _))
 refine tk 0 ?_
 refine tk 1 ?_
 refine tk 2 ?_
 refine tk 4 ?_
 refine tk 6 ?_
 refine tk 7 ?_
 refine tk 8 ?_
 try simp only[Act.put,az,ay,au]
 refine rd [3,5] (AllReady.cons rfl (fun K hK=> ?_) (rn fun K hK=> ?_))
 focus
  go_simp
  refine hK _ _ ?_;clear hK K
  refine rd [5] (rn fun K hK=> ?_)
  go_simp
  refine (qh _ p HP.o.2.1).mono ?_
  rintro e w1 ⟨rfl,rfl⟩
  refine hK _ _ ?_;clear hK K
  refine rd [9] (rn fun K hK=> ?_)
  go_simp
  refine (mU _ (bs T) p (by rw[aK,HS.o];have:=HP.o;omega) (by rw[aK,HS.o];decide)).mono ?_
  rintro e w2 ⟨rfl,aP⟩
  have H2:=aa (tu.o.still aP)
  have hc2:=H2.o.cell
  have fC:=aa (fY.o.trans (aE.aH aP (fun k=>¬R k)) (fun _ _ h=>h))
  clear aP
  refine hK _ _ ?_;clear hK K
 rotate_left
 focus
  go_simp
  refine (qh _ p HP.o.2.1).mono ?_
  rintro e w1 ⟨rfl,rfl⟩
  refine hK _ _ ?_;clear hK K
  refine rd [3,9] (AllReady.cons rfl (fun K hK=> ?_) (rn fun K hK=> ?_))
  focus
   go_simp
   refine hK _ _ ?_;clear hK K
   refine rd [9] (rn fun K hK=> ?_)
   go_simp
   refine (mU _ (bs T) p (by rw[aK,HS.o];have:=HP.o;omega) (by rw[aK,HS.o];decide)).mono ?_
   rintro e w2 ⟨rfl,aP⟩
   have H2:=aa (tu.o.still aP)
   have hc2:=H2.o.cell
   have fC:=aa (fY.o.trans (aE.aH aP (fun k=>¬R k)) (fun _ _ h=>h))
   clear aP
   refine hK _ _ ?_;clear hK K
  rotate_left
  focus
   go_simp
   refine (mU _ (bs T) p (by rw[aK,HS.o];have:=HP.o;omega) (by rw[aK,HS.o];decide)).mono ?_
   rintro e w2 ⟨rfl,aP⟩
   have H2:=aa (tu.o.still aP)
   have hc2:=H2.o.cell
   have fC:=aa (fY.o.trans (aE.aH aP (fun k=>¬R k)) (fun _ _ h=>h))
   clear aP
   refine hK _ _ ?_;clear hK K
   refine rd [3] (rn fun K hK=> ?_)
   go_simp
   refine hK _ _ ?_;clear hK K
 all_goals
  refine rd [10] (rn fun K hK=> ?_)
  go_simp
  refine (qd H2.o.c 1 _ HP.o.2.2.1 HP.o.2.2.2.1 (by rw[aK,Rm.j7,bO,HS.o];decide) HP.o.2.2.2.2).mono ?_;rintro e w3 ⟨rfl,h3,bY⟩
  refine hK _ _ ?_;clear hK K
  rw[bO,bO] at h3
  have HE:=aa (And.intro h3 (fC.o.trans bY (fun _ _ h=>h)))
  clear bY h3
  refine rd [11] (rn fun K hK=> ?_)
  go_simp
  refine hK _ _ ?_;clear hK K
  refine wpAny_done (by kernel_rfl) ?_ _
  go_wp2
  go_ret
  exact⟨rfl,HE.o⟩
end
namespace Rm
def qi (pg:List (Option Wl.Text)) (i:Int):List (Option Wl.Text):=if refuse pg i=0 then pg.set i.toNat none else pg
def written (pg:List (Option Wl.Text)) (i:Int) (s:Wl.Text):List (Option Wl.Text):=if wrote pg i s.length=0 then pg.set i.toNat (some (Dk.full s)) else pg
def kf (pg:List (Option Wl.Text)):List (Option Wl.Text):=match firstFree pg with|some p=>pg.set p (some (Dk.full []))|none=>pg
def alloc (pg:List (Option Wl.Text)):Int×Int:=match firstFree pg with|some p=>((p:Nat),0)|none=>(0,4)
end Rm
section
variable {X X':World} {R R' S:Nat→Prop} {ring g N lb tb rb:Nat} {H H':List Wl.Text} {ps ps':List (Nat×List UInt8)} {pg cP:List (Option Wl.Text)} {rt rt':List Nat}
def yV (R:Nat→Prop) (ring g N lb tb rb:Nat) (H:List Wl.Text) (ps:List (Nat×List UInt8)) (pg:List (Option Wl.Text)) (rt:List Nat) (X X':World):Prop:=
 ∃ps',(ps'.length≤ps.length+2∧ps<+:ps')∧iZ R ring g N lb tb rb H ps' pg rt X'∧aE (fun k=>¬R k) X X'
theorem yV.none (h:iZ R ring g N lb tb rb H ps pg rt X) (hb:Below X.heap.size X X'):yV R ring g N lb tb rb H ps pg rt X X':=⟨ps,⟨by omega,List.prefix_refl _⟩,h.still hb,aE.aH hb _⟩
theorem Ge (h:iZ R ring g N lb tb rb H ps pg rt X) (p:Nat) (hp:p<pg.length) (hs:pg.getD p none=none) (hq:ps.length≤80000000):
  Calls Tryz.prog 225 #[ptr rb,.int .i64 p] X fun e X'=>e=.returned (.int .i64 0)∧yV R ring g N lb tb rb H ps (pg.set p (some (Dk.full []))) rt X X':=by
 have HI:=aa h
 have HP:=aa (show p<pg.length∧2+p<H.length∧H.length≤65536∧ps.length≤90000000 by have:=h.rep.few;have:=h.len;omega)
 have HS:=aa (And.intro hs hq)
 have hc:=h.cell
 have tu:=aa (h.still ((Below.refl X.heap.size X).drew))
 have fY:=aa (show aE (fun k=>¬R k) X X.drew from (aE.refl _ _).drew)
 clear h hp hq hs
 have key:∀w3:World,C1 R ring g N lb tb H (ps++[(2+p,[])]) w3→aE (fun k=>¬R k) X w3→iZ R ring g N lb tb rb H (ps++[(2+p,[])]) pg rt w3:=fun w3 hc hb=>
  HI.o.put HP.o.2.1 hc hb (HI.o.rep.Pw HP.o.1 HS.o.1 (by decide)) rfl
 have KEY:=aa key
 have S0:∀w3 w4:World,iZ R ring g N lb tb rb H (ps++[(2+p,[])]) pg rt w3→aE (fun k=>¬R k) X w3→C1 R ring g N lb tb H ((ps++[(2+p,[])])++[(1,Rm.flip ((Wl.along H (Tx.oq (ps++[(2+p,[])]))).getD 1 []) p)]) w4→aE (fun k=>¬R k) w3 w4→yV R ring g N lb tb rb H ps (pg.set p (some (Dk.full []))) rt X w4:=by
  intro w3 w4 h3 hb hc aP
  have hl:=HP.o.2.1
  have hK:(Wl.along H (Tx.oq ps)).length=H.length:=Wl.cO _ _
  refine⟨_, ?_,iZ.put (cP:=pg.set p (some (Dk.full []))) (rt':=rt) h3 (by omega) hc aP ?_ (by rw[bP]),hb.trans aP (fun _ _ h=>h)⟩
  ·grind
  ·have h1:=h3.rep.home (i:=1) (by rw[Wl.cO];omega)
   rw[show Dk.full (Rm.flip ((Wl.along H (Tx.oq (ps++[(2+p,[])]))).getD 1 []) p)=Rm.flip ((Wl.along H (Tx.oq (ps++[(2+p,[])]))).getD 1 []) p from Wl.lX (by rw[Rm.j7];exact h1)]
   refine h3.rep.iE HP.o.1 (by rw[HS.o.1];rfl) (fun t ht=> ?_)
   injection ht with ht
   rw[uC,Rm.dx.dG _ _ _ _ _ (by rw[hK];exact hl),if_pos rfl,ht]
 have WJ:=aa S0
 clear key S0
 go_enter Tryz.func225,Tryz.ntmps225
 unfold ptr
 go_wp2_with (refine wp_region_any (by kernel_rfl) ?_;refine Hid.o ?_)
 refine aa ?_
 try (change wpAny _ _ _ _ _ _ _ (bD _))
 refine tk 0 ?_
 refine tk 1 ?_
 refine tk 2 ?_
 refine tk 4 ?_
 refine tk 5 ?_
 try simp only[Act.put,az,ay,au]
 refine rd [3,6] (AllReady.cons rfl (fun K hK=> ?_) (rn fun K hK=> ?_))
 focus
  go_simp
  refine hK _ _ ?_;clear hK K
  refine rd [6] (rn fun K hK=> ?_)
  go_simp
  refine (fM tu.o p HP.o.1).mono ?_
  rintro e w1 ⟨rfl,rfl⟩
  refine hK _ _ ?_;clear hK K
 rotate_left
 focus
  go_simp
  refine (fM tu.o p HP.o.1).mono ?_
  rintro e w1 ⟨rfl,rfl⟩
  refine hK _ _ ?_;clear hK K
  refine rd [3] (rn fun K hK=> ?_)
  go_simp
  refine hK _ _ ?_;clear hK K
 all_goals
  refine rd [7] (rn fun K hK=> ?_)
  go_simp
  refine (qd tu.o.c (2+p) ⟨#[]⟩ HP.o.2.1 HP.o.2.2.1 (by decide) HP.o.2.2.2).mono ?_;rintro e w3 ⟨rfl,h3,bY⟩
  refine hK _ _ ?_;clear hK K
  have HE:=aa (And.intro h3 (fY.o.trans bY (fun _ _ h=>h)))
  clear bY h3
  refine rd [8] (rn fun K hK=> ?_)
  go_simp
  refine hK _ _ ?_;clear hK K
  refine wpAny_done (by kernel_rfl) ?_ _
  have HR:=aa (KEY.o _ HE.o.1 HE.o.2)
  go_wp2_with fail
  refine (xH HR.o p HP.o.1 (by have:=HS.o.2;rw[aq];show ps.length+1≤90000000;omega)).mono ?_
  rintro e w4 ⟨rfl,h4,hb4⟩
  have HE4:=aa (WJ.o _ _ HR.o HE.o.2 h4 hb4)
  clear h4 hb4
  go_wp2
  go_ret
  exact⟨rfl,HE4.o⟩
theorem De (h:iZ R ring g N lb tb rb H ps pg rt X) (hq:ps.length≤80000000):
  Calls Tryz.prog 209 #[ptr rb] X fun e X'=>e=.returned (.tuple #[.int .i64 (Rm.alloc pg).1,.int .i64 (Rm.alloc pg).2])∧yV R ring g N lb tb rb H ps (Rm.kf pg) rt X X':=by
 have hf:=uD h
 rcases Rm.mG pg with e|⟨p,e,hp,hs⟩
 ·have ha:Rm.kf pg=pg:=by unfold Rm.kf;rw[e]
  have hb:Rm.alloc pg=(0,4):=by unfold Rm.alloc;rw[e]
  rw[ha,hb]
  rw[e] at hf
  have HF:=aa hf
  have HI:=aa h
  clear h hf ha hb e hq
  go_enter Tryz.func209,Tryz.ntmps209
  unfold ptr
  go_wp2_with fail
  refine HF.o.mono ?_
  rintro e X1 ⟨rfl,bF⟩
  go_wp2
  go_ret2
  exact⟨rfl,yV.none HI.o bF⟩
 ·have ha:Rm.kf pg=pg.set p (some (Dk.full [])):=by unfold Rm.kf;rw[e]
  have hb:Rm.alloc pg=(((p:Nat):Int),0):=by unfold Rm.alloc;rw[e]
  rw[ha,hb]
  rw[e] at hf
  have HF:=aa hf
  have HI:=aa h
  have HP:=aa (And.intro hp (And.intro hs hq))
  clear h hf ha hb e hq hp hs
  go_enter Tryz.func209,Tryz.ntmps209
  unfold ptr
  go_wp2_with fail
  refine HF.o.mono ?_
  rintro e X1 ⟨rfl,bF⟩
  have H1:=aa (HI.o.still bF)
  have fY:=aa (aE.aH bF (fun k=>¬R k))
  clear bF
  go_wp2_with fail
  refine (Ge H1.o p HP.o.1 HP.o.2.1 HP.o.2.2).mono ?_
  rintro e X2 ⟨rfl,ps2,hl2,h2,aP⟩
  have HE:=aa (show yV R ring g N lb tb rb H ps (pg.set p (some (Dk.full []))) rt X X2 from⟨ps2,hl2,h2,fY.o.trans aP (fun _ _ h=>h)⟩)
  clear h2 aP hl2
  go_wp2
  go_ret2
  exact⟨rfl,HE.o⟩
theorem Gf (h:iZ R ring g N lb tb rb H ps pg rt X) (i:Int) (hq:ps.length≤80000000):
  Calls Tryz.prog 140 #[ptr rb,.int .i64 i] X fun e X'=>e=.returned (.int .i64 (Rm.refuse pg i))∧yV R ring g N lb tb rb H ps (Rm.qi pg i) rt X X':=by
 have HC:=aa (mh h i)
 rcases Rm.ud pg i with⟨ho,hr,hg,hh,hn⟩|⟨p,rfl,hp,hs,hr,hg,hh,hn⟩|⟨p,t,rfl,hp,hs,hr,hg,hh,hn⟩
 ·have ha:Rm.qi pg i=pg:=by unfold Rm.qi;rw[hr,if_neg (by decide)]
  rw[ha,hr]
  have HR:=aa hr
  have HI:=aa h
  clear hr hg hh hn h ho ha hq
  go_enter Tryz.func140,Tryz.ntmps140
  unfold ptr
  go_wp2_with fail
  refine HC.o.mono ?_
  rintro e X' ⟨rfl,hb⟩
  rw[HR.o]
  go_wp2
  go_ret
  exact⟨rfl,yV.none HI.o hb⟩
 ·have ha:Rm.qi pg p=pg:=by unfold Rm.qi;rw[hr,if_neg (by decide)]
  rw[ha,hr]
  have HR:=aa hr
  have HI:=aa h
  clear hr hg hh hn h hp hs ha hq
  go_enter Tryz.func140,Tryz.ntmps140
  unfold ptr
  go_wp2_with fail
  refine HC.o.mono ?_
  rintro e X' ⟨rfl,hb⟩
  rw[HR.o]
  go_wp2
  go_ret
  exact⟨rfl,yV.none HI.o hb⟩
 ·have ha:Rm.qi pg p=pg.set p none:=by unfold Rm.qi;rw[hr,if_pos rfl,cX]
  rw[ha,hr]
  have HR:=aa hr
  have HI:=aa h
  have HP:=aa (show p<pg.length∧(pg.getD p none).isSome∧ps.length≤90000000∧1<H.length from⟨hp,by rw[hs];rfl,by omega,by have:=h.len;omega⟩)
  clear hr hg hh hn h hp hs ha hq
  go_enter Tryz.func140,Tryz.ntmps140
  unfold ptr
  go_wp2_with fail
  refine HC.o.mono ?_
  rintro e X' ⟨rfl,hb⟩
  rw[HR.o]
  have H1:=aa (HI.o.still hb)
  have fY:=aa (aE.aH hb (fun k=>¬R k))
  clear hb
  go_wp2_with fail
  refine (xH H1.o p HP.o.1 HP.o.2.2.1).mono ?_
  rintro e X2 ⟨rfl,h2,aP⟩
  have HE:=aa (show yV R ring g N lb tb rb H ps (pg.set p none) rt X X2 by
   have h1:=H1.o.rep.home (i:=1) (by rw[Wl.cO];exact HP.o.2.2.2)
   refine⟨_, ?_,iZ.put (cP:=pg.set p none) (rt':=rt) H1.o HP.o.2.2.2 h2 aP ?_ (by rw[bP]),fY.o.trans aP (fun _ _ h=>h)⟩
   ·grind
   ·rw[show Dk.full (Rm.flip ((Wl.along H (Tx.oq ps)).getD 1 []) p)=Rm.flip ((Wl.along H (Tx.oq ps)).getD 1 []) p from Wl.lX (by rw[Rm.j7];exact h1)]
    exact H1.o.rep.free HP.o.1 HP.o.2.1)
  clear h2 aP
  go_wp2
  go_ret
  exact⟨rfl,HE.o⟩
theorem Df (h:iZ R ring g N lb tb rb H ps pg rt X) (i:Int) (s:ByteArray) (hq:ps.length≤80000000):
  Calls Tryz.prog 181 #[ptr rb,.int .i64 i,.string s] X fun e X'=>e=.returned (.int .i64 (Rm.wrote pg i s.size))∧yV R ring g N lb tb rb H ps (Rm.written pg i s.data.toList) rt X X':=by
 have HC:=aa (mh h i)
 have hsz:s.data.toList.length=s.size:=aZ
 rcases Rm.ud pg i with⟨ho,hr,hg,hh,hn⟩|⟨p,rfl,hp,hs,hr,hg,hh,hn⟩|⟨p,t,rfl,hp,hs,hr,hg,hh,hn⟩
 ·have hw:∀n,Rm.wrote pg i n=2:=fun n=>by unfold Rm.wrote;rw[hr,if_neg (by decide)]
  have ha:Rm.written pg i s.data.toList=pg:=by unfold Rm.written;rw[hw,if_neg (by decide)]
  rw[ha,hw]
  have HR:=aa hr
  have HI:=aa h
  clear hr hg hh hn h ho ha hq hw hsz
  go_enter Tryz.func181,Tryz.ntmps181
  unfold ptr
  go_wp2_with fail
  refine HC.o.mono ?_
  rintro e X' ⟨rfl,hb⟩
  rw[HR.o]
  go_wp2
  go_ret
  exact⟨rfl,yV.none HI.o hb⟩
 ·have hw:∀n,Rm.wrote pg p n=6:=fun n=>by unfold Rm.wrote;rw[hr,if_neg (by decide)]
  have ha:Rm.written pg p s.data.toList=pg:=by unfold Rm.written;rw[hw,if_neg (by decide)]
  rw[ha,hw]
  have HR:=aa hr
  have HI:=aa h
  clear hr hg hh hn h hp hs ha hq hw hsz
  go_enter Tryz.func181,Tryz.ntmps181
  unfold ptr
  go_wp2_with fail
  refine HC.o.mono ?_
  rintro e X' ⟨rfl,hb⟩
  rw[HR.o]
  go_wp2
  go_ret
  exact⟨rfl,yV.none HI.o hb⟩
 ·by_cases hz:s.size≤512
  ·have hw:Rm.wrote pg p s.size=0:=by unfold Rm.wrote;rw[hr,if_pos rfl,if_neg (by omega)]
   have ha:Rm.written pg p s.data.toList=pg.set p (some (Dk.full s.data.toList)):=by unfold Rm.written;rw[hsz,hw,if_pos rfl,cX]
   rw[ha,hw]
   have HR:=aa hr
   have HI:=aa h
   have HZ:=aa hz
   have HP:=aa (show p<pg.length∧2+p<H.length∧H.length≤65536∧ps.length≤90000000∧(pg.getD p none).isSome from⟨hp,by have:=h.len;omega,by have:=h.len;have:=h.rep.few;omega,by omega,by rw[hs];rfl⟩)
   clear hr hg hh hn h hp hs ha hq hw hsz hz
   go_enter Tryz.func181,Tryz.ntmps181
   unfold ptr
   go_wp2_with fail
   refine HC.o.mono ?_
   rintro e X1 ⟨rfl,hb⟩
   rw[HR.o]
   have H1:=aa (HI.o.still hb)
   have tu:=aa (H1.o.still ((Below.refl X1.heap.size X1).drew))
   have fY:=aa (show aE (fun k=>¬R k) X X1.drew from (aE.aH hb _).drew)
   have Rk:=tu.o.cell
   clear hb
   go_wp2_with (refine wp_region_any (by kernel_rfl) ?_;refine Hid.o ?_)
   refine aa ?_
   try (change wpAny _ _ _ _ _ _ _ (bD _))
   refine tk 0 ?_
   refine tk 1 ?_
   refine tk 2 ?_
   refine tk 4 ?_
   refine tk 5 ?_
   refine tk 7 ?_
   try simp only[Act.put,az,ay,au]
   refine rd [3,6] (AllReady.cons rfl (fun K hK=> ?_) (rn fun K hK=> ?_))
   focus
    go_simp
    refine hK _ _ ?_;clear hK K
    refine rd [6] (rn fun K hK=> ?_)
    go_simp
    refine (fM tu.o p HP.o.1).mono ?_
    rintro e w1 ⟨rfl,rfl⟩
    refine hK _ _ ?_;clear hK K
   rotate_left
   focus
    go_simp
    refine (fM tu.o p HP.o.1).mono ?_
    rintro e w1 ⟨rfl,rfl⟩
    refine hK _ _ ?_;clear hK K
    refine rd [3] (rn fun K hK=> ?_)
    go_simp
    refine hK _ _ ?_;clear hK K
   all_goals
    refine rd [8] (rn fun K hK=> ?_)
    go_simp
    refine (qd tu.o.c (2+p) s HP.o.2.1 HP.o.2.2.1 HZ.o HP.o.2.2.2.1).mono ?_;rintro e w3 ⟨rfl,h3,bY⟩
    refine hK _ _ ?_;clear hK K
    have HE:=aa (show yV R ring g N lb tb rb H ps (pg.set p (some (Dk.full s.data.toList))) rt X w3 by
     refine⟨_, ?_,iZ.put (cP:=pg.set p (some (Dk.full s.data.toList))) (rt':=rt) tu.o HP.o.2.1 h3 bY (tu.o.rep.write HP.o.1 HP.o.2.2.2.2 (Dk.eR _ (by rw[aZ];exact HZ.o))) (by rw[bP]),fY.o.trans bY (fun _ _ h=>h)⟩
     exact⟨by rw[aq];show ps.length+1≤_;omega,List.prefix_append _ _⟩)
    clear bY h3
    refine rd [9] (rn fun K hK=> ?_)
    go_simp
    refine hK _ _ ?_;clear hK K
    refine wpAny_done (by kernel_rfl) ?_ _
    go_wp2
    go_ret
    exact⟨rfl,HE.o⟩
  ·have hw:Rm.wrote pg p s.size=5:=by unfold Rm.wrote;rw[hr,if_pos rfl,if_pos (by omega)]
   have ha:Rm.written pg p s.data.toList=pg:=by unfold Rm.written;rw[hsz,hw,if_neg (by decide)]
   rw[ha,hw]
   have HR:=aa hr
   have HI:=aa h
   have HZ:=aa (show 512<s.size by omega)
   have HP:=aa (show p<pg.length∧2+p<H.length from⟨hp,by have:=h.len;omega⟩)
   clear hr hg hh hn h hp hs ha hq hw hsz hz
   go_enter Tryz.func181,Tryz.ntmps181
   unfold ptr
   go_wp2_with fail
   refine HC.o.mono ?_
   rintro e X1 ⟨rfl,hb⟩
   rw[HR.o]
   have H1:=aa (HI.o.still hb)
   have tu:=aa (H1.o.still ((Below.refl X1.heap.size X1).drew))
   have HBl:=aa (hb.drew)
   have Rk:=tu.o.cell
   clear hb
   go_wp2_with (refine wp_region_any (by kernel_rfl) ?_;refine Hid.o ?_)
   refine aa ?_
   try (change wpAny _ _ _ _ _ _ _ (bD _))
   refine tk 0 ?_
   refine tk 1 ?_
   refine tk 2 ?_
   refine tk 4 ?_
   refine tk 5 ?_
   refine tk 7 ?_
   try simp only[Act.put,az,ay,au]
   refine rd [3,6] (AllReady.cons rfl (fun K hK=> ?_) (rn fun K hK=> ?_))
   focus
    go_simp
    refine hK _ _ ?_;clear hK K
    refine rd [6] (rn fun K hK=> ?_)
    go_simp
    refine (fM tu.o p HP.o.1).mono ?_
    rintro e w1 ⟨rfl,rfl⟩
    refine hK _ _ ?_;clear hK K
   rotate_left
   focus
    go_simp
    refine (fM tu.o p HP.o.1).mono ?_
    rintro e w1 ⟨rfl,rfl⟩
    refine hK _ _ ?_;clear hK K
    refine rd [3] (rn fun K hK=> ?_)
    go_simp
    refine hK _ _ ?_;clear hK K
   all_goals
    refine rd [8] (rn fun K hK=> ?_)
    go_simp
    refine (AM tu.o.c (2+p:Nat) s 5 (.inr ⟨rfl,by omega,by have:=HP.o.2;omega,HZ.o⟩)).mono ?_;rintro e w3 ⟨rfl,rfl⟩
    refine hK _ _ ?_;clear hK K
    refine rd [9] (rn fun K hK=> ?_)
    go_simp
    refine hK _ _ ?_;clear hK K
    refine wpAny_done (by kernel_rfl) ?_ _
    go_wp2
    go_ret
    exact⟨rfl,yV.none HI.o HBl.o⟩
end
theorem yW (w:World) (s:ByteArray) (k:Nat) (hs:s.size=512) (hk:k<16):
  Calls Tryz.prog 74 #[.string s,.int .i64 k] w fun e w'=>e=.returned (.int .u64 (Rm.num s.data.toList k:Nat))∧w'=w:=by
 have xk:(s.size:Int)=512:=by omega
 have s9:(k:Int)≤15:=by omega
 have HS:=aa hs
 clear hs
 go_enter Tryz.func74,Tryz.ntmps74
 go_wp2
 go_loop [5,7] (fun n i=>∃j:Nat,j≤8∧i=.int .i64 j∧n=.int .u64 (Rm.iP s.data.toList k j:Nat)) (fun _ i=>8-(RowKit.intOf i).toNat)
 case atStart=>exact⟨0,aC _,rfl,rfl⟩
 case round=>
  obtain⟨j,hj,rfl,rfl⟩:=hrel
  by_cases hlt:j<8
  ·have hI:(j:Int)<8:=by omega
   have hd:Rm.iP s.data.toList k j<2^56:=by
    have h1:=Rm.Am s.data.toList k j
    have h3:256^j≤256^7:=Nat.pow_le_pow_right (by decide) (by omega)
    have h4:(256:Nat)^7=2^56:=by decide
    omega
   have hin:8*k+j<s.size:=by rw[HS.o];omega
   obtain⟨q,hq⟩:∃q:Nat,q=8*k+j:=⟨_,rfl⟩
   have Zt:8*(k:Int)+j=(q:Int):=by omega
   have hqs:q<s.size:=by rw[hq];exact hin
   have aas:(q:Int)<512:=by have:=HS.o;omega
   have hb:=s[q].toNat_lt
   have HN:=aa (show Rm.iP s.data.toList k (j+1)=Rm.iP s.data.toList k j*256+s[q].toNat by
    show _*256+(s.data.toList.getD (8*k+j) 0).toNat=_
    rw[←hq,yI s q hqs])
   have HO:=aa (EA _ _ hd hb)
   generalize Rm.iP s.data.toList k j=a at*
   have MZ:(a:Int)<72057594037927936:=by omega
   have ha0:(0:Int)≤a:=by omega
   have HL:=aa hlt
   clear hd hin hq hlt
   go_wp2
   go_round
   case rel=>exact⟨j+1,HL.o,by go_num,by rw[HN.o,HO.o]⟩
   case measure=>have:=HL.o;simp[RowKit.intOf];omega
  ·have WK:=aa (show j=8 by omega)
   have hI:¬(j:Int)<8:=by omega
   go_wp2
   go_ret
   refine⟨?_,rfl⟩
   rw[WK.o]
   rfl
theorem JR (n k:Nat):(n:Int)/2^(8*(7-k))%256=((aY (n/256^(7-k))).toNat:Int):=q8 n (7-k)
theorem m7 (w:World) (s:ByteArray) (k n:Nat) (hk:k<16) (hs:s.size=512) (hn:n<18446744073709551616):
  Calls Tryz.prog 186 #[.string s,.int .i64 k,.int .u64 n] w fun e w'=>e=.returned (.string (bs (Rm.put s.data.toList k n)))∧Below w.heap.size w w':=by
 have s9:(k:Int)≤15:=by omega
 have OB:(n:Int)≤18446744073709551615:=by omega
 have hn0:(0:Int)≤n:=by omega
 obtain⟨v,o,Sk,hown⟩:=oG w s (by omega)
 obtain⟨gb,cap,rfl,hgb⟩:=hown.slice
 have hl:s.data.toList.length=512:=by rw[aZ];exact hs
 rw[hl] at Sk hown
 have HO:=aa hown.Zs
 have HB:=aa (show Below w.heap.size w (w.drew.alloc o) from (Below.refl _ w).drew.alloc (af _) o)
 obtain⟨W,hW⟩:∃W,W=w.drew.alloc o:=⟨_,rfl⟩
 rw[←hW] at Sk HO HB
 have HK:=aa hk
 have HL:=aa hl
 have HG:=aa hgb
 clear hown hl hW hs hk hgb
 go_enter Tryz.func186,Tryz.ntmps186
 go_wp2
 go_loopw [11] (fun i wr=>∃j:Nat,j≤8∧i=.int .i64 j∧Hid (eO false w.heap.size wr (.slice (some ⟨gb,0,none⟩) 512 cap) (Rm.oF s.data.toList k n j))∧Hid (Below w.heap.size w wr)) (fun i _=>8-(RowKit.intOf i).toNat)
 case atStart=>exact⟨0,aC _,rfl,HO,HB⟩
 case round=>
  obtain⟨j,hj,rfl,hO,hB⟩:=hrel
  by_cases hlt:j<8
  ·have hI:(j:Int)<8:=by omega
   obtain⟨q,hq⟩:∃q:Nat,q=8*k+j:=⟨_,rfl⟩
   have Zt:8*(k:Int)+j=(q:Int):=by omega
   have hq5:(q:Int)<512:=by have:=HK.o;omega
   have JT:q<(Rm.oF s.data.toList k n j).length:=by rw[Rm.jk,HL.o];omega
   obtain⟨t,ht⟩:∃t:Nat,t=8*(7-j):=⟨_,rfl⟩
   have htI:8*((7:Int)-j)=(t:Int):=by omega
   have SB:(0:Int)≤t:=by omega
   have ht5:(t:Int)≤56:=by omega
   have c1:=hO.o.cell q JT
   have f1:=hO.o.frozen q JT
   have Si:=aa (show (n:Int)/2^t%256=((aY (n/256^(7-j))).toNat:Int) by rw[ht];exact JR n j)
   have HN:=aa (show eO false w.heap.size (wr.setCell ⟨gb,q,none⟩ (bL (aY (n/256^(7-j))))) (.slice (some ⟨gb,0,none⟩) 512 cap) (Rm.oF s.data.toList k n (j+1)) by
    show eO false w.heap.size _ _ ((Rm.oF s.data.toList k n j).set (8*k+j) _)
    rw[←hq]
    exact hO.o.store q _)
   unfold bL at c1
   obtain⟨b,hb⟩:∃b,b=(Rm.oF s.data.toList k n j)[q]:=⟨_,rfl⟩
   rw[←hb] at c1
   have HJ:=aa (And.intro hlt hB.o)
   clear hq JT hlt hb ht
   go_wp2
   rw[Si.o]
   refine⟨⟨j+1,HJ.o.1,by go_num,HN,aa (HJ.o.2.setCell (by show w.heap.size≤gb;exact HG.o) _)⟩, ?_⟩
   have:=HJ.o.1;simp[RowKit.intOf];omega
  ·have WK:=aa (show j=8 by omega)
   have hI:¬(j:Int)<8:=by omega
   have Sl:=hO.o.back
   go_wp2
   go_ret
   refine⟨?_,hB.o⟩
   rw[WK.o]
   rfl
section
variable {X X':World} {R R' S:Nat→Prop} {ring g N lb tb rb:Nat} {H H':List Wl.Text} {ps ps':List (Nat×List UInt8)} {pg cP:List (Option Wl.Text)} {rt rt':List Nat}
theorem uE (h:iZ R ring g N lb tb rb H ps pg rt X) (k:Nat) (hk:k<16):
  Calls Tryz.prog 73 #[ptr rb,.int .i64 k] X fun e X'=>e=.returned (.tuple #[.string (bs ((Wl.along H (Tx.oq ps)).getD 0 [])),.int .i64 0])∧Below X.heap.size X X':=by
 have HI:=aa h
 clear h
 have h1:¬(k:Int)<0:=by omega
 have h2:¬(16:Int)≤k:=by omega
 go_enter Tryz.func73,Tryz.ntmps73
 unfold ptr
 go_wp2_with fail
 refine (nM HI.o 0 (by have:=HI.o.len;omega)).mono ?_
 rintro e X' ⟨rfl,hb⟩
 go_wp2
 go_ret2
 exact⟨rfl,hb⟩
theorem nN (h:iZ R ring g N lb tb rb H ps pg rt X) (k:Nat) (hk:k<16):
  Calls Tryz.prog 47 #[ptr rb,.int .i64 k] X fun e X'=>e=.returned (.tuple #[.int .u64 (rt.getD k 0:Nat),.int .i64 0])∧Below X.heap.size X X':=by
 have HI:=aa h
 have HN:=aa (h.rep.num k hk)
 have HS:=aa (h.rep.home (i:=0) (by rw[Wl.cO,h.len];omega))
 have HK:=aa hk
 clear h hk
 go_enter Tryz.func47,Tryz.ntmps47
 unfold ptr
 go_wp2_with fail
 refine (uE HI.o k HK.o).mono ?_
 rintro e X' ⟨rfl,hb⟩
 generalize (Wl.along H (Tx.oq ps)).getD 0 []=T at*
 go_wp2_with fail
 refine (yW X' (bs T) k (by rw[aK];exact HS.o) HK.o).mono ?_
 rintro e X' ⟨rfl,rfl⟩
 rw[bO,HN.o]
 go_wp2
 go_ret2
 exact⟨rfl,hb⟩
theorem yX (h:iZ R ring g N lb tb rb H ps pg rt X) (k n:Nat) (hk:k<16) (hn:n<18446744073709551616) (hq:ps.length≤80000000):
  Calls Tryz.prog 141 #[ptr rb,.int .i64 k,.int .u64 n] X fun e X'=>e=.returned (.int .i64 0)∧yV R ring g N lb tb rb H ps pg (rt.set k n) X X':=by
 have HI:=aa h
 obtain⟨T,hT⟩:∃T,T=(Wl.along H (Tx.oq ps)).getD 0 []:=⟨_,rfl⟩
 have HT:=aa hT
 have HS:=aa (show T.length=512 by rw[hT];exact h.rep.home (i:=0) (by rw[Wl.cO,h.len];omega))
 have HK:=aa (show k<16∧n<18446744073709551616∧0<H.length∧H.length≤65536∧ps.length≤90000000 by have:=h.rep.few;have:=h.len;omega)
 clear hT h hk hn hq
 go_enter Tryz.func141,Tryz.ntmps141
 unfold ptr
 go_wp2_with fail
 refine (uE HI.o k HK.o.1).mono ?_
 rintro e X1 ⟨rfl,hb⟩
 rw[←HT.o]
 have H1:=aa (HI.o.still hb)
 have tu:=aa (H1.o.still ((Below.refl X1.heap.size X1).drew))
 have fY:=aa (show aE (fun k=>¬R k) X X1.drew from (aE.aH hb _).drew)
 have Rk:=tu.o.cell
 clear hb
 go_wp2_with (refine wp_region_any (by kernel_rfl) ?_;refine Hid.o ?_)
 refine aa ?_
 try (change wpAny _ _ _ _ _ _ _ (bD _))
 refine tk 0 ?_
 refine tk 1 ?_
 refine tk 2 ?_
 refine tk 4 ?_
 refine tk 5 ?_
 refine tk 6 ?_
 try simp only[Act.put,az,ay,au]
 refine rd [3,7] (AllReady.cons rfl (fun K hK=> ?_) (rn fun K hK=> ?_))
 focus
  go_simp
  refine hK _ _ ?_;clear hK K
  refine rd [7] (rn fun K hK=> ?_)
  go_simp
  refine (m7 _ (bs T) k n HK.o.1 (by rw[aK];exact HS.o) HK.o.2.1).mono ?_
  rintro e w2 ⟨rfl,aP⟩
  have H2:=aa (tu.o.still aP)
  have hc2:=H2.o.cell
  have fC:=aa (fY.o.trans (aE.aH aP (fun k=>¬R k)) (fun _ _ h=>h))
  clear aP
  refine hK _ _ ?_;clear hK K
 rotate_left
 focus
  go_simp
  refine (m7 _ (bs T) k n HK.o.1 (by rw[aK];exact HS.o) HK.o.2.1).mono ?_
  rintro e w2 ⟨rfl,aP⟩
  have H2:=aa (tu.o.still aP)
  have hc2:=H2.o.cell
  have fC:=aa (fY.o.trans (aE.aH aP (fun k=>¬R k)) (fun _ _ h=>h))
  clear aP
  refine hK _ _ ?_;clear hK K
  refine rd [3] (rn fun K hK=> ?_)
  go_simp
  refine hK _ _ ?_;clear hK K
 all_goals
  refine rd [8] (rn fun K hK=> ?_)
  go_simp
  refine (qd H2.o.c 0 _ HK.o.2.2.1 HK.o.2.2.2.1 (by rw[aK,Rm.oO,bO,HS.o];decide) HK.o.2.2.2.2).mono ?_;rintro e w3 ⟨rfl,h3,bY⟩
  refine hK _ _ ?_;clear hK K
  rw[bO,bO] at h3
  have HE:=aa (show yV R ring g N lb tb rb H ps pg (rt.set k n) X w3 by
   refine⟨_, ?_,iZ.put (cP:=pg) (rt':=rt.set k n) H2.o HK.o.2.2.1 h3 bY ?_ rfl,fC.o.trans bY (fun _ _ h=>h)⟩
   ·exact⟨by rw[aq];show ps.length+1≤_;omega,List.prefix_append _ _⟩
   ·rw[show Dk.full (Rm.put T k n)=Rm.put T k n from Wl.lX (by rw[Rm.oO];exact HS.o),HT.o]
    exact H2.o.rep.set HK.o.1 (by have:=HK.o.2.1;rw[show (256:Nat)^8=18446744073709551616 by decide];exact this))
  clear bY h3
  refine rd [9] (rn fun K hK=> ?_)
  go_simp
  refine hK _ _ ?_;clear hK K
  refine wpAny_done (by kernel_rfl) ?_ _
  go_wp2
  go_ret
  exact⟨rfl,HE.o⟩
end
def upd (M:Nat→Option NV) (p:Nat) (n:NV):Nat→Option NV:=fun q=>if q=p then some n else M q
theorem bz (M:Nat→Option NV) (p:Nat) (n:NV):upd M p n p=some n:=if_pos rfl
theorem aO {M:Nat→Option NV} {p q:Nat} {n:NV} (h:q≠p):upd M p n q=M q:=if_neg h
theorem aI {M:Nat→Option NV} {p q:Nat} {n m:NV} (h:upd M p n q=some m):(q=p∧m=n)∨(q≠p∧M q=some m):=by
 grind [bz,Option.some.inj,aO]
structure Mem (X:World) (M:Nat→Option NV):Prop where
 nd:∀p n,M p=some n→Nd X p n
 ty:∀p n,M p=some n→∃cur,X.heap[n.rg]?=some (.cells cur 122 (0,0))
 apart:∀p q n m,M p=some n→M q=some m→p≠q→n.rg≠m.rg∨(n.own=false∧m.own=false∧(n.ro+3*n.its.length≤m.ro∨m.ro+3*m.its.length≤n.ro))
 own:∀p n,M p=some n→n.own=true→n.ro=0∧aR 0 X (.slice (some ⟨n.rg,0,none⟩) n.its.length n.cap) n.its
def MB (M:Nat→Option NV) (k:Nat):Prop:=∃p n,M p=some n∧(k=p∨k=n.rg)
section
variable {X X':World} {M:Nat→Option NV} {S:Nat→Prop} {p q:Nat} {n m:NV}
theorem Nd.but (h:Nd X p n) (hb:aE S X X') (hp:¬S p) (hr:¬S n.rg):Nd X' p n:=⟨h.blk.but hb hp,h.row.but hb hr,h.small⟩
theorem Mem.lt (h:Mem X M) (hp:M p=some n):p<X.heap.size∧n.rg<X.heap.size:=⟨(h.nd p n hp).blk.lt,by
 obtain⟨cur,hc⟩:=h.ty p n hp
 exact (iA.1 hc).1⟩
theorem Mem.lg (h:Mem X M) {k:Nat} (hk:MB M k):k<X.heap.size:=by
 obtain⟨p,n,hp,rfl|rfl⟩:=hk
 ·exact (h.lt hp).1
 ·exact (h.lt hp).2
theorem Mem.Dg (h:Mem X M) (hp:M p=some n) (hq:M q=some m):n.rg≠q:=by
 intro e
 obtain⟨cur,hc⟩:=h.ty p n hp
 have:=(h.nd q m hq).blk
 unfold aS at this
 rw[←e,hc] at this
 injection this with this
 injection this with _ e2
 exact absurd e2 (by decide)
theorem Mem.keep (h:Mem X M) (hb:aE S X X') (hS:∀k,MB M k→¬S k):Mem X' M:=by
 refine⟨fun p n hp=>(h.nd p n hp).but hb (hS p ⟨p,n,hp,.inl rfl⟩) (hS _ ⟨p,n,hp,.inr rfl⟩),fun p n hp=> ?_,h.apart,fun p n hp ho=>⟨(h.own p n hp ho).1,Own.but (h.own p n hp ho).2 hb fun k hk=> ?_⟩⟩
 ·obtain⟨cur,hc⟩:=h.ty p n hp
  exact⟨cur,by rw[hb.block n.rg (h.lt hp).2 (hS _ ⟨p,n,hp,.inr rfl⟩)];exact hc⟩
 ·have e:some n.rg=some k:=hk
  injection e with e
  rw[←e];exact hS _ ⟨p,n,hp,.inr rfl⟩
theorem Mem.still (h:Mem X M) (hb:Below X.heap.size X X'):Mem X' M:=h.keep (aE.aH hb (fun _=>False)) fun _ _ hf=>hf
theorem aR.ty {B g l c:Nat} {its:List It} (h:aR B X (.slice (some ⟨g,0,none⟩) l c) its):∃cur,X.heap[g]?=some (.cells cur 122 (0,0)):=Own.typed h rfl
theorem Mem.add (h:Mem X M) (hb:Below X.heap.size X X') (hp:X.heap.size≤p) (hr:X.heap.size≤n.rg) (hn:Nd X' p n) (ho:n.ro=0∧aR 0 X' (.slice (some ⟨n.rg,0,none⟩) n.its.length n.cap) n.its):Mem X' (upd M p n):=by
 have k:=h.still hb
 refine⟨fun q m hq=> ?_,fun q m hq=> ?_,fun q q' m m' hq lN hne=> ?_,fun q m hq hown=> ?_⟩
 ·rcases aI hq with⟨rfl,rfl⟩|⟨_,oW⟩
  ·exact hn
  ·exact k.nd q m oW
 ·rcases aI hq with⟨rfl,rfl⟩|⟨_,oW⟩
  ·exact aR.ty ho.2
  ·exact k.ty q m oW
 ·rcases aI hq with⟨rfl,rfl⟩|⟨_,oW⟩
  ·rcases aI lN with⟨rfl,rfl⟩|⟨_,uF⟩
   ·exact absurd rfl hne
   ·left;have:=(h.lt uF).2;omega
  ·rcases aI lN with⟨rfl,rfl⟩|⟨_,uF⟩
   ·left;have:=(h.lt oW).2;omega
   ·exact h.apart q q' m m' oW uF hne
 ·rcases aI hq with⟨rfl,rfl⟩|⟨_,oW⟩
  ·exact ho
  ·exact k.own q m oW hown
theorem Mem.cell (h:Mem X M) (hp:M p=some n) (n':NV) (k:Nat) (v:Value) (hi:n'.its=n.its) (hg:n'.rg=n.rg) (ho:n'.ro=n.ro) (hc:n'.cap=n.cap) (hw:n'.own=n.own) (hcs:n.cells.set k v=n'.cells):Mem (X.setCell ⟨p,k,none⟩ v) (upd M p n'):=by
 have hb:aE (fun b=>b=p) X (X.setCell ⟨p,k,none⟩ v):=(aE.refl (fun b=>b=p) X).setCell _ _ fun _=>rfl
 have sC:=h.nd p n hp
 have nn:Nd (X.setCell ⟨p,k,none⟩ v) p n':=⟨by rw[←hcs];exact sC.blk.set k v,by rw[hg,ho,hi];exact sC.row.but hb (h.Dg hp hp),⟨by rw[hi];exact sC.small.len,by rw[hi];exact sC.small.each,by rw[hi,hc];exact sC.small.cap⟩⟩
 refine⟨fun q m hq=> ?_,fun q m hq=> ?_,fun q q' m m' hq lN hne=> ?_,fun q m hq hown=> ?_⟩
 ·rcases aI hq with⟨rfl,rfl⟩|⟨hne,oW⟩
  ·exact nn
  ·exact (h.nd q m oW).but hb hne (h.Dg oW hp)
 ·rcases aI hq with⟨rfl,rfl⟩|⟨hne,oW⟩
  ·obtain⟨cur,hc⟩:=h.ty _ n hp
   exact⟨cur,by rw[hg,hb.block n.rg (h.lt hp).2 (h.Dg hp hp)];exact hc⟩
  ·obtain⟨cur,hc⟩:=h.ty q m oW
   exact⟨cur,by rw[hb.block m.rg (h.lt oW).2 (h.Dg oW hp)];exact hc⟩
 ·rcases aI hq with⟨rfl,rfl⟩|⟨S1,oW⟩
  ·rcases aI lN with⟨rfl,rfl⟩|⟨ur,uF⟩
   ·exact absurd rfl hne
   ·rw[hg,hw,ho,hi];exact h.apart _ q' n m' hp uF hne
  ·rcases aI lN with⟨rfl,rfl⟩|⟨ur,uF⟩
   ·rw[hg,hw,ho,hi];exact h.apart q _ m n oW hp hne
   ·exact h.apart q q' m m' oW uF hne
 ·rcases aI hq with⟨rfl,rfl⟩|⟨hne,oW⟩
  ·rw[hg,ho,hi,hc]
   rw[hw] at hown
   obtain⟨h1,h2⟩:=h.own _ n hp hown
   exact⟨h1,Own.but h2 hb fun k hk=>by have e:some n.rg=some k:=hk;injection e with e;rw[←e];exact h.Dg hp hp⟩
  ·obtain⟨h1,h2⟩:=h.own q m oW hown
   exact⟨h1,Own.but h2 hb fun k hk=>by have e:some m.rg=some k:=hk;injection e with e;rw[←e];exact h.Dg oW hp⟩
theorem uG (its:List It) (j f:Nat) (hj:j<its.length) (hf:f<3) (it:It) (v:Value) (he:aj.enc it=(aj.enc its[j]).set f v):aj.cells (its.set j it)=(aj.cells its).set (j*3+f) v:=by
 induction its generalizing j with
 |nil=>cases hj
 |cons a its ih=>
  cases j with
  |zero=>
   rw[au,Elem.dL,Elem.dL,he]
   have hl:(aj.enc a).length=3:=aj.len a
   show (aj.enc a).set f v++_=_
   rw[Nat.zero_mul,bV,List.set_append_left _ _ (by omega)]
  |succ j=>
   rw[ay,Elem.dL,Elem.dL,ih j (by simpa using hj) he]
   have hl:(aj.enc a).length=3:=aj.len a
   rw[List.set_append_right _ _ (by omega),hl,show (j+1)*3+f-3=j*3+f by omega]
theorem a_.stored {g o:Nat} {its:List It} (h:a_ aj X g o its) (k:Nat) (v:Value) (hk:k<its.length*3) {iT:List It} (he:aj.cells iT=(aj.cells its).set k v):a_ aj (X.setCell ⟨g,o+k,none⟩ v) g o iT:=by
 intro j u hu
 rw[he] at hu
 by_cases e:j=k
 ·subst e
  rw[List.getElem?_set_self (by rw[aj.bX];exact hk)] at hu
  have hv:v=u:=Option.some.inj hu
  subst hv
  have h0:j<(aj.cells its).length:=by rw[aj.bX];exact hk
  exact World.cell?_setCell_same _ _ _ (h j _ (aJ h0))
 ·rw[qZ (Ne.symm e)] at hu
  have:=h j u hu
  rw[←this]
  exact World.cell?_setCell_other _ _ _ _ (by intro e2;injection e2 with _ e3;omega)
theorem a_.apart {g o g2 o2:Nat} {its:List It} (h:a_ aj X g2 o2 its) (k:Nat) (v:Value) (hk:g2≠g∨o+k<o2∨o2+its.length*3≤o+k):a_ aj (X.setCell ⟨g,o+k,none⟩ v) g2 o2 its:=by
 intro j u hu
 have hj:j<its.length*3:=by
  have:=(List.getElem?_eq_some_iff.1 hu).1
  rwa [aj.bX] at this
 have:=h j u hu
 rw[←this]
 refine World.cell?_setCell_other _ _ _ _ (by intro e2;injection e2 with e1 e3;omega)
theorem Mem.item (h:Mem X M) (hp:M p=some n) (j f:Nat) (hj:j<n.its.length) (hf:f<3) (it:It) (v:Value) (he:aj.enc it=(aj.enc n.its[j]).set f v) (hs:it.key.length≤200∧it.val.length≤200):
  Mem (X.setCell ⟨n.rg,n.ro+(j*3+f),none⟩ v) (upd M p {n with its:=n.its.set j it}):=by
 have hb:aE (fun b=>b=n.rg) X (X.setCell ⟨n.rg,n.ro+(j*3+f),none⟩ v):=(aE.refl (fun b=>b=n.rg) X).setCell _ _ fun _=>rfl
 have sC:=h.nd p n hp
 have hk:j*3+f<n.its.length*3:=by omega
 have hcells:=uG n.its j f hj hf it v he
 have hlen:(n.its.set j it).length=n.its.length:=bP
 have nn:Nd (X.setCell ⟨n.rg,n.ro+(j*3+f),none⟩ v) p {n with its:=n.its.set j it}:=⟨by
  have e:NV.cells {n with its:=n.its.set j it}=n.cells:=by unfold NV.cells;simp only[hlen]
  rw[e]
  exact sC.blk.but hb (fun e=>h.Dg hp hp e.symm),sC.row.stored _ v hk hcells,⟨by show (n.its.set j it).length≤400;rw[hlen];exact sC.small.len,fun i hi=>by
   rcases List.mem_or_eq_of_mem_set hi with hi|rfl
   ·exact sC.small.each i hi
   ·exact hs,by show (n.its.set j it).length≤_∧_;rw[hlen];exact sC.small.cap⟩⟩
 have tyk:∀q m,M q=some m→∃cur,(X.setCell ⟨n.rg,n.ro+(j*3+f),none⟩ v).heap[m.rg]?=some (.cells cur 122 (0,0)):=by
  intro q m hq
  obtain⟨cur,hc⟩:=h.ty q m hq
  by_cases e:m.rg=n.rg
  ·rw[e] at hc ⊢
   exact⟨_,heap_setCell_same X n.rg _ cur _ v hc⟩
  ·exact⟨cur,by rw[hb.block m.rg (h.lt hq).2 e];exact hc⟩
 refine⟨fun q m hq=> ?_,fun q m hq=> ?_,fun q q' m m' hq lN hne=> ?_,fun q m hq hown=> ?_⟩
 ·rcases aI hq with⟨rfl,rfl⟩|⟨hne,oW⟩
  ·exact nn
  ·have hm:=h.nd q m oW
   refine⟨hm.blk.but hb (fun e=>h.Dg hp oW e.symm),hm.row.apart _ v ?_,hm.small⟩
   rcases h.apart q p m n oW hp hne with e|⟨_,_,e|e⟩
   ·exact .inl e
   ·right;right;omega
   ·right;left;omega
 ·grind [aI]
 ·rcases aI hq with⟨rfl,rfl⟩|⟨S1,oW⟩
  ·rcases aI lN with⟨rfl,rfl⟩|⟨ur,uF⟩
   ·exact absurd rfl hne
   ·show n.rg≠m'.rg∨(n.own=false∧m'.own=false∧(n.ro+3*(n.its.set j it).length≤m'.ro∨_))
    rw[hlen];exact h.apart _ q' n m' hp uF hne
  ·rcases aI lN with⟨rfl,rfl⟩|⟨ur,uF⟩
   ·show m.rg≠n.rg∨(m.own=false∧n.own=false∧(_∨n.ro+3*(n.its.set j it).length≤m.ro))
    rw[hlen];exact h.apart q _ m n oW hp hne
   ·exact h.apart q q' m m' oW uF hne
 ·rcases aI hq with⟨rfl,rfl⟩|⟨hne,oW⟩
  ·obtain⟨h1,h2⟩:=h.own _ n hp hown
   refine⟨h1, ?_⟩
   show aR 0 _ (.slice (some ⟨n.rg,0,none⟩) (n.its.set j it).length n.cap) (n.its.set j it)
   rw[h1,bV]
   have:=(World.ownsRow.stored h2 (j*3+f) v).1
   unfold aR Own
   rw[hcells,hlen]
   exact this
  ·obtain⟨h1,h2⟩:=h.own q m oW hown
   refine⟨h1,Own.but h2 hb fun k hk=> ?_⟩
   have e:some m.rg=some k:=hk
   injection e with e
   rw[←e]
   rcases h.apart q p m n oW hp hne with e|⟨e,_⟩
   ·exact e
   ·grind
end
structure Ev where
 ring:Nat
 g:Nat
 N:Nat
 lb:Nat
 xb:Nat
 rb:Nat
 tb:Nat
 place:Nat
 H:List Wl.Text
structure TS (E:Ev) (X0:World) (R0 R:Nat→Prop) (ps:List (Nat×List UInt8)) (pg:List (Option Wl.Text)) (rt:List Nat) (M:Nat→Option NV) (X:World):Prop where
 rm:iZ R E.ring E.g E.N E.lb E.xb E.rb E.H ps pg rt X
 sub:∀k,R0 k→R k
 new:∀k,R k→R0 k∨X0.heap.size≤k
 but:aE (fun k=>¬R0 k) X0 X
 tree:aS X E.tb 157 [ptr E.rb,.int .i64 E.place]
 tr:R0 E.tb
 mem:Mem X M
 jR:∀k,MB M k→R k∧X0.heap.size≤k
 Vl:∀k,R0 k→k<X0.heap.size
 Vm:R0 E.rb
section
variable {E:Ev} {X0 X X':World} {R0 R R' S:Nat→Prop} {ps ps':List (Nat×List UInt8)} {pg cP:List (Option Wl.Text)} {rt rt':List Nat} {M M':Nat→Option NV}
theorem TS.Gg (h:TS E X0 R0 R ps pg rt M X):∀k,R k→k<X.heap.size:=h.rm.c.lt
theorem TS.still (h:TS E X0 R0 R ps pg rt M X) (hb:Below X.heap.size X X') (h1:∀k,R k→R' k) (h2:∀k,R' k→R k∨(X.heap.size≤k∧k<X'.heap.size)):TS E X0 R0 R' ps pg rt M X':=
 ⟨h.rm.iE (aE.aH hb (fun _=>False)) (fun _ _ f=>f.elim) (fun f=>f) h2 (h1 _ h.rm.rr),fun k hk=>h1 k (h.sub k hk),fun k hk=>by
  rcases h2 k hk with hk|hk
  ·exact h.new k hk
  ·right;have:=h.but.size;omega,h.but.trans (aE.aH hb (fun _=>False)) (fun _ _ f=>f.elim),h.tree.below hb h.tree.lt,h.tr,h.mem.still hb,fun k hk=>⟨h1 k (h.jR k hk).1,(h.jR k hk).2⟩,h.Vl,h.Vm⟩
theorem TS.uH (h:TS E X0 R0 R ps pg rt M X) (hr:iZ R E.ring E.g E.N E.lb E.xb E.rb E.H ps' cP rt' X') (hb:aE (fun k=>¬R k) X X'):TS E X0 R0 R ps' cP rt' M X':=
 ⟨hr,h.sub,h.new,h.but.trans hb (fun k _ hn S2=>hn (h.sub k S2)),h.tree.but hb (fun hn=>hn (h.sub _ h.tr)),h.tr,h.mem.keep hb (fun k hk hn=>hn (h.jR k hk).1),h.jR,h.Vl,h.Vm⟩
theorem TS.own (h:TS E X0 R0 R ps pg rt M X) (hb:aE S X X') (hS:∀k,k<X.heap.size→S k→R k∧X0.heap.size≤k) (hm:Mem X' M') (hM:∀k,MB M' k→R' k∧X0.heap.size≤k) (h1:∀k,R k→R' k) (h2:∀k,R' k→R k∨(X.heap.size≤k∧k<X'.heap.size)):TS E X0 R0 R' ps pg rt M' X':=by
 have hn:∀k,R0 k→¬S k:=fun k hk hs=>by
  have h3:=h.Vl k hk
  have h4:=(hS k (cW h3 h.but.size) hs).2
  omega
 exact⟨h.rm.iE hb (fun k hk hs=>(hS k hk hs).1) (hn _ h.Vm) h2 (h1 _ h.rm.rr),fun k hk=>h1 k (h.sub k hk),fun k hk=>by
  rcases h2 k hk with hk|hk
  ·exact h.new k hk
  ·right;have:=h.but.size;omega,h.but.trans hb (fun k _ hs S2=>hn k S2 hs),h.tree.but hb (hn _ h.tr),h.tr,hm,hM,h.Vl,h.Vm⟩
def NV.got (level:Nat) (its:List It) (rg cap page:Nat) (lo hi:List UInt8):NV:=⟨level,its,rg,0,cap,page,lo,hi,cj its,0,false,true⟩
def qj (E:Ev) (X0:World) (R0 R:Nat→Prop) (ps:List (Nat×List UInt8)) (pg:List (Option Wl.Text)) (rt:List Nat) (M:Nat→Option NV) (X:World) (n:Nat→Nat→NV) (e:Ending) (X':World):Prop:=
 ∃p rg cap R',e=.returned (.tuple #[ptr p,.int .i64 0])∧TS E X0 R0 R' ps pg rt (upd M p (n rg cap)) X'∧Below X.heap.size X X'∧X.heap.size≤p∧X.heap.size≤rg∧(∀k,R k→R' k)∧∀k,R' k→R k∨X.heap.size≤k
theorem yY (h:TS E X0 R0 R ps pg rt M X) {page level:Nat} {its:List It} {lo hi:List UInt8} {l hh:ByteArray} {p rg cap:Nat} {w8 W9:World} (hlo:bs lo=l) (hhi:bs hi=hh) (hp:X.heap.size≤p) (hr:X.heap.size≤rg) (hn:Nd w8 p (NV.read level its rg cap)) (ho:aR X.heap.size w8 (.slice (some ⟨rg,0,none⟩) its.length cap) its) (hb:Below X.heap.size X w8)
  (hW:W9=(((w8.setCell ⟨p,2,none⟩ (.int .i64 (page:Int))).setCell ⟨p,3,none⟩ (.string l)).setCell ⟨p,4,none⟩ (.string hh)).setCell ⟨p,5,none⟩ (.int .i64 (cj (NV.read level its rg cap).its:Int))):
  qj E X0 R0 R ps pg rt M X (fun rg cap=>NV.got level its rg cap page lo hi) (.returned (.tuple #[ptr p,.int .i64 0])) W9:=by
 have M0:rg≠p:=by
  intro e
  have:=Own.cY ho hn.blk (by decide)
  exact this (by rw[←e];rfl)
 have k_:aE (fun k=>k=p) w8 W9:=by
  rw[hW]
  exact ((((aE.refl (fun k=>k=p) w8).setCell _ _ fun _=>rfl).setCell _ _ fun _=>rfl).setCell _ _ fun _=>rfl).setCell _ _ fun _=>rfl
 have hnd:Nd W9 p (NV.got level its rg cap page lo hi):=⟨by
  rw[hW,←hlo,←hhi]
  exact (((hn.blk.set 2 _).set 3 _).set 4 _).set 5 _,hn.row.but k_ M0,⟨hn.small.len,hn.small.each,hn.small.cap⟩⟩
 have how:aR 0 W9 (.slice (some ⟨rg,0,none⟩) its.length cap) its:=Own.but (Own.mono ho (aC _)) k_ fun k hk e=>M0 (by have e2:some rg=some k:=hk;injection e2 with e2;rw[e2,e])
 have hB:Below X.heap.size X W9:=hb.trans ⟨k_.os,k_.tape,k_.output,k_.size,fun k hk=>k_.block k (by have:=hb.size;omega) (by omega)⟩
 have hsz:p<W9.heap.size∧rg<W9.heap.size:=⟨hnd.blk.lt,by
  have:=k_.size
  have:=(Own.block ho rg rfl).2
  omega⟩
 refine⟨p,rg,cap,fun k=>R k∨k=p∨k=rg,rfl, ?_,hB,hp,hr,fun k hk=>.inl hk,fun k hk=>by
  rcases hk with hk|hk|hk
  ·exact .inl hk
  ·right;omega
  ·right;omega⟩
 refine h.own (S:=fun _=>False) (aE.aH hB _) (fun _ _ f=>f.elim) (h.mem.add hB hp hr hnd ⟨rfl,how⟩) ?_ (fun k hk=>.inl hk) (fun k hk=> ?_)
 ·rintro k ⟨q,m,hq,hk⟩
  have h0:=h.but.size
  rcases aI hq with⟨rfl,rfl⟩|⟨_,hq⟩
  ·rcases hk with hk|hk
   ·omega
   ·have hk':k=rg:=hk
    exact⟨.inr (.inr hk'),by omega⟩
  ·have:=h.jR k ⟨q,m,hq,hk⟩
   exact⟨.inl this.1,this.2⟩
 ·grind
theorem xI (h:TS E X0 R0 R ps pg rt M X) (page level:Nat) (its:List It) (lo hi:List UInt8) (hp:pg.getD page none=some (Dk.full (cB level its)))
  (hS:∀rg cap,Sound (NV.read level its rg cap)) (hl:its.length≤255) (hn:∀i∈its,i.node=none) (hsz:cj its≤510)
  (hw:∀i∈(if level=0 then its else its.tail),hasB lo hi i.key=true):
  Calls Tryz.prog 122 #[ptr E.tb,.int .i64 page,.agg #[.string (bs lo),.string (bs hi)]] X fun e X'=>qj E X0 R0 R ps pg rt M X (fun rg cap=>NV.got level its rg cap page lo hi) e X':=by
 have c0:=h.tree.cell (j:=0) rfl
 have htl:=h.tree.lt
 have HI:=aa h
 have HH:=aa (And.intro hp (And.intro hS (And.intro hl (And.intro hn (And.intro hsz hw)))))
 clear h hp hS hl hn hsz hw
 generalize hlo:bs lo=l at*
 generalize hhi:bs hi=hh at*
 have OS:=aa (And.intro hlo hhi)
 clear hlo hhi
 obtain⟨XB,S3⟩:∃XB,XB=X.alloc (.cells #[.string l,.string hh] 125):=⟨_,rfl⟩
 obtain⟨sb,hsb⟩:∃sb,sb=X.heap.size:=⟨_,rfl⟩
 have JU:Below X.heap.size X XB:=by rw[S3];exact (Below.refl _ X).alloc (af _) _
 have HB:=aa (show aS XB sb 125 [.string l,.string hh]∧Below X.heap.size X XB∧XB.heap.size=sb+1∧TS E X0 R0 R ps pg rt M XB from⟨by rw[S3,hsb];exact aS.new X _ _,JU,by rw[S3,hsb];simp[bk],HI.o.still JU (fun _ h=>h) (fun _ h=>.inl h)⟩)
 have HX:=aa (And.intro S3 hsb)
 clear S3 hsb JU
 go_enter Tryz.func122,Tryz.ntmps122
 unfold ptr
 go_wp2_with fail
 rw[←HX.o.2,←HX.o.1]
 refine (Gd HB.o.2.2.2.rm page).mono ?_
 rintro e X1 ⟨rfl,bF⟩
 have hin:page<pg.length:=by
  by_cases hc:page<pg.length
  ·exact hc
  ·have:=HH.o.1
   rw[bT,List.getElem?_eq_none (by omega)] at this
   cases this
 have hr:Rm.refuse pg page=0:=by
  unfold Rm.refuse
  rw[if_pos (by omega),cX,HH.o.1]
  rfl
 have hg:Rm.got pg page=Dk.full (cB level its):=by
  unfold Rm.got
  rw[if_pos (by omega),cX,HH.o.1]
  rfl
 rw[hr,hg]
 have hb:Below X.heap.size X X1:=HB.o.2.1.trans (bF.mono HB.o.2.1.size)
 have H1:=aa (show TS E X0 R0 R ps pg rt M X1∧Below X.heap.size X X1∧aS X1 sb 125 [.string l,.string hh] from⟨HB.o.2.2.2.still bF (fun _ h=>h) (fun _ h=>.inl h),hb,HB.o.1.below bF HB.o.1.lt⟩)
 have s0:=H1.o.2.2.cell (j:=0) rfl
 have s1:=H1.o.2.2.cell (j:=1) rfl
 have hfl:(Dk.full (cB level its)).length=512:=Dk.eR _ (by rw[kE];have:=HH.o.2.2.2.2.1;omega)
 have HF:=aa (CY X1 (bs (Dk.full (cB level its))) level its (bg (512-(cB level its).length) 0) rfl (Wl.mF _) (by rw[aK,hfl];decide) HH.o.2.1 HH.o.2.2.1 HH.o.2.2.2.1)
 clear hin hr hg hb bF hfl
 generalize bs (Dk.full (cB level its))=held at*
 go_wp2_with fail
 refine HF.o.mono ?_
 rintro e X2 ⟨p,rg,cap,rfl,hp1,hn2,fD,aP⟩
 unfold ptr
 have wv:X1.heap.size≤rg:=(Own.block fD rg rfl).1
 have H2:=aa (show Nd X2 p (NV.read level its rg cap)∧aR X.heap.size X2 (.slice (some ⟨rg,0,none⟩) its.length cap) its∧Below X.heap.size X X2∧aS X2 sb 125 [.string l,.string hh]∧X.heap.size≤p∧X.heap.size≤rg from⟨hn2,Own.mono fD H1.o.2.1.size,H1.o.2.1.trans (aP.mono H1.o.2.1.size),H1.o.2.2.below aP H1.o.2.2.lt,by have:=H1.o.2.1.size;omega,by have:=H1.o.2.1.size;omega⟩)
 clear s0 s1 hp1 hn2 fD aP wv
 have t0:=H2.o.2.2.2.1.cell (j:=0) rfl
 have t1:=H2.o.2.2.2.1.cell (j:=1) rfl
 have HW:=aa (show Calls Tryz.prog 168 #[ptr p,.agg #[.string l,.string hh]] X2 fun e w'=>e=.returned (.bool true)∧Below X2.heap.size X2 w' by
  rw[←OS.o.1,←OS.o.2]
  have hw:=HH.o.2.2.2.2.2
  by_cases h0:level=0
  ·rw[if_pos h0] at hw
   exact wG H2.o.1 lo hi h0 (HH.o.2.1 0 0).ne hw
  ·rw[if_neg h0] at hw
   exact uo H2.o.1 lo hi (Nat.pos_of_ne_zero h0) (HH.o.2.1 0 0).ne hw)
 unfold ptr at HW
 go_wp2_with fail
 refine HW.o.mono ?_
 rintro e W ⟨rfl,bY⟩
 have EF:=aa (show Nd W p (NV.read level its rg cap)∧aR X.heap.size W (.slice (some ⟨rg,0,none⟩) its.length cap) its∧Below X.heap.size X W from⟨H2.o.1.still bY,Own.below H2.o.2.1 bY (af _),H2.o.2.2.1.trans (bY.mono H2.o.2.2.1.size)⟩)
 have hsb:=H2.o.2.2.2.1.below bY H2.o.2.2.2.1.lt
 have s0:=hsb.cell (j:=0) rfl
 have s1:=hsb.cell (j:=1) rfl
 have hne:¬sb=p:=hsb.ne EF.o.1.blk (by decide)
 have ur:¬p=sb:=fun e=>hne e.symm
 clear t0 t1 bY hsb
 go_wp2_with (refine wp_region_any (by kernel_rfl) ?_;refine Hid.o ?_)
 refine aa ?_
 try (change wpAny _ _ _ _ _ _ _ (bD _))
 refine tk 0 ?_
 refine tk 1 ?_
 refine tk 2 ?_
 refine tk 3 ?_
 refine tk 5 ?_
 try simp only[Act.put,az,ay,au]
 refine rd [4,6] (AllReady.cons rfl (fun K hK=> ?_) (rn fun K hK=> ?_))
 ·skip
  go_simp
  refine hK _ _ ?_;clear hK K
  refine rd [6] (rn fun K hK=> ?_)
  go_simp
  refine (gJ (show Nd W.drew p (NV.read level its rg cap) from EF.o.1.drew)).mono ?_
  rintro e w8 ⟨rfl,rB⟩
  have b0:=(rB.cell (p:=⟨sb,0,none⟩) (bt W ⟨sb,0,none⟩ s0)).trans s0
  have b1:=(rB.cell (p:=⟨sb,1,none⟩) (bt W ⟨sb,1,none⟩ s1)).trans s1
  have H8:=aa rB
  refine hK _ _ ?_;clear hK K rB
  have sD:=aa (show Nd w8 p (NV.read level its rg cap)∧aR X.heap.size w8 (.slice (some ⟨rg,0,none⟩) its.length cap) its∧Below X.heap.size X w8 from⟨EF.o.1.drew.still H8.o,Own.below EF.o.2.1.drew H8.o (af _),EF.o.2.2.drew.trans (H8.o.mono EF.o.2.2.size)⟩)
  have q2:=sD.o.1.c2
  have q3:=sD.o.1.c3
  have q4:=sD.o.1.c4
  have q5:=sD.o.1.c5
  have f2:=sD.o.1.blk.frozen 2
  have f3:=sD.o.1.blk.frozen 3
  have f4:=sD.o.1.blk.frozen 4
  have f5:=sD.o.1.blk.frozen 5
  try simp only[Act.put,az,ay,au]
  refine tk 7 ?_
  refine tk 8 ?_
  try simp only[Act.put,az,ay,au]
  refine rd [9] (rn fun K hK=> ?_)
  go_simp
  refine hK _ _ ?_;clear hK K
  refine tk 10 ?_
  refine tk 11 ?_
  try simp only[Act.put,az,ay,au]
  refine rd [12] (rn fun K hK=> ?_)
  go_simp
  refine hK _ _ ?_;clear hK K
  refine tk 13 ?_
  refine tk 14 ?_
  try simp only[Act.put,az,ay,au]
  refine rd [15] (rn fun K hK=> ?_)
  go_simp
  refine hK _ _ ?_;clear hK K
  refine wpAny_done (by kernel_rfl) ?_ _
  obtain⟨W9,rG⟩:∃W9,W9=(((w8.setCell ⟨p,2,none⟩ (.int .i64 (page:Int))).setCell ⟨p,3,none⟩ (.string l)).setCell ⟨p,4,none⟩ (.string hh)).setCell ⟨p,5,none⟩ (.int .i64 (cj (NV.read level its rg cap).its:Int)):=⟨_,rfl⟩
  rw[←rG]
  have H9:=aa (yY HI.o OS.o.1 OS.o.2 H2.o.2.2.2.2.1 H2.o.2.2.2.2.2 sD.o.1 sD.o.2.1 sD.o.2.2 rG)
  clear rG q2 q3 q4 q5 f2 f3 f4 f5
  go_wp2
  go_ret2
  exact H9.o
 ·skip
  go_simp
  refine (gJ (show Nd W.drew p (NV.read level its rg cap) from EF.o.1.drew)).mono ?_
  rintro e w8 ⟨rfl,rB⟩
  have b0:=(rB.cell (p:=⟨sb,0,none⟩) (bt W ⟨sb,0,none⟩ s0)).trans s0
  have b1:=(rB.cell (p:=⟨sb,1,none⟩) (bt W ⟨sb,1,none⟩ s1)).trans s1
  have H8:=aa rB
  refine hK _ _ ?_;clear hK K rB
  have sD:=aa (show Nd w8 p (NV.read level its rg cap)∧aR X.heap.size w8 (.slice (some ⟨rg,0,none⟩) its.length cap) its∧Below X.heap.size X w8 from⟨EF.o.1.drew.still H8.o,Own.below EF.o.2.1.drew H8.o (af _),EF.o.2.2.drew.trans (H8.o.mono EF.o.2.2.size)⟩)
  have q2:=sD.o.1.c2
  have q3:=sD.o.1.c3
  have q4:=sD.o.1.c4
  have q5:=sD.o.1.c5
  have f2:=sD.o.1.blk.frozen 2
  have f3:=sD.o.1.blk.frozen 3
  have f4:=sD.o.1.blk.frozen 4
  have f5:=sD.o.1.blk.frozen 5
  try simp only[Act.put,az,ay,au]
  refine tk 7 ?_
  refine tk 8 ?_
  try simp only[Act.put,az,ay,au]
  refine rd [4,9] (AllReady.cons rfl (fun K hK=> ?_) (rn fun K hK=> ?_))
  ·skip
   go_simp
   refine hK _ _ ?_;clear hK K
   refine rd [9] (rn fun K hK=> ?_)
   go_simp
   refine hK _ _ ?_;clear hK K
   refine tk 10 ?_
   refine tk 11 ?_
   try simp only[Act.put,az,ay,au]
   refine rd [12] (rn fun K hK=> ?_)
   go_simp
   refine hK _ _ ?_;clear hK K
   refine tk 13 ?_
   refine tk 14 ?_
   try simp only[Act.put,az,ay,au]
   refine rd [15] (rn fun K hK=> ?_)
   go_simp
   refine hK _ _ ?_;clear hK K
   refine wpAny_done (by kernel_rfl) ?_ _
   obtain⟨W9,rG⟩:∃W9,W9=(((w8.setCell ⟨p,2,none⟩ (.int .i64 (page:Int))).setCell ⟨p,3,none⟩ (.string l)).setCell ⟨p,4,none⟩ (.string hh)).setCell ⟨p,5,none⟩ (.int .i64 (cj (NV.read level its rg cap).its:Int)):=⟨_,rfl⟩
   rw[←rG]
   have H9:=aa (yY HI.o OS.o.1 OS.o.2 H2.o.2.2.2.2.1 H2.o.2.2.2.2.2 sD.o.1 sD.o.2.1 sD.o.2.2 rG)
   clear rG q2 q3 q4 q5 f2 f3 f4 f5
   go_wp2
   go_ret2
   exact H9.o
  ·skip
   go_simp
   refine hK _ _ ?_;clear hK K
   refine rd [4] (rn fun K hK=> ?_)
   go_simp
   refine hK _ _ ?_;clear hK K
   refine tk 10 ?_
   refine tk 11 ?_
   try simp only[Act.put,az,ay,au]
   refine rd [12] (rn fun K hK=> ?_)
   go_simp
   refine hK _ _ ?_;clear hK K
   refine tk 13 ?_
   refine tk 14 ?_
   try simp only[Act.put,az,ay,au]
   refine rd [15] (rn fun K hK=> ?_)
   go_simp
   refine hK _ _ ?_;clear hK K
   refine wpAny_done (by kernel_rfl) ?_ _
   obtain⟨W9,rG⟩:∃W9,W9=(((w8.setCell ⟨p,2,none⟩ (.int .i64 (page:Int))).setCell ⟨p,3,none⟩ (.string l)).setCell ⟨p,4,none⟩ (.string hh)).setCell ⟨p,5,none⟩ (.int .i64 (cj (NV.read level its rg cap).its:Int)):=⟨_,rfl⟩
   rw[←rG]
   have H9:=aa (yY HI.o OS.o.1 OS.o.2 H2.o.2.2.2.2.1 H2.o.2.2.2.2.2 sD.o.1 sD.o.2.1 sD.o.2.2 rG)
   clear rG q2 q3 q4 q5 f2 f3 f4 f5
   go_wp2
   go_ret2
   exact H9.o
end
theorem PV:dD Tryz.prog 77 3 (fP .i64).size:=dD.of (size:=1) (bytes:=8) (z:=.int .i64 0) Tryz.underlying77 (by kernel_rfl) rfl (by decide)
def jD (w:World) (sb tb:Nat) (sv:Value) (l:List Int) (e:Ending) (w':World):Prop:=
 e=.returned (.tuple #[])∧∃eC,aS w' sb 169 [ptr tb,eC]∧mZ 0 w' eC l∧aE (fun k=>k=sb∨sv.ownBlock=some k) w w'∧(eC.ownBlock=sv.ownBlock∨∀k,eC.ownBlock=some k→w.heap.size≤k)
theorem iH (w:World) (sb tb p:Nat) (sv:Value) (l:List Int) (n:NV) (hs:aS w sb 169 [ptr tb,sv]) (ho:mZ 0 w sv l) (hn:Nd w p n) (hl:l.length≤1000000):
  Calls Tryz.prog 135 #[ptr sb,ptr p] w fun e w'=>jD w sb tb sv (l++[n.page]) e w':=by
 obtain⟨sa,sc,rfl,hsc⟩:=Own.slice ho
 obtain⟨sn,zW⟩:∃sn,sn=l.length:=⟨_,rfl⟩
 rw[←zW] at hs ho ⊢
 have c1:=hs.cell (j:=1) rfl
 have f1:=hs.frozen 1
 have q2:=hn.c2
 have xj:=hs.lt
 have dH:=hn.blk.lt
 have HO:=aa (And.intro ho (And.intro hs (And.intro hn hl)))
 clear hs ho hn hsc zW hl
 go_enter Tryz.func135,Tryz.ntmps135
 unfold ptr
 go_wp2_with (refine wp_region_any (by kernel_rfl) ?_;refine Hid.o ?_)
 refine aa ?_
 try (change wpAny _ _ _ _ _ _ _ (bD _))
 refine tk 0 ?_
 refine tk 1 ?_
 refine tk 2 ?_
 refine tk 3 ?_
 refine tk 5 ?_
 refine tk 6 ?_
 refine tk 7 ?_
 try simp only[Act.put,az,ay,au]
 refine rd [4,8] (AllReady.cons rfl (fun K hK=> ?_) (rn fun K hK=> ?_))
 focus
  go_simp
  refine hK _ _ ?_;clear hK K
  refine rd [8] (rn fun K hK=> ?_)
  go_simp
  refine hK _ _ ?_;clear hK K
  refine rd [9] (rn fun K hK=> ?_)
  go_simp
  refine hK _ _ ?_;clear hK K
 rotate_left
 focus
  go_simp
  refine hK _ _ ?_;clear hK K
  refine rd [4,9] (AllReady.cons rfl (fun K hK=> ?_) (rn fun K hK=> ?_))
  focus
   go_simp
   refine hK _ _ ?_;clear hK K
   refine rd [9] (rn fun K hK=> ?_)
   go_simp
   refine hK _ _ ?_;clear hK K
  rotate_left
  focus
   go_simp
   refine hK _ _ ?_;clear hK K
   refine rd [4] (rn fun K hK=> ?_)
   go_simp
   refine hK _ _ ?_;clear hK K
 all_goals
  try simp only[Act.put,az,ay,au]
  have SF:mZ 0 (w.drew.alloc (.cells #[.int .i64 n.page] 3)) (.slice sa sn sc) l:=Own.alloc (show mZ 0 w.drew (.slice sa sn sc) l from HO.o.1) _
  have zV:a_ (fP .i64) (w.drew.alloc (.cells #[.int .i64 n.page] 3)) w.drew.heap.size 0 [n.page]:=a_.gh (aS.new w.drew _ _) rfl
  have Sy:aS (w.drew.alloc (.cells #[.int .i64 n.page] 3)) sb 169 [ptr tb,.slice sa sn sc]:=aS.alloc (show aS w.drew sb _ _ from HO.o.2.1) _
  have H3:=aa (And.intro SF (And.intro zV Sy))
  clear SF zV Sy
  refine rd [10] (rn fun K hK=> ?_)
  refine fQ (K:=fP .i64) PV _ _ rfl rfl H3.o.1 (aC _) w.drew.heap.size 0 1 1 [n.page] rfl rfl H3.o.2.1 (show l.length+1≤1000000000 by have:=HO.o.2.2.2;omega) ?_;intro v5 w5 pL gS AO
  refine hK _ _ ?_;clear hK K
  have F0:World.grownBy _ w5 (Value.slice sa sn sc).ownBlock:=gS
  have S4:v5.ownBlock=(Value.slice sa sn sc).ownBlock∨∀k,v5.ownBlock=some k→w.heap.size≤k:=AO.imp_right fun h k hk=>by have:=h k hk;simp only[World.size_drew,bk] at this;omega
  have Rl:aE (fun k=>(Value.slice sa sn sc).ownBlock=some k) w (w.drew.alloc (.cells #[.int .i64 n.page] 3)):=((aE.refl _ w).drew).alloc _
  have dX:=Rl.grown F0 fun k e _=>e
  have hne:=Own.cY HO.o.1 HO.o.2.1 (by decide)
  have hs5:=HO.o.2.1.but dX hne
  obtain⟨a5,mY,xC,uu⟩:=Own.slice pL
  have Jz:=Own.cY pL hs5 (by decide)
  generalize (l++[n.page]).length=N5 at xC uu
  subst xC
  have c5:=hs5.cell (j:=1) rfl
  have f5:=hs5.frozen 1
  have HE:=aa (show jD w sb tb (.slice sa sn sc) (l++[n.page]) (.returned (.tuple #[])) (w5.setCell ⟨sb,1,none⟩ (.slice a5 N5 mY)) from
   ⟨rfl,_,hs5.set 1 _,Own.but pL ((aE.refl (fun k=>k=sb) w5).setCell _ _ fun _=>rfl) (fun k hk e=>Jz (by rw[hk,e])),(dX.mono (fun k _ e=>.inr e)).setCell _ _ (fun _=>.inl rfl),S4⟩)
  clear pL gS F0 AO S4 Rl dX hne hs5 Jz
  try simp only[Act.put,az]
  refine tk 11 ?_
  refine tk 12 ?_
  try simp only[Act.put]
  refine rd [13] (rn fun K hK=> ?_)
  go_simp
  refine hK _ _ ?_;clear hK K
  refine wpAny_done (by kernel_rfl) ?_ _
  refine bodyPost_end (results_none rfl _ _ _) rfl ?_
  exact HE.o
section
variable {P:Program}
theorem wM (w:World) (dT sT ty elem:TypeId) (size:Nat) (g o dLen dCap:Nat) (a:Addr) (sLen sCap:Nat) (cur:Array Value) (t:TypeId) (cs:List Value)
  (hu:P.underlying dT=some (.slice elem)) (hs:(P.info? elem).map (·.size)=some size)
  (hg:w.heap[g]?=some (.cells cur t (0,0))) (hn:cs.length=Nat.min sLen dLen*size)
  (hsrc:∀j v,cs[j]?=some v→w.cell? (a.add j)=some v) (hfit:o+cs.length≤cur.size) (h1:∀v∈cs,v.oneCell'=true):
  (Builtin.copy_ #[dT,sT] ty #[.slice (some ⟨g,o,none⟩) dLen dCap,.slice (some a) sLen sCap]).run P w=
   .ok (goInt (Nat.min sLen dLen)) (w.setRow g (cur.toList.take o++cs++cur.toList.drop (o+cs.length)).toArray):=by
 have hl:=run_loadCells_list (P:=P) w a cs hsrc
 have hst:=run_storeCells_at P g o t cs 0 cur w hg (by simpa using hfit) h1
 cases hq:P.info? elem with
 |none=>simp[hq] at hs
 |some i=>
  have hi:i.size=size:=by simpa[hq] using hs
  simp[Builtin.copy_,run_underlying hu,Builtin.lenOf,Builtin.firstCells,sizeOf,typeInfo,hq,hi,←hn,hl,hst]
theorem wN (w:World) (dT sT ty elem:TypeId) (size:Nat) (d a:Option Addr) (dLen dCap sLen sCap:Nat) (hu:P.underlying dT=some (.slice elem)) (hs:(P.info? elem).map (·.size)=some size) (hn:Nat.min sLen dLen=0):
  (Builtin.copy_ #[dT,sT] ty #[.slice d dLen dCap,.slice a sLen sCap]).run P w=.ok (goInt 0) w:=by
 cases hq:P.info? elem with
 |none=>simp[hq] at hs
 |some i=>cases d<;>cases a<;>simp[Builtin.copy_,run_underlying hu,Builtin.lenOf,Builtin.firstCells,sizeOf,typeInfo,hq,hn,storeCells,loadCells,loadCellsFrom]
end
theorem fk {w:World} {o:Oper} {a:Act} {K':Act→World→Prop} {Q:Exit→Act→World→Prop} (d s:Operand)
  (ho:o.op=.call {callee:=.builtin .copy,args:=#[d,s],argTypes:=#[123,123]})
  (dp sp:Option Addr) (dLen dCap sLen sCap:Nat) (hd:a.eval d=.slice dp dLen dCap) (hs:a.eval s=.slice sp sLen sCap)
  (g off:Nat) (cur:List Value) (hg:w.heap[g]?=some (.cells cur.toArray 122 (0,0))) (ms:List It) (hn:ms.length=Nat.min sLen dLen)
  (hpos:0<ms.length→dp=some ⟨g,off,none⟩∧∃sg so,sp=some ⟨sg,so,none⟩∧a_ aj w sg so ms)
  (hfit:off+ms.length*3≤cur.length)
  (h:∀w',w'.heap[g]?=some (.cells (splice cur off (aj.cells ms)).toArray 122 (0,0))→aE (fun k=>k=g) w w'→K' (a.put o.dst (goInt ms.length)) w'):o.wp Tryz.prog a w K' Q:=by
 have hl:(aj.cells ms).length=ms.length*3:=aj.bX ms
 by_cases h0:ms.length=0
 ·obtain rfl:ms=[]:=List.eq_nil_of_length_eq_zero h0
  have hrun:=wN (P:=Tryz.prog) w 123 123 o.type 122 3 dp sp dLen dCap sLen sCap Tryz.underlying123 (by kernel_rfl) (by simpa using hn.symm)
  unfold Oper.wp
  simp[execOp,ho,resolve,invoke,builtin,hd,hs,hrun,Result.andThen]
  exact h w (by rw[show splice cur off (aj.cells [])=cur by simp[splice,Elem.cells]];exact hg) (aE.refl _ _)
 ·obtain⟨rfl,sg,so,rfl,hsrc⟩:=hpos (by omega)
  have hrun:=wM (P:=Tryz.prog) w 123 123 o.type 122 3 g off dLen dCap ⟨sg,so,none⟩ sLen sCap cur.toArray 122 (aj.cells ms) Tryz.underlying123 (by kernel_rfl) hg (by rw[hl,hn]) hsrc.news (by rw[hl];simpa using hfit) (aj.nD ms)
  unfold Oper.wp
  simp[execOp,ho,resolve,invoke,builtin,hd,hs,hrun,Result.andThen]
  rw[←hn]
  refine h _ ?_ ?_
  ·rw[setRow_heap w g cur.toArray _ _ _ hg]
   simp[splice]
  ·exact (aE.refl (fun k=>k=g) w).setRow g _ (fun _=>rfl)
theorem ez {w:World} {ops:Array Oper} {rest:List Oper} {o:Oper} {a:Act} {Q:Exit→Act→World→Prop} (hgd:o.guard=none) (d s:Operand)
  (ho:o.op=.call {callee:=.builtin .copy,args:=#[d,s],argTypes:=#[123,123]})
  (dp sp:Option Addr) (dLen dCap sLen sCap:Nat) (hd:a.eval d=.slice dp dLen dCap) (hs:a.eval s=.slice sp sLen sCap)
  (g off:Nat) (cur:List Value) (hg:w.heap[g]?=some (.cells cur.toArray 122 (0,0))) (ms:List It) (hn:ms.length=Nat.min sLen dLen)
  (hpos:0<ms.length→dp=some ⟨g,off,none⟩∧∃sg so,sp=some ⟨sg,so,none⟩∧a_ aj w sg so ms)
  (hfit:off+ms.length*3≤cur.length)
  (h:∀w',w'.heap[g]?=some (.cells (splice cur off (aj.cells ms)).toArray 122 (0,0))→aE (fun k=>k=g) w w'→wpList Tryz.prog ops Q rest (a.put o.dst (goInt ms.length)) w'):wpList Tryz.prog ops Q (o::rest) a w:=
 wpList_plain hgd fun _ hK=>fk d s ho dp sp dLen dCap sLen sCap hd hs g off cur hg ms hn hpos hfit fun w' h1 h2=>hK _ _ (h w' h1 h2)
theorem fo {α:Type} {C X cs R:List α} (h:C=X++R):splice C X.length cs=X++(cs++R.drop cs.length):=by
 unfold splice
 rw[h,fF,←List.drop_drop,List.drop_left]
theorem jr {B:Nat} {w:World} {g n cap:Nat} {l:List It} (h:aR B w (.slice (some ⟨g,0,none⟩) n cap) l):∃R:List Value,w.heap[g]?=some (.cells (aj.cells l++R).toArray 122 (0,0))∧(aj.cells l++R).length=cap*3∧n=l.length∧n≤cap∧cap≤maxLen∧B≤g:=by
 rcases h.2 with⟨e,_⟩|⟨g',cap',cur,e,h1,h2,h3,h4,h5,h6⟩
 ·cases e
 ·injection e with e1 e2 e3
  injection e1 with e1
  injection e1 with e1
  subst e1 e3
  have h5':cur.size=cap*3:=h5
  have h6':cur.toList.take (l.length*3)=aj.cells l:=h6
  refine⟨cur.toList.drop (l.length*3), ?_, ?_,e2,by omega,h4,h1⟩
  ·rw[←h6',cL];exact h2
  ·grind
theorem eX {B:Nat} {w:World} {g n cap:Nat} {l:List It} {R:List Value} (h:w.heap[g]?=some (.cells (aj.cells l++R).toArray 122 (0,0))) (hl:(aj.cells l++R).length=cap*3) (hn:n=l.length) (hc:n≤cap) (hm:cap≤maxLen) (hB:B≤g):aR B w (.slice (some ⟨g,0,none⟩) n cap) l:=by
 subst hn
 refine⟨aj.bX l,.inr ⟨g,cap,_,rfl,hB,h,hc,hm, ?_, ?_⟩⟩
 ·show (aj.cells l++R).toArray.size=cap*3
  rw[List.size_toArray];exact hl
 ·show (aj.cells l++R).toArray.toList.take (l.length*3)=aj.cells l
  have e:l.length*3=(aj.cells l).length:=(aj.bX l).symm
  rw[List.toList_toArray,e]
  exact fF
theorem kF {w:World} {g:Nat} {X:List Value} {l:List It} {R:List Value} (h:w.heap[g]?=some (.cells (X++(aj.cells l++R)).toArray 122 (0,0))):a_ aj w g X.length l:=by
 intro j u hu
 have hj:=(List.getElem?_eq_some_iff.1 hu).1
 have:(X++(aj.cells l++R))[X.length+j]?=some u:=by
  grind
 simp[World.cell?,h,this]
theorem m8 {B:Nat} {w:World} {l:List It} {o:Oper} {a:Act} {K':Act→World→Prop} {Q:Exit→Act→World→Prop} (s x:Operand)
  (ho:o.op=.call {callee:=.builtin .append,args:=#[s,x],argTypes:=#[123,123]}) (g k cap:Nat)
  (hs:a.eval s=.slice (some ⟨g,0,none⟩) k cap) (hown:aR B w (.slice (some ⟨g,0,none⟩) k cap) l) (hk:k=l.length) (sg so m c:Nat) (ms:List It) (hx:a.eval x=.slice (some ⟨sg,so,none⟩) m c) (hm:ms.length=m) (hnews:ms≠[]→a_ aj w sg so ms) (hc:k+m≤cap)
  (h:∀w',aR B w' (.slice (some ⟨g,0,none⟩) (k+m) cap) (l++ms)→w.grownBy w' (some g)→K' (a.put o.dst (.slice (some ⟨g,0,none⟩) (k+m) cap)) w'):o.wp Tryz.prog a w K' Q:=by
 obtain⟨i,z,hi,hz,hsize,hzs,hby⟩:=uf.info
 subst hk
 obtain⟨w',hr,h2,h3⟩:=run_append_fits (P:=Tryz.prog) (w:=w) (ty:=o.type) B 123 122 i aj.size uf.under hi hsize g l.length cap (aj.cells l) hown ⟨sg,so,none⟩ m c (aj.cells ms) (by rw[aj.bX,hm]) (fun j u hu=>by
  have hne:ms≠[]:=by rintro rfl;simp[Elem.cells] at hu
  exact (hnews hne).news j u hu) (aj.nD _) hc
 unfold Oper.wp execOp
 simp only[ho,resolve,invoke,builtin,Sem.run_bind,Sem.run_pure,Result.andThen_ok,List.map_toArray,bH,List.map_nil,hs,hx,hr]
 refine h w' ?_ h3
 unfold aR Own
 rw[aq,aj.bW,hm]
 exact h2
theorem e8 (w:World) (o k cap:Nat) (l:List It) (h:aR 0 w (.slice (some ⟨o,0,none⟩) k cap) l) (d:Nat) (hk:k+d≤cap) (hd:0<d):
  ∃vs,∀(c:Nat) (ty:TypeId),(Builtin.clear_ #[123] ty #[.slice (some ⟨o,k*3,none⟩) d c]).run Tryz.prog w=.ok (.tuple #[]) (w.setCells o (k*3) vs):=by
 obtain⟨z,hz⟩:∃z,z=(Builtin.zeroCells (Value.agg #[.string ⟨#[]⟩,.string ⟨#[]⟩,.pointer none]).cells d).toList:=⟨_,rfl⟩
 have SU:z=(Builtin.zeroCells #[.string ⟨#[]⟩,.string ⟨#[]⟩,.pointer none] d).toList:=hz
 have hzl:z.length=d*3:=by rw[SU];simp[Builtin.zeroCells]
 have OC:∀v∈z,v.oneCell'=true:=by
  intro v hv
  rw[SU] at hv
  simp only[Builtin.zeroCells,Array.toList_map,List.mem_map] at hv
  obtain⟨i,_,rfl⟩:=hv
  have:i%3=0∨i%3=1∨i%3=2:=by omega
  rcases this with e|e|e<;>simp[e]<;>rfl
 refine⟨z,fun c ty=> ?_⟩
 have hst:=run_storeCells_cells (P:=Tryz.prog) o (k*3) z 0 w
  (fun j hj=>by rw[dN];exact (Own.spare h (k*3+j) (by show _<cap*3;omega)).1)
  (fun j hj=>by rw[dN];exact (Own.spare h (k*3+j) (by show _<cap*3;omega)).2) OC
 simp only[dN] at hst
 obtain⟨m,rfl⟩:∃m,d=m+1:=⟨d-1,by omega⟩
 simp[Builtin.clear_,run_underlying Tryz.underlying123,←hz,hst]
end
end Go.Proofs.YtebbahjombdalaaGreatDoor
