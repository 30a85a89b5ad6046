/- Elder texts, merged (10). -/
import Derived.Test.YtahnhhhhfioibaaGreatDoorG9
import Derived.Test.YtahnhhhhfioibaaGreatDoorG8
import Derived.Deep.RegionHeld3
import Derived.Deep.RegionHeldLaw
namespace Go.Proofs.YtahnhhhhfioibaaGreatDoor
open Go.RowKit Lib

/-- In block rb there is a room of the change in tb: its pages hold pg, its numbers are rt. -/
structure RmI (R : Nat → Prop) (ring g N lb tb rb : Nat) (H : List Wl.Text) (ps : List (Nat × List UInt8)) (pg : List (Option Wl.Text)) (rt : List Nat) (X : World) : Prop where
  c : C1 R ring g N lb tb H ps X
  blk : Blk X rb 112 [ptr tb]
  rr : R rb
  rep : Rm.Rep (Wl.along H (Tx.psI ps)) pg rt
  ins : ∀ p ∈ ps, p.1 < H.length
  pos : 1 ≤ pg.length
section
variable {X X' : World} {R R' S : Nat → Prop} {ring g N lb tb rb : Nat} {H H' : List Wl.Text} {ps ps' : List (Nat × List UInt8)} {pg pg' : List (Option Wl.Text)} {rt rt' : List Nat}
theorem RmI.len (h : RmI R ring g N lb tb rb H ps pg rt X) : H.length = pg.length + 2 := by
  have := h.rep.len
  rwa [Wl.along_length] at this
theorem RmI.cell (h : RmI R ring g N lb tb rb H ps pg rt X) : X.cell? ⟨rb, 0, none⟩ = some (.pointer (some ⟨tb, 0, none⟩)) := h.blk.cell rfl
theorem RmI.turn (h : RmI R ring g N lb tb rb H ps pg rt X) (hb : But S X X') (hS : ∀ k, k < X.heap.size → S k → R k) (hr : ¬ S rb) (hR' : ∀ k, R' k → R k ∨ (X.heap.size ≤ k ∧ k < X'.heap.size)) (hr' : R' rb) : RmI R' ring g N lb tb rb H ps pg rt X' :=
  ⟨h.c.turn hb hS hR', h.blk.but hb hr, hr', h.rep, h.ins, h.pos⟩
theorem RmI.still (h : RmI R ring g N lb tb rb H ps pg rt X) (hb : Below X.heap.size X X') : RmI R ring g N lb tb rb H ps pg rt X' :=
  ⟨h.c.still hb, h.blk.below hb h.blk.lt, h.rr, h.rep, h.ins, h.pos⟩
theorem RmI.less (h : RmI R ring g N lb tb rb H ps pg rt X) (hR : ∀ k, R' k → R k) (hr : R' rb) : RmI R' ring g N lb tb rb H ps pg rt X := ⟨h.c.less hR, h.blk, hr, h.rep, h.ins, h.pos⟩
theorem room_pages (h : RmI R ring g N lb tb rb H ps pg rt X) :
    Calls Tryz.prog 67 #[ptr rb] X fun e X' => e = .returned (.int .i64 pg.length) ∧ X' = X := by
  have c0 := h.cell
  have hl := h.len
  have hf := h.rep.few
  have hp := h.pos
  have HI := Lib.hid h
  clear h
  have HP := Lib.hid (show Rm.pages H.length = pg.length by rw [hl, Rm.pages_few (by omega) (by omega)]; omega)
  have HL := Lib.hid (show H.length ≤ 5000 by omega)
  clear hl
  go_enter Tryz.func67, Tryz.ntmps67
  unfold ptr
  go_wp2_with fail
  refine (c1_homes HI.out.c).mono ?_
  rintro e X' ⟨rfl, rfl⟩
  go_wp2_with fail
  refine (pages_any X' H.length (by have := HL.out; omega)).mono ?_
  rintro e X' ⟨rfl, rfl⟩
  rw [HP.out]
  go_wp2
  go_ret
  exact ⟨rfl, rfl⟩
theorem room_read (h : RmI R ring g N lb tb rb H ps pg rt X) (i : Nat) (hi : i < H.length) :
    Calls Tryz.prog 99 #[ptr rb, .int .i64 i] X fun e X' => e = .returned (.tuple #[.string (bs ((Wl.along H (Tx.psI ps)).getD i [])), .int .i64 0]) ∧ Below X.heap.size X X' := by
  have c0 := h.cell
  have HI := Lib.hid h
  have HL := Lib.hid (show i < H.length ∧ H.length ≤ 65536 by have := h.len; have := h.rep.few; omega)
  clear h hi
  go_enter Tryz.func99, Tryz.ntmps99
  unfold ptr
  go_wp2_with fail
  refine (c1_read HI.out.c i HL.out.1 HL.out.2).mono ?_
  rintro e X' ⟨rfl, hb⟩
  go_wp2
  go_ret2
  exact ⟨rfl, hb⟩
theorem room_read_no (h : RmI R ring g N lb tb rb H ps pg rt X) :
    Calls Tryz.prog 99 #[ptr rb, .int .i64 (-1)] X fun e X' => e = .returned (.tuple #[.string ⟨#[]⟩, .int .i64 2]) ∧ Below X.heap.size X X' := by
  have c0 := h.cell
  have HI := Lib.hid h
  clear h
  go_enter Tryz.func99, Tryz.ntmps99
  unfold ptr
  go_wp2_with fail
  refine (c1_read_no HI.out.c (-1) (.inl (by decide)) (by decide) HI.out.ins).mono ?_
  rintro e X' ⟨rfl, hb⟩
  go_wp2
  go_ret2
  exact ⟨rfl, hb⟩
theorem room_state (h : RmI R ring g N lb tb rb H ps pg rt X) :
    Calls Tryz.prog 66 #[ptr rb] X fun e X' => e = .returned (.int .i64 0) ∧ Below X.heap.size X X' := by
  have HI := Lib.hid h
  clear h
  go_enter Tryz.func66, Tryz.ntmps66
  unfold ptr
  go_wp2_with fail
  refine (room_read HI.out 0 (by have := HI.out.len; omega)).mono ?_
  rintro e X' ⟨rfl, hb⟩
  go_wp2
  go_ret
  exact ⟨rfl, hb⟩
theorem room_bits (h : RmI R ring g N lb tb rb H ps pg rt X) (p : Nat) (hp : p < pg.length) :
    Calls Tryz.prog 64 #[ptr rb, .int .i64 p] X fun e X' => e = .returned (.tuple #[.string (bs ((Wl.along H (Tx.psI ps)).getD 1 [])), .int .i64 0]) ∧ Below X.heap.size X X' := by
  have HI := Lib.hid h
  have HP := Lib.hid (show p < pg.length ∧ p ≤ 4095 by have := h.rep.few; omega)
  clear h
  have h1 : ¬ (p : Int) < 0 := by omega
  have h2 : ¬ (pg.length : Int) ≤ p := by omega
  clear hp
  go_enter Tryz.func64, Tryz.ntmps64
  unfold ptr
  go_wp2_with fail
  refine (room_pages HI.out).mono ?_
  rintro e X' ⟨rfl, rfl⟩
  go_wp2_with fail
  refine (bitsHome_any X' p (by have := HP.out; omega)).mono ?_
  rintro e X' ⟨rfl, rfl⟩
  rw [show 1 + p / 4096 = 1 by have := HP.out; omega]
  go_wp2_with fail
  refine (room_read HI.out 1 (by have := HI.out.len; omega)).mono ?_
  rintro e X' ⟨rfl, hb⟩
  go_wp2
  go_ret2
  exact ⟨rfl, hb⟩
theorem room_bits_no (h : RmI R ring g N lb tb rb H ps pg rt X) (i : Int) (hi : i < 0 ∨ (pg.length : Int) ≤ i) :
    Calls Tryz.prog 64 #[ptr rb, .int .i64 i] X fun e X' => e = .returned (.tuple #[.string ⟨#[]⟩, .int .i64 2]) ∧ Below X.heap.size X X' := by
  have HI := Lib.hid h
  clear h
  by_cases h1 : i < 0
  · go_enter Tryz.func64, Tryz.ntmps64
    unfold ptr
    go_wp2_with fail
    refine (room_read_no HI.out).mono ?_
    rintro e X' ⟨rfl, hb⟩
    go_wp2
    go_ret2
    exact ⟨rfl, hb⟩
  · have h2 : (pg.length : Int) ≤ i := hi.resolve_left h1
    clear hi
    go_enter Tryz.func64, Tryz.ntmps64
    unfold ptr
    go_wp2_with fail
    refine (room_pages HI.out).mono ?_
    rintro e X' ⟨rfl, rfl⟩
    go_wp2_with fail
    refine (room_read_no HI.out).mono ?_
    rintro e X' ⟨rfl, hb⟩
    go_wp2
    go_ret2
    exact ⟨rfl, hb⟩
theorem room_homeOf (h : RmI R ring g N lb tb rb H ps pg rt X) (p : Nat) (hp : p < pg.length) :
    Calls Tryz.prog 120 #[ptr rb, .int .i64 p] X fun e X' => e = .returned (.int .i64 (2 + p : Nat)) ∧ X' = X := by
  have HI := Lib.hid h
  have HP := Lib.hid (show p < pg.length ∧ pg.length ≤ 4096 ∧ 1 ≤ pg.length by have := h.rep.few; have := h.pos; omega)
  have hpI : (p : Int) ≤ 4095 := by have := HP.out; omega
  clear h hp
  go_enter Tryz.func120, Tryz.ntmps120
  unfold ptr
  go_wp2_with fail
  refine (room_pages HI.out).mono ?_
  rintro e X' ⟨rfl, rfl⟩
  go_wp2_with fail
  refine (times_any X' pg.length 4096 (by have := HP.out; omega) (by decide) (by decide)).mono ?_
  rintro e X' ⟨rfl, rfl⟩
  rw [show (pg.length + 4096 - 1) / 4096 = 1 by have := HP.out; omega]
  go_wp2
  go_ret
  exact ⟨by simp, rfl⟩
theorem room_has (h : RmI R ring g N lb tb rb H ps pg rt X) (i : Int) :
    Calls Tryz.prog 35 #[ptr rb, .int .i64 i] X fun e X' => e = .returned (.tuple #[.bool (Rm.has pg i), .int .i64 (Rm.hasNo pg i)]) ∧ Below X.heap.size X X' := by
  have HI := Lib.hid h
  have key : ∀ p : Nat, p < pg.length → Calls Tryz.prog 35 #[ptr rb, .int .i64 p] X fun e X' => e = .returned (.tuple #[.bool (pg.getD p none).isSome, .int .i64 0]) ∧ Below X.heap.size X X' := by
    intro p hp
    have HP := Lib.hid (show p < pg.length ∧ p ≤ 4095 by have := h.rep.few; omega)
    have HB := Lib.hid (h.rep.bit p hp)
    have HS := Lib.hid (h.rep.home (i := 1) (by rw [Wl.along_length, h.len]; omega))
    clear h
    generalize (pg.getD p none).isSome = o at *
    have hm : (p : Int).tmod 4096 = (p : Int) := by rw [Int.tmod_eq_emod_of_nonneg (by omega)]; have := HP.out; omega
    clear hp
    go_enter Tryz.func35, Tryz.ntmps35
    unfold ptr
    go_wp2_with fail
    refine (room_bits HI.out p HP.out.1).mono ?_
    rintro e X' ⟨rfl, hb⟩
    generalize (Wl.along H (Tx.psI ps)).getD 1 [] = T at *
    go_wp2_with fail
    refine (isSet_any X' (bs T) p (by rw [bs_size, HS.out]; have := HP.out; omega) (by rw [bs_size, HS.out]; decide)).mono ?_
    rintro e X' ⟨rfl, rfl⟩
    rw [bs_list, HB.out]
    go_wp2
    go_ret2
    exact ⟨rfl, hb⟩
  rcases Rm.at_any pg i with ⟨ho, hr, hg, hh, hn⟩ | ⟨p, rfl, hp, hs, hr, hg, hh, hn⟩ | ⟨p, t, rfl, hp, hs, hr, hg, hh, hn⟩
  · rw [hh, hn]
    clear h key
    go_enter Tryz.func35, Tryz.ntmps35
    unfold ptr
    go_wp2_with fail
    refine (room_bits_no HI.out i ho).mono ?_
    rintro e X' ⟨rfl, hb⟩
    go_wp2
    go_ret2
    exact ⟨rfl, hb⟩
  · rw [hh, hn]
    have := key p hp
    rwa [hs] at this
  · rw [hh, hn]
    have := key p hp
    rwa [hs] at this
theorem room_refusal (h : RmI R ring g N lb tb rb H ps pg rt X) (i : Int) :
    Calls Tryz.prog 97 #[ptr rb, .int .i64 i] X fun e X' => e = .returned (.int .i64 (Rm.refuse pg i)) ∧ Below X.heap.size X X' := by
  have hc := room_has h i
  clear h
  rcases Rm.at_any pg i with ⟨ho, hr, hg, hh, hn⟩ | ⟨p, rfl, hp, hs, hr, hg, hh, hn⟩ | ⟨p, t, rfl, hp, hs, hr, hg, hh, hn⟩
  all_goals (
    rw [hh, hn] at hc
    rw [hr]
    have HC := Lib.hid hc
    clear hc hh hn hr hg
    go_enter Tryz.func97, Tryz.ntmps97
    unfold ptr
    go_wp2_with fail
    refine HC.out.mono ?_
    rintro e X' ⟨rfl, hb⟩
    go_wp2
    go_ret
    exact ⟨rfl, hb⟩)
end
end Go.Proofs.YtahnhhhhfioibaaGreatDoor

namespace Go.Proofs.YtahnhhhhfioibaaGreatDoor
open Go.RowKit Lib

section
variable {X X' : World} {R R' S : Nat → Prop} {ring g N lb tb rb : Nat} {H H' : List Wl.Text} {ps ps' : List (Nat × List UInt8)} {pg pg' : List (Option Wl.Text)} {rt rt' : List Nat}
theorem bitsHome_one (w : World) (p : Nat) (hp : p ≤ 4095) : Calls Tryz.prog 100 #[.int .i64 p] w fun e w' => e = .returned (.int .i64 (1 : Nat)) ∧ w' = w := by
  have := bitsHome_any w p (by omega)
  rwa [show 1 + p / 4096 = 1 by omega] at this
theorem along_snoc (H : List Wl.Text) (ps : List (Nat × List UInt8)) (i : Nat) (t : List UInt8) : Wl.along H (Tx.psI (ps ++ [(i, t)])) = (Wl.along H (Tx.psI ps)).set i (Dk.full t) := by
  unfold Tx.psI
  rw [List.map_append, Wl.along_append]
  rfl
theorem ins_snoc {n i : Nat} {t : List UInt8} (h : ∀ p ∈ ps, p.1 < n) (hi : i < n) : ∀ p ∈ ps ++ [(i, t)], p.1 < n := by
  intro p hp
  rcases List.mem_append.1 hp with hp | hp
  · exact h p hp
  · rw [List.mem_singleton.1 hp]; exact hi
theorem getD_some_get {α : Type} {l : List (Option α)} {p : Nat} {t : α} (h : l.getD p none = some t) : l[p]? = some (some t) := by
  rw [List.getD_eq_getElem?_getD] at h
  cases e : l[p]? with
  | none => rw [e] at h; cases h
  | some o => rw [e] at h; rw [Option.getD_some] at h; rw [h]
theorem room_Read (h : RmI R ring g N lb tb rb H ps pg rt X) (i : Int) :
    Calls Tryz.prog 90 #[ptr rb, .int .i64 i] X fun e X' => e = .returned (.tuple #[.string (bs (Rm.got pg i)), .int .i64 (Rm.refuse pg i)]) ∧ Below X.heap.size X X' := by
  have hc := room_refusal h i
  have HC := Lib.hid hc
  clear hc
  rcases Rm.at_any pg i with ⟨ho, hr, hg, hh, hn⟩ | ⟨p, rfl, hp, hs, hr, hg, hh, hn⟩ | ⟨p, t, rfl, hp, hs, hr, hg, hh, hn⟩
  · rw [hg, hr]
    have HR := Lib.hid hr
    clear hr hg hh hn h ho
    go_enter Tryz.func90, Tryz.ntmps90
    unfold ptr
    go_wp2_with fail
    refine HC.out.mono ?_
    rintro e X' ⟨rfl, hb⟩
    rw [HR.out]
    go_wp2
    go_ret2
    exact ⟨rfl, hb⟩
  · rw [hg, hr]
    have HR := Lib.hid hr
    clear hr hg hh hn h hp hs
    go_enter Tryz.func90, Tryz.ntmps90
    unfold ptr
    go_wp2_with fail
    refine HC.out.mono ?_
    rintro e X' ⟨rfl, hb⟩
    rw [HR.out]
    go_wp2
    go_ret2
    exact ⟨rfl, hb⟩
  · rw [hg, hr]
    have HR := Lib.hid hr
    have HI := Lib.hid h
    have HP := Lib.hid (show p < pg.length ∧ 2 + p < H.length by have := h.len; omega)
    have HT := Lib.hid (h.rep.page p t (getD_some_get hs))
    clear hr hg hh hn h hp hs
    go_enter Tryz.func90, Tryz.ntmps90
    unfold ptr
    go_wp2_with fail
    refine HC.out.mono ?_
    rintro e X' ⟨rfl, hb⟩
    rw [HR.out]
    have H1 := Lib.hid (HI.out.still hb)
    go_wp2_with fail
    refine (room_homeOf H1.out p HP.out.1).mono ?_
    rintro e X2 ⟨rfl, rfl⟩
    go_wp2_with fail
    try simp only [Act.eval]
    refine (room_read H1.out (2 + p) HP.out.2).mono ?_
    rintro e X3 ⟨rfl, hb3⟩
    rw [HT.out]
    go_wp2
    go_ret2
    exact ⟨rfl, hb.trans (hb3.mono hb.size)⟩
set_option maxRecDepth 100000 in
theorem room_Used (h : RmI R ring g N lb tb rb H ps pg rt X) :
    Calls Tryz.prog 37 #[ptr rb] X fun e X' => e = .returned (.tuple #[.int .i64 (Rm.used pg : Nat), .int .i64 0]) ∧ Below X.heap.size X X' := by
  have HI := Lib.hid h
  have HU := Lib.hid (Rm.count_used h.rep.bit)
  have HS := Lib.hid (h.rep.home (i := 1) (by rw [Wl.along_length, h.len]; omega))
  have HL := Lib.hid (show 1 ≤ pg.length ∧ pg.length ≤ 4096 from ⟨h.pos, h.rep.few⟩)
  have hl1 : (0 : Int) < pg.length := by have := HL.out; omega
  have hl2 : (pg.length : Int) ≤ 4096 := by have := HL.out; omega
  have hl3 : ¬ (4096 : Int) < pg.length := by omega
  have hu := Rm.used_le pg
  have hu2 : (Rm.used pg : Int) ≤ 4096 := by omega
  clear h hu
  go_enter Tryz.func37, Tryz.ntmps37
  unfold ptr
  go_wp2_with fail
  refine (room_state HI.out).mono ?_
  rintro e X1 ⟨rfl, hb1⟩
  have H1 := Lib.hid (HI.out.still hb1)
  go_wp2
  go_loopw [5, 6] (fun c i wr => (i = .int .i64 0 ∧ c = .int .i64 0 ∧ wr = X1) ∨ (i = .int .i64 4096 ∧ c = .int .i64 (Rm.used pg : Nat) ∧ Below X.heap.size X wr ∧ Hid (RmI R ring g N lb tb rb H ps pg rt wr))) (fun _ i _ => if intOf i = 0 then 1 else 0)
  case atStart => exact .inl ⟨rfl, rfl, rfl⟩
  case round =>
    rcases hrel with ⟨rfl, rfl, rfl⟩ | ⟨rfl, rfl, hbw, hw⟩
    · go_wp2_with fail
      refine (room_pages H1.out).mono ?_
      rintro e X2 ⟨rfl, rfl⟩
      go_wp2_with fail
      refine (room_bits H1.out 0 (by have := HL.out; omega)).mono ?_
      rintro e X3 ⟨rfl, hb3⟩
      have H3 := Lib.hid (H1.out.still hb3)
      have HB3 := Lib.hid (hb1.trans (hb3.mono hb1.size))
      generalize (Wl.along H (Tx.psI ps)).getD 1 [] = T at *
      clear hb1 hb3
      go_wp2_with fail
      refine (room_pages H3.out).mono ?_
      rintro e X4 ⟨rfl, rfl⟩
      go_wp2_with fail
      rw [show min (pg.length : Int) 4096 = pg.length by omega]
      refine (countSet_any X4 (bs T) pg.length (by rw [bs_size, HS.out]; decide) (by rw [bs_size, HS.out]; have := HL.out; omega)).mono ?_
      rintro e X5 ⟨rfl, hb5⟩
      rw [bs_list, HU.out]
      have H5 := Lib.hid (H3.out.still hb5)
      have HB5 := Lib.hid (HB3.out.trans (hb5.mono HB3.out.size))
      clear hb5
      go_wp2
      go_roundw
      case rel => exact .inr ⟨rfl, rfl, HB5.out, H5⟩
      case measure => decide
    · go_wp2_with fail
      refine (room_pages hw.out).mono ?_
      rintro e X2 ⟨rfl, rfl⟩
      go_wp2
      go_ret2
      exact ⟨rfl, hbw⟩
set_option maxRecDepth 100000 in
theorem room_firstFree (h : RmI R ring g N lb tb rb H ps pg rt X) :
    Calls Tryz.prog 118 #[ptr rb] X fun e X' => e = .returned (match Rm.firstFree pg with | some p => .tuple #[.int .i64 (p : Nat), .int .i64 0] | none => .tuple #[.int .i64 0, .int .i64 4]) ∧ Below X.heap.size X X' := by
  have HI := Lib.hid h
  have HB := Lib.hid h.rep.bit
  have HS := Lib.hid (h.rep.home (i := 1) (by rw [Wl.along_length, h.len]; omega))
  have HL := Lib.hid (show 1 ≤ pg.length ∧ pg.length ≤ 4096 from ⟨h.pos, h.rep.few⟩)
  have hl1 : (0 : Int) < pg.length := by have := HL.out; omega
  have hl2 : (pg.length : Int) ≤ 4096 := by have := HL.out; omega
  have hl3 : ¬ (4096 : Int) < pg.length := by omega
  obtain ⟨V, hV⟩ : ∃ V, V = (match Rm.firstFree pg with | some p => Value.tuple #[.int .i64 (p : Nat), .int .i64 0] | none => .tuple #[.int .i64 0, .int .i64 4]) := ⟨_, rfl⟩
  rw [← hV]
  have HV := Lib.hid hV
  clear h hV
  go_enter Tryz.func118, Tryz.ntmps118
  unfold ptr
  go_wp2_with fail
  refine (room_state HI.out).mono ?_
  rintro e X1 ⟨rfl, hb1⟩
  have H1 := Lib.hid (HI.out.still hb1)
  go_wp2
  go_loopw [5] (fun i wr => (i = .int .i64 0 ∧ wr = X1) ∨ (i = .int .i64 4096 ∧ Rm.firstFree pg = none ∧ Below X.heap.size X wr ∧ Hid (RmI R ring g N lb tb rb H ps pg rt wr))) (fun i _ => if intOf i = 0 then 1 else 0)
  case atStart => exact .inl ⟨rfl, rfl⟩
  case round =>
    rcases hrel with ⟨rfl, rfl⟩ | ⟨rfl, hnone, hbw, hw⟩
    · go_wp2_with fail
      refine (room_pages H1.out).mono ?_
      rintro e X2 ⟨rfl, rfl⟩
      go_wp2_with fail
      refine (room_bits H1.out 0 (by have := HL.out; omega)).mono ?_
      rintro e X3 ⟨rfl, hb3⟩
      have H3 := Lib.hid (H1.out.still hb3)
      have HB3 := Lib.hid (hb1.trans (hb3.mono hb1.size))
      generalize (Wl.along H (Tx.psI ps)).getD 1 [] = T at *
      clear hb1 hb3
      go_wp2_with fail
      refine (firstUnset_any X3 (bs T) (by rw [bs_size, HS.out]; decide)).mono ?_
      rintro e X4 ⟨f, rfl, hf, rfl⟩
      rw [bs_list] at hf
      have hf4 : (f : Int) ≤ 4096 := by have := hf.2.1; rw [HS.out] at this; omega
      rcases Rm.first_free HB.out HS.out HL.out.2 hf with ⟨h1, h2⟩ | ⟨h1, h2⟩
      · have HF := Lib.hid h2
        have hI : ¬ (f : Int) < pg.length := by omega
        clear hf h1 h2
        go_wp2_with fail
        refine (room_pages H3.out).mono ?_
        rintro e X5 ⟨rfl, rfl⟩
        have hmn : min (pg.length : Int) 4096 = pg.length := by omega
        go_wp2
        go_roundw
        case rel => exact .inr ⟨rfl, HF.out, HB3.out, H3⟩
        case measure => decide
      · have HF := Lib.hid h2
        have hI : (f : Int) < pg.length := by omega
        clear hf h1 h2
        go_wp2_with fail
        refine (room_pages H3.out).mono ?_
        rintro e X5 ⟨rfl, rfl⟩
        have hmn : min (pg.length : Int) 4096 = pg.length := by omega
        go_wp2
        go_ret2
        exact ⟨by rw [HV.out, HF.out]; rfl, HB3.out⟩
    · have HV2 := HV.out
      rw [hnone] at HV2
      have HV3 := Lib.hid HV2
      clear hnone HV2
      go_wp2_with fail
      refine (room_pages hw.out).mono ?_
      rintro e X2 ⟨rfl, rfl⟩
      go_wp2
      go_ret2
      exact ⟨by rw [HV3.out]; rfl, hbw⟩
/-- A put of a home that there is. -/
theorem RmI.put (h : RmI R ring g N lb tb rb H ps pg rt X) {i : Nat} {t : List UInt8} (hi : i < H.length) (hc : C1 R ring g N lb tb H (ps ++ [(i, t)]) X') (hb : But (fun k => ¬ R k) X X') (hr : Rm.Rep ((Wl.along H (Tx.psI ps)).set i (Dk.full t)) pg' rt') (hl : pg'.length = pg.length) : RmI R ring g N lb tb rb H (ps ++ [(i, t)]) pg' rt' X' :=
  ⟨hc, h.blk.but hb (fun hn => hn h.rr), h.rr, by rw [along_snoc]; exact hr, ins_snoc h.ins hi, by rw [hl]; exact h.pos⟩
set_option maxRecDepth 100000 in
set_option maxHeartbeats 1000000 in
theorem room_flip (h : RmI R ring g N lb tb rb H ps pg rt X) (p : Nat) (hp : p < pg.length) (hq : ps.length ≤ 900000) :
    Calls Tryz.prog 98 #[ptr rb, .int .i64 p] X fun e X' => e = .returned (.int .i64 0) ∧ C1 R ring g N lb tb H (ps ++ [(1, Rm.flip ((Wl.along H (Tx.psI ps)).getD 1 []) p)]) X' ∧ But (fun k => ¬ R k) X X' := by
  have HI := Lib.hid h
  obtain ⟨T, hT⟩ : ∃ T, T = (Wl.along H (Tx.psI ps)).getD 1 [] := ⟨_, rfl⟩
  have HT := Lib.hid hT
  have HS := Lib.hid (show T.length = 512 by rw [hT]; exact h.rep.home (i := 1) (by rw [Wl.along_length, h.len]; omega))
  rw [← hT]
  clear hT
  have HP := Lib.hid (show p < pg.length ∧ p ≤ 4095 ∧ 1 < H.length ∧ H.length ≤ 65536 ∧ ps.length ≤ 900000 by have := h.rep.few; have := h.len; omega)
  have hm : (p : Int).tmod 4096 = (p : Int) := by rw [Int.tmod_eq_emod_of_nonneg (by omega)]; have := HP.out; omega
  clear h hp hq
  go_enter Tryz.func98, Tryz.ntmps98
  unfold ptr
  go_wp2_with fail
  refine (room_bits HI.out p HP.out.1).mono ?_
  rintro e X1 ⟨rfl, hb1⟩
  rw [← HT.out]
  have H1 := Lib.hid (HI.out.still hb1)
  have H1d := Lib.hid (H1.out.still ((Below.refl X1.heap.size X1).drew))
  have HB1 := Lib.hid (show But (fun k => ¬ R k) X X1.drew from (But.of_below hb1 _).drew)
  have HC := Lib.hid (show X1.drew.cell? ⟨rb, 0, none⟩ = some (.pointer (some ⟨tb, 0, none⟩)) from H1d.out.cell)
  clear hb1
  have hcc := HC.out
  go_wp2_with (refine wp_region_any (by kernel_rfl) ?_; refine Hid.out ?_)
  refine Lib.hid ?_
  try (change wpAny _ _ _ _ _ _ _ (World.drew _))
  refine wpAny_take (i := 0) (v := ?_) (by simp only [List.getElem?_toArray, List.getElem?_cons_zero]; exact rfl) (by kernel_rfl) (by kernel_rfl) (by kernel_rfl) (by exact fun _ _ _ h => h) (Or.inl ⟨by rfl, ?_⟩) ?_
  rotate_left
  · intro w; go_simp; try with_reducible rfl
  refine wpAny_take (i := 1) (v := ?_) (by simp only [List.getElem?_toArray, List.getElem?_cons_succ, List.getElem?_cons_zero]; exact rfl) (by kernel_rfl) (by kernel_rfl) (by kernel_rfl) (by exact fun _ _ _ h => h) (Or.inl ⟨by rfl, ?_⟩) ?_
  rotate_left
  · intro w; go_simp; try with_reducible rfl
  refine wpAny_take (i := 2) (v := ?_) (by simp only [List.getElem?_toArray, List.getElem?_cons_succ, List.getElem?_cons_zero]; exact rfl) (by kernel_rfl) (by kernel_rfl) (by kernel_rfl) (by exact fun _ _ _ h => h) (Or.inl ⟨by rfl, ?_⟩) ?_
  rotate_left
  · intro w; go_simp; try with_reducible rfl
  refine wpAny_take (i := 4) (v := ?_) (by simp only [List.getElem?_toArray, List.getElem?_cons_succ, List.getElem?_cons_zero]; exact rfl) (by kernel_rfl) (by kernel_rfl) (by kernel_rfl) (by exact fun _ _ _ h => h) (Or.inl ⟨by rfl, ?_⟩) ?_
  rotate_left
  · intro w; go_simp; try with_reducible rfl
  refine wpAny_take (i := 6) (v := ?_) (by simp only [List.getElem?_toArray, List.getElem?_cons_succ, List.getElem?_cons_zero]; exact rfl) (by kernel_rfl) (by kernel_rfl) (by kernel_rfl) (by exact fun _ _ _ h => h) (Or.inl ⟨by rfl, ?_⟩) ?_
  rotate_left
  · intro w; go_simp; try with_reducible rfl
  refine wpAny_take (i := 7) (v := ?_) (by simp only [List.getElem?_toArray, List.getElem?_cons_succ, List.getElem?_cons_zero]; exact rfl) (by kernel_rfl) (by kernel_rfl) (by kernel_rfl) (by exact fun _ _ _ h => h) (Or.inl ⟨by rfl, ?_⟩) ?_
  rotate_left
  · intro w; go_simp; try with_reducible rfl
  refine wpAny_take (i := 8) (v := ?_) (by simp only [List.getElem?_toArray, List.getElem?_cons_succ, List.getElem?_cons_zero]; exact rfl) (by kernel_rfl) (by kernel_rfl) (by kernel_rfl) (by exact fun _ _ _ h => h) (Or.inl ⟨by rfl, ?_⟩) ?_
  rotate_left
  · intro w; go_simp; try with_reducible rfl
  simp only [Act.put, List.setIfInBounds_toArray, List.set_cons_succ, List.set_cons_zero]
  refine wpAny_ready (rs := [3, 5]) (by kernel_rfl) (by simp) ?_
  refine AllReady.cons rfl (fun K hK => ?_) (AllReady.cons rfl (fun K hK => ?_) AllReady.nil)
  · go_simp
    refine hK _ _ ?_; clear hK K
    refine wpAny_ready (rs := [5]) (by kernel_rfl) (by simp) ?_
    refine AllReady.cons rfl (fun K hK => ?_) AllReady.nil
    go_simp
    refine (bitsHome_one _ p HP.out.2.1).mono ?_
    rintro e w1 ⟨rfl, rfl⟩
    refine hK _ _ ?_; clear hK K
    refine wpAny_ready (rs := [9]) (by kernel_rfl) (by simp) ?_
    refine AllReady.cons rfl (fun K hK => ?_) AllReady.nil
    go_simp
    refine (flipped_any _ (bs T) p (by rw [bs_size, HS.out]; have := HP.out; omega) (by rw [bs_size, HS.out]; decide)).mono ?_
    rintro e w2 ⟨rfl, hb2⟩
    have H2 := Lib.hid (H1d.out.still hb2)
    have hc2 := H2.out.cell
    have HB2 := Lib.hid (HB1.out.trans (But.of_below hb2 (fun k => ¬ R k)) (fun _ _ h => h))
    clear hb2
    refine hK _ _ ?_; clear hK K
    refine wpAny_ready (rs := [10]) (by kernel_rfl) (by simp) ?_
    refine AllReady.cons rfl (fun K hK => ?_) AllReady.nil
    go_simp
    refine (c1_write H2.out.c 1 _ HP.out.2.2.1 HP.out.2.2.2.1 (by rw [bs_size, Rm.flip_length, bs_list, HS.out]; decide) HP.out.2.2.2.2).mono ?_; rintro e w3 ⟨rfl, h3, hb3⟩
    refine hK _ _ ?_; clear hK K
    rw [bs_list, bs_list] at h3
    have HE := Lib.hid (And.intro h3 (HB2.out.trans hb3 (fun _ _ h => h)))
    clear hb3 h3
    refine wpAny_ready (rs := [11]) (by kernel_rfl) (by simp) ?_
    refine AllReady.cons rfl (fun K hK => ?_) AllReady.nil
    go_simp
    refine hK _ _ ?_; clear hK K
    refine wpAny_done (by kernel_rfl) ?_ _
    go_wp2
    go_ret
    exact ⟨rfl, HE.out⟩
  · go_simp
    refine (bitsHome_one _ p HP.out.2.1).mono ?_
    rintro e w1 ⟨rfl, rfl⟩
    refine hK _ _ ?_; clear hK K
    refine wpAny_ready (rs := [3, 9]) (by kernel_rfl) (by simp) ?_
    refine AllReady.cons rfl (fun K hK => ?_) (AllReady.cons rfl (fun K hK => ?_) AllReady.nil)
    · go_simp
      refine hK _ _ ?_; clear hK K
      refine wpAny_ready (rs := [9]) (by kernel_rfl) (by simp) ?_
      refine AllReady.cons rfl (fun K hK => ?_) AllReady.nil
      go_simp
      refine (flipped_any _ (bs T) p (by rw [bs_size, HS.out]; have := HP.out; omega) (by rw [bs_size, HS.out]; decide)).mono ?_
      rintro e w2 ⟨rfl, hb2⟩
      have H2 := Lib.hid (H1d.out.still hb2)
      have hc2 := H2.out.cell
      have HB2 := Lib.hid (HB1.out.trans (But.of_below hb2 (fun k => ¬ R k)) (fun _ _ h => h))
      clear hb2
      refine hK _ _ ?_; clear hK K
      refine wpAny_ready (rs := [10]) (by kernel_rfl) (by simp) ?_
      refine AllReady.cons rfl (fun K hK => ?_) AllReady.nil
      go_simp
      refine (c1_write H2.out.c 1 _ HP.out.2.2.1 HP.out.2.2.2.1 (by rw [bs_size, Rm.flip_length, bs_list, HS.out]; decide) HP.out.2.2.2.2).mono ?_; rintro e w3 ⟨rfl, h3, hb3⟩
      refine hK _ _ ?_; clear hK K
      rw [bs_list, bs_list] at h3
      have HE := Lib.hid (And.intro h3 (HB2.out.trans hb3 (fun _ _ h => h)))
      clear hb3 h3
      refine wpAny_ready (rs := [11]) (by kernel_rfl) (by simp) ?_
      refine AllReady.cons rfl (fun K hK => ?_) AllReady.nil
      go_simp
      refine hK _ _ ?_; clear hK K
      refine wpAny_done (by kernel_rfl) ?_ _
      go_wp2
      go_ret
      exact ⟨rfl, HE.out⟩
    · go_simp
      refine (flipped_any _ (bs T) p (by rw [bs_size, HS.out]; have := HP.out; omega) (by rw [bs_size, HS.out]; decide)).mono ?_
      rintro e w2 ⟨rfl, hb2⟩
      have H2 := Lib.hid (H1d.out.still hb2)
      have hc2 := H2.out.cell
      have HB2 := Lib.hid (HB1.out.trans (But.of_below hb2 (fun k => ¬ R k)) (fun _ _ h => h))
      clear hb2
      refine hK _ _ ?_; clear hK K
      refine wpAny_ready (rs := [3]) (by kernel_rfl) (by simp) ?_
      refine AllReady.cons rfl (fun K hK => ?_) AllReady.nil
      go_simp
      refine hK _ _ ?_; clear hK K
      refine wpAny_ready (rs := [10]) (by kernel_rfl) (by simp) ?_
      refine AllReady.cons rfl (fun K hK => ?_) AllReady.nil
      go_simp
      refine (c1_write H2.out.c 1 _ HP.out.2.2.1 HP.out.2.2.2.1 (by rw [bs_size, Rm.flip_length, bs_list, HS.out]; decide) HP.out.2.2.2.2).mono ?_; rintro e w3 ⟨rfl, h3, hb3⟩
      refine hK _ _ ?_; clear hK K
      rw [bs_list, bs_list] at h3
      have HE := Lib.hid (And.intro h3 (HB2.out.trans hb3 (fun _ _ h => h)))
      clear hb3 h3
      refine wpAny_ready (rs := [11]) (by kernel_rfl) (by simp) ?_
      refine AllReady.cons rfl (fun K hK => ?_) AllReady.nil
      go_simp
      refine hK _ _ ?_; clear hK K
      refine wpAny_done (by kernel_rfl) ?_ _
      go_wp2
      go_ret
      exact ⟨rfl, HE.out⟩
end
end Go.Proofs.YtahnhhhhfioibaaGreatDoor
