/- RoomFills: for every number of homes and every list of numbers the function of the statement returns true: as many pages are taken as there are, each once, then none; given back, they are taken again from the least one on. Conditions: none beside those of the form; no walk reads the two tables that are laid. -/
import Derived.Test.YtobmjcfemjpgcaaDoorG11
import Derived.Test.YtobmjcfemjpgcaaDoorG6
namespace Go.Proofs.YtobmjcfemjpgcaaDoor
set_option maxRecDepth 100000
open Go.ChangeShapes Go.WideShapes Go.ChangeAt Go.RowKit Go.Maps Lib

namespace Rm
def on (pg : List (Option Wl.Text)) (q : Nat) : Bool := (pg.getD q none).isSome
theorem on_set {pg : List (Option Wl.Text)} {p : Nat} (hp : p < pg.length) (x : Option Wl.Text) (q : Nat) : on (pg.set p x) q = if q = p then x.isSome else on pg q := by
  unfold on
  rw [Rep.getD_set _ _ _ _ _ hp]
  split <;> rfl
theorem on_none {pg : List (Option Wl.Text)} {p : Nat} (h : on pg p = false) : pg.getD p none = none := by
  unfold on at h
  cases e : pg.getD p none with
  | none => rfl
  | some t => rw [e] at h; cases h
theorem alloc_at {pg : List (Option Wl.Text)} {p : Nat} (h1 : ∀ q, q < p → on pg q = true) (hp : p < pg.length) (h2 : on pg p = false) :
    alloc pg = (((p : Nat) : Int), 0) ∧ (alloced pg).length = pg.length ∧ ∀ q, on (alloced pg) q = if q = p then true else on pg q := by
  have e : firstFree pg = some p := firstFree_some h1 hp (on_none h2)
  refine ⟨by unfold alloc; rw [e], by unfold alloced; rw [e]; exact List.length_set, fun q => ?_⟩
  unfold alloced
  rw [e]
  exact on_set hp _ q
theorem alloc_none {pg : List (Option Wl.Text)} (h1 : ∀ q, q < pg.length → on pg q = true) : alloc pg = (0, 4) ∧ alloced pg = pg := by
  have e : firstFree pg = none := firstFree_none h1
  exact ⟨by unfold alloc; rw [e], by unfold alloced; rw [e]⟩
theorem used_set {pg : List (Option Wl.Text)} {p : Nat} (hp : p < pg.length) (h : on pg p = true) : used (pg.set p none) + 1 = used pg := by
  unfold used
  rw [← List.countP_eq_length_filter, ← List.countP_eq_length_filter, List.countP_set hp]
  have hs : (pg[p]).isSome = true := by
    unfold on at h
    rwa [List.getD_eq_getElem?_getD, List.getElem?_eq_getElem hp, Option.getD_some] at h
  have hpos : 0 < List.countP Option.isSome pg := List.countP_pos_iff.2 ⟨pg[p], List.getElem_mem hp, hs⟩
  rw [hs]
  simp
  omega
theorem used_all {pg : List (Option Wl.Text)} (h : ∀ q, q < pg.length → on pg q = true) : used pg = pg.length := by
  unfold used
  rw [List.filter_eq_self.2]
  intro a ha
  obtain ⟨q, hq, rfl⟩ := List.getElem_of_mem ha
  have := h q hq
  unfold on at this
  rwa [List.getD_eq_getElem?_getD, List.getElem?_eq_getElem hq, Option.getD_some] at this
theorem refuse_on {pg : List (Option Wl.Text)} {p : Nat} (hp : p < pg.length) : refuse pg p = if on pg p then 0 else 6 := by
  unfold refuse on
  rw [if_pos (by omega), Int.toNat_natCast]
theorem freed_on {pg : List (Option Wl.Text)} {p : Nat} (hp : p < pg.length) (h : on pg p = true) : freed pg p = pg.set p none := by
  unfold freed
  rw [refuse_on hp, h, if_pos rfl, Int.toNat_natCast]
  rfl
theorem freed_off {pg : List (Option Wl.Text)} {i : Int} (h : refuse pg i ≠ 0) : freed pg i = pg := by
  unfold freed
  rw [if_neg h]
theorem refuse_out {pg : List (Option Wl.Text)} {i : Int} (h : i < 0 ∨ (pg.length : Int) ≤ i) : refuse pg i = 2 := by
  unfold refuse
  rw [if_neg (by omega)]
theorem on_new (n q : Nat) : on (List.replicate n none) q = false := by
  unfold on
  rw [List.getD_eq_getElem?_getD, List.getElem?_replicate]
  split <;> rfl
end Rm

/-! ### Maps of bools. -/
def boolV (l : List UInt8) : Value := .bool (!l.isEmpty)
def readBool : Value → Option (DataW Unit × List MemPlace)
  | .bool true => some (.lit (.string [1]), [])
  | .bool false => some (.lit (.string []), [])
  | _ => none
def mapBoolE : ME := ⟨boolV, readBool, fun l => l = [] ∨ l = [1], fun l h => by
  rcases h with rfl | rfl <;> rfl, fun v y h => by
  unfold readBool at h
  split at h
  · injection h with h; exact ⟨[1], rfl, .inr rfl, h.symm⟩
  · injection h with h; exact ⟨[], rfl, .inl rfl, h.symm⟩
  · cases h⟩
abbrev BMap (w : World) (b : Nat) (m : Wl.Grp) : Prop := IMap Tryd.prog 3 mapBoolE w b m
theorem underBMap : Tryd.prog.underlying 53 = some (.map 3 4) := Tryd.underlying53
theorem zero_boolm (w : World) : (zeroValue 4).run Tryd.prog w = .ok (mapBoolE.enc []) w := by kernel_rfl
theorem BMap.on {w : World} {b : Nat} {m : Wl.Grp} (h : BMap w b m) {k : Nat} (hk : k ≤ 1000000) (hl : Wl.look k m = some [1]) : (Instr.lookup 53 (.map (some b)) (.int .i64 k) false).run Tryd.prog w = .ok (.bool true) w :=
  (IMap.at (M := mapBoolE) h underInt underBMap (zero_boolm w) (.inl rfl) hk hl).1
theorem BMap.off {w : World} {b : Nat} {m : Wl.Grp} (h : BMap w b m) {k : Nat} (hk : k ≤ 1000000) (hl : Wl.look k m = none) : (Instr.lookup 53 (.map (some b)) (.int .i64 k) false).run Tryd.prog w = .ok (.bool false) w := by
  obtain ⟨v, ps, hr, hv⟩ := h.1.lookup (int_keyed underInt) underBMap (zero_boolm w) (mapBoolE.read [] (.inl rfl)) (keyOf_int_mk underInt (key_wf hk))
  rw [dat_at_none hl] at hv
  obtain ⟨l, rfl, hf, he⟩ := mapBoolE.inv _ _ hv
  injection he with he _
  injection he with he
  injection he with he
  subst he
  exact hr

/-! ### Rows of ints that came in. -/
/-- v reads as the ints l. -/
def RdN (w : World) (v : Value) (l : List Int) : Prop :=
  ∃ (a : Option Addr) (cap : Nat), v = .slice a l.length cap ∧ l.length ≤ cap ∧ l.length ≤ 9223372036854775807 ∧ ∀ i (hi : i < l.length), (-9223372036854775808 ≤ l[i] ∧ l[i] ≤ 9223372036854775807) ∧ ∃ g o, a = some ⟨g, o, none⟩ ∧ g < w.heap.size ∧
    ∀ j (hj : j < l.length) m, m < 1 → w.cell? ⟨g, o + (j * 1 + m), none⟩ = [Value.int .i64 l[j]][m]?
theorem ints_in {H : Type} {enc : TypeId × Value → H} {W : World} {base : Nat} {v : Value} {d : DataW H} {p : List MemPlace}
    (hval : Value.okWide Tryd.prog W .any base 43 v) (hd : DataW.Trod enc Tryd.prog W 0 (fun _ => true) true 43 v d p) : ∃ l, RdN W v l := by
  obtain ⟨a, n, cap, rfl⟩ := okWide_slice Tryd.underlying43 hval
  obtain ⟨f, hf⟩ := hd
  obtain ⟨l, a, cap, e, h1, h2, h3⟩ := row_in (W := W) (fun x : Int => [Value.int .i64 x]) (fun x => -9223372036854775808 ≤ x ∧ x ≤ 9223372036854775807) Tryd.underlying43 (c := 1) (by kernel_rfl) (by decide) (fun n cs y hl h => by
    obtain ⟨x, e, _, hw⟩ := DataW.trod_int Tryd.underlying3 h
    exact ⟨x, e, int_wf hw⟩) hf
  exact ⟨l, a, cap, e, h1, h2, h3⟩
theorem RdN.slice {w : World} {v : Value} {l : List Int} (h : RdN w v l) : ∃ a cap, v = .slice a l.length cap := by
  obtain ⟨a, cap, rfl, _⟩ := h
  exact ⟨a, cap, rfl⟩
theorem RdN.at {w w' : World} {l : List Int} {a : Option Addr} {n cap : Nat} (h : RdN w (.slice a n cap) l) (hb : Below w.heap.size w w') {k : Nat} (hk : k < l.length) :
    ∃ g o, a = some ⟨g, o, none⟩ ∧ (-9223372036854775808 ≤ l[k] ∧ l[k] ≤ 9223372036854775807) ∧ w'.cell? ⟨g, o + k, none⟩ = some (.int .i64 l[k]) := by
  obtain ⟨a', cap', e, _, _, hi⟩ := h
  injection e with e1 _ _
  subst e1
  obtain ⟨h0, g, o, rfl, h2, h3⟩ := hi k hk
  refine ⟨g, o, rfl, h0, ?_⟩
  have := h3 k hk 0 (by decide)
  rw [Nat.mul_one, Nat.add_zero] at this
  rw [hb.cell (p := ⟨g, o + k, none⟩) h2]
  exact this
end Go.Proofs.YtobmjcfemjpgcaaDoor

namespace Go.Proofs.YtobmjcfemjpgcaaDoor
open Go.RowKit Lib

def Fill7 (w : World) (R : Nat → Prop) (g b tb r n : Nat) (rt : List Nat) (pg : List (Option Wl.Text)) (B : Nat) (X : World) : Prop :=
  ∃ ps, RmI R 200 g 1 b tb r (Wl.noughts n) ps pg rt X ∧ ps.length ≤ B ∧ Below w.heap.size w X
section
variable {w X X' : World} {R : Nat → Prop} {g b tb r n B : Nat} {rt : List Nat} {pg : List (Option Wl.Text)}
theorem Fill7.below (h : Fill7 w R g b tb r n rt pg B X) : Below w.heap.size w X := by
  obtain ⟨_, _, _, h⟩ := h
  exact h
theorem Fill7.more (h : Fill7 w R g b tb r n rt pg B X) {B' : Nat} (hB : B ≤ B') : Fill7 w R g b tb r n rt pg B' X := by
  obtain ⟨ps, h1, h2, h3⟩ := h
  exact ⟨ps, h1, by omega, h3⟩
theorem fill_did (hR : ∀ k, k < w.heap.size → R k) {ps : List (Nat × List UInt8)} {pg' : List (Option Wl.Text)} (hb : Below w.heap.size w X) (hl : ps.length ≤ B) (h : Did R 200 g 1 b tb r (Wl.noughts n) ps pg' rt X X') : Fill7 w R g b tb r n rt pg' (B + 2) X' ∧ But (fun k => ¬ R k) X X' := by
  obtain ⟨ps', h1, h2, h3⟩ := h
  exact ⟨⟨ps', h2, by omega, hb.trans (h3.below hb.size fun k hk hn => hn (hR k hk))⟩, h3⟩
theorem fill_alloc (h : Fill7 w R g b tb r n rt pg B X) (hR : ∀ k, k < w.heap.size → R k) (hB : B ≤ 800000) :
    Calls Tryd.prog 17 #[ptr r] X fun e X' => e = .returned (.tuple #[.int .i64 (Rm.alloc pg).1, .int .i64 (Rm.alloc pg).2]) ∧ Fill7 w R g b tb r n rt (Rm.alloced pg) (B + 2) X' ∧ But (fun k => ¬ R k) X X' := by
  obtain ⟨ps, h1, h2, h3⟩ := h
  refine (room_Alloc h1 (by omega)).mono ?_
  rintro e X' ⟨rfl, hd⟩
  exact ⟨rfl, fill_did hR h3 h2 hd⟩
theorem fill_free (h : Fill7 w R g b tb r n rt pg B X) (hR : ∀ k, k < w.heap.size → R k) (hB : B ≤ 800000) (i : Int) :
    Calls Tryd.prog 18 #[ptr r, .int .i64 i] X fun e X' => e = .returned (.int .i64 (Rm.refuse pg i)) ∧ Fill7 w R g b tb r n rt (Rm.freed pg i) (B + 2) X' ∧ But (fun k => ¬ R k) X X' := by
  obtain ⟨ps, h1, h2, h3⟩ := h
  refine (room_Free h1 i (by omega)).mono ?_
  rintro e X' ⟨rfl, hd⟩
  exact ⟨rfl, fill_did hR h3 h2 hd⟩
theorem fill_used (h : Fill7 w R g b tb r n rt pg B X) :
    Calls Tryd.prog 19 #[ptr r] X fun e X' => e = .returned (.tuple #[.int .i64 (Rm.used pg : Nat), .int .i64 0]) ∧ Fill7 w R g b tb r n rt pg B X' ∧ But (fun k => ¬ R k) X X' := by
  obtain ⟨ps, h1, h2, h3⟩ := h
  refine (room_Used h1).mono ?_
  rintro e X' ⟨rfl, hb⟩
  exact ⟨rfl, ⟨ps, h1.still hb, h2, h3.trans (hb.mono h3.size)⟩, But.of_below hb _⟩
theorem fill_pages (h : Fill7 w R g b tb r n rt pg B X) :
    Calls Tryd.prog 16 #[ptr r] X fun e X' => e = .returned (.int .i64 pg.length) ∧ X' = X := by
  obtain ⟨ps, h1, h2, h3⟩ := h
  exact room_pages h1
/-- The law's own block. -/
theorem Fill7.held (h : Fill7 w R g b tb r n rt pg B X) (hb : Below X.heap.size X X') {q : Nat} (hq : X.heap.size ≤ q) (hq2 : q < X'.heap.size) : Fill7 w (fun k => R k ∨ k = q) g b tb r n rt pg B X' := by
  obtain ⟨ps, h1, h2, h3⟩ := h
  exact ⟨ps, h1.turn (But.of_below hb (fun _ => False)) (fun _ _ h => h.elim) (fun h => h) (fun k hk => hk.imp_right fun e => by omega) (.inl h1.rr), h2, h3.trans (hb.mono h3.size)⟩
/-- The law's own store. -/
theorem Fill7.turn (h : Fill7 w R g b tb r n rt pg B X) {q : Nat} (hb : But (fun k => k = q) X X') (hq : R q) (hr : q ≠ r) (hw : w.heap.size ≤ q) : Fill7 w R g b tb r n rt pg B X' := by
  obtain ⟨ps, h1, h2, h3⟩ := h
  exact ⟨ps, h1.turn hb (fun k _ e => e ▸ hq) (fun e => hr e.symm) (fun k hk => .inl hk) h1.rr, h2, h3.trans (hb.below h3.size fun k hk e => by omega)⟩
end
set_option maxRecDepth 100000 in
set_option maxHeartbeats 4000000 in
theorem roomFills_any (w : World) (n : Int) (hn : -9223372036854775808 ≤ n ∧ n ≤ 9223372036854775807) (v : Value) (l : List Int) (hl : RdN w v l) :
    Calls Tryd.prog 4 #[.int .i64 n, v] w fun e w' => e = .returned (.bool true) ∧ Below w.heap.size w w' := by
  have hmm := @run_makeMap Tryd.prog
  have HL := Lib.hid hl
  obtain ⟨al, cl, rfl⟩ := hl.slice
  clear hl
  go_enter Tryd.func4, Tryd.ntmps4
  go_wp2_with fail
  refine (awake7_any w).mono ?_
  rintro e w1 ⟨rfl, hb1⟩
  have H1 := Lib.hid hb1
  clear hb1
  by_cases hn4 : n < 4
  · go_wp2
    go_ret
    exact ⟨rfl, H1.out⟩
  by_cases hn60 : 60 < n
  · go_wp2
    go_ret
    exact ⟨rfl, H1.out⟩
  by_cases hl100 : 100 < l.length
  · have j1 : (100 : Int) < l.length := by omega
    go_wp2
    go_ret
    exact ⟨rfl, H1.out⟩
  have j1 : ¬ (100 : Int) < l.length := by omega
  obtain ⟨m, rfl⟩ : ∃ m : Nat, n = m := ⟨n.toNat, by omega⟩
  obtain ⟨N, hN⟩ : ∃ N, N = m - 2 := ⟨_, rfl⟩
  have HM := Lib.hid (show 4 ≤ m ∧ m ≤ 60 ∧ l.length ≤ 100 ∧ N = m - 2 ∧ N ≤ 58 by omega)
  have hN58 : (N : Int) ≤ 58 := by omega
  clear hl100 hN hn
  go_wp2_with fail
  refine (wide_any w1 m HM.out.1 (by have := HM.out; omega)).mono ?_
  rintro e w2 ⟨g, b, rfl, hk2, hb2⟩
  have H2 := Lib.hid (show Kept (fun x => x < w1.heap.size) 200 w2 b g 1 (Wl.noughts m) ∧ Below w1.heap.size w1 w2 from And.intro hk2 hb2)
  clear hk2 hb2 hn4 hn60 j1
  go_wp2_with fail
  refine (c1_begin H2.out.1).mono ?_
  rintro e w3 ⟨tb, rfl, h3, hb3⟩
  have H3 := Lib.hid (And.intro h3 (H1.out.trans ((H2.out.2.trans (hb3.mono H2.out.2.size)).mono H1.out.size)))
  clear h3 hb3
  go_wp2_with fail
  refine (room_Of w3 tb).mono ?_
  rintro e w4 ⟨rfl, rfl⟩
  obtain ⟨R, hR⟩ : ∃ R : Nat → Prop, R = fun k => k < w1.heap.size ∨ k = w3.heap.size := ⟨_, rfl⟩
  obtain ⟨r, hr⟩ : ∃ r, r = w3.heap.size := ⟨_, rfl⟩
  have HR := Lib.hid (show ∀ k, k < w.heap.size → R k by rw [hR]; exact fun k hk => .inl (Nat.lt_of_lt_of_le hk H1.out.size))
  rw [← hr]
  obtain ⟨W, hW⟩ : ∃ W, W = w3.alloc (.cells #[ptr tb] 87) := ⟨_, rfl⟩
  obtain ⟨P0, hP0⟩ : ∃ P0 : List (Option Wl.Text), P0 = List.replicate N none := ⟨_, rfl⟩
  have HP0 := Lib.hid (show P0.length = N ∧ ∀ q, Rm.on P0 q = false by rw [hP0]; exact ⟨List.length_replicate, Rm.on_new N⟩)
  have H4 := Lib.hid (show Fill7 w R g b tb r m (List.replicate 16 0) P0 0 W by
    refine ⟨[], ?_, Nat.le_refl _, by rw [hW]; exact H3.out.2.alloc H3.out.2.size _⟩
    rw [hR, hr, hW, hP0, HM.out.2.2.2.1]
    exact room_begun H3.out.1 (by have := HM.out; omega) (by have := HM.out; omega))
  rw [← hW]
  have HRS := Lib.hid (show r < W.heap.size ∧ w.heap.size ≤ r by rw [hW, hr, World.size_alloc]; have := H3.out.2.size; omega)
  generalize List.replicate 16 0 = rt at *
  clear hR hr hW H3 H2 hP0
  go_wp2_with fail
  refine (fill_pages H4.out).mono ?_
  rintro e w5 ⟨rfl, rfl⟩
  rw [HP0.out.1]
  go_wp2
  go_loopw [47] (fun i wr => ∃ k : Nat, k ≤ N ∧ i = .int .i64 k ∧ ∃ pg, Hid (Fill7 w R g b tb r m rt pg (2 * k) wr) ∧ Hid (pg.length = N ∧ ∀ q, Rm.on pg q = decide (q < k))) (fun i _ => N - (Go.RowKit.intOf i).toNat)
  case atStart => exact ⟨0, Nat.zero_le _, rfl, P0, H4, Lib.hid ⟨HP0.out.1, fun q => by rw [HP0.out.2]; simp⟩⟩
  case round =>
    clear H4 HP0 H1
    obtain ⟨k, hk, rfl, pg, hS, hP⟩ := hrel
    by_cases hlt : k < N
    · have hI : (k : Int) < N := by omega
      have HLt := Lib.hid hlt
      obtain ⟨e1, e2, e3⟩ := Rm.alloc_at (pg := pg) (p := k) (fun q hq => by rw [hP.out.2]; simpa using hq) (by rw [hP.out.1]; exact hlt) (by rw [hP.out.2]; simp)
      have HE := Lib.hid (And.intro e1 (And.intro e2 e3))
      clear e1 e2 e3 hlt hk
      go_wp2_with fail
      refine (fill_alloc hS.out HR.out (by have := HLt.out; omega)).mono ?_
      rintro e w6 ⟨rfl, h6, -⟩
      rw [HE.out.1]
      have H6 := Lib.hid h6
      clear h6
      go_wp2
      go_roundw
      case rel => exact ⟨k + 1, HLt.out, by go_num, _, Lib.hid (by have := H6.out; rwa [show 2 * (k + 1) = 2 * k + 2 by omega]), Lib.hid ⟨by rw [HE.out.2.1]; exact hP.out.1, fun q => by
        rw [HE.out.2.2, hP.out.2]
        by_cases e : q = k
        · rw [if_pos e, e]; simp
        · rw [if_neg e]; congr 1; simp; omega⟩⟩
      case measure => have := HLt.out; simp [Go.RowKit.intOf]; omega
    · have hkN : k = N := by omega
      have hI : ¬ (k : Int) < N := by omega
      obtain ⟨e1, e2⟩ := Rm.alloc_none (pg := pg) (fun q hq => by rw [hP.out.2]; have := hP.out.1; simp; omega)
      have HE := Lib.hid (And.intro e1 e2)
      have HP2 := Lib.hid (show pg.length = N ∧ ∀ q, q < N → Rm.on pg q = true from ⟨hP.out.1, fun q hq => by rw [hP.out.2]; simp; omega⟩)
      have HK := Lib.hid hkN
      clear e1 e2 hkN hlt hk hP
      go_wp2_with fail
      refine (fill_alloc hS.out HR.out (by have := HK.out; have := HM.out; omega)).mono ?_
      rintro e w6 ⟨rfl, h6, -⟩
      rw [HE.out.2] at h6
      rw [HE.out.1]
      have H6 := Lib.hid (h6.more (show 2 * k + 2 ≤ 200 by have := HK.out; have := HM.out; omega))
      have HS6 := Lib.hid (show r < w6.heap.size ∧ w.heap.size ≤ w6.heap.size from by
        obtain ⟨ps, hh, _, hb⟩ := H6.out
        exact ⟨hh.blk.lt, hb.size⟩)
      clear h6 hS
      obtain ⟨q, hq⟩ : ∃ q, q = w6.heap.size := ⟨_, rfl⟩
      have H7 := Lib.hid (show Fill7 w (fun k => R k ∨ k = q) g b tb r m rt pg 200 (w6.alloc (.map #[] 0)) from H6.out.held ((Below.refl _ _).alloc (Nat.le_refl _) _) (by omega) (by rw [World.size_alloc]; omega))
      have HB7 := Lib.hid (show BMap (w6.alloc (.map #[] 0)) q [] by rw [hq]; exact IMap.made _ _ _ _)
      have HQ := Lib.hid (show q ≠ r ∧ w.heap.size ≤ q by have := HS6.out; omega)
      obtain ⟨S, hS⟩ : ∃ S : Nat → Prop, S = fun k => R k ∨ k = q := ⟨_, rfl⟩
      have HS := Lib.hid (show (∀ k, k < w.heap.size → S k) ∧ S q by rw [hS]; exact ⟨fun k hk => .inl (HR.out k hk), .inr rfl⟩)
      rw [← hS] at H7
      obtain ⟨Y, hY⟩ : ∃ Y, Y = w6.alloc (.map #[] 0) := ⟨_, rfl⟩
      rw [← hY] at H7 HB7
      have HY := Lib.hid hY
      have HQ2 := Lib.hid hq
      clear hS hY H6 hq
      go_wp2
      rw [← HY.out, ← HQ2.out]
      go_loopw [77] (fun i wr => ∃ j : Nat, j ≤ l.length ∧ i = .int .i64 j ∧ ∃ pg M, Hid (Fill7 w S g b tb r m rt pg (200 + 2 * j) wr) ∧ Hid (BMap wr q M) ∧ Hid (pg.length = N ∧ Rm.used pg + M.length = N ∧ ∀ x, x < N → Wl.look x M = if Rm.on pg x then none else some [1])) (fun i _ => l.length - (Go.RowKit.intOf i).toNat)
      case atStart =>
        refine ⟨0, Nat.zero_le _, rfl, pg, [], H7, HB7, Lib.hid ⟨HP2.out.1, ?_, fun x hx => by rw [HP2.out.2 x hx]; rfl⟩⟩
        rw [Rm.used_all (by rw [HP2.out.1]; exact HP2.out.2), HP2.out.1]; rfl
      case round =>
        clear H7 HB7 HP2 HE
        obtain ⟨j, hj, rfl, pg, M, hF, hB, hP⟩ := hrel
        by_cases hlt : j < l.length
        · have hI2 : (j : Int) < l.length := by omega
          obtain ⟨gp, op, rfl, hx64, c0⟩ := RdN.at HL.out hF.out.below hlt
          have HLt := Lib.hid (show j < l.length ∧ l.length ≤ 100 by have := HM.out; omega)
          have HX := Lib.hid hx64
          generalize l[j] = x at *
          clear hj hlt hx64
          go_wp2_with fail
          refine (fill_free hF.out HS.out.1 (by have := HLt.out; omega) x).mono ?_
          rintro e w8 ⟨rfl, h8, hb8⟩
          have H8 := Lib.hid (show Fill7 w S g b tb r m rt (Rm.freed pg x) (200 + 2 * (j + 1)) w8 from h8)
          have HB8 := Lib.hid (hB.out.but hb8 (fun hn => hn HS.out.2))
          clear h8 hb8 c0
          by_cases ho : x < 0 ∨ (N : Int) ≤ x
          · have hr := Rm.refuse_out (pg := pg) (i := x) (by rw [hP.out.1]; exact ho)
            rw [hr]
            have HF := Lib.hid (Rm.freed_off (pg := pg) (i := x) (by rw [hr]; decide))
            clear hr
            rcases ho with ho | ho
            · go_wp2
              go_roundw
              case rel => exact ⟨j + 1, HLt.out.1, by go_num, pg, M, Lib.hid (by have := H8.out; rwa [HF.out] at this), HB8, hP⟩
              case measure => have := HLt.out.1; simp [Go.RowKit.intOf]; omega
            · have ho2 : ¬ x < 0 := by omega
              go_wp2
              go_roundw
              case rel => exact ⟨j + 1, HLt.out.1, by go_num, pg, M, Lib.hid (by have := H8.out; rwa [HF.out] at this), HB8, hP⟩
              case measure => have := HLt.out.1; simp [Go.RowKit.intOf]; omega
          · obtain ⟨p, rfl⟩ : ∃ p : Nat, x = p := ⟨x.toNat, by omega⟩
            have hp0 : ¬ (p : Int) < 0 := by omega
            have hpN : (p : Int) < N := by omega
            have HPN := Lib.hid (show p < N by omega)
            have hpl : p < pg.length := by rw [hP.out.1]; exact HPN.out
            have hlk := hP.out.2.2 p HPN.out
            have hr := Rm.refuse_on hpl
            cases hon : Rm.on pg p with
            | false =>
              rw [hon] at hr hlk
              rw [if_neg (by decide)] at hr hlk
              rw [hr]
              have HF := Lib.hid (Rm.freed_off (pg := pg) (i := p) (by rw [hr]; decide))
              have hlook := BMap.on HB8.out (k := p) (by have := HPN.out; have := HM.out; omega) hlk
              clear hr hlk hon ho hpl
              go_wp2
              go_roundw
              case rel => exact ⟨j + 1, HLt.out.1, by go_num, pg, M, Lib.hid (by have := H8.out; rwa [HF.out] at this), HB8, hP⟩
              case measure => have := HLt.out.1; simp [Go.RowKit.intOf]; omega
            | true =>
              rw [hon] at hr hlk
              rw [if_pos rfl] at hr hlk
              rw [hr]
              have HF := Lib.hid (Rm.freed_on hpl hon)
              have HU := Lib.hid (Rm.used_set hpl hon)
              have HOn := Lib.hid (Rm.on_set hpl (none : Option Wl.Text))
              have HLk := Lib.hid hlk
              have hlook := BMap.off HB8.out (k := p) (by have := HPN.out; have := HM.out; omega) hlk
              obtain ⟨w9, hrun, hM9, hg9⟩ := IMap.store (T := 53) HB8.out underInt underBMap (by have := hP.out.2.1; have := HM.out; omega) (k := p) (by have := HPN.out; have := HM.out; omega) (t := [1]) (.inr rfl)
              have hrun2 : (Instr.mapUpdate 53 (.map (some q)) (.int .i64 p) (.bool true)).run Tryd.prog w8 = .ok () w9 := hrun
              have HB9 := Lib.hid hM9
              have H9 := Lib.hid (H8.out.turn (q := q) (But.ofGrown hg9 |>.mono fun x _ e => by injection e with e; exact e.symm) HS.out.2 HQ.out.1 HQ.out.2)
              clear hr hlk hon ho hpl hM9 hg9 hrun
              go_wp2
              go_roundw
              case rel =>
                refine ⟨j + 1, HLt.out.1, by go_num, pg.set p none, Wl.ins p [1] M, Lib.hid (by have := H9.out; rwa [HF.out] at this), HB9, Lib.hid ⟨by rw [List.length_set]; exact hP.out.1, ?_, fun x hx => ?_⟩⟩
                · have h1 := HU.out
                  have h2 := hP.out.2.1
                  rw [Wl.ins_length _ _ hB.out.2.1, HLk.out]
                  simp
                  omega
                · rw [Wl.look_ins, HOn.out]
                  by_cases e : x = p
                  · rw [if_pos e, if_pos e]; rfl
                  · rw [if_neg e, if_neg e]; exact hP.out.2.2 x hx
              case measure => have := HLt.out.1; simp [Go.RowKit.intOf]; omega
        · have hI2 : ¬ (j : Int) < l.length := by omega
          have HJ := Lib.hid (show j ≤ 100 by have := HM.out; omega)
          clear hlt hj
          go_wp2_with fail
          refine (fill_used hF.out).mono ?_
          rintro e w8 ⟨rfl, h8, hb8⟩
          have HB8 := Lib.hid (hB.out.but hb8 (fun hn => hn HS.out.2))
          have H8 := Lib.hid (h8.more (show 200 + 2 * j ≤ 500 by have := HJ.out; omega))
          have hlen := IMap.len (T := 53) HB8.out underBMap
          have hU : (Rm.used pg : Int) = N - M.length := by have := hP.out.2.1; omega
          rw [hU]
          have hMN : (M.length : Int) ≤ N := by have := hP.out.2.1; omega
          clear h8 hb8 hF hB hU
          go_wp2
          go_loopw [121] (fun i wr => ∃ k : Nat, k ≤ N ∧ i = .int .i64 k ∧ ∃ pg, Hid (Fill7 w S g b tb r m rt pg (500 + 2 * k) wr) ∧ Hid (BMap wr q M) ∧ Hid (pg.length = N ∧ (∀ x, x < k → Rm.on pg x = true) ∧ ∀ x, k ≤ x → x < N → Wl.look x M = if Rm.on pg x then none else some [1])) (fun i _ => N - (Go.RowKit.intOf i).toNat)
          case atStart => exact ⟨0, Nat.zero_le _, rfl, pg, H8, HB8, Lib.hid ⟨hP.out.1, fun x hx => by omega, fun x _ hx => hP.out.2.2 x hx⟩⟩
          case round =>
            clear H8 HB8 hP hlen
            obtain ⟨k, hk, rfl, pg, hF, hB, hP⟩ := hrel
            by_cases hlt : k < N
            · have hI3 : (k : Int) < N := by omega
              have HLt := Lib.hid (show k < N ∧ N ≤ 58 by have := HM.out; omega)
              have hlk := hP.out.2.2 k (Nat.le_refl _) hlt
              cases hon : Rm.on pg k with
              | false =>
                rw [hon, if_neg (by decide)] at hlk
                have hlook := BMap.on hB.out (k := k) (by have := HLt.out; omega) hlk
                obtain ⟨e1, e2, e3⟩ := Rm.alloc_at hP.out.2.1 (by rw [hP.out.1]; exact hlt) hon
                have HE := Lib.hid (And.intro e1 (And.intro e2 e3))
                clear e1 e2 e3 hlk hon hlt hk
                go_wp2_with fail
                refine (fill_alloc hF.out HS.out.1 (by have := HLt.out; omega)).mono ?_
                rintro e w9 ⟨rfl, h9, hb9⟩
                rw [HE.out.1]
                have H9 := Lib.hid h9
                have HB9 := Lib.hid (hB.out.but hb9 (fun hn => hn HS.out.2))
                clear h9 hb9 hlook
                go_wp2
                go_roundw
                case rel =>
                  refine ⟨k + 1, HLt.out.1, by go_num, _, Lib.hid (by have := H9.out; rwa [show 500 + 2 * (k + 1) = 500 + 2 * k + 2 by omega]), HB9, Lib.hid ⟨by rw [HE.out.2.1]; exact hP.out.1, fun x hx => ?_, fun x hx hxN => ?_⟩⟩
                  · rw [HE.out.2.2]
                    by_cases e : x = k
                    · rw [if_pos e]
                    · rw [if_neg e]; exact hP.out.2.1 x (by omega)
                  · rw [HE.out.2.2, if_neg (show ¬ x = k by omega)]
                    exact hP.out.2.2 x (by omega) hxN
                case measure => have := HLt.out.1; simp [Go.RowKit.intOf]; omega
              | true =>
                rw [hon, if_pos rfl] at hlk
                have hlook := BMap.off hB.out (k := k) (by have := HLt.out; omega) hlk
                have HOn := Lib.hid hon
                clear hlk hon hlt hk
                go_wp2
                go_roundw
                case rel =>
                  refine ⟨k + 1, HLt.out.1, by go_num, pg, Lib.hid (hF.out.more (by omega)), hB, Lib.hid ⟨hP.out.1, fun x hx => ?_, fun x hx hxN => hP.out.2.2 x (by omega) hxN⟩⟩
                  by_cases e : x = k
                  · rw [e]; exact HOn.out
                  · exact hP.out.2.1 x (by omega)
                case measure => have := HLt.out.1; simp [Go.RowKit.intOf]; omega
            · have hI3 : ¬ (k : Int) < N := by omega
              go_wp2
              go_ret
              exact ⟨rfl, hF.out.below⟩
end Go.Proofs.YtobmjcfemjpgcaaDoor

namespace Go.Proofs.YtobmjcfemjpgcaaDoor
open Go.ChangeShapes Go.WideShapes Go.ChangeAt Go.RowKit
open Go.ChangeMaps (open_string shut_string)
namespace lawRoomFills
set_option maxRecDepth 100000
theorem contract (H : Type) (enc : TypeId × Value → H) (W : World) (base : Nat) (args : Array Value) (ds gs : List (DataW H)) (before : List MemPlace)
    (hval : ∀ (j : Nat) t v, Tryd.f4.params[j]? = some t → args[j]? = some v → Value.okWide Tryd.prog W .any base t v)
    (hW : DataW.Whole enc Tryd.prog Tryd.f4.params.toList Rows.roomFillsSpec.vars false W args.toList ds gs before) :
    Calls Tryd.prog 4 args W fun e W' => ∃ v, e = .returned v ∧ Rows.roomFillsSpec.post enc Tryd.prog Tryd.f4 false true false false W args v W' := by
  have hW' := hW
  obtain ⟨p, q, hA0, hV, rfl, hfz, hnd⟩ := hW
  have hA : DataW.TrodAll enc Tryd.prog W 0 (fun _ => true) true Tryd.f4.params.toList args.toList ds p := hA0
  have hAk := hA
  rw [Tryd.params4] at hA hval
  obtain ⟨v0, vs0, d0, ds0, p0, q0, hargs, rfl, rfl, h0, r0⟩ := trodAll_cons hA
  obtain ⟨v1, vs1, d1, ds1, p1, q1, rfl, rfl, rfl, h1, r1⟩ := trodAll_cons r0
  obtain ⟨rfl, rfl, rfl⟩ := trodAll_nil r1
  obtain rfl : args = #[v0, v1] := by cases args; simp_all
  obtain ⟨rfl, rfl⟩ := trodVars_none hV
  obtain ⟨x0, rfl, rfl, rfl, w0⟩ := open_int Tryd.underlying3 (hval 0 3 v0 rfl rfl) h0
  obtain ⟨l1, hr1⟩ := ints_in (hval 1 43 v1 rfl rfl) h1
  have lt := fun x hx => hW'.lt x hx
  clear hA0
  refine (roomFills_any W x0 (int_wf w0) v1 l1 hr1).mono fun e W' ⟨he, hb⟩ => ?_
  subst he
  exact ⟨_, rfl, post_below (pv := []) hW' hb rfl (fun _ _ _ => trodAll_cons_mk (shut_bool Tryd.underlying4 _) trodAll_mk0) (fun sp hsp => trodAll_stays _ (by rw [Tryd.params4]; decide +kernel) hAk (fun x hx => hb.same (lt x (by simpa using hx))) (fun x hx => hsp x (by simpa using hx))) (fun _ _ => rfl)
    (ok_one (by kernel_rfl) rfl (okWide_bool_mk Tryd.underlying4 _))⟩
theorem laid_met (os : Os) : laidMet Tryd.prog Rows.roomFillsRow.laid ((laidWorld os).forCall (fun _ _ => 0) ⟨#[], #[.int .i64 0, .slice none 0 0], []⟩).memory :=
  laidMet_of_run' 8 (by kernel_rfl) (by kernel_rfl)
theorem reads (os : Os) {H : Type} (enc : TypeId × Value → H) : ∃ places, DataW.whole enc Tryd.prog ((laidWorld os).forCall (fun _ _ => 0) ⟨#[], #[.int .i64 0, .slice none 0 0], []⟩).memory Tryd.f4.params.toList Rows.roomFillsSpec.vars false #[Value.int .i64 0, .slice none 0 0].toList 8 = some ([.lit (.int .i64 0), .nil], [], places) :=
  ⟨[], by kernel_rfl⟩
theorem lifted (os : Os) (started : os.Started) (H : Type) (enc : TypeId × Value → H) (F : Stop.Interp) :
    ReturnsInHanded {} Tryd.checked os 4 .any ((OpenSpec.ofChange Rows.roomFillsSpec).preRow enc Tryd.prog Tryd.f4 Rows.roomFillsRow.domain false Rows.roomFillsRow.laid) (((OpenSpec.ofChange Rows.roomFillsSpec).at F).post enc Tryd.prog Tryd.f4 false true false false) := by
  obtain ⟨places, hx⟩ := reads os enc
  refine returnsInHanded_of_row (C := Tryd.checked) (s := OpenSpec.ofChange Rows.roomFillsSpec) own started (by kernel_rfl) Tryd.func4
    (witness_row_at (enc := enc) (C := Tryd.checked) false (laidWorld os) #[.int .i64 0, .slice none 0 0] rfl (by kernel_rfl) (by kernel_rfl) (by kernel_rfl)
      (OpenSpec.preRow_of_cond 8 hx (by kernel_rfl) (fun k hk => by cases hk) (by kernel_rfl) (laid_met os))) ?_
  intro W base args ds gs before hval hW _ _ _ hL _ _
  exact contract H enc W base args ds gs before hval hW
theorem said : Rows.RoomFillsSaid :=
  OpenClaim.holds_of_cond 4 Tryd.f4 rfl rfl rfl rfl rfl rfl rfl ⟨rfl, rfl, rfl, rfl, rfl⟩ rfl rfl rfl rfl rfl (by kernel_rfl) Tryd.func4 (by kernel_rfl)
    (of_decide_eq_true (by kernel_rfl)) (by unfold Func.isWrapper; first | (rw [if_pos (by decide +kernel)]; kernel_rfl) | (rw [if_neg (by decide +kernel)]; exact ⟨rfl, rfl⟩))
    (fun os started H enc _ F => by rw [OpenClaim.pre_eq_preRow]; exact lifted os started H enc F)
theorem plain (f : FuncId) (fn : Func) (hf : Tryd.pinned.checked.prog.funcNamed "cooperage/cooperagelaw07.RoomFills" = some f) (hfn : Tryd.pinned.checked.prog.funcs[f]? = some fn) :
    false = Tryd.pinned.checked.prog.looks [] ∧ ∀ (j : Nat) t, fn.params[j]? = some t → Tryd.pinned.checked.prog.wantsStandIn t = false := by
  obtain rfl : f = 4 := Option.some.inj ((show Tryd.prog.funcNamed "cooperage/cooperagelaw07.RoomFills" = some 4 by kernel_rfl).symm.trans hf) |>.symm
  obtain rfl : fn = Tryd.f4 := (Option.some.inj (Tryd.func4.symm.trans hfn)).symm
  refine ⟨by kernel_rfl, fun j t ht => ?_⟩
  rw [Tryd.params4] at ht
  have hm : t = 3 ∨ t = 43 := by simpa using Array.mem_of_getElem? ht
  rcases hm with rfl | rfl
  · exact (show Tryd.prog.wantsStandIn 3 = false by kernel_rfl)
  · exact (show Tryd.prog.wantsStandIn 43 = false by kernel_rfl)
theorem card : Rows.RoomFillsCardSaid :=
  Claim7.holds_tied_plain_at .later [] _ _ _ _ said (fun _ h => by cases h) (by kernel_rfl) (fun _ h => by cases h) roomFills_row_tie rfl ⟨rfl, rfl⟩ (by kernel_rfl) rfl plain (by kernel_rfl)
end lawRoomFills
end Go.Proofs.YtobmjcfemjpgcaaDoor
