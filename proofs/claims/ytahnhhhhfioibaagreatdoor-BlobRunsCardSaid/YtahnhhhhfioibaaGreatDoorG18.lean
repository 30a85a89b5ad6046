/- Elder texts, merged (18). -/
import Derived.Test.YtahnhhhhfioibaaGreatDoorG6
import Derived.Test.YtahnhhhhfioibaaGreatDoorG11
import Derived.Test.YtahnhhhhfioibaaGreatDoorG17
import Derived.Test.YtahnhhhhfioibaaGreatDoorG12
namespace Go.Proofs.YtahnhhhhfioibaaGreatDoor
set_option maxRecDepth 100000
open Go.ChangeShapes Go.WideShapes Go.ChangeAt Go.RowKit Lib

structure Act8 where
  what : Int
  n : Int
  size : Int
  c : Int
instance : Inhabited Act8 := ⟨⟨0, 0, 0, 0⟩⟩
structure Act8.ok (x : Act8) : Prop where
  w1 : -9223372036854775808 ≤ x.what ∧ x.what ≤ 9223372036854775807
  n1 : -9223372036854775808 ≤ x.n ∧ x.n ≤ 9223372036854775807
  s1 : -9223372036854775808 ≤ x.size ∧ x.size ≤ 9223372036854775807
  c1 : 0 ≤ x.c ∧ x.c ≤ 255
def Act8.cells (x : Act8) : List Value := [.int .i64 x.what, .int .i64 x.n, .int .i64 x.size, .int .u8 x.c]
/-- v reads as the acts l. -/
def RdE (w : World) (v : Value) (l : List Act8) : Prop :=
  ∃ (a : Option Addr) (cap : Nat), v = .slice a l.length cap ∧ l.length ≤ cap ∧ l.length ≤ 9223372036854775807 ∧ ∀ i (hi : i < l.length), l[i].ok ∧ ∃ g o, a = some ⟨g, o, none⟩ ∧ g < w.heap.size ∧
    ∀ j (hj : j < l.length) m, m < 4 → w.cell? ⟨g, o + (j * 4 + m), none⟩ = l[j].cells[m]?
theorem u8_wf {m : Int} (hw : (Lit.int .u8 m).wf = true) : (0 : Int) ≤ m ∧ m ≤ 255 := by
  simp only [Lit.wf, Bool.and_eq_true, decide_eq_true_eq] at hw
  exact hw
theorem act8_in {H : Type} {enc : TypeId × Value → H} {W : World} {n : Nat} {cs : List Value} {y : DataW H × List MemPlace} (hcl : cs.length = 4)
    (h : DataW.trod enc Tryz.prog W 0 (fun _ => true) true n 66 cs = some y) : ∃ x : Act8, cs = x.cells ∧ x.ok := by
  obtain ⟨xs, k, _, _, _, hxl, hf⟩ := DataW.trod_struct Tryz.underlying66 h
  have ci : Tryz.prog.cellsOf 3 = 1 := by kernel_rfl
  have cu : Tryz.prog.cellsOf 5 = 1 := by kernel_rfl
  match xs, hxl, cs, hcl with
  | [y0, y1, y2, y3], _, [v0, v1, v2, v3], _ =>
    have g0 := hf 0 _ rfl
    have g1 := hf 1 _ rfl
    have g2 := hf 2 _ rfl
    have g3 := hf 3 _ rfl
    simp [ci, cu] at g0 g1 g2 g3
    obtain ⟨m0, e0, _, hw0⟩ := DataW.trod_int Tryz.underlying3 g0
    obtain ⟨m1, e1, _, hw1⟩ := DataW.trod_int Tryz.underlying3 g1
    obtain ⟨m2, e2, _, hw2⟩ := DataW.trod_int Tryz.underlying3 g2
    obtain ⟨m3, e3, _, hw3⟩ := DataW.trod_int Tryz.underlying5 g3
    injection e0 with e0 _
    injection e1 with e1 _
    injection e2 with e2 _
    injection e3 with e3 _
    subst e0 e1 e2 e3
    exact ⟨⟨m0, m1, m2, m3⟩, rfl, ⟨int_wf hw0, int_wf hw1, int_wf hw2, u8_wf hw3⟩⟩
theorem acts8_in {H : Type} {enc : TypeId × Value → H} {W : World} {base : Nat} {v : Value} {d : DataW H} {p : List MemPlace}
    (hval : Value.okWide Tryz.prog W .any base 59 v) (hd : DataW.Trod enc Tryz.prog W 0 (fun _ => true) true 59 v d p) : ∃ l, RdE W v l := by
  obtain ⟨a, n, cap, rfl⟩ := okWide_slice Tryz.underlying59 hval
  obtain ⟨f, hf⟩ := hd
  obtain ⟨l, a, cap, e, h1, h2, h3⟩ := row_in (W := W) (fun x : Act8 => x.cells) (fun x => x.ok) Tryz.underlying59 (c := 4) (by kernel_rfl) (by decide) (fun n cs y hl h => act8_in hl h) hf
  exact ⟨l, a, cap, e, h1, h2, h3⟩
theorem RdE.slice {w : World} {v : Value} {l : List Act8} (h : RdE w v l) : ∃ a cap, v = .slice a l.length cap := by
  obtain ⟨a, cap, rfl, _⟩ := h
  exact ⟨a, cap, rfl⟩
theorem RdE.at {w w' : World} {l : List Act8} {a : Option Addr} {n cap : Nat} (h : RdE w (.slice a n cap) l) (hb : Below w.heap.size w w') {k : Nat} (hk : k < l.length) :
    ∃ g o, a = some ⟨g, o, none⟩ ∧ (l[k]).ok ∧ w'.cell? ⟨g, o + k * 4, none⟩ = some (.int .i64 (l[k]).what) ∧ w'.cell? ⟨g, o + k * 4 + 1, none⟩ = some (.int .i64 (l[k]).n) ∧ w'.cell? ⟨g, o + k * 4 + 2, none⟩ = some (.int .i64 (l[k]).size) ∧ w'.cell? ⟨g, o + k * 4 + 3, none⟩ = some (.int .u8 (l[k]).c) := by
  obtain ⟨a', cap', e, _, _, hi⟩ := h
  injection e with e1 _ _
  subst e1
  obtain ⟨h0, g, o, rfl, h2, h3⟩ := hi k hk
  refine ⟨g, o, rfl, h0, ?_, ?_, ?_, ?_⟩
  · rw [hb.cell (p := ⟨g, o + k * 4, none⟩) h2]; exact h3 k hk 0 (by decide)
  · rw [hb.cell (p := ⟨g, o + k * 4 + 1, none⟩) h2, Nat.add_assoc]; exact h3 k hk 1 (by decide)
  · rw [hb.cell (p := ⟨g, o + k * 4 + 2, none⟩) h2, Nat.add_assoc]; exact h3 k hk 2 (by decide)
  · rw [hb.cell (p := ⟨g, o + k * 4 + 3, none⟩) h2, Nat.add_assoc]; exact h3 k hk 3 (by decide)
end Go.Proofs.YtahnhhhhfioibaaGreatDoor

namespace Go.Proofs.YtahnhhhhfioibaaGreatDoor
set_option maxRecDepth 100000
open Go.ChangeShapes Go.WideShapes Go.ChangeAt Go.RowKit Go.Maps Lib

namespace Rm
def on (pg : List (Option Wl.Text)) (q : Nat) : Bool := (pg.getD q none).isSome
theorem on_set {pg : List (Option Wl.Text)} {p : Nat} (hp : p < pg.length) (x : Option Wl.Text) (q : Nat) : on (pg.set p x) q = if q = p then x.isSome else on pg q := by
  unfold on
  rw [Rep.getD_set _ _ _ _ _ hp]
  split <;> rfl
theorem on_none {pg : List (Option Wl.Text)} {p : Nat} (h : on pg p = false) : pg.getD p none = none := by
  unfold on at h
  cases e : pg.getD p none with
  | none => rfl
  | some t => rw [e] at h; cases h
theorem alloc_at {pg : List (Option Wl.Text)} {p : Nat} (h1 : ∀ q, q < p → on pg q = true) (hp : p < pg.length) (h2 : on pg p = false) :
    alloc pg = (((p : Nat) : Int), 0) ∧ (alloced pg).length = pg.length ∧ ∀ q, on (alloced pg) q = if q = p then true else on pg q := by
  have e : firstFree pg = some p := firstFree_some h1 hp (on_none h2)
  refine ⟨by unfold alloc; rw [e], by unfold alloced; rw [e]; exact List.length_set, fun q => ?_⟩
  unfold alloced
  rw [e]
  exact on_set hp _ q
theorem alloc_none {pg : List (Option Wl.Text)} (h1 : ∀ q, q < pg.length → on pg q = true) : alloc pg = (0, 4) ∧ alloced pg = pg := by
  have e : firstFree pg = none := firstFree_none h1
  exact ⟨by unfold alloc; rw [e], by unfold alloced; rw [e]⟩
theorem used_set {pg : List (Option Wl.Text)} {p : Nat} (hp : p < pg.length) (h : on pg p = true) : used (pg.set p none) + 1 = used pg := by
  unfold used
  rw [← List.countP_eq_length_filter, ← List.countP_eq_length_filter, List.countP_set hp]
  have hs : (pg[p]).isSome = true := by
    unfold on at h
    rwa [List.getD_eq_getElem?_getD, List.getElem?_eq_getElem hp, Option.getD_some] at h
  have hpos : 0 < List.countP Option.isSome pg := List.countP_pos_iff.2 ⟨pg[p], List.getElem_mem hp, hs⟩
  rw [hs]
  simp
  omega
theorem used_all {pg : List (Option Wl.Text)} (h : ∀ q, q < pg.length → on pg q = true) : used pg = pg.length := by
  unfold used
  rw [List.filter_eq_self.2]
  intro a ha
  obtain ⟨q, hq, rfl⟩ := List.getElem_of_mem ha
  have := h q hq
  unfold on at this
  rwa [List.getD_eq_getElem?_getD, List.getElem?_eq_getElem hq, Option.getD_some] at this
theorem refuse_on {pg : List (Option Wl.Text)} {p : Nat} (hp : p < pg.length) : refuse pg p = if on pg p then 0 else 6 := by
  unfold refuse on
  rw [if_pos (by omega), Int.toNat_natCast]
theorem freed_on {pg : List (Option Wl.Text)} {p : Nat} (hp : p < pg.length) (h : on pg p = true) : freed pg p = pg.set p none := by
  unfold freed
  rw [refuse_on hp, h, if_pos rfl, Int.toNat_natCast]
  rfl
theorem freed_off {pg : List (Option Wl.Text)} {i : Int} (h : refuse pg i ≠ 0) : freed pg i = pg := by
  unfold freed
  rw [if_neg h]
theorem refuse_out {pg : List (Option Wl.Text)} {i : Int} (h : i < 0 ∨ (pg.length : Int) ≤ i) : refuse pg i = 2 := by
  unfold refuse
  rw [if_neg (by omega)]
theorem on_new (n q : Nat) : on (List.replicate n none) q = false := by
  unfold on
  rw [List.getD_eq_getElem?_getD, List.getElem?_replicate]
  split <;> rfl
end Rm

/-! ### Maps of bools. -/
def boolV (l : List UInt8) : Value := .bool (!l.isEmpty)
def readBool : Value → Option (DataW Unit × List MemPlace)
  | .bool true => some (.lit (.string [1]), [])
  | .bool false => some (.lit (.string []), [])
  | _ => none
def mapBoolE : ME := ⟨boolV, readBool, fun l => l = [] ∨ l = [1], fun l h => by
  rcases h with rfl | rfl <;> rfl, fun v y h => by
  unfold readBool at h
  split at h
  · injection h with h; exact ⟨[1], rfl, .inr rfl, h.symm⟩
  · injection h with h; exact ⟨[], rfl, .inl rfl, h.symm⟩
  · cases h⟩
abbrev BMap (w : World) (b : Nat) (m : Wl.Grp) : Prop := IMap Tryz.prog 3 mapBoolE w b m
theorem underBMap : Tryz.prog.underlying 77 = some (.map 3 4) := Tryz.underlying77
theorem zero_boolm (w : World) : (zeroValue 4).run Tryz.prog w = .ok (mapBoolE.enc []) w := by kernel_rfl
theorem BMap.on {w : World} {b : Nat} {m : Wl.Grp} (h : BMap w b m) {k : Nat} (hk : k ≤ 1000000) (hl : Wl.look k m = some [1]) : (Instr.lookup 77 (.map (some b)) (.int .i64 k) false).run Tryz.prog w = .ok (.bool true) w :=
  (IMap.at (M := mapBoolE) h underInt underBMap (zero_boolm w) (.inl rfl) hk hl).1
theorem BMap.off {w : World} {b : Nat} {m : Wl.Grp} (h : BMap w b m) {k : Nat} (hk : k ≤ 1000000) (hl : Wl.look k m = none) : (Instr.lookup 77 (.map (some b)) (.int .i64 k) false).run Tryz.prog w = .ok (.bool false) w := by
  obtain ⟨v, ps, hr, hv⟩ := h.1.lookup (int_keyed underInt) underBMap (zero_boolm w) (mapBoolE.read [] (.inl rfl)) (keyOf_int_mk underInt (key_wf hk))
  rw [dat_at_none hl] at hv
  obtain ⟨l, rfl, hf, he⟩ := mapBoolE.inv _ _ hv
  injection he with he _
  injection he with he
  injection he with he
  subst he
  exact hr

/-! ### Rows of ints that came in. -/
/-- v reads as the ints l. -/
def RdN (w : World) (v : Value) (l : List Int) : Prop :=
  ∃ (a : Option Addr) (cap : Nat), v = .slice a l.length cap ∧ l.length ≤ cap ∧ l.length ≤ 9223372036854775807 ∧ ∀ i (hi : i < l.length), (-9223372036854775808 ≤ l[i] ∧ l[i] ≤ 9223372036854775807) ∧ ∃ g o, a = some ⟨g, o, none⟩ ∧ g < w.heap.size ∧
    ∀ j (hj : j < l.length) m, m < 1 → w.cell? ⟨g, o + (j * 1 + m), none⟩ = [Value.int .i64 l[j]][m]?
theorem ints_in {H : Type} {enc : TypeId × Value → H} {W : World} {base : Nat} {v : Value} {d : DataW H} {p : List MemPlace}
    (hval : Value.okWide Tryz.prog W .any base 40 v) (hd : DataW.Trod enc Tryz.prog W 0 (fun _ => true) true 40 v d p) : ∃ l, RdN W v l := by
  obtain ⟨a, n, cap, rfl⟩ := okWide_slice Tryz.underlying40 hval
  obtain ⟨f, hf⟩ := hd
  obtain ⟨l, a, cap, e, h1, h2, h3⟩ := row_in (W := W) (fun x : Int => [Value.int .i64 x]) (fun x => -9223372036854775808 ≤ x ∧ x ≤ 9223372036854775807) Tryz.underlying40 (c := 1) (by kernel_rfl) (by decide) (fun n cs y hl h => by
    obtain ⟨x, e, _, hw⟩ := DataW.trod_int Tryz.underlying3 h
    exact ⟨x, e, int_wf hw⟩) hf
  exact ⟨l, a, cap, e, h1, h2, h3⟩
theorem RdN.slice {w : World} {v : Value} {l : List Int} (h : RdN w v l) : ∃ a cap, v = .slice a l.length cap := by
  obtain ⟨a, cap, rfl, _⟩ := h
  exact ⟨a, cap, rfl⟩
theorem RdN.at {w w' : World} {l : List Int} {a : Option Addr} {n cap : Nat} (h : RdN w (.slice a n cap) l) (hb : Below w.heap.size w w') {k : Nat} (hk : k < l.length) :
    ∃ g o, a = some ⟨g, o, none⟩ ∧ (-9223372036854775808 ≤ l[k] ∧ l[k] ≤ 9223372036854775807) ∧ w'.cell? ⟨g, o + k, none⟩ = some (.int .i64 l[k]) := by
  obtain ⟨a', cap', e, _, _, hi⟩ := h
  injection e with e1 _ _
  subst e1
  obtain ⟨h0, g, o, rfl, h2, h3⟩ := hi k hk
  refine ⟨g, o, rfl, h0, ?_⟩
  have := h3 k hk 0 (by decide)
  rw [Nat.mul_one, Nat.add_zero] at this
  rw [hb.cell (p := ⟨g, o + k, none⟩) h2]
  exact this
end Go.Proofs.YtahnhhhhfioibaaGreatDoor

namespace Go.Proofs.YtahnhhhhfioibaaGreatDoor
open Go.RowKit Lib

theorem keptST : SliceT Tryz.prog 64 71 putElem.size := SliceT.of (size := 2) (bytes := 24) (z := .agg #[.int .i64 0, .string .empty]) Tryz.underlying64 (by kernel_rfl) rfl (by decide)
abbrev OwnKp (B : Nat) (w : World) (v : Value) (l : List (Nat × List UInt8)) : Prop := Own putElem 71 B w v l
theorem OwnKp.at {B : Nat} {w : World} {o n co : Nat} {ws : List (Nat × List UInt8)} (h : OwnKp B w (.slice (some ⟨o, 0, none⟩) n co) ws) (k : Nat) (hk : k < ws.length) :
    w.cell? ⟨o, k * 2, none⟩ = some (.int .i64 (ws[k]).1) ∧ w.cell? ⟨o, k * 2 + 1, none⟩ = some (.string (bs (ws[k]).2)) := by
  have h0 := (Own.lies h).at k 0 (by decide) hk _ rfl
  have h1 := (Own.lies h).at k 1 (by decide) hk _ rfl
  rw [Nat.zero_add] at h0 h1
  exact ⟨h0, h1⟩
theorem lies_kept (w : World) (i : Nat) (t : List UInt8) : Lies putElem (w.alloc (.cells #[.int .i64 i, .string (bs t)] 71)) w.heap.size 0 [(i, t)] :=
  Lies.of_blk (Blk.new w #[.int .i64 i, .string (bs t)] 71) rfl
/-- The first k of a row of one's own, where they lie. -/
theorem lies_upto {α : Type} {K : Elem α} {E : TypeId} {B : Nat} {w : World} {g n cap : Nat} {l : List α} (h : Own K E B w (.slice (some ⟨g, 0, none⟩) n cap) l) (k : Nat) : Lies K w g 0 (l.take k) := by
  have := Lies.part (Own.lies h) 0 k (Nat.zero_le _)
  rwa [Nat.zero_mul, Nat.zero_add, List.drop_zero] at this
theorem lies_behind {α : Type} {K : Elem α} {E : TypeId} {B : Nat} {w : World} {g n cap : Nat} {l : List α} (h : Own K E B w (.slice (some ⟨g, 0, none⟩) n cap) l) (k : Nat) (hk : k ≤ l.length) : Lies K w g (k * K.size) (l.drop k) := by
  have := Lies.part (Own.lies h) k (l.length - k) hk
  rwa [Nat.zero_add, List.take_of_length_le (by rw [List.length_drop]; exact Nat.le_refl _)] at this
/-- A row of nothing, new; two appends to it. -/
abbrev lit8 (w : World) : World := (w.alloc (.cells #[] 71)).drew
theorem lit8_own (w : World) : OwnKp w.heap.size (lit8 w) (.slice (some ⟨w.heap.size, 0, none⟩) 0 0) [] := own_lit0 putElem 71 w
theorem lit8_below (w : World) : Below w.heap.size w (lit8 w) := ((Below.refl _ w).alloc (Nat.le_refl _) _).drew
theorem lit8_past {B : Nat} {w w1 : World} {v : Value} {l : List (Nat × List UInt8)} (h : OwnKp B w v l) (hg : (lit8 w).grownBy w1 (some w.heap.size)) : OwnKp B w1 v l := by
  have h1 : OwnKp B (lit8 w) v l := Own.below h (lit8_below w) (Nat.le_refl _)
  refine Own.but (S := fun k => k = w.heap.size) h1 ((But.refl (fun k => k = w.heap.size) _).grown hg (fun k e _ => by injection e with e; exact e.symm)) (fun x hx e => ?_)
  have := (h.block x hx).2
  omega
theorem lit8_twice {w w1 w2 : World} {v' : Value} {y : List (Nat × List UInt8)} (hg : (lit8 w).grownBy w1 (some w.heap.size)) (hv' : OwnKp w.heap.size w1 v' y) (hg2 : w1.grownBy w2 v'.ownBlock) : Below w.heap.size w w2 := by
  have h2 : Below w.heap.size w w1 := (lit8_below w).grown hg (lit8_below w).size (fun k e => by injection e with e; omega)
  exact h2.grown hg2 h2.size (fun k hk => (hv'.block k hk).1)
/-- What the row holds of a blob. -/
def keptOf (b : List Nat × Wl.Text) : Nat × List UInt8 := (b.1.headD 0, b.2)
/-- The law's state: the room, and the row v of the blobs B. -/
structure KS (w : World) (g b tb r n : Nat) (rt : List Nat) (pg : List (Option Wl.Text)) (B : List (List Nat × Wl.Text)) (C : Nat) (v : Value) (R : Nat → Prop) (X : World) : Prop where
  st : St8 w R g b tb r n rt pg C X
  low : ∀ k, k < w.heap.size → R k
  own : OwnKp w.heap.size X v (B.map keptOf)
  hv : ∀ x, v.ownBlock = some x → R x
  bl : Bl.Blobs pg B
  len : pg.length = n - 2
  few : ∀ b ∈ B, b.2.length ≤ 3000
def KT (w : World) (g b tb r n : Nat) (rt : List Nat) (pg : List (Option Wl.Text)) (B : List (List Nat × Wl.Text)) (C : Nat) (v : Value) (X : World) : Prop := ∃ R, KS w g b tb r n rt pg B C v R X
section
variable {w X X' : World} {R : Nat → Prop} {g b tb r n C : Nat} {rt : List Nat} {pg pg' : List (Option Wl.Text)} {B : List (List Nat × Wl.Text)} {v : Value}
theorem KT.below (h : KT w g b tb r n rt pg B C v X) : Below w.heap.size w X := by
  obtain ⟨R, h⟩ := h
  exact h.st.below
theorem KT.more (h : KT w g b tb r n rt pg B C v X) {C' : Nat} (hC : C ≤ C') : KT w g b tb r n rt pg B C' v X := by
  obtain ⟨R, h⟩ := h
  exact ⟨R, { h with st := h.st.more hC }⟩
theorem KS.still (h : KS w g b tb r n rt pg B C v R X) (hb : Below X.heap.size X X') : KS w g b tb r n rt pg B C v R X' :=
  { h with st := h.st.still hb, own := Own.below h.own hb (Nat.le_refl _) }
theorem KT.still (h : KT w g b tb r n rt pg B C v X) (hb : Below X.heap.size X X') : KT w g b tb r n rt pg B C v X' := by
  obtain ⟨R, h⟩ := h
  exact ⟨R, h.still hb⟩
theorem KT.form (h : KT w g b tb r n rt pg B C v X) : ∃ a cap, v = .slice a B.length cap ∧ B.length ≤ cap := by
  obtain ⟨R, h⟩ := h
  obtain ⟨a, cap, e, hc⟩ := Own.slice h.own
  rw [List.length_map] at e hc
  exact ⟨a, cap, e, hc⟩
theorem KT.count (h : KT w g b tb r n rt pg B C v X) : B.length ≤ Rm.used pg := by
  obtain ⟨R, h⟩ := h
  rw [h.bl.used]
  have key : ∀ B : List (List Nat × Wl.Text), (∀ b ∈ B, Bl.Chain pg 0xb0 b.1 b.2) → B.length ≤ (B.flatMap (·.1)).length := by
    intro B
    induction B with
    | nil => intro _; exact Nat.le_refl _
    | cons x B ih =>
      intro hx
      rw [List.flatMap_cons, List.length_append, List.length_cons]
      have h1 := ih fun b hb => hx b (List.mem_cons_of_mem _ hb)
      have h2 := (hx x List.mem_cons_self).length
      have := Bl.need_pos x.2.length
      omega
  exact key B h.bl.each
theorem KT.small (h : KT w g b tb r n rt pg B C v X) : Rm.used pg ≤ n - 2 ∧ pg.length = n - 2 := by
  obtain ⟨R, h⟩ := h
  have := Rm.used_le pg
  have := h.len
  exact ⟨by omega, this⟩
/-- The blob k. -/
theorem KT.blob (h : KT w g b tb r n rt pg B C v X) {k : Nat} (hk : k < B.length) : ∃ p l0, B[k].1 = p :: l0 ∧ Bl.Chain pg 0xb0 (p :: l0) B[k].2 ∧ (p :: l0).Nodup ∧ B[k].2.length ≤ 3000 := by
  obtain ⟨R, h⟩ := h
  have hm : B[k] ∈ B := List.getElem_mem hk
  have hc := h.bl.each _ hm
  have hn : (B[k].1).Nodup := by
    have ha := h.bl.apart
    rw [Bl.split_at hk, List.flatMap_append, List.flatMap_cons, List.nodup_append, List.nodup_append] at ha
    exact ha.2.1.1
  have hf := h.few _ hm
  cases e : B[k].1 with
  | nil => rw [e] at hc; exact hc.elim
  | cons p l0 => rw [e] at hc hn; exact ⟨p, l0, rfl, hc, hn, hf⟩
theorem KT.cells (h : KT w g b tb r n rt pg B C v X) {k : Nat} (hk : k < B.length) : ∃ gv cap, v = .slice (some ⟨gv, 0, none⟩) B.length cap ∧ B.length ≤ cap ∧ X.cell? ⟨gv, k * 2, none⟩ = some (.int .i64 (B[k].1.headD 0 : Nat)) ∧ X.cell? ⟨gv, k * 2 + 1, none⟩ = some (.string (bs B[k].2)) := by
  obtain ⟨R, h⟩ := h
  obtain ⟨gv, cap, e, _, _, hc⟩ := Own.form h.own (by rw [List.length_map]; omega)
  have ho := h.own
  rw [e] at ho
  have := OwnKp.at ho k (by rw [List.length_map]; exact hk)
  rw [List.length_map] at e hc
  rw [List.getElem_map] at this
  exact ⟨gv, cap, e, hc, this⟩
theorem kt_used (h : KT w g b tb r n rt pg B C v X) :
    Calls Tryz.prog 37 #[ptr r] X fun e X' => e = .returned (.tuple #[.int .i64 (Rm.used pg : Nat), .int .i64 0]) ∧ KT w g b tb r n rt pg B C v X' ∧ Below X.heap.size X X' := by
  obtain ⟨R, h⟩ := h
  refine (st8_used h.st).mono ?_
  rintro e X' ⟨rfl, _, hb⟩
  exact ⟨rfl, ⟨R, h.still hb⟩, hb⟩
theorem kt_has (h : KT w g b tb r n rt pg B C v X) (i : Int) :
    Calls Tryz.prog 35 #[ptr r, .int .i64 i] X fun e X' => e = .returned (.tuple #[.bool (Rm.has pg i), .int .i64 (Rm.hasNo pg i)]) ∧ KT w g b tb r n rt pg B C v X' ∧ Below X.heap.size X X' := by
  obtain ⟨R, h⟩ := h
  refine (st8_has h.st i).mono ?_
  rintro e X' ⟨rfl, _, hb⟩
  exact ⟨rfl, ⟨R, h.still hb⟩, hb⟩
theorem kt_get (h : KT w g b tb r n rt pg B C v X) (p : Nat) (l0 : List Nat) (s : ByteArray) (hc : Bl.Chain pg 0xb0 (p :: l0) s.data.toList) (hs : s.size ≤ 131072) :
    Calls Tryz.prog 36 #[ptr r, .int .i64 p] X fun e X' => e = .returned (.tuple #[.string s, .int .i64 0]) ∧ KT w g b tb r n rt pg B C v X' ∧ Below X.heap.size X X' := by
  obtain ⟨R, h⟩ := h
  refine (st8_get h.st p l0 s hc hs).mono ?_
  rintro e X' ⟨rfl, _, hb⟩
  exact ⟨rfl, ⟨R, h.still hb⟩, hb⟩
theorem kt_get_no (h : KT w g b tb r n rt pg B C v X) (i : Int) (hr : Rm.refuse pg i ≠ 0) :
    Calls Tryz.prog 36 #[ptr r, .int .i64 i] X fun e X' => e = .returned (.tuple #[.string ⟨#[]⟩, .int .i64 (Rm.refuse pg i)]) ∧ KT w g b tb r n rt pg B C v X' ∧ Below X.heap.size X X' := by
  obtain ⟨R, h⟩ := h
  refine (st8_get_no h.st i hr).mono ?_
  rintro e X' ⟨rfl, _, hb⟩
  exact ⟨rfl, ⟨R, h.still hb⟩, hb⟩
theorem kt_drop_no (h : KT w g b tb r n rt pg B C v X) (i : Int) (hr : Rm.refuse pg i ≠ 0) :
    Calls Tryz.prog 34 #[ptr r, .int .i64 i] X fun e X' => e = .returned (.int .i64 (Rm.refuse pg i)) ∧ KT w g b tb r n rt pg B C v X' ∧ Below X.heap.size X X' := by
  obtain ⟨R, h⟩ := h
  refine (st8_drop_no h.st i hr).mono ?_
  rintro e X' ⟨rfl, _, hb⟩
  exact ⟨rfl, ⟨R, h.still hb⟩, hb⟩
theorem kt_put_no (h : KT w g b tb r n rt pg B C v X) (s : ByteArray) (hr : Bl.refused pg s.size ≠ 0) (hs : s.size ≤ 1000000) :
    Calls Tryz.prog 33 #[ptr r, .string s] X fun e X' => e = .returned (.tuple #[.int .i64 0, .int .i64 (Bl.refused pg s.size)]) ∧ KT w g b tb r n rt pg B C v X' ∧ Below X.heap.size X X' := by
  obtain ⟨R, h⟩ := h
  refine (st8_put_no h.st s hr hs).mono ?_
  rintro e X' ⟨rfl, _, hb⟩
  exact ⟨rfl, ⟨R, h.still hb⟩, hb⟩
/-- What List answers the law. -/
def ListK (w : World) (g b tb r n : Nat) (rt : List Nat) (pg : List (Option Wl.Text)) (B : List (List Nat × Wl.Text)) (C : Nat) (v : Value) (X : World) (l : List Nat) (e : Ending) (X' : World) : Prop :=
  ∃ u, e = .returned (.tuple #[u, .int .i64 0]) ∧ OwnPg X.heap.size X' u l ∧ KT w g b tb r n rt pg B C v X' ∧ Below X.heap.size X X'
theorem kt_list (h : KT w g b tb r n rt pg B C v X) (p : Nat) (l0 : List Nat) (s : ByteArray) (hc : Bl.Chain pg 0xb0 (p :: l0) s.data.toList) (hs : s.size ≤ 131072) :
    Calls Tryz.prog 38 #[ptr r, .int .i64 p] X fun e X' => ListK w g b tb r n rt pg B C v X (p :: l0) e X' := by
  obtain ⟨R, h⟩ := h
  refine (st8_list h.st p l0 s hc hs).mono ?_
  rintro e X' ⟨u, rfl, ho, _, hb⟩
  exact ⟨u, rfl, ho, ⟨R, h.still hb⟩, hb⟩
/-- A new map of the law's own, and its stores. -/
def KM (w : World) (g b tb r n : Nat) (rt : List Nat) (pg : List (Option Wl.Text)) (B : List (List Nat × Wl.Text)) (C : Nat) (v : Value) (q : Nat) (M : Wl.Grp) (X : World) : Prop :=
  KT w g b tb r n rt pg B C v X ∧ BMap X q M ∧ ∃ R, KS w g b tb r n rt pg B C v R X ∧ R q ∧ w.heap.size ≤ q
theorem KM.still {q : Nat} {M : Wl.Grp} (h : KM w g b tb r n rt pg B C v q M X) (hb : Below X.heap.size X X') : KM w g b tb r n rt pg B C v q M X' := by
  obtain ⟨h1, h2, R, h3, h4, h5⟩ := h
  exact ⟨h1.still hb, h2.but (But.of_below hb (fun _ => False)) id, R, h3.still hb, h4, h5⟩
set_option maxRecDepth 100000 in
theorem KM.new (h : KT w g b tb r n rt pg B C v X) : KM w g b tb r n rt pg B C v X.heap.size [] (X.alloc (.map #[] 0)) := by
  have hb : Below X.heap.size X (X.alloc (.map #[] 0)) := (Below.refl _ X).alloc (Nat.le_refl _) _
  refine ⟨h.still hb, IMap.made _ _ _ _, ?_⟩
  have hw := h.below.size
  obtain ⟨R, h⟩ := h
  refine ⟨fun k => R k ∨ k = X.heap.size, { h with st := h.st.hold hb (fun k hk => hk.imp_right fun e => by rw [e, World.size_alloc]; omega) (.inl h.st.rr.1), low := fun k hk => .inl (h.low k hk), own := Own.below h.own hb (Nat.le_refl _), hv := fun x hx => .inl (h.hv x hx) }, .inr rfl, hw⟩
set_option maxRecDepth 100000 in
theorem KM.store {q : Nat} {M : Wl.Grp} (h : KM w g b tb r n rt pg B C v q M X) {x : Nat} (hx : x ≤ 1000000) (hM : M.length ≤ 1000000) :
    ∃ X', (Instr.mapUpdate 77 (.map (some q)) (.int .i64 x) (.bool true)).run Tryz.prog X = .ok () X' ∧ KM w g b tb r n rt pg B C v q (Wl.ins x [1] M) X' ∧ But (fun k => k = q) X X' := by
  obtain ⟨h1, h2, R, h3, h4, h5⟩ := h
  obtain ⟨X', hrun, hM9, hg⟩ := IMap.store (T := 77) h2 underInt underBMap hM (k := x) hx (t := [1]) (.inr rfl)
  have hb : But (fun k => k = q) X X' := (But.refl (fun k => k = q) X).grown hg (fun k e _ => by injection e with e; exact e.symm)
  obtain ⟨es, clock, hq⟩ := h2.isMap
  have hqr : q ≠ r := fun e => by
    obtain ⟨ps, h6, _, _⟩ := h3.st
    have := h6.blk
    unfold Blk at this
    rw [← e, hq] at this
    cases this
  have hqo : ∀ k, v.ownBlock = some k → ¬ k = q := fun k hk e => by
    rcases h3.own.2 with ⟨e0, _⟩ | ⟨g', cap, cur, e0, _, hh, _⟩
    · rw [e0] at hk; cases hk
    · rw [e0] at hk
      have e1 : some g' = some k := hk
      injection e1 with e1
      rw [e1, e, hq] at hh
      cases hh
  have h6 : KS w g b tb r n rt pg B C v R X' := { h3 with st := h3.st.turn hb (fun k _ e => ⟨e ▸ h4, e ▸ hqr, e ▸ h5⟩), own := Own.but h3.own hb hqo }
  exact ⟨X', hrun, ⟨⟨R, h6⟩, hM9, R, h6, h4, h5⟩, hb⟩
/-- Between a call that turned the room and the law's own row's turn: the row still holds L. -/
structure KP (w : World) (g b tb r n : Nat) (rt : List Nat) (pg : List (Option Wl.Text)) (B : List (List Nat × Wl.Text)) (L : List (Nat × List UInt8)) (C : Nat) (v : Value) (R : Nat → Prop) (X : World) : Prop where
  st : St8 w R g b tb r n rt pg C X
  low : ∀ k, k < w.heap.size → R k
  own : OwnKp w.heap.size X v L
  hv : ∀ x, v.ownBlock = some x → R x
  bl : Bl.Blobs pg B
  len : pg.length = n - 2
  few : ∀ b ∈ B, b.2.length ≤ 3000
theorem KP.below {L : List (Nat × List UInt8)} (h : KP w g b tb r n rt pg B L C v R X) : Below w.heap.size w X := h.st.below
theorem KP.still {L : List (Nat × List UInt8)} (h : KP w g b tb r n rt pg B L C v R X) (hb : Below X.heap.size X X') : KP w g b tb r n rt pg B L C v R X' :=
  { h with st := h.st.still hb, own := Own.below h.own hb (Nat.le_refl _) }
/-- What Put leaves the law. -/
def PutK (w : World) (g b tb r n : Nat) (rt : List Nat) (pg : List (Option Wl.Text)) (B : List (List Nat × Wl.Text)) (C : Nat) (v : Value) (s : ByteArray) (e : Ending) (X' : World) : Prop :=
  ∃ p l0 qg R, e = .returned (.tuple #[.int .i64 (p : Nat), .int .i64 0]) ∧ Rm.used qg = Rm.used pg + Bl.need s.size ∧ KP w g b tb r n rt qg (B ++ [(p :: l0, s.data.toList)]) (B.map keptOf) (C + 1040) v R X'
theorem kt_put (h : KT w g b tb r n rt pg B C v X) (hC : C ≤ 500000) (s : ByteArray) (hr : Bl.refused pg s.size = 0) (hs : s.size ≤ 3000) :
    Calls Tryz.prog 33 #[ptr r, .string s] X fun e X' => PutK w g b tb r n rt pg B C v s e X' := by
  obtain ⟨R, h⟩ := h
  refine (st8_put h.st h.low hC s hr).mono ?_
  rintro e X' ⟨p, l0, qg, rfl, hp, hst, hb⟩
  refine ⟨p, l0, qg, R, rfl, ?_, hst, h.low, Own.but h.own hb (fun x hx hn => hn (h.hv x hx)), h.hv, h.bl.put hp, by rw [hp.len]; exact h.len, fun b hb => ?_⟩
  · rw [hp.used, show s.data.toList.length = s.size from Array.length_toList]
  · rcases List.mem_append.1 hb with hb | hb
    · exact h.few b hb
    · rw [List.mem_singleton.1 hb]
      show s.data.toList.length ≤ 3000
      rw [show s.data.toList.length = s.size from Array.length_toList]
      exact hs
theorem KP.append {L : List (Nat × List UInt8)} {x : Nat × List UInt8} {X2 : World} {v' : Value} {o : Obj} (h : KP w g b tb r n rt pg B L C v R X) (hown : OwnKp w.heap.size X2 v' (L ++ [x])) (hg : (X.alloc o).grownBy X2 v.ownBlock) (hw : v'.ownBlock = v.ownBlock ∨ ∀ k, v'.ownBlock = some k → (X.alloc o).heap.size ≤ k) (hL : L ++ [x] = B.map keptOf) : KT w g b tb r n rt pg B C v' X2 := by
  have hs1 : (X.alloc o).heap.size = X.heap.size + 1 := World.size_alloc _ _
  have hs2 := hg.size
  have hb : But (fun k => v.ownBlock = some k) X X2 := ((But.refl (fun k => v.ownBlock = some k) X).alloc o).grown hg (fun k e _ => e)
  have hR' : ∀ k, (R k ∨ v'.ownBlock = some k) → R k ∨ (X.heap.size ≤ k ∧ k < X2.heap.size) := fun k hk => hk.elim .inl fun e => hw.elim (fun e2 => .inl (h.hv k (e2 ▸ e))) fun f => .inr ⟨by have := f k e; omega, (hown.block k e).2⟩
  obtain ⟨ps, h1, h2, h3⟩ := h.st
  have hvr : ¬ v.ownBlock = some r := Own.ne_blk h.own h1.blk (by decide)
  refine ⟨fun k => R k ∨ v'.ownBlock = some k, ⟨⟨ps, h1.turn hb (fun k _ hk => h.hv k hk) hvr hR' (.inl h1.rr), h2, ?_⟩, fun k hk => .inl (h.low k hk), hL ▸ hown, fun _ hx => .inr hx, h.bl, h.len, h.few⟩⟩
  exact h3.trans (hb.below h3.size fun k hk e => by have := (h.own.block k e).1; omega)
/-- What Drop leaves the law. -/
def DropK (w : World) (g b tb r n : Nat) (rt : List Nat) (pg : List (Option Wl.Text)) (B : List (List Nat × Wl.Text)) (k : Nat) (C : Nat) (v : Value) (e : Ending) (X' : World) : Prop :=
  ∃ qg R, e = .returned (.int .i64 0) ∧ (∀ hk : k < B.length, Rm.used qg + Bl.need (B[k].2.length) = Rm.used pg) ∧ KP w g b tb r n rt qg (B.take k ++ B.drop (k + 1)) (B.map keptOf) (C + 520) v R X'
theorem kt_drop (h : KT w g b tb r n rt pg B C v X) (hC : C ≤ 500000) {k : Nat} (hk : k < B.length) :
    Calls Tryz.prog 34 #[ptr r, .int .i64 (B[k].1.headD 0 : Nat)] X fun e X' => DropK w g b tb r n rt pg B k C v e X' := by
  obtain ⟨p, l0, e1, hc, hn, hs⟩ := h.blob hk
  obtain ⟨R, h⟩ := h
  have hp : B[k].1.headD 0 = p := by rw [e1]; rfl
  rw [hp]
  have hsz : (bs B[k].2).size = B[k].2.length := bs_size _
  refine (st8_drop h.st h.low hC p l0 (bs B[k].2) hc (by omega) hn).mono ?_
  rintro e X' ⟨rfl, hst, hb⟩
  refine ⟨_, R, rfl, fun _ => ?_, hst, h.low, Own.but h.own hb (fun x hx hn => hn (h.hv x hx)), h.hv, ?_, by rw [Bl.dropped_length]; exact h.len, fun b hb => ?_⟩
  · have h1 := Bl.dropped_used (p :: l0) pg hn hc.taken
    rw [hc.length] at h1
    exact h1
  · rw [← e1]; exact h.bl.drop hk
  · refine h.few b ?_
    rcases List.mem_append.1 hb with hb | hb
    · exact List.mem_of_mem_take hb
    · exact List.mem_of_mem_drop hb
theorem KP.anew {L : List (Nat × List UInt8)} {X2 : World} {v' : Value} (h : KP w g b tb r n rt pg B L C v R X) (hown : OwnKp X.heap.size X2 v' (B.map keptOf)) (hb : Below X.heap.size X X2) : KT w g b tb r n rt pg B C v' X2 :=
  ⟨fun k => R k ∨ v'.ownBlock = some k, ⟨h.st.hold hb (fun k hk => hk.imp_right fun e => hown.block k e) (.inl h.st.rr.1), fun k hk => .inl (h.low k hk), Own.mono hown h.below.size, fun _ hx => .inr hx, h.bl, h.len, h.few⟩⟩
end
end Go.Proofs.YtahnhhhhfioibaaGreatDoor
