/- Walks of a cutter's functions. -/
import Derived.Test.YtaahbankiidgkaaTurnBits
import Derived.Test.YtaahbankiidgkaaCutMath
import Derived.Test.YtaahbankiidgkaaKit
import Derived.Deep.RegionHeld3
import Derived.ScopeJumps
import Derived.Laws.Rows
import Derived.Laws.Tables
import Derived.Laws.IdiomStrings
namespace Go.Proofs.Ytaahbankiidgkaa
open Go.RowKit Fx

theorem But.setRow {S : Nat → Prop} {a w : World} (h : But S a w) (g : Nat) (cs : Array Value) (hp : g < a.heap.size → S g) : But S a (w.setRow g cs) :=
  h.trans (T := fun k => k = g) ⟨rfl, rfl, rfl, by simp, fun k _ hn => setRow_other _ _ _ _ hn⟩ fun i hi e => by subst e; exact hp hi

def bcell (b : UInt8) : Value := .int .u8 (b.toNat : Int)
/-- A cutter's cells: its bytes, how many are held, their sum. -/
def cutCells (bs : List UInt8) (n : Nat) (x y : Nat) : List Value := bs.map bcell ++ [.int .i64 n, .complex .f64 x y]
def zeroCutter : List Value := cutCells (List.replicate 128 0) 0 0 0
theorem zero_cutter (w : World) : (zeroValue 40).run Try.prog w = .ok (.agg zeroCutter.toArray) w := by kernel_rfl

/-- A cutter that holds h lies in block g. -/
def Cutter (w : World) (g : Nat) (h : List UInt8) : Prop :=
  ∃ (j : List UInt8) (x y : Nat), h.length + j.length = 128 ∧ CRep x y (Tn.sum (Ct.last8 h)).1 (Tn.sum (Ct.last8 h)).2 ∧ Blk w g 40 (cutCells (h ++ j) h.length x y)

theorem cutCells_byte (bs : List UInt8) (n x y : Nat) (k : Nat) (hk : k < bs.length) : (cutCells bs n x y)[k]? = some (bcell bs[k]) := by
  unfold cutCells
  rw [List.getElem?_append_left (by simpa using hk)]
  simp [hk]
theorem cutCells_size (bs : List UInt8) (n x y : Nat) (hl : bs.length = 128) : (cutCells bs n x y)[128]? = some (.int .i64 n) := by
  unfold cutCells
  rw [List.getElem?_append_right (by simp [hl])]
  simp [hl]
theorem cutCells_sum (bs : List UInt8) (n x y : Nat) (hl : bs.length = 128) : (cutCells bs n x y)[129]? = some (.complex .f64 x y) := by
  unfold cutCells
  rw [List.getElem?_append_right (by simp [hl])]
  simp [hl]
theorem cutCells_len (bs : List UInt8) (n x y : Nat) (hl : bs.length = 128) : (cutCells bs n x y).length = 130 := by
  unfold cutCells; simp [hl]

theorem Cutter.new_cells (w : World) (g : Nat) (hb : Blk w g 40 zeroCutter) : Cutter w g [] := ⟨List.replicate 128 0, 0, 0, by simp, ⟨rep_zero, rep_zero⟩, hb⟩
theorem Cutter.lt {w : World} {g : Nat} {h : List UInt8} (hc : Cutter w g h) : g < w.heap.size := by obtain ⟨j, x, y, _, _, hb⟩ := hc; exact hb.lt
theorem Cutter.but {S : Nat → Prop} {w w' : World} {g : Nat} {h : List UInt8} (hc : Cutter w g h) (hb : But S w w') (hn : ¬ S g) : Cutter w' g h := by
  obtain ⟨j, x, y, a, b, c⟩ := hc
  exact ⟨j, x, y, a, b, c.but hb hn⟩

theorem new_any (w : World) :
    Calls Try.prog 11 #[] w fun e w' => e = .returned (.pointer (some ⟨w.heap.size, 0, none⟩)) ∧ Cutter w' w.heap.size [] ∧ Below w.heap.size w w' ∧ w.heap.size < w'.heap.size := by
  obtain ⟨Z, hZ⟩ : ∃ Z, Z = zeroCutter.toArray := ⟨_, rfl⟩
  have hz := fun w => zero_cutter w
  rw [← hZ] at hz
  have hs : Z.size = 130 := by rw [hZ]; rfl
  have hn : ¬ Z = #[] := by intro h; rw [h] at hs; cases hs
  have HZ := Lib.hid hZ
  clear hZ
  go_enter Try.func11, Try.ntmps11
  go_wp2
  go_ret
  refine ⟨rfl, Cutter.new_cells _ _ ?_, (Below.refl _ _).alloc (Nat.le_refl _) _, by simp⟩
  have := Blk.new w Z 40
  rw [HZ.out] at this ⊢
  exact this

theorem end_any (w : World) (g : Nat) (h : List UInt8) (hc : Cutter w g h) :
    Calls Try.prog 13 #[.pointer (some ⟨g, 0, none⟩)] w fun e w' => e = .returned (.string ⟨h.toArray⟩) ∧ Cutter w' g [] ∧ But (· = g) w w' := by
  obtain ⟨j, x, y, hl, hr, hb⟩ := hc
  have hl' : (h ++ j).length = 128 := by rw [List.length_append]; exact hl
  have c128 : w.cell? ⟨g, 128, none⟩ = some (.int .i64 h.length) := hb.cell (cutCells_size _ _ _ _ hl')
  have hcv : ∀ k, (convert 32 9 (.slice (some ⟨g, 0, none⟩) h.length 128)).run Try.prog (w.drewN k) = .ok (.string ⟨h.toArray⟩) (w.drewN k) := by
    intro k
    refine run_convert_bytes_back _ 32 9 5 _ 128 h (by kernel_rfl) (by kernel_rfl) (by kernel_rfl) ?_
    intro i hi
    have hb' : Blk (w.drewN k) g 40 (cutCells (h ++ j) h.length x y) := hb
    have := hb'.cell (cutCells_byte (h ++ j) h.length x y i (by rw [List.length_append]; omega))
    rw [List.getElem_append_left hi] at this
    rw [show (⟨g, 0, none⟩ : Addr).add i = ⟨g, i, none⟩ by unfold Addr.add; split <;> simp_all]
    exact this
  obtain ⟨Z, hZ⟩ : ∃ Z, Z = zeroCutter.toArray := ⟨_, rfl⟩
  have hz := fun w => zero_cutter w
  rw [← hZ] at hz
  have hs : Z.size = 130 := by rw [hZ]; rfl
  have hn : ¬ Z = #[] := by intro h; rw [h] at hs; cases hs
  have HZ := Lib.hid hZ
  clear hZ
  have h128 : h.length ≤ 128 := by omega
  have hsl : ∀ w, (Instr.sliceAt 37 (.pointer (some ⟨g, 0, none⟩)) none (some (.int .i64 h.length)) none).run Try.prog w = .ok (.slice (some ⟨g, 0, none⟩) h.length 128) w := by
    intro w
    have e1 : Try.prog.arrayLen 37 = 128 := by kernel_rfl
    have e2 : Try.prog.elem 37 = 5 := by kernel_rfl
    have e3 := run_sliceAt_array_h (P := Try.prog) w 37 ⟨g, 0, none⟩ (by rw [e1, e2]; kernel_rfl) .i64 h.length (by omega) (by rw [e1]; omega)
    rw [e3, e1, e2]
    show ((sizeOf 5).run Try.prog w).andThen _ = _
    rw [Try.sizeOf5]
    simp [go_sem, Addr.add]
  have hst : ∀ k, (storeCells ⟨g, 0, none⟩ Z.toList).run Try.prog (w.drewN k) = .ok () ((w.drewN k).setRow g Z) := by
    intro k
    have hb' : (w.drewN k).heap[g]? = some (.cells (cutCells (h ++ j) h.length x y).toArray 40 (0, 0)) := hb
    have := run_storeCells_from (P := Try.prog) g _ Z.toList 0 _ _ hb' (by rw [List.size_toArray, cutCells_len _ _ _ _ hl', Array.length_toList, hs]) (fun v hv => by
      rw [HZ.out] at hv
      have : (zeroCutter.all fun v => v.oneCell') = true := by decide
      exact List.all_eq_true.1 this v (by simpa using hv))
    rw [this]
    simp
  go_enter Try.func13, Try.ntmps13
  go_wp2_with fail
  go_quiet (fail)
  go_wp2
  go_ret
  have hb' : (w.drewN nq).heap[g]? = some (.cells (cutCells (h ++ j) h.length x y).toArray 40 (0, 0)) := hb
  refine ⟨rfl, Cutter.new_cells _ _ ?_, ((But.refl _ w).drewN nq).setRow _ _ (fun _ => rfl)⟩
  have := setRow_heap _ g _ Z _ _ hb'
  rw [HZ.out] at this ⊢
  exact this
theorem cells_put_byte (h js : List UInt8) (j0 b : UInt8) (n x y : Nat) : (cutCells (h ++ j0 :: js) n x y).set h.length (bcell b) = cutCells (h ++ b :: js) n x y := by
  unfold cutCells
  rw [List.set_append_left _ _ (by simp)]
  simp
theorem cells_put_sum (bs : List UInt8) (hl : bs.length = 128) (n x y x' y' : Nat) : (cutCells bs n x y).set 129 (.complex .f64 x' y') = cutCells bs n x' y' := by
  unfold cutCells
  rw [List.set_append_right _ _ (by simp [hl])]
  simp [hl]
theorem cells_put_size (bs : List UInt8) (hl : bs.length = 128) (n m x y : Nat) : (cutCells bs n x y).set 128 (.int .i64 m) = cutCells bs m x y := by
  unfold cutCells
  rw [List.set_append_right _ _ (by simp [hl])]
  simp [hl]

set_option maxRecDepth 100000 in
set_option maxHeartbeats 1000000 in
theorem take_any (w : World) (g : Nat) (h : List UInt8) (b : UInt8) (hc : Cutter w g h) (hlt : h.length < 128) :
    Calls Try.prog 16 #[.pointer (some ⟨g, 0, none⟩), .int .u8 b.toNat] w fun e w' => e = .returned (.tuple #[]) ∧ Cutter w' g (h ++ [b]) ∧ But (· = g) w w' := by
  obtain ⟨j, x, y, hl, hr, hb⟩ := hc
  obtain ⟨j0, js, rfl⟩ : ∃ j0 js, j = j0 :: js := by cases j with
    | nil => simp at hl; omega
    | cons a l => exact ⟨a, l, rfl⟩
  have hl' : (h ++ j0 :: js).length = 128 := by rw [List.length_append]; exact hl
  have hbd := Tn.sum_bound (Ct.last8 h)
  have h8l : (Ct.last8 h).length ≤ 8 := by unfold Ct.last8; rw [List.length_drop]; omega
  have hbt := b.toNat_lt
  have hI : (h.length : Int) < 128 := by omega
  have c128 : w.cell? ⟨g, 128, none⟩ = some (.int .i64 h.length) := hb.cell (cutCells_size _ _ _ _ hl')
  have c129 : w.cell? ⟨g, 129, none⟩ = some (.complex .f64 x y) := hb.cell (cutCells_sum _ _ _ _ hl')
  have f129 : w.frozen? ⟨g, 129, none⟩ = false := hb.frozen 129
  by_cases h8 : 8 ≤ h.length
  · have hg8 : decide ((h.length : Int) ≥ 8) = true := by simp; omega
    have hw8 : IntKind.i64.wrap ((h.length : Int) - 8) = ((h.length - 8 : Nat) : Int) := by rw [IntKind.wrap_i64]; omega
    have co : w.cell? ⟨g, h.length - 8, none⟩ = some (.int .u8 (h[h.length - 8]'(by omega)).toNat) := by
      have := hb.cell (cutCells_byte (h ++ j0 :: js) h.length x y (h.length - 8) (by omega))
      rw [List.getElem_append_left (by omega)] at this
      exact this
    go_enter Try.func16, Try.ntmps16
    go_wp2_with fail
    go_quiet (fail)
    obtain ⟨W, hW⟩ : ∃ W, W = w.drewN nq := ⟨_, rfl⟩
    rw [← hW]
    have hbW : Blk W g 40 (cutCells (h ++ j0 :: js) h.length x y) := by rw [hW]; exact hb
    have hbut : But (· = g) w W := by rw [hW]; exact (But.refl _ w).drewN nq
    clear hW c128 c129 f129 hb
    have c129 : W.cell? ⟨g, 129, none⟩ = some (.complex .f64 x y) := hbW.cell (cutCells_sum _ _ _ _ hl')
    have f129 : W.frozen? ⟨g, 129, none⟩ = false := hbW.frozen 129
    go_wp2_with fail
    refine (roll_any x y _ _ 8 (h[h.length - 8]'(by omega)).toNat b.toNat hr (UInt8.toNat_lt _) hbt (by omega) (by omega) (by omega) (by omega) _).mono ?_
    rintro e w1 ⟨⟨x', y', rfl, r'⟩, rfl⟩
    have hst : (store ⟨g, 129, none⟩ (.complex .f64 x' y')).run Try.prog w1 = .ok () (w1.setCell ⟨g, 129, none⟩ (.complex .f64 x' y')) := by
      rw [run_store _ _ _ _ _ rfl, c129]
      simp [f129]
    go_wp2_with (refine wp_region_any (by kernel_rfl) ?_; refine Hid.out ?_)
    refine Lib.hid ?_
    obtain ⟨V, hV⟩ : ∃ V, V = w1.setCell ⟨g, 129, none⟩ (.complex .f64 x' y') := ⟨_, rfl⟩
    rw [← hV]
    have hbV : Blk V g 40 (cutCells (h ++ j0 :: js) h.length x' y') := by
      rw [hV, ← cells_put_sum _ hl' h.length x y x' y']; exact hbW.set _ _
    have hbutV : But (· = g) w V := by rw [hV]; exact hbut.setCell _ _ (fun _ => rfl)
    clear hV hst c129 f129 hbW hbut
    have c128 : V.cell? ⟨g, 128, none⟩ = some (.int .i64 h.length) := hbV.cell (cutCells_size _ _ _ _ hl')
    have ch : V.cell? ⟨g, h.length, none⟩ = some (.int .u8 j0.toNat) := by
      have := hbV.cell (cutCells_byte (h ++ j0 :: js) h.length x' y' h.length (by omega))
      rw [List.getElem_append_right (Nat.le_refl _)] at this
      simp only [Nat.sub_self, List.getElem_cons_zero] at this
      exact this
    have fh : V.frozen? ⟨g, h.length, none⟩ = false := hbV.frozen _
    try (change wpAny _ _ _ _ _ _ _ (World.drew _))
    refine wpAny_take (i := 0) (v := ?_) rfl (by kernel_rfl) (by kernel_rfl) (by kernel_rfl) (fun _ _ _ h => h) (Or.inl ⟨by rfl, ?_⟩) ?_
    rotate_left
    · intro w; go_simp; try with_reducible rfl
    refine wpAny_take (i := 1) (v := ?_) rfl (by kernel_rfl) (by kernel_rfl) (by kernel_rfl) (fun _ _ _ h => h) (Or.inl ⟨by rfl, ?_⟩) ?_
    rotate_left
    · intro w; go_simp; try with_reducible rfl
    refine wpAny_take (i := 2) (v := ?_) rfl (by kernel_rfl) (by kernel_rfl) (by kernel_rfl) (fun _ _ _ h => h) (Or.inl ⟨by rfl, ?_⟩) ?_
    rotate_left
    · intro w; go_simp; try with_reducible rfl
    refine wpAny_take (i := 3) (v := ?_) rfl (by kernel_rfl) (by kernel_rfl) (by kernel_rfl) (fun _ _ _ h => h) (Or.inl ⟨by rfl, ?_⟩) ?_
    rotate_left
    · intro w; go_simp; try with_reducible rfl
    refine wpAny_take (i := 5) (v := ?_) rfl (by kernel_rfl) (by kernel_rfl) (by kernel_rfl) (fun _ _ _ h => h) (Or.inl ⟨by rfl, ?_⟩) ?_
    rotate_left
    · intro w; go_simp; try with_reducible rfl
    refine wpAny_take (i := 6) (v := ?_) rfl (by kernel_rfl) (by kernel_rfl) (by kernel_rfl) (fun _ _ _ h => h) (Or.inl ⟨by rfl, ?_⟩) ?_
    rotate_left
    · intro w; go_simp; try with_reducible rfl
    refine wpAny_take (i := 7) (v := ?_) rfl (by kernel_rfl) (by kernel_rfl) (by kernel_rfl) (fun _ _ _ h => h) (Or.inl ⟨by rfl, ?_⟩) ?_
    rotate_left
    · intro w; go_simp; try with_reducible rfl
    refine wpAny_ready (rs := [4]) (by kernel_rfl) (by simp) ?_
    refine AllReady.cons rfl (fun K hK => ?_) AllReady.nil
    go_simp
    refine hK _ _ ?_; clear hK K
    refine wpAny_ready (rs := [8]) (by kernel_rfl) (by simp) ?_
    refine AllReady.cons rfl (fun K hK => ?_) AllReady.nil
    go_simp
    refine hK _ _ ?_; clear hK K
    refine wpAny_ready (rs := [9]) (by kernel_rfl) (by simp) ?_
    refine AllReady.cons rfl (fun K hK => ?_) AllReady.nil
    go_simp
    refine hK _ _ ?_; clear hK K
    refine wpAny_done (by kernel_rfl) ?_ _
    obtain ⟨U, hU⟩ : ∃ U, U = (V.setCell ⟨g, h.length, none⟩ (.int .u8 b.toNat)).drew := ⟨_, rfl⟩
    rw [← hU]
    have hbU : Blk U g 40 (cutCells (h ++ b :: js) h.length x' y') := by
      rw [hU, ← cells_put_byte h js j0 b]; exact (hbV.set _ _).drew
    have hbutU : But (· = g) w U := by rw [hU]; exact (hbutV.setCell _ _ (fun _ => rfl)).drew
    clear hU c128 ch fh hbV hbutV
    have hlU : (h ++ b :: js).length = 128 := by simpa using hl'
    have c128 : U.cell? ⟨g, 128, none⟩ = some (.int .i64 h.length) := hbU.cell (cutCells_size _ _ _ _ hlU)
    have f128 : U.frozen? ⟨g, 128, none⟩ = false := hbU.frozen 128
    go_wp2
    refine bodyPost_end (results_none rfl _ _ _) rfl ?_
    have hw1 : (h.length : Int) + 1 = ((h.length + 1 : Nat) : Int) := rfl
    rw [hw1]
    refine ⟨rfl, ⟨js, x', y', ?_, ?_, ?_⟩, hbutU.setCell _ _ (fun _ => rfl)⟩
    · rw [List.length_append, List.length_singleton]; rw [List.length_cons] at hl; omega
    · rw [Ct.sum_long h b h8]; exact r'
    · rw [show h ++ [b] ++ js = h ++ b :: js by simp, List.length_append, List.length_singleton, ← cells_put_size _ hlU h.length _ x' y']
      exact hbU.set _ _
  · have hg8 : decide ((h.length : Int) ≥ 8) = false := by simp; omega
    go_enter Try.func16, Try.ntmps16
    have hbW : Blk w g 40 (cutCells (h ++ j0 :: js) h.length x y) := hb
    have hbut : But (· = g) w w := But.refl _ w
    go_wp2_with fail
    refine (roll_any x y _ _ 8 0 b.toNat hr (by decide) hbt (by omega) (by omega) (by omega) (by omega) _).mono ?_
    rintro e w1 ⟨⟨x', y', rfl, r'⟩, rfl⟩
    have hst : (store ⟨g, 129, none⟩ (.complex .f64 x' y')).run Try.prog w1 = .ok () (w1.setCell ⟨g, 129, none⟩ (.complex .f64 x' y')) := by
      rw [run_store _ _ _ _ _ rfl, c129]
      simp [f129]
    go_wp2_with (refine wp_region_any (by kernel_rfl) ?_; refine Hid.out ?_)
    refine Lib.hid ?_
    obtain ⟨V, hV⟩ : ∃ V, V = w1.setCell ⟨g, 129, none⟩ (.complex .f64 x' y') := ⟨_, rfl⟩
    rw [← hV]
    have hbV : Blk V g 40 (cutCells (h ++ j0 :: js) h.length x' y') := by
      rw [hV, ← cells_put_sum _ hl' h.length x y x' y']; exact hbW.set _ _
    have hbutV : But (· = g) w1 V := by rw [hV]; exact hbut.setCell _ _ (fun _ => rfl)
    clear hV hst c128 c129 f129 hbW hbut
    have c128 : V.cell? ⟨g, 128, none⟩ = some (.int .i64 h.length) := hbV.cell (cutCells_size _ _ _ _ hl')
    have ch : V.cell? ⟨g, h.length, none⟩ = some (.int .u8 j0.toNat) := by
      have := hbV.cell (cutCells_byte (h ++ j0 :: js) h.length x' y' h.length (by omega))
      rw [List.getElem_append_right (Nat.le_refl _)] at this
      simp only [Nat.sub_self, List.getElem_cons_zero] at this
      exact this
    have fh : V.frozen? ⟨g, h.length, none⟩ = false := hbV.frozen _
    try (change wpAny _ _ _ _ _ _ _ (World.drew _))
    refine wpAny_take (i := 0) (v := ?_) rfl (by kernel_rfl) (by kernel_rfl) (by kernel_rfl) (fun _ _ _ h => h) (Or.inl ⟨by rfl, ?_⟩) ?_
    rotate_left
    · intro w; go_simp; try with_reducible rfl
    refine wpAny_take (i := 1) (v := ?_) rfl (by kernel_rfl) (by kernel_rfl) (by kernel_rfl) (fun _ _ _ h => h) (Or.inl ⟨by rfl, ?_⟩) ?_
    rotate_left
    · intro w; go_simp; try with_reducible rfl
    refine wpAny_take (i := 2) (v := ?_) rfl (by kernel_rfl) (by kernel_rfl) (by kernel_rfl) (fun _ _ _ h => h) (Or.inl ⟨by rfl, ?_⟩) ?_
    rotate_left
    · intro w; go_simp; try with_reducible rfl
    refine wpAny_take (i := 3) (v := ?_) rfl (by kernel_rfl) (by kernel_rfl) (by kernel_rfl) (fun _ _ _ h => h) (Or.inl ⟨by rfl, ?_⟩) ?_
    rotate_left
    · intro w; go_simp; try with_reducible rfl
    refine wpAny_take (i := 5) (v := ?_) rfl (by kernel_rfl) (by kernel_rfl) (by kernel_rfl) (fun _ _ _ h => h) (Or.inl ⟨by rfl, ?_⟩) ?_
    rotate_left
    · intro w; go_simp; try with_reducible rfl
    refine wpAny_take (i := 6) (v := ?_) rfl (by kernel_rfl) (by kernel_rfl) (by kernel_rfl) (fun _ _ _ h => h) (Or.inl ⟨by rfl, ?_⟩) ?_
    rotate_left
    · intro w; go_simp; try with_reducible rfl
    refine wpAny_take (i := 7) (v := ?_) rfl (by kernel_rfl) (by kernel_rfl) (by kernel_rfl) (fun _ _ _ h => h) (Or.inl ⟨by rfl, ?_⟩) ?_
    rotate_left
    · intro w; go_simp; try with_reducible rfl
    refine wpAny_ready (rs := [4]) (by kernel_rfl) (by simp) ?_
    refine AllReady.cons rfl (fun K hK => ?_) AllReady.nil
    go_simp
    refine hK _ _ ?_; clear hK K
    refine wpAny_ready (rs := [8]) (by kernel_rfl) (by simp) ?_
    refine AllReady.cons rfl (fun K hK => ?_) AllReady.nil
    go_simp
    refine hK _ _ ?_; clear hK K
    refine wpAny_ready (rs := [9]) (by kernel_rfl) (by simp) ?_
    refine AllReady.cons rfl (fun K hK => ?_) AllReady.nil
    go_simp
    refine hK _ _ ?_; clear hK K
    refine wpAny_done (by kernel_rfl) ?_ _
    obtain ⟨U, hU⟩ : ∃ U, U = (V.setCell ⟨g, h.length, none⟩ (.int .u8 b.toNat)).drew := ⟨_, rfl⟩
    rw [← hU]
    have hbU : Blk U g 40 (cutCells (h ++ b :: js) h.length x' y') := by
      rw [hU, ← cells_put_byte h js j0 b]; exact (hbV.set _ _).drew
    have hbutU : But (· = g) w1 U := by rw [hU]; exact (hbutV.setCell _ _ (fun _ => rfl)).drew
    clear hU c128 ch fh hbV hbutV
    have hlU : (h ++ b :: js).length = 128 := by simpa using hl'
    have c128 : U.cell? ⟨g, 128, none⟩ = some (.int .i64 h.length) := hbU.cell (cutCells_size _ _ _ _ hlU)
    have f128 : U.frozen? ⟨g, 128, none⟩ = false := hbU.frozen 128
    go_wp2
    refine bodyPost_end (results_none rfl _ _ _) rfl ?_
    have hw1 : (h.length : Int) + 1 = ((h.length + 1 : Nat) : Int) := rfl
    rw [hw1]
    refine ⟨rfl, ⟨js, x', y', ?_, ?_, ?_⟩, hbutU.setCell _ _ (fun _ => rfl)⟩
    · rw [List.length_append, List.length_singleton]; rw [List.length_cons] at hl; omega
    · rw [Ct.sum_short h b (by omega)]; simp only [Tn.step]; simpa [Tn.cmul] using r'
    · rw [show h ++ [b] ++ js = h ++ b :: js by simp, List.length_append, List.length_singleton, ← cells_put_size _ hlU h.length _ x' y']
      exact hbU.set _ _
end Go.Proofs.Ytaahbankiidgkaa
