/- What was flushed is there behind any fall: the mathematics of SectorSure. -/
import Derived.Test.YtdcidfamflcdaaaApartMath
namespace Go.Proofs.Ytdcidfamflcdaaa
namespace Dk

theorem puts_at {α : Type} (ws : List (Nat × α)) (j : Nat) : ∀ (L : List α) (z : α), (puts L ws)[j]? = some z → L[j]? = some z ∨ (j, z) ∈ ws := by
  induction ws with
  | nil => intro L z h; exact .inl h
  | cons x ws ih =>
    intro L z h
    rcases ih _ _ h with h | h
    · by_cases e : x.1 = j
      · subst e
        by_cases hl : x.1 < L.length
        · rw [List.getElem?_set_self hl] at h
          injection h with h
          exact .inr (by rw [← h]; exact List.mem_cons_self)
        · rw [List.getElem?_eq_none (by simpa using hl)] at h; cases h
      · rw [List.getElem?_set_ne e] at h; exact .inl h
    · exact .inr (List.mem_cons_of_mem _ h)
/-- What is written to j, in its order. -/
def toJ {α : Type} (ls : List (Nat × α)) (j : Nat) : List α := (ls.filter fun x => x.1 == j).map (·.2)
theorem toJ_nil {α : Type} (j : Nat) : toJ ([] : List (Nat × α)) j = [] := rfl
theorem toJ_snoc {α : Type} (ls : List (Nat × α)) (i j : Nat) (y : α) : toJ (ls ++ [(i, y)]) j = if i = j then toJ ls j ++ [y] else toJ ls j := by
  unfold toJ
  rw [List.filter_append, List.map_append]
  by_cases h : i = j
  · rw [if_pos h]; simp [h]
  · rw [if_neg h]; simp [h]
theorem toJ_length {α : Type} (ls : List (Nat × α)) (j : Nat) : (toJ ls j).length ≤ ls.length := by
  unfold toJ; rw [List.length_map]; exact List.length_filter_le _ _
theorem mem_toJ {α : Type} {ls : List (Nat × α)} {j : Nat} {y : α} (h : (j, y) ∈ ls) : y ∈ toJ ls j := by
  unfold toJ
  exact List.mem_map.2 ⟨(j, y), List.mem_filter.2 ⟨h, by simp⟩, rfl⟩
theorem puts_toJ {α : Type} (j : Nat) (ws : List (Nat × α)) : ∀ L : List α, j < L.length → (puts L ws)[j]? = (toJ ws j).getLast?.or L[j]? := by
  induction ws with
  | nil => intro L _; rfl
  | cons x ws ih =>
    intro L hj
    rw [puts_cons, ih _ (by simpa using hj)]
    unfold toJ
    by_cases e : x.1 = j
    · subst e
      rw [List.getElem?_set_self hj, List.filter_cons_of_pos (by simp), List.map_cons, List.getLast?_cons]
      cases (List.map (fun x => x.2) (List.filter (fun y => y.1 == x.1) ws)).getLast? <;> rfl
    · rw [List.getElem?_set_ne e, List.filter_cons_of_neg (by simpa using e)]

/-- M as far as j, L from there on. -/
def upTo {α : Type} (M L : List α) (j : Nat) : List α := M.take j ++ L.drop j
theorem upTo_zero {α : Type} (M L : List α) : upTo M L 0 = L := by simp [upTo]
theorem upTo_all {α : Type} (M L : List α) (h : M.length = L.length) : upTo M L L.length = M := by simp [upTo, ← h]
theorem upTo_length {α : Type} (M L : List α) (j : Nat) (h : M.length = L.length) (hj : j ≤ L.length) : (upTo M L j).length = L.length := by
  unfold upTo; rw [List.length_append, List.length_take, List.length_drop]; omega
theorem upTo_succ {α : Type} (M L : List α) (j : Nat) (h : M.length = L.length) (hj : j < L.length) : upTo M L (j + 1) = (upTo M L j).set j (M[j]'(by omega)) := by
  unfold upTo
  rw [List.take_succ_eq_append_getElem (by omega), List.set_append_right _ _ (by rw [List.length_take]; omega), List.length_take, Nat.min_eq_left (by omega), Nat.sub_self, List.drop_eq_getElem_cons hj, List.set_cons_zero, List.append_assoc]
  rfl
theorem upTo_same {α : Type} (M L : List α) (j : Nat) (h : M.length = L.length) (hj : j < L.length) (e : M[j]? = L[j]?) : upTo M L (j + 1) = upTo M L j := by
  rw [List.getElem?_eq_getElem (by omega), List.getElem?_eq_getElem hj] at e
  injection e with e
  rw [upTo_succ M L j h hj, e]
  unfold upTo
  rw [List.set_append_right _ _ (by rw [List.length_take]; omega), List.length_take, Nat.min_eq_left (by omega), Nat.sub_self, List.drop_eq_getElem_cons hj, List.set_cons_zero]

def one8 (y : UInt8) : List UInt8 := full [y]
theorem one8_length (y : UInt8) : (one8 y).length = 512 := full_length _ (by simp)
theorem one8_zero : full [] = one8 0 := by unfold one8 full; rfl
/-- The disk holds the bytes fm firmly, the writes ls loosely. -/
structure Sure (m : Nat) (fm : List UInt8) (ls : List (Nat × UInt8)) (d : Disk) : Prop where
  eight : fm.length = 8
  firm : d.firm = fm.map one8
  loose : d.loose = ls.map fun x => (x.1, one8 x.2)
  few : ls.length ≤ m
  up : d.off = false
  fuel : d.fuel = -1
theorem Sure.len {m : Nat} {fm : List UInt8} {ls : List (Nat × UInt8)} {d : Disk} (h : Sure m fm ls d) : d.firm.length = 8 := by rw [h.firm, List.length_map]; exact h.eight
theorem sure_begin : Sure 0 (List.replicate 8 0) [] (fresh 8) := ⟨by simp, by rw [List.map_replicate, ← one8_zero]; rfl, rfl, Nat.le_refl _, rfl, rfl⟩
theorem Sure.write {m : Nat} {fm : List UInt8} {ls : List (Nat × UInt8)} {d : Disk} (h : Sure m fm ls d) (j : Nat) (y : UInt8) (hj : j < 8) : (d.write j [y]).1 = 0 ∧ Sure (m + 1) fm (ls ++ [(j, y)]) (d.write j [y]).2 := by
  rw [write_ok d j [y] h.up (by rw [h.len]; exact hj) (by simp) h.fuel]
  refine ⟨rfl, h.eight, h.firm, ?_, ?_, h.up, h.fuel⟩
  · show d.loose ++ _ = _
    rw [h.loose, List.map_append]; rfl
  · rw [List.length_append]; simpa using h.few
theorem Sure.flush {m : Nat} {fm : List UInt8} {ls : List (Nat × UInt8)} {d : Disk} (h : Sure m fm ls d) : d.flush.1 = 0 ∧ Sure m (puts fm ls) [] d.flush.2 := by
  rw [flush_ok d h.up h.fuel]
  refine ⟨rfl, (puts_length _ _).trans h.eight, ?_, rfl, Nat.zero_le _, h.up, h.fuel⟩
  show puts d.firm d.loose = _
  rw [h.firm, h.loose, puts_map]
theorem Sure.fall {m : Nat} {fm : List UInt8} {ls : List (Nat × UInt8)} {d : Disk} (h : Sure m fm ls d) (keep : List Bool) (j : Nat) (hj : j < 8) :
    ∃ z, (d.fall keep).read j = (one8 z, 0) ∧ (fm[j]? = some z ∨ z ∈ toJ ls j) := by
  have hl : (puts fm (kept keep ls)).length = 8 := (puts_length _ _).trans h.eight
  have hf : (d.fall keep).firm = (puts fm (kept keep ls)).map one8 := by
    show puts d.firm (kept keep d.loose) = _
    rw [h.firm, h.loose, kept_map, puts_map]
  refine ⟨(puts fm (kept keep ls))[j], ?_, ?_⟩
  · rw [read_ok _ j rfl (by rw [hf, List.length_map]; omega)]
    show ((d.fall keep).firm.getD j [], 0) = _
    rw [hf, List.getD_eq_getElem?_getD, List.getElem?_map, List.getElem?_eq_getElem (by omega)]
    rfl
  · rcases puts_at _ _ _ _ (List.getElem?_eq_getElem (show j < (puts fm (kept keep ls)).length by omega)) with e | e
    · exact .inl e
    · exact .inr (mem_toJ (kept_mem _ _ _ e))
theorem Sure.fallen {m : Nat} {fm : List UInt8} {ls : List (Nat × UInt8)} {d : Disk} (_ : Sure m fm ls d) (keep : List Bool) : (d.fall keep).loose = [] ∧ (d.fall keep).off = false := ⟨rfl, rfl⟩
end Dk
end Go.Proofs.Ytdcidfamflcdaaa
