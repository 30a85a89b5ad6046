/- Walks of what reads numbers out of bytes, and of texts' beginnings and ends. -/
import Derived.Test.YtlpillpfahkjdaaDoorForm
import Derived.Test.YtlpillpfahkjdaaDoorSec
namespace Go.Proofs.YtlpillpfahkjdaaDoor
open Go.RowKit Lib

theorem take_snoc (s : ByteArray) (k : Nat) (h : k < s.size) : s.data.toList.take (k + 1) = s.data.toList.take k ++ [s[k]] := by
  rw [List.take_succ_eq_append_getElem (by simpa using h)]; rfl
theorem or_byte (a b : Nat) (ha : a < 2 ^ 56) (hb : b < 256) : bits .or .u64 ((a : Int) * 256) (b : Int) = ((a * 256 + b : Nat) : Int) := by
  have h1 : (BitVec.ofInt 64 ((a : Int) * 256)).toNat = a * 256 := by
    simp_all; omega
  have h2 : (BitVec.ofInt 64 (b : Int)).toNat = b := by
    grind
  have key : (BitVec.ofInt 64 ((a : Int) * 256) ||| BitVec.ofInt 64 (b : Int)).toNat = a * 256 + b := by
    rw [BitVec.toNat_or, h1, h2, show a * 256 = a <<< 8 from by rw [Nat.shiftLeft_eq], ← Nat.shiftLeft_add_eq_or_of_lt (by omega : b < 2 ^ 8)]
  show IntKind.u64.wrap ((BitVec.ofInt 64 ((a : Int) * 256) ||| BitVec.ofInt 64 (b : Int)).toNat : Nat) = _
  rw [key, IntKind.wrap_u64]
  omega
/-! ### Beginnings and ends. -/
def Wl.starts (s p : Wl.Text) : Bool := p.isPrefixOf s
theorem starts_take (s p : ByteArray) : ((s.extract 0 p.size).toList == p.toList) = Wl.starts s.data.toList p.data.toList := by
  rw [ByteArray.toList_eq, ByteArray.toList_eq, ByteArray.data_extract, Array.toList_extract, List.extract_eq_take_drop, Bool.eq_iff_iff, beq_iff_eq]
  unfold Wl.starts
  rw [List.isPrefixOf_iff_prefix, List.prefix_iff_eq_take, Nat.sub_zero, List.drop_zero, Array.length_toList]
  exact ⟨fun h => h.symm, fun h => h.symm⟩
def strLen : Value → Nat
  | .string t => t.size
  | _ => 0
/-- t is l without the c's behind it; before it. -/
def CutR (l : List UInt8) (c : UInt8) (t : List UInt8) : Prop := ∃ m, m ≤ l.length ∧ t = l.take m ∧ (∀ i, m ≤ i → i < l.length → l[i]? = some c) ∧ (0 < m → l[m - 1]? ≠ some c)
def CutL (l : List UInt8) (c : UInt8) (t : List UInt8) : Prop := ∃ m, m ≤ l.length ∧ t = l.drop m ∧ (∀ i, i < m → l[i]? = some c) ∧ (m < l.length → l[m]? ≠ some c)
theorem cut_both {l t u : List UInt8} (h1 : CutR l 0 t) (h2 : CutL t 0 u) : u = [] ↔ Wl.blank l = true := by
  obtain ⟨m, hm, rfl, ha, hb⟩ := h1
  obtain ⟨j, hj, rfl, hc, hd⟩ := h2
  rw [List.length_take, Nat.min_eq_left hm] at hj hd
  unfold Wl.blank
  rw [List.all_eq_true, List.drop_eq_nil_iff, List.length_take, Nat.min_eq_left hm]
  constructor
  · intro hmj
    have hm0 : m = 0 := by
      rcases Nat.eq_zero_or_pos m with h | h
      · exact h
      · exfalso
        have := hc (m - 1) (by omega)
        rw [List.getElem?_take_of_lt (by omega)] at this
        exact hb h this
    intro x hx
    obtain ⟨i, hi, rfl⟩ := List.mem_iff_getElem.1 hx
    have := ha i (by omega) hi
    rw [List.getElem?_eq_getElem hi] at this
    injection this with this
    rw [this]; rfl
  · grind [List.getElem?_eq_getElem, List.getElem_mem, Nat.eq_zero_or_pos]
theorem get_eq (t : ByteArray) (k : Nat) (h : k < t.size) : t.data.toList[k]? = some t[k] := by
  rw [List.getElem?_eq_getElem (by rw [Array.length_toList]; exact h)]; rfl
theorem byte_eq {a b : UInt8} (h : ((a.toNat : Int) == (b.toNat : Int)) = true) : a = b := by
  rw [beq_iff_eq] at h
  exact UInt8.toNat_inj.1 (by omega)
theorem byte_ne {a b : UInt8} (h : ((a.toNat : Int) == (b.toNat : Int)) = false) : a ≠ b := by
  grind
end Go.Proofs.YtlpillpfahkjdaaDoor
