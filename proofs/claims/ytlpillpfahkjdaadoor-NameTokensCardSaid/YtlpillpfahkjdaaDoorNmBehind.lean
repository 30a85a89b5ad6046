/- Walks of name's Behind, and of the reference's. -/
import Derived.Test.YtlpillpfahkjdaaDoorNmUnder
namespace Go.Proofs.YtlpillpfahkjdaaDoor
open Go.RowKit Lib

namespace Nm
theorem take_last (s : ByteArray) (k : Nat) (h : k < s.size) : s.data.toList.take (k + 1) = s.data.toList.take k ++ [s[k]] := by
  rw [List.take_succ_eq_append_getElem (show k < s.data.toList.length from h)]
  rfl
theorem behind_take (s : ByteArray) (k : Nat) (h : k < s.size) : behind (s.data.toList.take (k + 1)) = if s[k] < 255 then s.data.toList.take k ++ [s[k] + 1] else behind (s.data.toList.take k) := by
  rw [take_last s k h, behind_snoc]
theorem lt255 (c : UInt8) : (c < 255 ∧ (c.toNat : Int) < 255 ∧ (c.toNat : Int) + 1 = ((c + 1).toNat : Int)) ∨ (¬ c < 255 ∧ ¬ (c.toNat : Int) < 255) := by
  have h255 : (255 : UInt8).toNat = 255 := rfl
  by_cases h : c.toNat < 255
  · refine .inl ⟨by rw [UInt8.lt_iff_toNat_lt]; omega, by omega, ?_⟩
    rw [UInt8.toNat_add]
    have h1 : (1 : UInt8).toNat = 1 := rfl
    rw [h1]; omega
  · exact .inr ⟨by rw [UInt8.lt_iff_toNat_lt]; omega, by omega⟩
end Nm
set_option maxRecDepth 100000 in
set_option maxHeartbeats 1000000 in
theorem behind_any (s : ByteArray) (w : World) (hs : s.size ≤ 1000000) : Calls Tryd.prog 13 #[.string s] w fun e w' => e = .returned (.string (bs (Nm.behind s.data.toList))) ∧ Below w.heap.size w w' := by
  have hsI : (s.size : Int) ≤ 1000000 := by omega
  go_enter Tryd.func13, Tryd.ntmps13
  go_wp2
  go_loopw [3] (fun i wr => ∃ k : Nat, k ≤ s.size ∧ i = .int .i64 ((k : Int) - 1) ∧ Hid (Nm.behind s.data.toList = Nm.behind (s.data.toList.take k)) ∧ wr = w) (fun i _ => (RowKit.intOf i + 1).toNat)
  case atStart => exact ⟨s.size, Nat.le_refl _, rfl, Lib.hid (by rw [List.take_of_length_le (by rw [Array.length_toList]; exact Nat.le_refl _)]), rfl⟩
  case round =>
    obtain ⟨k, hk, rfl, HA, rfl⟩ := hrel
    cases k with
    | zero =>
      go_wp2
      go_ret
      exact ⟨by rw [HA.out]; rfl, Below.refl _ _⟩
    | succ k =>
      have hkI : (k : Int) < s.size := by omega
      have e : ((k + 1 : Nat) : Int) - 1 = (k : Int) := by omega
      rw [e]
      have HS := Lib.hid (HA.out.trans (Nm.behind_take s k (by omega)))
      clear HA e
      rcases Nm.lt255 s[k] with ⟨h1, h2, h3⟩ | ⟨h1, h2⟩
      · rw [if_pos h1] at HS
        have hconv : (convert 47 9 (.slice (some ⟨wr.heap.size, 0, none⟩) 1 1)).run Tryd.prog ((wr.alloc (.cells #[.int .u8 ((s[k].toNat : Int) + 1)] 5)).drew) = .ok (.string (bs [s[k] + 1])) ((wr.alloc (.cells #[.int .u8 ((s[k].toNat : Int) + 1)] 5)).drew) := by
          rw [h3]; exact OwnY.back ((own_kind wr (s[k] + 1)).drew)
        have HX := Lib.hid (show s.extract 0 k ++ bs [s[k] + 1] = bs (s.data.toList.take k ++ [s[k] + 1]) by rw [ext_take s k, bs_append])
        have hsz : (s.extract 0 k).size + (bs [s[k] + 1]).size ≤ 9223372036854775807 := by
          rw [bs_size, ext_take, bs_size, List.length_take, List.length_singleton]; omega
        generalize bs [s[k] + 1] = Y at *
        clear h1 h3
        go_wp2_with fail
        go_region
        go_wp2
        go_ret
        exact ⟨by rw [HS.out, ← HX.out]; rfl, ((Below.refl wr.heap.size wr).alloc (Nat.le_refl _) _).drew⟩
      · rw [if_neg h1] at HS
        go_wp2
        go_roundw
        case rel => exact ⟨k, by omega, rfl, HS, trivial⟩
        case measure => simp [RowKit.intOf]
namespace Nm
theorem behind_last (s : ByteArray) (h : 0 < s.size) : behind s.data.toList = if s[s.size - 1] < 255 then s.data.toList.take (s.size - 1) ++ [s[s.size - 1] + 1] else behind (s.data.toList.take (s.size - 1)) := by
  have e := behind_take s (s.size - 1) (by omega)
  rw [show s.size - 1 + 1 = s.size by omega, List.take_of_length_le (by rw [Array.length_toList]; exact Nat.le_refl _)] at e
  exact e
end Nm
end Go.Proofs.YtlpillpfahkjdaaDoor
