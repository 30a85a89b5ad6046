/- Walks of pack's small functions: kinds, numbers, fields. -/
import Derived.Test.YtlpillpfahkjdaaDoorPkMath
import Derived.Test.YtlpillpfahkjdaaDoorForm2
import Derived.Lib.AppendStr
namespace Go.Proofs.YtlpillpfahkjdaaDoor
open Go.RowKit Lib

namespace Pk
theorem letters (c : UInt8) : (c = 110 ∧ (c.toNat : Int) = 110 ∧ width c = 8 ∧ ∀ b, letter c b = true) ∨ (c = 104 ∧ (c.toNat : Int) = 104 ∧ width c = 4 ∧ ∀ b, letter c b = true) ∨ (c = 98 ∧ (c.toNat : Int) = 98 ∧ width c = 1 ∧ ∀ b, letter c b = true) ∨
    (c = 116 ∧ (c.toNat : Int) = 116 ∧ width c = 0 ∧ ∀ b, letter c b = true) ∨ (c = 114 ∧ (c.toNat : Int) = 114 ∧ width c = 0 ∧ ∀ b, letter c b = b) ∨
    (((c.toNat : Int) ≠ 110 ∧ (c.toNat : Int) ≠ 104 ∧ (c.toNat : Int) ≠ 98 ∧ (c.toNat : Int) ≠ 116 ∧ (c.toNat : Int) ≠ 114) ∧ width c = 0 ∧ ∀ b, letter c b = false) := by
  by_cases h1 : c = 110
  · subst h1; exact .inl ⟨rfl, rfl, rfl, fun b => by cases b <;> rfl⟩
  by_cases h2 : c = 104
  · subst h2; exact .inr (.inl ⟨rfl, rfl, rfl, fun b => by cases b <;> rfl⟩)
  by_cases h3 : c = 98
  · subst h3; exact .inr (.inr (.inl ⟨rfl, rfl, rfl, fun b => by cases b <;> rfl⟩))
  by_cases h4 : c = 116
  · subst h4; exact .inr (.inr (.inr (.inl ⟨rfl, rfl, rfl, fun b => by cases b <;> rfl⟩)))
  by_cases h5 : c = 114
  · subst h5; exact .inr (.inr (.inr (.inr (.inl ⟨rfl, rfl, rfl, fun b => by cases b <;> rfl⟩))))
  have hne : ∀ d : UInt8, ¬ c = d → (c.toNat : Int) ≠ (d.toNat : Int) := fun d h e => h (UInt8.toNat.inj (by omega))
  have hw : width c = 0 := by unfold width; rw [if_neg h1, if_neg h2, if_neg h3]
  exact .inr (.inr (.inr (.inr (.inr ⟨⟨hne 110 h1, hne 104 h2, hne 98 h3, hne 116 h4, hne 114 h5⟩, hw, fun b => by unfold letter; simp [hw, h4, h5]⟩))))
theorem right_step (l : Text) (k : Nat) (h : k < l.length) : right (l.drop k) = (letter l[k] (decide (k + 1 = l.length)) && right (l.drop (k + 1))) := by
  rw [List.drop_eq_getElem_cons h, right]
  congr 2
  rw [Bool.eq_iff_iff, List.isEmpty_iff, decide_eq_true_eq, List.drop_eq_nil_iff]
  omega
theorem right_step' (s : ByteArray) (k : Nat) (h : k < s.size) : right (s.data.toList.drop k) = (letter s[k] (decide (k + 1 = s.size)) && right (s.data.toList.drop (k + 1))) := right_step s.data.toList k h
end Pk

theorem sizeOf_any (c : UInt8) (w : World) : Calls Tryd.prog 40 #[.int .u8 c.toNat] w fun e w' => e = .returned (.int .i64 (Pk.width c : Nat)) ∧ w' = w := by
  rcases Pk.letters c with ⟨_, h, hw, _⟩ | ⟨_, h, hw, _⟩ | ⟨_, h, hw, _⟩ | ⟨_, h, hw, _⟩ | ⟨_, h, hw, _⟩ | ⟨⟨h1, h2, h3, _, _⟩, hw, _⟩ <;> rw [hw] <;> clear hw <;> (try rw [h]) <;>
  · generalize (c.toNat : Int) = x at *
    go_enter Tryd.func40, Tryd.ntmps40
    go_wp2
    go_ret
    exact ⟨rfl, rfl⟩
set_option maxHeartbeats 1000000 in
theorem right_any (s : ByteArray) (w : World) (hs : s.size ≤ 1000) : Calls Tryd.prog 29 #[.string s] w fun e w' => e = .returned (.bool (Pk.right s.data.toList)) ∧ w' = w := by
  have hsI : (s.size : Int) ≤ 1000 := by omega
  go_enter Tryd.func29, Tryd.ntmps29
  go_wp2
  go_loop [3] (fun i => ∃ k : Nat, k ≤ s.size ∧ i = .int .i64 k ∧ Hid (Pk.right s.data.toList = Pk.right (s.data.toList.drop k))) (fun i => s.size - (intOf i).toNat)
  case atStart => exact ⟨0, Nat.zero_le _, rfl, Lib.hid rfl⟩
  case round =>
    obtain ⟨k, hk, rfl, HR⟩ := hrel
    by_cases hlt : k < s.size
    · have HS := Lib.hid (HR.out.trans (Pk.right_step' s k hlt))
      clear HR
      have hltI : (k : Int) < s.size := by omega
      have hk1 : (k : Int) ≤ 1000 := by omega
      rcases Pk.letters s[k] with ⟨_, h, _, hw⟩ | ⟨_, h, _, hw⟩ | ⟨_, h, _, hw⟩ | ⟨_, h, _, hw⟩ | ⟨_, h, _, hw⟩ | ⟨⟨h1, h2, h3, h4, h5⟩, _, hw⟩
      iterate 4
        · rw [hw] at HS
          clear hw
          go_wp2
          go_round
          case rel => exact ⟨k + 1, by omega, by go_num, Lib.hid (by rw [HS.out]; rfl)⟩
          case measure => simp [intOf]; omega
      · rw [hw] at HS
        clear hw
        by_cases hend : k + 1 = s.size
        · have hE : ((k : Int) == (s.size : Int) - 1) = true := by rw [beq_iff_eq]; omega
          go_wp2
          go_round
          case rel => exact ⟨k + 1, by omega, by go_num, Lib.hid (by rw [HS.out, decide_eq_true hend]; rfl)⟩
          case measure => simp [intOf]; omega
        · have hE : ((k : Int) == (s.size : Int) - 1) = false := by rw [beq_eq_false_iff_ne]; omega
          go_wp2
          go_ret
          exact ⟨by rw [HS.out, decide_eq_false hend]; rfl, rfl⟩
      · rw [hw] at HS
        clear hw
        go_wp2
        go_ret
        exact ⟨by rw [HS.out]; rfl, rfl⟩
    · have hke : k = s.size := by omega
      subst hke
      go_wp2
      go_ret
      refine ⟨?_, rfl⟩
      rw [HR.out, List.drop_of_length_le (by rw [Array.length_toList]; exact Nat.le_refl _)]
      rfl
end Go.Proofs.YtlpillpfahkjdaaDoor
