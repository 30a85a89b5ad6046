/- Walks of name's Bucket and Item, and of the reference's. -/
import Derived.Test.YtlpillpfahkjdaaDoorNmMath
import Derived.Test.YtlpillpfahkjdaaDoorPkPart
import Derived.Test.YtlpillpfahkjdaaDoorPkRef
namespace Go.Proofs.YtlpillpfahkjdaaDoor
open Go.RowKit Lib

namespace Nm
theorem letter_nat (c : UInt8) : letter c = ((decide (97 ≤ c.toNat) && decide (c.toNat ≤ 122)) || (decide (48 ≤ c.toNat) && decide (c.toNat ≤ 57)) || decide (c.toNat = 45)) := by
  have h1 : (c == 45) = decide (c.toNat = 45) := by
    rw [Bool.eq_iff_iff, beq_iff_eq, decide_eq_true_eq]
    exact ⟨fun e => by rw [e]; rfl, fun e => UInt8.toNat.inj e⟩
  unfold letter
  rw [h1]
  rfl
end Nm
theorem isOfName_any (c : UInt8) (w : World) : Calls Tryd.prog 28 #[.int .u8 c.toNat] w fun e w' => e = .returned (.bool (Nm.letter c)) ∧ w' = w := by
  rw [Nm.letter_nat]
  generalize c.toNat = n
  by_cases h1 : 97 ≤ n
  · have h1I : (97 : Int) ≤ n := by omega
    by_cases h2 : n ≤ 122
    · have h2I : (n : Int) ≤ 122 := by omega
      rw [decide_eq_true h1, decide_eq_true h2]
      go_enter Tryd.func28, Tryd.ntmps28
      go_wp2
      go_ret
      exact ⟨rfl, rfl⟩
    · have h2I : ¬ (n : Int) ≤ 122 := by omega
      have h3I : (48 : Int) ≤ n := by omega
      have h4I : ¬ (n : Int) ≤ 57 := by omega
      have h5I : ((n : Int) == 45) = false := by rw [beq_eq_false_iff_ne]; omega
      rw [decide_eq_true h1, decide_eq_false h2, decide_eq_false (show ¬ n ≤ 57 by omega), decide_eq_false (show ¬ n = 45 by omega)]
      go_enter Tryd.func28, Tryd.ntmps28
      go_wp2
      go_ret
      exact ⟨by simp, rfl⟩
  · have h1I : ¬ (97 : Int) ≤ n := by omega
    by_cases h3 : 48 ≤ n
    · have h3I : (48 : Int) ≤ n := by omega
      have h5I : ((n : Int) == 45) = false := by rw [beq_eq_false_iff_ne]; omega
      rw [decide_eq_false h1, decide_eq_true h3, decide_eq_false (show ¬ n = 45 by omega)]
      by_cases h4 : n ≤ 57
      · have h4I : (n : Int) ≤ 57 := by omega
        rw [decide_eq_true h4]
        go_enter Tryd.func28, Tryd.ntmps28
        go_wp2
        go_ret
        exact ⟨rfl, rfl⟩
      · have h4I : ¬ (n : Int) ≤ 57 := by omega
        rw [decide_eq_false h4]
        go_enter Tryd.func28, Tryd.ntmps28
        go_wp2
        go_ret
        exact ⟨rfl, rfl⟩
    · have h3I : ¬ (48 : Int) ≤ n := by omega
      rw [decide_eq_false h1, decide_eq_false h3]
      by_cases h5 : n = 45
      · subst h5
        go_enter Tryd.func28, Tryd.ntmps28
        go_wp2
        go_ret
        exact ⟨rfl, rfl⟩
      · have h5I : ((n : Int) == 45) = false := by rw [beq_eq_false_iff_ne]; omega
        rw [decide_eq_false h5]
        go_enter Tryd.func28, Tryd.ntmps28
        go_wp2
        go_ret
        exact ⟨rfl, rfl⟩
theorem sindexByte_any (s : ByteArray) (w : World) : Calls Tryd.prog 32 #[.string s, .int .u8 0] w fun e w' => e = .returned (.int .i64 (Lib.indexByte s.data.toList 0)) ∧ w' = w := by
  have HI := Lib.hid (fun W => lindexByte_any s W)
  go_enter Tryd.func32, Tryd.ntmps32
  go_wp2_with fail
  refine (HI.out _).mono ?_
  rintro e w1 ⟨rfl, rfl⟩
  go_wp2
  go_ret
  exact ⟨rfl, rfl⟩
namespace Nm
theorem index_lt (s : Pk.Text) : decide (Lib.indexByte s 0 < 0) = !s.contains 0 := by
  rcases Pk.cut_index s with ⟨h, hc⟩ | ⟨o, h, hl, hc⟩
  · have h1 := (Pk.cut_none s).1 hc
    rw [h]
    simp [h1]
  · have h1 : (0 : UInt8) ∈ s := by
      refine Decidable.byContradiction fun hn => ?_
      rw [(Pk.cut_none s).2 hn] at hc; cases hc
    rw [h]
    simp [h1]
end Nm
namespace Nm
theorem all_step (s : ByteArray) (k : Nat) (h : k < s.size) : (s.data.toList.drop k).all letter = (letter s[k] && (s.data.toList.drop (k + 1)).all letter) := by
  rw [List.drop_eq_getElem_cons (show k < s.data.toList.length from h), List.all_cons]
  rfl
theorem ne45 (c : UInt8) : (c != 45) = ((c.toNat : Int) != 45) := by
  rw [Bool.eq_iff_iff, bne_iff_ne, bne_iff_ne]
  exact ⟨fun h e => h (UInt8.toNat.inj (Int.ofNat.inj e)), fun h e => h (by rw [e]; rfl)⟩
theorem bucket_ends (s : ByteArray) (h : 0 < s.size) : bucket s.data.toList = (decide (3 ≤ s.size) && decide (s.size ≤ 16) && ((s[0].toNat : Int) != 45) && ((s[s.size - 1].toNat : Int) != 45) && s.data.toList.all letter) := by
  unfold bucket
  have hl : s.data.toList.length = s.size := Array.length_toList
  have h1 : s.data.toList.head? = some s[0] := by
    rw [List.head?_eq_getElem?, List.getElem?_eq_getElem (by omega)]; rfl
  have h2 : s.data.toList.getLast? = some s[s.size - 1] := by
    rw [List.getLast?_eq_getElem?, List.getElem?_eq_getElem (by omega)]
    simp only [hl]; rfl
  have e : ∀ c : UInt8, (some c != some 45) = (c != 45) := fun c => by
    rw [Bool.eq_iff_iff, bne_iff_ne, bne_iff_ne]; simp
  rw [h1, h2, hl, e, e, ne45, ne45]
end Nm
set_option maxHeartbeats 1000000 in
theorem bucket_any (s : ByteArray) (w : World) : Calls Tryd.prog 12 #[.string s] w fun e w' => e = .returned (.bool (Nm.bucket s.data.toList)) ∧ w' = w := by
  by_cases h3 : 3 ≤ s.size
  · have h3I : ¬ (s.size : Int) < 3 := by omega
    by_cases h16 : s.size ≤ 16
    · have h16I : ¬ (s.size : Int) > 16 := by omega
      rw [Nm.bucket_ends s (by omega), decide_eq_true h3, decide_eq_true h16]
      go_enter Tryd.func12, Tryd.ntmps12
      go_wp2
      go_loop [3] (fun i => ∃ k : Nat, k ≤ s.size ∧ i = .int .i64 k ∧ Hid (s.data.toList.all Nm.letter = (s.data.toList.drop k).all Nm.letter)) (fun i => s.size - (RowKit.intOf i).toNat)
      case atStart => exact ⟨0, Nat.zero_le _, rfl, Lib.hid rfl⟩
      case round =>
        obtain ⟨k, hk, rfl, HR⟩ := hrel
        by_cases hlt : k < s.size
        · have HS := Lib.hid (HR.out.trans (Nm.all_step s k hlt))
          clear HR
          have hltI : (k : Int) < s.size := by omega
          have hk1 : (k : Int) ≤ 1000 := by omega
          have HL := Lib.hid (fun W => isOfName_any s[k] W)
          cases hc : Nm.letter s[k] with
          | true =>
            rw [hc] at HS HL
            clear hc
            go_wp2_with fail
            refine (HL.out _).mono ?_
            rintro e w1 ⟨rfl, rfl⟩
            go_wp2
            go_round
            case rel => exact ⟨k + 1, by omega, by go_num, Lib.hid (by rw [HS.out]; rfl)⟩
            case measure => simp [RowKit.intOf]; omega
          | false =>
            rw [hc] at HS HL
            clear hc
            go_wp2_with fail
            refine (HL.out _).mono ?_
            rintro e w1 ⟨rfl, rfl⟩
            go_wp2
            go_ret
            exact ⟨by rw [HS.out]; simp, rfl⟩
        · have hke : k = s.size := by omega
          subst hke
          have HS := Lib.hid (show s.data.toList.all Nm.letter = true by rw [HR.out, List.drop_of_length_le (by rw [Array.length_toList]; exact Nat.le_refl _)]; rfl)
          clear HR
          have h0 : (0 : Int) < s.size := by omega
          cases hf : ((s[0].toNat : Int) != 45) with
          | true =>
            cases hg : ((s[s.size - 1].toNat : Int) != 45) with
            | true =>
              go_wp2
              go_ret
              exact ⟨by rw [HS.out, hf, hg]; rfl, rfl⟩
            | false =>
              go_wp2
              go_ret
              exact ⟨by rw [HS.out, hf, hg]; rfl, rfl⟩
          | false =>
            go_wp2
            go_ret
            exact ⟨by rw [HS.out, hf]; rfl, rfl⟩
    · have h16I : (s.size : Int) > 16 := by omega
      rw [Nm.bucket_ends s (by omega), decide_eq_true h3, decide_eq_false h16]
      go_enter Tryd.func12, Tryd.ntmps12
      go_wp2
      go_ret
      exact ⟨rfl, rfl⟩
  · have h3I : (s.size : Int) < 3 := by omega
    have hb : Nm.bucket s.data.toList = false := by
      unfold Nm.bucket
      rw [show s.data.toList.length = s.size from Array.length_toList, decide_eq_false h3]; rfl
    rw [hb]
    go_enter Tryd.func12, Tryd.ntmps12
    go_wp2
    go_ret
    exact ⟨rfl, rfl⟩
theorem item_any (s : ByteArray) (w : World) : Calls Tryd.prog 36 #[.string s] w fun e w' => e = .returned (.bool (Nm.item s.data.toList)) ∧ w' = w := by
  have HI := Lib.hid (fun W => sindexByte_any s W)
  have hi := Nm.index_lt s.data.toList
  unfold Nm.item
  rw [← hi, show s.data.toList.length = s.size from Array.length_toList]
  clear hi
  generalize Lib.indexByte s.data.toList 0 = i at *
  by_cases h1 : 1 ≤ s.size
  · have h1I : (1 : Int) ≤ s.size := by omega
    by_cases h2 : s.size ≤ 40
    · have h2I : (s.size : Int) ≤ 40 := by omega
      rw [decide_eq_true h1, decide_eq_true h2]
      go_enter Tryd.func36, Tryd.ntmps36
      go_wp2_with fail
      refine (HI.out _).mono ?_
      rintro e w1 ⟨rfl, rfl⟩
      go_wp2
      go_ret
      exact ⟨rfl, rfl⟩
    · have h2I : ¬ (s.size : Int) ≤ 40 := by omega
      rw [decide_eq_true h1, decide_eq_false h2]
      go_enter Tryd.func36, Tryd.ntmps36
      go_wp2
      go_ret
      exact ⟨rfl, rfl⟩
  · have h1I : ¬ (1 : Int) ≤ s.size := by omega
    rw [decide_eq_false h1]
    go_enter Tryd.func36, Tryd.ntmps36
    go_wp2
    go_ret
    exact ⟨rfl, rfl⟩
namespace Nm
theorem letter_kinds (c : UInt8) : (((97 : Int) ≤ c.toNat ∧ (c.toNat : Int) ≤ 122) ∧ letter c = true) ∨ ((((97 : Int) ≤ c.toNat ∧ ¬ (c.toNat : Int) ≤ 122) ∧ (48 : Int) ≤ c.toNat ∧ ¬ (c.toNat : Int) ≤ 57 ∧ ((c.toNat : Int) == 45) = false) ∧ letter c = false) ∨ ((¬ (97 : Int) ≤ c.toNat ∧ (48 : Int) ≤ c.toNat ∧ (c.toNat : Int) ≤ 57) ∧ letter c = true) ∨
    ((¬ (97 : Int) ≤ c.toNat ∧ (48 : Int) ≤ c.toNat ∧ ¬ (c.toNat : Int) ≤ 57 ∧ ((c.toNat : Int) == 45) = false) ∧ letter c = false) ∨ ((¬ (97 : Int) ≤ c.toNat ∧ ¬ (48 : Int) ≤ c.toNat ∧ ((c.toNat : Int) == 45) = true) ∧ letter c = true) ∨ ((¬ (97 : Int) ≤ c.toNat ∧ ¬ (48 : Int) ≤ c.toNat ∧ ((c.toNat : Int) == 45) = false) ∧ letter c = false) := by
  rw [letter_nat]
  generalize c.toNat = n
  have e : ((n : Int) == 45) = decide (n = 45) := by
    rw [Bool.eq_iff_iff, beq_iff_eq, decide_eq_true_eq]; omega
  rw [e]
  simp only [Bool.or_eq_true, Bool.and_eq_true, decide_eq_true_eq, Bool.or_eq_false_iff, Bool.and_eq_false_imp, decide_eq_false_iff_not]
  omega
end Nm
namespace Nm
theorem has_zero (s : Pk.Text) : s.contains 0 = (Pk.cut s).isSome := by
  cases h : Pk.cut s with
  | none => simp [(Pk.cut_none s).1 h]
  | some p =>
    have : (0 : UInt8) ∈ s := by
      refine Decidable.byContradiction fun hn => ?_
      rw [(Pk.cut_none s).2 hn] at h; cases h
    simp [this]
end Nm
end Go.Proofs.YtlpillpfahkjdaaDoor
