/- Elder texts, merged (12). -/
import Derived.Test.YtahnhhhhfioibaaGreatDoorG11
namespace Go.Proofs.YtahnhhhhfioibaaGreatDoor
open Go.RowKit Lib

set_option maxRecDepth 100000 in
set_option maxHeartbeats 4000000 in
theorem refPages_any (w : World) (n : Int) (hr : -9223372036854775808 ≤ n ∧ n ≤ 9223372036854775807) :
    Calls Tryz.prog 31 #[.int .i64 n] w fun e w' => e = .returned (.int .i64 (Rm.pages n : Nat)) ∧ w' = w := by
  obtain ⟨M, hM⟩ : ∃ M, M = min n 1048576 := ⟨_, rfl⟩
  have HI := Lib.hid (show Rm.IsPages M (Rm.pages n) by rw [hM]; exact Rm.pages_is n)
  have hb : M ≤ 1048576 := by omega
  have HM := Lib.hid hM
  clear hM
  go_enter Tryz.func31, Tryz.ntmps31
  go_wp2
  rw [← HM.out]
  go_loop [3] (fun p => ∃ k : Nat, p = .int .i64 k ∧ (k = 0 ∨ (Rm.cost k : Int) ≤ M)) (fun p => 1048577 - (intOf p).toNat)
  case atStart => exact ⟨0, rfl, .inl rfl⟩
  case round =>
    obtain ⟨k, rfl, hk⟩ := hrel
    have hkI : (k : Int) ≤ 1048576 := by unfold Rm.cost at hk; omega
    have hd : ((k : Int) + 1 + 4095).tdiv 4096 = ((k + 1 + 4095) / 4096 : Nat) := by rw [Int.tdiv_eq_ediv_of_nonneg (by omega)]; omega
    obtain ⟨q, hq⟩ : ∃ q, q = (k + 1 + 4095) / 4096 := ⟨_, rfl⟩
    have hqI : (q : Int) ≤ 300 := by omega
    rw [← hq] at hd
    have HC := Lib.hid (show Rm.cost (k + 1) = 1 + (k + 1) + q by unfold Rm.cost; rw [hq])
    have HK := Lib.hid hk
    clear hq hk
    by_cases hle : 1 + (k : Int) + 1 + q ≤ M
    · have HLe := Lib.hid hle
      go_wp2
      clear hd hqI hle
      go_loop [4] (fun s => ∃ j : Nat, s = .int .i64 j ∧ 1 ≤ j ∧ (Rm.cost (k + j) : Int) ≤ M) (fun s => 1048577 - (intOf s).toNat)
      case atStart => exact ⟨1, rfl, Nat.le_refl _, by have := HC.out; have := HLe.out; omega⟩
      case round =>
        obtain ⟨j, rfl, hj1, hj⟩ := hrel
        have hjI : (k : Int) + j ≤ 1048576 := by unfold Rm.cost at hj; omega
        have hj0 : (1 : Int) ≤ j := by omega
        have hd : ((k : Int) + 2 * j + 4095).tdiv 4096 = ((k + 2 * j + 4095) / 4096 : Nat) := by rw [Int.tdiv_eq_ediv_of_nonneg (by omega)]; omega
        obtain ⟨u, hu⟩ : ∃ u, u = (k + 2 * j + 4095) / 4096 := ⟨_, rfl⟩
        have huI : (u : Int) ≤ 600 := by omega
        rw [← hu] at hd
        have HC2 := Lib.hid (show Rm.cost (k + 2 * j) = 1 + (k + 2 * j) + u by unfold Rm.cost; rw [hu])
        have HJ := Lib.hid (And.intro hj1 hj)
        clear hu hj1 hj
        by_cases hle : 1 + (k : Int) + 2 * j + u ≤ M
        · have HL2 := Lib.hid hle
          go_wp2
          go_round
          case rel => exact ⟨2 * j, by go_num, by have := HJ.out; omega, by have := HC2.out; have := HL2.out; omega⟩
          case measure => have := HJ.out; simp [intOf]; omega
        · go_wp2
          go_round
          case rel => exact ⟨k + j, by go_num, .inr HJ.out.2⟩
          case measure => have := HJ.out; simp [intOf]; omega
    · have HE := Lib.hid (show Rm.pages n = k from Rm.isPages_one HI.out ⟨HK.out, by have := HC.out; omega⟩)
      go_wp2
      go_ret
      exact ⟨by rw [HE.out]; rfl, rfl⟩
end Go.Proofs.YtahnhhhhfioibaaGreatDoor
