/- Walk of the statement SectorFuel. -/
import Derived.Test.YtdcidfamflcdaaaSecAwake
import Derived.Test.YtdcidfamflcdaaaFuelMath
namespace Go.Proofs.Ytdcidfamflcdaaa
open Go.RowKit Lib

theorem total_any (k : Nat) (w : World) (hk : k ≤ 1000000) : Calls Try.prog 20 #[.int .i64 k] w fun e w' => e = .returned (.int .i64 (Dk.tot k)) ∧ w' = w := by
  go_enter Try.func20, Try.ntmps20
  go_wp2
  go_ret
  exact ⟨ret_int' (by unfold Dk.tot; omega), rfl⟩

set_option maxRecDepth 100000 in
set_option maxHeartbeats 2000000 in
theorem sectorFuel_any (n steps : Int) (w : World) : Calls Try.prog 5 #[.int .i64 n, .int .i64 steps] w fun e w' => e = .returned (.bool true) ∧ Below w.heap.size w w' := by
  by_cases hg : 0 ≤ n ∧ n ≤ 50 ∧ 0 ≤ steps ∧ steps ≤ 50
  · obtain ⟨g1, g2, g3, g4⟩ := hg
    obtain ⟨n, rfl⟩ : ∃ m : Nat, n = m := ⟨n.toNat, by omega⟩
    obtain ⟨s, rfl⟩ : ∃ m : Nat, steps = m := ⟨steps.toNat, by omega⟩
    have e1 : ¬ (n : Int) < 0 := by omega
    have e2 : ¬ (n : Int) > 50 := by omega
    have e3 : ¬ (s : Int) < 0 := by omega
    have e4 : ¬ (s : Int) > 50 := by omega
    go_enter Try.func5, Try.ntmps5
    go_wp2_with fail
    refine (awake_any _).mono ?_
    rintro e w1 ⟨rfl, hb1⟩
    go_wp2_with fail
    refine (new_any 2 w1 (by decide) (by decide)).mono ?_
    rintro e w2 ⟨g, F, rfl, hd2, hF, hb2⟩
    go_wp2_with fail
    refine (fuel_any w2 F g _ n hd2 (by omega) (by omega)).mono ?_
    rintro e w3 ⟨rfl, hd3, hm3⟩
    have HI := Lib.hid (Dk.fuel_begin n)
    have HD := Lib.hid hd3
    have HM := Lib.hid hm3
    have HF := Lib.hid hF
    have HB := Lib.hid (hb1.trans (hb2.mono hb1.size))
    have HS := Lib.hid (show w.heap.size ≤ w1.heap.size from hb1.size)
    have HS2 := Lib.hid hb2.size
    clear hd2 hd3 hm3 hF hb1 hb2 e1 e2 e3 e4
    go_wp2
    go_loopw [7, 9, 34] (fun dn _ i wr => ∃ (k : Nat) (done : Int) (d : Dk.Disk) (F' : Nat → Prop), k ≤ s ∧ i = .int .i64 k ∧ dn = .int .i64 done ∧ Hid (Dk.FuelInv n k done d) ∧ Hid (Sec wr F' g d) ∧ Hid (Moved F w2 F' wr)) (fun _ _ i _ => s - (intOf i).toNat)
    case atStart => exact ⟨0, 0, _, F, Nat.zero_le _, rfl, rfl, HI, HD, HM⟩
    case round =>
      obtain ⟨k, done, d, F', hk, rfl, rfl, hi, hd, hm⟩ := hrel
      have hdn : done ≤ 50 ∧ 0 ≤ done := by
        rcases hi.out.st with ⟨_, _, h1, h2⟩ | ⟨_, h1, _⟩
        · omega
        · exact ⟨by omega, hi.out.low⟩
      obtain ⟨hdn1, hdn2⟩ := hdn
      by_cases hlt : k < s
      · have hI : (k : Int) < s := by omega
        go_wp2_with fail
        refine (write_any wr F' g d ((k : Int) % 2) ⟨#[120]⟩ hd.out (by have := hi.out.few; omega)).mono ?_
        rintro e wA ⟨rfl, F2, hdA, hmA⟩
        rw [show (⟨#[120]⟩ : ByteArray).data.toList = [120] from rfl, show (k : Int) % 2 = ((k % 2 : Nat) : Int) from by omega] at hdA ⊢
        have HM2 := Lib.hid (hm.out.trans hmA)
        have HDA := Lib.hid hdA
        clear hdA hmA
        by_cases h5 : k % 5 = 4
        · have h5I : (k : Int) % 5 = 4 := by omega
          go_wp2_with fail
          refine (flush_any wA F2 g _ HDA.out).mono ?_
          rintro e wB ⟨rfl, hdB, hmB⟩
          have HM3 := Lib.hid (HM2.out.trans hmB)
          have hfl := Dk.fuel_flush n k done d (k % 2) (Nat.mod_lt _ (by decide)) hi.out h5
          have H2 := Lib.hid hdB
          clear hdB hmB HM2 HDA
          generalize (d.write ((k % 2 : Nat) : Int) [120]).2.flush.2 = D at *
          generalize (d.write ((k % 2 : Nat) : Int) [120]).2.flush.1 = E at *
          generalize (d.write ((k % 2 : Nat) : Int) [120]).1 = E0 at *
          rcases hfl with ⟨rfl, hi⟩ | ⟨rfl, hi⟩
          · have HI2 := Lib.hid hi
            clear hi
            go_wp2
            go_roundw
            case rel => exact ⟨k + 1, done + 2, _, _, by omega, by go_num, by go_num, HI2, H2, HM3⟩
            case measure => simp [intOf]; omega
          · have HI2 := Lib.hid hi
            clear hi
            go_wp2
            go_roundw
            case rel => exact ⟨k + 1, done, _, _, by omega, by go_num, rfl, HI2, H2, HM3⟩
            case measure => simp [intOf]; omega
        · have h5I : ¬ (k : Int) % 5 = 4 := by omega
          have hfl := Dk.fuel_write n k done d (k % 2) (Nat.mod_lt _ (by decide)) hi.out h5
          generalize (d.write ((k % 2 : Nat) : Int) [120]).2 = D at *
          generalize (d.write ((k % 2 : Nat) : Int) [120]).1 = E at *
          rcases hfl with ⟨rfl, hi⟩ | ⟨rfl, hi⟩
          · have HI2 := Lib.hid hi
            clear hi
            go_wp2
            go_roundw
            case rel => exact ⟨k + 1, done + 1, _, _, by omega, by go_num, by go_num, HI2, HDA, HM2⟩
            case measure => simp [intOf]; omega
          · have HI2 := Lib.hid hi
            clear hi
            go_wp2
            go_roundw
            case rel => exact ⟨k + 1, done, _, _, by omega, by go_num, rfl, HI2, HDA, HM2⟩
            case measure => simp [intOf]; omega
      · have hke : k = s := by omega
        subst hke
        obtain ⟨hoff, hle, hwr⟩ := Dk.fuel_end n k done d hi.out
        have HW := Lib.hid hwr
        have hle' : ¬ done > n := by omega
        have hlo := hi.out.few
        clear hwr
        by_cases hb : n < Dk.tot k
        · have hbI : ((Dk.tot k : Int) > n) := by omega
          rw [decide_eq_true hb] at hoff
          go_wp2_with fail
          refine (down_any wr F' g d hd.out).mono ?_
          rintro e wA ⟨rfl, rfl⟩
          rw [hoff]
          go_wp2_with fail
          refine (total_any k wA (by omega)).mono ?_
          rintro e wB ⟨rfl, rfl⟩
          go_wp2_with fail
          refine (fall_any wB F' g d _ [] hd.out (RdB.nil _) (fun h => by cases h)).mono ?_
          rintro e wC ⟨rfl, hdC, hmC⟩
          go_wp2_with fail
          refine (down_any wC F' g _ hdC).mono ?_
          rintro e wD ⟨rfl, rfl⟩
          rw [show (d.fall []).off = false from rfl]
          go_wp2_with fail
          refine (write_any wD F' g _ 0 ⟨#[121]⟩ hdC (Nat.zero_le _)).mono ?_
          rintro e wE ⟨rfl, F3, hdE, hmE⟩
          rw [show (⟨#[121]⟩ : ByteArray).data.toList = [121] from rfl, HW.out]
          have HE := Lib.hid ((hm.out.trans (hmC.trans hmE)).below (fun x hx => Nat.le_trans HS.out (HF.out x hx)) HB.out.size).1
          clear hdC hdE hmC hmE
          go_wp2
          go_ret
          exact ⟨rfl, HB.out.trans HE.out⟩
        · have hbI : ¬ ((Dk.tot k : Int) > n) := by omega
          rw [decide_eq_false hb] at hoff
          go_wp2_with fail
          refine (down_any wr F' g d hd.out).mono ?_
          rintro e wA ⟨rfl, rfl⟩
          rw [hoff]
          go_wp2_with fail
          refine (total_any k wA (by omega)).mono ?_
          rintro e wB ⟨rfl, rfl⟩
          go_wp2_with fail
          refine (fall_any wB F' g d _ [] hd.out (RdB.nil _) (fun h => by cases h)).mono ?_
          rintro e wC ⟨rfl, hdC, hmC⟩
          go_wp2_with fail
          refine (down_any wC F' g _ hdC).mono ?_
          rintro e wD ⟨rfl, rfl⟩
          rw [show (d.fall []).off = false from rfl]
          go_wp2_with fail
          refine (write_any wD F' g _ 0 ⟨#[121]⟩ hdC (Nat.zero_le _)).mono ?_
          rintro e wE ⟨rfl, F3, hdE, hmE⟩
          rw [show (⟨#[121]⟩ : ByteArray).data.toList = [121] from rfl, HW.out]
          have HE := Lib.hid ((hm.out.trans (hmC.trans hmE)).below (fun x hx => Nat.le_trans HS.out (HF.out x hx)) HB.out.size).1
          clear hdC hdE hmC hmE
          go_wp2
          go_ret
          exact ⟨rfl, HB.out.trans HE.out⟩
  · go_enter Try.func5, Try.ntmps5
    go_wp2_with fail
    refine (awake_any _).mono ?_
    rintro e w1 ⟨rfl, hb1⟩
    go_wp2
    all_goals first
      | exfalso; omega
      | (go_ret; exact ⟨rfl, hb1⟩)
end Go.Proofs.Ytdcidfamflcdaaa
