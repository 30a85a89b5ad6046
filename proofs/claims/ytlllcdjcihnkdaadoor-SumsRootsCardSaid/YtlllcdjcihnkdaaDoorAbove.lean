/- Walk of the reference's comparison of digits. -/
import Derived.Test.YtlllcdjcihnkdaaDoorTimes
namespace Go.Proofs.YtlllcdjcihnkdaaDoor
open Go.RowKit

/-- From the highest digit down: as far as they have gone, both are alike. -/
theorem Dg.differ {a b : List Nat} (ha : Dg.Ok a) (hb : Dg.Ok b) {k : Nat} (he : Dg.val a / 256 ^ (k + 1) = Dg.val b / 256 ^ (k + 1)) (hne : a.getD k 0 ≠ b.getD k 0) :
    decide (Dg.val b < Dg.val a) = decide (b.getD k 0 < a.getD k 0) := by
  have h1 := Dg.step_down (Dg.val a) k
  have h2 := Dg.step_down (Dg.val b) k
  rw [← ha.digit k] at h1
  rw [← hb.digit k] at h2
  rw [he] at h1
  generalize 256 * (Dg.val b / 256 ^ (k + 1)) = c at *
  rcases Nat.lt_or_ge (b.getD k 0) (a.getD k 0) with h | h
  · have := Dg.gt_of_div (A := Dg.val a) (B := Dg.val b) (k := 256 ^ k) (by omega)
    rw [decide_eq_true this, decide_eq_true h]
  · have := Dg.gt_of_div (A := Dg.val b) (B := Dg.val a) (k := 256 ^ k) (by omega)
    rw [decide_eq_false (by omega), decide_eq_false (by omega)]
theorem Dg.same {a b : List Nat} (ha : Dg.Ok a) (hb : Dg.Ok b) {k : Nat} (he : Dg.val a / 256 ^ (k + 1) = Dg.val b / 256 ^ (k + 1)) (heq : a.getD k 0 = b.getD k 0) :
    Dg.val a / 256 ^ k = Dg.val b / 256 ^ k := by
  have h1 := Dg.step_down (Dg.val a) k
  have h2 := Dg.step_down (Dg.val b) k
  rw [← ha.digit k] at h1
  rw [← hb.digit k] at h2
  rw [he, heq] at h1
  omega

theorem above_any (la lb : List Nat) (ga gb na nb ca cb : Nat) (w : World) (hna : la.length = na) (hnb : lb.length = nb) (hla : na ≤ 20) (hlb : nb ≤ 20)
    (oka : Dg.Ok la) (okb : Dg.Ok lb) (hRa : RwI w ga la) (hRb : RwI w gb lb) :
    Calls Tryd.prog 36 #[.slice (some ⟨ga, 0, none⟩) na ca, .slice (some ⟨gb, 0, none⟩) nb cb] w fun e w' => e = .returned (.bool (decide (Dg.val lb < Dg.val la))) ∧ w' = w := by
  have HNA := Lib.hid hna
  have HNB := Lib.hid hnb
  have HOA := Lib.hid oka
  have HOB := Lib.hid okb
  have HRA := Lib.hid hRa
  have HRB := Lib.hid hRb
  have HA := Lib.hid (fun (i : Nat) => by have := at_any la ga ca i w hRa; rwa [hna] at this)
  have HB := Lib.hid (fun (i : Nat) => by have := at_any lb gb cb i w hRb; rwa [hnb] at this)
  clear hna hnb oka okb hRa hRb
  go_enter Tryd.func36, Tryd.ntmps36
  go_wp2
  all_goals
    go_loopw [5] (fun vi wr => ∃ k : Nat, k ≤ 20 ∧ vi = .int .i64 ((k : Int) - 1) ∧ Hid (Dg.val la / 256 ^ k = Dg.val lb / 256 ^ k) ∧ wr = w) (fun vi _ => (intOf vi + 1).toNat)
    case atStart =>
      first
      | exact ⟨nb, by omega, rfl, (by show _ = _; rw [HOA.out.over _ (by rw [HNA.out]; omega), HOB.out.over _ (by rw [HNB.out]; omega)]), rfl⟩
      | exact ⟨na, by omega, rfl, (by show _ = _; rw [HOA.out.over _ (by rw [HNA.out]; omega), HOB.out.over _ (by rw [HNB.out]; omega)]), rfl⟩
    case round =>
      obtain ⟨k, hk, rfl, he, rfl⟩ := hrel
      rcases Nat.eq_zero_or_pos k with h0 | h0
      · subst h0
        have HE := Lib.hid (show decide (Dg.val lb < Dg.val la) = false by
          have := he.out
          simp only [Nat.pow_zero, Nat.div_one] at this
          rw [this]; exact decide_eq_false (by omega))
        go_wp2
        go_ret
        exact ⟨by rw [HE.out]; rfl, rfl⟩
      · obtain ⟨j, rfl⟩ : ∃ j, k = j + 1 := ⟨k - 1, by omega⟩
        have hj : (((j + 1 : Nat) : Int)) - 1 = j := by omega
        rw [hj]
        clear hj h0
        obtain ⟨x, hx⟩ : ∃ x, x = la.getD j 0 := ⟨_, rfl⟩
        obtain ⟨y, hy⟩ : ∃ y, y = lb.getD j 0 := ⟨_, rfl⟩
        have HX := Lib.hid hx
        have HY := Lib.hid hy
        clear hx hy
        go_wp2_with fail
        refine (HA.out j).mono ?_
        rintro e w1 ⟨rfl, rfl⟩
        rw [← HX.out]
        go_wp2_with fail
        refine (HB.out j).mono ?_
        rintro e w1 ⟨rfl, rfl⟩
        rw [← HY.out]
        by_cases hxy : x = y
        · have HD := Lib.hid (Dg.same HOA.out HOB.out he.out (by rw [← HX.out, ← HY.out]; exact hxy))
          go_wp2
          go_roundw
          case rel => exact ⟨j, by omega, rfl, HD, trivial⟩
          case measure => simp [intOf]
        · have HD := Lib.hid (Dg.differ HOA.out HOB.out he.out (by rw [← HX.out, ← HY.out]; exact hxy))
          rw [← HX.out, ← HY.out] at HD
          have hxy' : ¬ (x : Int) = y := by omega
          go_wp2_with fail
          refine (HA.out j).mono ?_
          rintro e w1 ⟨rfl, rfl⟩
          rw [← HX.out]
          go_wp2_with fail
          refine (HB.out j).mono ?_
          rintro e w1 ⟨rfl, rfl⟩
          rw [← HY.out]
          go_wp2
          go_ret
          exact ⟨by rw [HD.out]; rfl, rfl⟩
end Go.Proofs.YtlllcdjcihnkdaaDoor
