/- Walk of the statement PackFalls. -/
import Derived.Test.YtgdpdkbhjekjeaaPkAwake
import Derived.Test.YtgdpdkbhjekjeaaPkIn
namespace Go.Proofs.Ytgdpdkbhjekjeaa
open Go.RowKit Lib

namespace Pk
theorem lt_eq : ∀ a b : List UInt8, Op.bytesLess a b = lt a b
  | [], [] => rfl
  | _ :: _, [] => rfl
  | [], _ :: _ => rfl
  | a :: x, b :: y => by
    show (decide (a < b) || (a == b && Op.bytesLess x y)) = (decide (a < b) || (a == b && lt x y))
    rw [lt_eq x y]
theorem neg_neg {n : Nat} (h : n < 2 ^ 64) : neg (neg n) = n := by unfold neg; omega
theorem neg_lt256 (n : Nat) : neg n < 256 ^ 8 := by unfold neg; omega
end Pk
set_option maxHeartbeats 2000000 in
theorem packFalls_any (a b : Int) (s : ByteArray) (w : World) (ha : (Lit.int .u64 a).wf = true) (hb : (Lit.int .u64 b).wf = true) :
    Calls Try.prog 6 #[.int .u64 a, .int .u64 b, .string s] w fun e w' => e = .returned (.bool true) ∧ Below w.heap.size w w' := by
  obtain ⟨n, rfl, hn⟩ := u64_wf ha
  obtain ⟨m, rfl, hm⟩ := u64_wf hb
  clear ha hb
  obtain ⟨X, hX⟩ : ∃ X, X = bs (Wl.enc 8 (Pk.neg n)) := ⟨_, rfl⟩
  obtain ⟨Y, hY⟩ : ∃ Y, Y = bs (Wl.enc 8 (Pk.neg m)) := ⟨_, rfl⟩
  have hXs : X.size = 8 := by rw [hX, bs_size, Wl.enc_length]
  have HF1 := Lib.hid (show ∀ W, Calls Try.prog 21 #[.string X] W fun e w' => e = .returned (.tuple #[.int .u64 n, .bool true]) ∧ w' = W from fun W => by
    have := fell_any X W
    rw [if_pos hXs, hX, bs_list, Wl.dec_enc 8 _ (Pk.neg_lt256 n), Pk.neg_neg hn] at this
    rw [hX]; exact this)
  have HFa := Lib.hid (show ∀ W, Calls Try.prog 20 #[.int .u64 n] W fun e w' => e = .returned (.string X) ∧ Below W.heap.size W w' from fun W => by rw [hX]; exact falls_any n W hn)
  have HFb := Lib.hid (show ∀ W, Calls Try.prog 20 #[.int .u64 m] W fun e w' => e = .returned (.string Y) ∧ Below W.heap.size W w' from fun W => by rw [hY]; exact falls_any m W hm)
  have hlt : Op.bytesLess X.toList Y.toList = decide (m < n) := by
    rw [hX, hY, bs_toList, bs_toList, Pk.lt_eq, Pk.lt_enc 8 _ _ (Pk.neg_lt256 n) (Pk.neg_lt256 m), Bool.eq_iff_iff, decide_eq_true_eq, decide_eq_true_eq]
    unfold Pk.neg
    omega
  have HAW := Lib.hid (fun W => pkawake_any W)
  have hXI : (X.size : Int) = 8 := by omega
  clear hX hY
  by_cases h8 : s.size = 8
  · have hd : Wl.dec s.data.toList < 2 ^ 64 := by
      have := Wl.dec_snoc_lt s.data.toList
      rw [show s.data.toList.length = 8 from (Array.length_toList).trans h8] at this
      exact this
    have hdl : s.data.toList.length = 8 := (Array.length_toList).trans h8
    have HFs := Lib.hid (show ∀ W, Calls Try.prog 21 #[.string s] W fun e w' => e = .returned (.tuple #[.int .u64 (Pk.neg (Wl.dec s.data.toList) : Nat), .bool true]) ∧ w' = W from fun W => by
      have := fell_any s W
      rw [if_pos h8] at this
      exact this)
    have HFd := Lib.hid (show ∀ W, Calls Try.prog 20 #[.int .u64 (Pk.neg (Wl.dec s.data.toList) : Nat)] W fun e w' => e = .returned (.string s) ∧ Below W.heap.size W w' from fun W => by
      have := falls_any (Pk.neg (Wl.dec s.data.toList)) W (neg_lt _)
      rw [Pk.neg_neg hd, Pk.enc_dec 8 _ hdl, bs_data] at this
      exact this)
    generalize Pk.neg (Wl.dec s.data.toList) = d at *
    have h8I : ((s.size : Int) == 8) = true := by rw [beq_iff_eq]; omega
    clear hd hdl h8
    by_cases hmn : m < n
    · have hmnI : (m : Int) < n := by omega
      rw [decide_eq_true hmn] at hlt
      go_enter Try.func6, Try.ntmps6
      go_wp2_with fail
      refine (HAW.out _).mono ?_
      rintro e w1 ⟨rfl, hb1⟩
      have HB1 := Lib.hid hb1
      clear hb1
      go_wp2_with fail
      refine (HFa.out _).mono ?_
      rintro e w2 ⟨rfl, hb2⟩
      have HB2 := Lib.hid (HB1.out.trans (hb2.mono HB1.out.size))
      clear hb2
      go_wp2_with fail
      refine (HFb.out _).mono ?_
      rintro e w4 ⟨rfl, hb4⟩
      have HB4 := Lib.hid (HB2.out.trans (hb4.mono HB2.out.size))
      clear hb4
      go_wp2_with fail
      refine (HF1.out _).mono ?_
      rintro e w5 ⟨rfl, rfl⟩
      go_wp2_with fail
      refine (HFs.out _).mono ?_
      rintro e w6 ⟨rfl, rfl⟩
      go_wp2_with fail
      refine (HFd.out _).mono ?_
      rintro e w5 ⟨rfl, hb5⟩
      have HB5 := Lib.hid (HB4.out.trans (hb5.mono HB4.out.size))
      clear hb5
      go_wp2
      go_ret
      exact ⟨rfl, HB5.out⟩
    · have hmnI : ¬ (m : Int) < n := by omega
      rw [decide_eq_false hmn] at hlt
      go_enter Try.func6, Try.ntmps6
      go_wp2_with fail
      refine (HAW.out _).mono ?_
      rintro e w1 ⟨rfl, hb1⟩
      have HB1 := Lib.hid hb1
      clear hb1
      go_wp2_with fail
      refine (HFa.out _).mono ?_
      rintro e w2 ⟨rfl, hb2⟩
      have HB2 := Lib.hid (HB1.out.trans (hb2.mono HB1.out.size))
      clear hb2
      go_wp2_with fail
      refine (HFb.out _).mono ?_
      rintro e w4 ⟨rfl, hb4⟩
      have HB4 := Lib.hid (HB2.out.trans (hb4.mono HB2.out.size))
      clear hb4
      go_wp2_with fail
      refine (HF1.out _).mono ?_
      rintro e w5 ⟨rfl, rfl⟩
      go_wp2_with fail
      refine (HFs.out _).mono ?_
      rintro e w6 ⟨rfl, rfl⟩
      go_wp2_with fail
      refine (HFd.out _).mono ?_
      rintro e w5 ⟨rfl, hb5⟩
      have HB5 := Lib.hid (HB4.out.trans (hb5.mono HB4.out.size))
      clear hb5
      go_wp2
      go_ret
      exact ⟨rfl, HB5.out⟩
  · have HFs := Lib.hid (show ∀ W, Calls Try.prog 21 #[.string s] W fun e w' => e = .returned (.tuple #[.int .u64 0, .bool false]) ∧ w' = W from fun W => by
      have := fell_any s W
      rw [if_neg h8] at this
      exact this)
    have h8I : ((s.size : Int) == 8) = false := by rw [beq_eq_false_iff_ne]; omega
    by_cases hmn : m < n
    · have hmnI : (m : Int) < n := by omega
      rw [decide_eq_true hmn] at hlt
      go_enter Try.func6, Try.ntmps6
      go_wp2_with fail
      refine (HAW.out _).mono ?_
      rintro e w1 ⟨rfl, hb1⟩
      have HB1 := Lib.hid hb1
      clear hb1
      go_wp2_with fail
      refine (HFa.out _).mono ?_
      rintro e w2 ⟨rfl, hb2⟩
      have HB2 := Lib.hid (HB1.out.trans (hb2.mono HB1.out.size))
      clear hb2
      go_wp2_with fail
      refine (HFb.out _).mono ?_
      rintro e w4 ⟨rfl, hb4⟩
      have HB4 := Lib.hid (HB2.out.trans (hb4.mono HB2.out.size))
      clear hb4
      go_wp2_with fail
      refine (HF1.out _).mono ?_
      rintro e w5 ⟨rfl, rfl⟩
      go_wp2_with fail
      refine (HFs.out _).mono ?_
      rintro e w6 ⟨rfl, rfl⟩
      go_wp2
      go_ret
      exact ⟨rfl, HB4.out⟩
    · have hmnI : ¬ (m : Int) < n := by omega
      rw [decide_eq_false hmn] at hlt
      go_enter Try.func6, Try.ntmps6
      go_wp2_with fail
      refine (HAW.out _).mono ?_
      rintro e w1 ⟨rfl, hb1⟩
      have HB1 := Lib.hid hb1
      clear hb1
      go_wp2_with fail
      refine (HFa.out _).mono ?_
      rintro e w2 ⟨rfl, hb2⟩
      have HB2 := Lib.hid (HB1.out.trans (hb2.mono HB1.out.size))
      clear hb2
      go_wp2_with fail
      refine (HFb.out _).mono ?_
      rintro e w4 ⟨rfl, hb4⟩
      have HB4 := Lib.hid (HB2.out.trans (hb4.mono HB2.out.size))
      clear hb4
      go_wp2_with fail
      refine (HF1.out _).mono ?_
      rintro e w5 ⟨rfl, rfl⟩
      go_wp2_with fail
      refine (HFs.out _).mono ?_
      rintro e w6 ⟨rfl, rfl⟩
      go_wp2
      go_ret
      exact ⟨rfl, HB4.out⟩
end Go.Proofs.Ytgdpdkbhjekjeaa
