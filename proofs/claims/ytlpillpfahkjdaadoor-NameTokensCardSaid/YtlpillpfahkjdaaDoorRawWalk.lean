/- Walks of the functions that read digits. -/
import Derived.Test.YtlpillpfahkjdaaDoorHexWalk
namespace Go.Proofs.YtlpillpfahkjdaaDoor
open Go.RowKit

theorem raw_any (s : ByteArray) (w : World) (hs : s.size ≤ 1000000000) :
    Calls Tryd.prog 17 #[.string s] w fun e w' => e = .returned (Hx.rawV s.data.toList) ∧ Below w.heap.size w w' := by
  by_cases hodd : s.size % 2 = 1
  · have hn := Lib.hid (Hx.rawV_none (Hx.raw_odd (s.size / 2) s.data.toList (by rw [Array.length_toList]; show s.size = _; omega)))
    go_enter Tryd.func17, Tryd.ntmps17
    go_wp2
    go_ret2
    exact ⟨ret_eq hn.out.symm, Below.refl _ _⟩
  · have hev := Lib.hid hodd
    have hodd' : (s.size : Int) % 2 = 0 := by omega
    clear hodd
    go_enter Tryd.func17, Tryd.ntmps17
    go_wp2_with (at_make; refine wpList_mk rfl _ _ rfl w.heap.size w _ (s.size / 2) rfl rfl (by omega) (by omega) (Below.refl _ _) (Nat.le_refl _) ?_; intro v0 w0 hown0 hb0)
    clear hodd'
    go_loopw [4, 5, 6, 7] (fun v i a b wr => ∃ (k : Nat) (l : List UInt8), k ≤ s.size ∧ k % 2 = 0 ∧ i = .int .i64 k ∧ OwnB w.heap.size wr v l ∧ Hx.RawAt s k l ∧ Below w.heap.size w wr) (fun _ i _ _ _ => s.size - (intOf i).toNat)
    case atStart => exact ⟨0, [], Nat.zero_le _, rfl, rfl, hown0, Hx.rawAt_zero s, hb0⟩
    case round =>
      obtain ⟨k, l, hk, he, rfl, hown, hat, hb⟩ := hrel
      have ev := hev.out
      have he' := Lib.hid he
      have hl : l.length ≤ 1000000000 := by have := hat.2; omega
      have HA := Lib.hid hat
      clear he hat
      by_cases hlt : k < s.size
      · have hk1 : k + 1 < s.size := by have := he'.out; omega
        clear ev
        have va := Hx.val_ge s[k]
        have vb := Hx.val_ge s[k + 1]
        have ua := Hx.val_le s[k]
        have ub := Hx.val_le s[k + 1]
        go_wp2_with fail
        refine (sixteen_any _ _).mono ?_
        rintro e w' ⟨rfl, rfl⟩
        go_wp2_with fail
        refine (sixteen_any _ _).mono ?_
        rintro e w' ⟨rfl, rfl⟩
        by_cases ha : Hx.val s[k] < 0
        · have hn := Lib.hid (Hx.rawV_none (Hx.rawAt_bad HA.out hk1 (.inl ha)))
          go_wp2
          go_ret2
          exact ⟨ret_eq hn.out.symm, hb⟩
        · by_cases hbb : Hx.val s[k + 1] < 0
          · have hn := Lib.hid (Hx.rawV_none (Hx.rawAt_bad HA.out hk1 (.inr hbb)))
            go_wp2
            go_ret2
            exact ⟨ret_eq hn.out.symm, hb⟩
          · have hstep := Lib.hid (Hx.rawAt_step HA.out hk1 (by omega))
            have hor := Lib.hid (Hx.or_val (Hx.val s[k]) (Hx.val s[k + 1]) (by omega) (by omega) (by omega) (by omega))
            go_wp2_with (at_builtin; refine wpList_appB rfl _ _ rfl w.heap.size w _ _ rfl (hown.alloc _) (hb.alloc hb.size _) (by have := hb.size; simp; omega) ⟨wr.heap.size, 0, none⟩ 1 1 [Hx.pair (Hx.val s[k]) (Hx.val s[k + 1])] rfl rfl (news_one _ _ _ _ hor.out) (by omega) ?_; intro v' w1 hown' hb')
            go_roundw
            case rel => exact ⟨k + 2, _, by omega, by have := he'.out; omega, by go_num, hown', hstep.out, hb'⟩
            case measure => simp [intOf]; omega
      · have hst := run_str hown
        have e := Lib.hid (Hx.rawV_some (Hx.rawAt_end HA.out (by omega)))
        clear ev
        go_wp2
        go_ret2
        exact ⟨ret_eq e.out.symm, hb⟩

set_option maxHeartbeats 400000 in
theorem refRaw_any (s : ByteArray) (w : World) (hs : s.size ≤ 1000000000) :
    Calls Tryd.prog 19 #[.string s] w fun e w' => e = .returned (Hx.rawV s.data.toList) ∧ Below w.heap.size w w' := by
  go_enter Tryd.func19, Tryd.ntmps19
  go_wp2
  go_loopw [4, 5, 6, 7] (fun v i a b wr => ∃ (k : Nat) (l : List UInt8), k ≤ s.size ∧ i = .int .i64 k ∧ v = .string ⟨l.toArray⟩ ∧ Hx.RawAt s k l ∧ Below w.heap.size w wr) (fun _ i _ _ _ => s.size - (intOf i).toNat)
  case atStart => exact ⟨0, [], Nat.zero_le _, rfl, rfl, Hx.rawAt_zero s, Below.refl _ _⟩
  case round =>
    obtain ⟨k, l, hk, rfl, rfl, hat, hb⟩ := hrel
    have hl : l.length ≤ 1000000000 := by have := hat.2; omega
    have HA := Lib.hid hat
    clear hat
    by_cases hlt : k < s.size
    · by_cases hk1 : k + 1 = s.size
      · have hn := Lib.hid (Hx.rawV_none (Hx.rawAt_single HA.out hk1))
        have hk1' : ((k : Int) + 1 == (s.size : Int)) = true := by rw [beq_iff_eq]; omega
        clear hk1
        go_wp2
        go_ret2
        exact ⟨ret_eq hn.out.symm, hb⟩
      · have hk2 : k + 1 < s.size := by omega
        have hk1' : ((k : Int) + 1 == (s.size : Int)) = false := by rw [beq_eq_false_iff_ne]; omega
        clear hk1
        have va := Hx.val_ge s[k]
        have vb := Hx.val_ge s[k + 1]
        have ua := Hx.val_le s[k]
        have ub := Hx.val_le s[k + 1]
        go_wp2_with fail
        refine (value_any _ _).mono ?_
        rintro e w' ⟨rfl, rfl⟩
        go_wp2_with fail
        refine (value_any _ _).mono ?_
        rintro e w' ⟨rfl, rfl⟩
        by_cases ha : Hx.val s[k] < 0
        · have hn := Lib.hid (Hx.rawV_none (Hx.rawAt_bad HA.out hk2 (.inl ha)))
          go_wp2
          go_ret2
          exact ⟨ret_eq hn.out.symm, hb⟩
        · by_cases hbb : Hx.val s[k + 1] < 0
          · have hn := Lib.hid (Hx.rawV_none (Hx.rawAt_bad HA.out hk2 (.inr hbb)))
            go_wp2
            go_ret2
            exact ⟨ret_eq hn.out.symm, hb⟩
          · have hstep := Lib.hid (Hx.rawAt_step HA.out hk2 (by omega))
            have hcv := fun w' => run_str_one w' _ _ (Hx.sum_val (Hx.val s[k]) (Hx.val s[k + 1]) (by omega) (by omega) (by omega) (by omega))
            go_wp2
            go_roundw
            case rel => exact ⟨k + 2, _, by omega, by go_num, by rw [Hx.str_snoc], hstep.out, hb.alloc hb.size _⟩
            case measure => simp [intOf]; omega
    · have e := Lib.hid (Hx.rawV_some (Hx.rawAt_end HA.out (by omega)))
      go_wp2
      go_ret2
      exact ⟨ret_eq e.out.symm, hb⟩
end Go.Proofs.YtlpillpfahkjdaaDoor
