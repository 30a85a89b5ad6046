/- Walk of the statement NameTokens. -/
import Derived.Test.YtlpillpfahkjdaaDoorNmTold
import Derived.Test.YtlpillpfahkjdaaDoorNmAwake
namespace Go.Proofs.YtlpillpfahkjdaaDoor
open Go.RowKit Lib

set_option maxHeartbeats 2000000 in
theorem refTold13_any (v : ByteArray) (w : World) (hs : v.size ≤ 10000) : Calls Tryd.prog 7 #[.string v] w fun e w' => e = .returned (tokV (Nm.told v.data.toList)) ∧ Below w.heap.size w w' := by
  have hvl : v.data.toList.length = v.size := Array.length_toList
  have HRW := Lib.hid (fun W => refRaw_any v W (by omega))
  unfold Nm.told
  cases hr : Hx.raw v.data.toList with
  | none =>
    rw [Hx.rawV_none hr] at HRW
    clear hr hvl hs
    go_enter Tryd.func7, Tryd.ntmps7
    go_wp2_with fail
    refine (HRW.out _).mono ?_
    rintro e w1 ⟨rfl, hb1⟩
    have HB1 := Lib.hid hb1
    clear hb1
    go_wp2
    go_ret2
    exact ⟨rfl, HB1.out⟩
  | some r =>
    rw [Hx.rawV_some hr] at HRW
    have hrl : r.length ≤ 10000 := by
      have h := Nm.hex_raw _ _ _ (Nat.le_refl _) hr
      have h2 := congrArg List.length h
      rw [Hx.hex_length] at h2
      omega
    change Hid (∀ W, Calls Tryd.prog 19 _ W fun e w' => e = .returned (.tuple #[.string (bs r), .bool true]) ∧ Below W.heap.size W w') at HRW
    have hrs : (bs r).size = r.length := bs_size r
    simp only
    by_cases h4 : r.length < 4
    · rw [if_pos h4]
      have h4I : ((bs r).size : Int) < 4 := by omega
      generalize bs r = R at *
      clear hr hvl hs hrl hrs h4
      go_enter Tryd.func7, Tryd.ntmps7
      go_wp2_with fail
      refine (HRW.out _).mono ?_
      rintro e w1 ⟨rfl, hb1⟩
      have HB1 := Lib.hid hb1
      clear hb1
      go_wp2
      go_ret2
      exact ⟨rfl, HB1.out⟩
    · rw [if_neg h4]
      have h4I : ¬ ((bs r).size : Int) < 4 := by omega
      have h4J : (4 : Int) ≤ (bs r).size := by omega
      have hx : (bs r).extract 4 (bs r).size = bs (r.drop 4) := by
        apply ByteArray.ext; apply Array.ext'; rw [ext_drop]; rfl
      have HTK := Lib.hid (fun W => refToken_any (bs (r.drop 4)) W (by rw [bs_size, List.length_drop]; omega))
      rw [bs_list] at HTK
      by_cases hv : Nm.token (r.drop 4) = v.data.toList
      · rw [if_pos hv]
        rw [hv, bs_data] at HTK
        rw [← hx] at HTK
        have HV := Lib.hid (show tokV (some (r.drop 4)) = .tuple #[.string ((bs r).extract 4 (bs r).size), .bool true] by rw [hx]; rfl)
        generalize bs r = R at *
        clear hr hvl hs hrl hrs h4 hx hv
        go_enter Tryd.func7, Tryd.ntmps7
        go_wp2_with fail
        refine (HRW.out _).mono ?_
        rintro e w1 ⟨rfl, hb1⟩
        have HB1 := Lib.hid hb1
        clear hb1
        go_wp2_with fail
        refine (HTK.out _).mono ?_
        rintro e w2 ⟨rfl, hb2⟩
        have HB2 := Lib.hid (HB1.out.trans (hb2.mono HB1.out.size))
        clear hb2
        go_wp2
        go_ret2
        exact ⟨congrArg Ending.returned HV.out.symm, HB2.out⟩
      · rw [if_neg hv]
        have hne : ((bs (Nm.token (r.drop 4))).toList == v.toList) = false := by
          rw [bs_toList, ByteArray.toList_eq, beq_eq_false_iff_ne]; exact hv
        have hne2 : ((bs (Nm.token (r.drop 4))).toList != v.toList) = true := by
          rw [bs_toList, ByteArray.toList_eq, bne_iff_ne]; exact hv
        rw [← hx] at HTK
        generalize bs (Nm.token (r.drop 4)) = TT at *
        generalize bs r = R at *
        clear hr hvl hs hrl hrs h4 hx hv
        go_enter Tryd.func7, Tryd.ntmps7
        go_wp2_with fail
        refine (HRW.out _).mono ?_
        rintro e w1 ⟨rfl, hb1⟩
        have HB1 := Lib.hid hb1
        clear hb1
        go_wp2_with fail
        refine (HTK.out _).mono ?_
        rintro e w2 ⟨rfl, hb2⟩
        have HB2 := Lib.hid (HB1.out.trans (hb2.mono HB1.out.size))
        clear hb2
        go_wp2
        go_ret2
        exact ⟨rfl, HB2.out⟩
set_option maxHeartbeats 4000000 in
theorem nameTokens_any (s v : ByteArray) (w : World) (hT : Nibs w) : Calls Tryd.prog 3 #[.string s, .string v] w fun e w' => e = .returned (.bool true) ∧ Below w.heap.size w w' := by
  have HAW := Lib.hid (fun W => nmawake_any W)
  have HN := Lib.hid hT
  clear hT
  by_cases hs : s.size ≤ 500
  · have hsI : ¬ (s.size : Int) > 500 := by omega
    by_cases hv : v.size ≤ 500
    · have hvI : ¬ (v.size : Int) > 500 := by omega
      have hsl : s.data.toList.length = s.size := Array.length_toList
      have htl : (bs (Nm.token s.data.toList)).size ≤ 10000 := by
        rw [bs_size]; unfold Nm.token
        rw [List.length_append, Hx.hex_length, Hx.hex_length, Wl.enc_length]; omega
      have HTK := Lib.hid (fun W h => token_any s W h (by omega))
      have HRK := Lib.hid (fun W => refToken_any s W (by omega))
      have HTO := Lib.hid (fun W h => ntold_any (bs (Nm.token s.data.toList)) W h htl)
      rw [bs_list, Nm.told_token] at HTO
      have HTV := Lib.hid (fun W h => ntold_any v W h (by omega))
      have HRV := Lib.hid (fun W => refTold13_any v W (by omega))
      unfold tokV at HTO HTV HRV
      simp only at HTO
      rw [bs_data] at HTO
      generalize bs (Nm.token s.data.toList) = T at *
      cases htd : Nm.told v.data.toList with
      | none =>
        rw [htd] at HTV HRV
        simp only at HTV HRV
        clear htd hs hv hsl htl
        go_enter Tryd.func3, Tryd.ntmps3
        go_wp2_with fail
        refine (HAW.out _).mono ?_
        rintro e w1 ⟨rfl, hb1⟩
        have HB1 := Lib.hid hb1
        clear hb1
        go_wp2_with fail
        refine (HTK.out _ (HN.out.below HB1.out)).mono ?_
        rintro e w2 ⟨rfl, hb2⟩
        have HB2 := Lib.hid (HB1.out.trans (hb2.mono HB1.out.size))
        clear hb2
        go_wp2_with fail
        refine (HTO.out _ (HN.out.below HB2.out)).mono ?_
        rintro e w3 ⟨rfl, hb3⟩
        have HB3 := Lib.hid (HB2.out.trans (hb3.mono HB2.out.size))
        clear hb3
        go_wp2_with fail
        refine (HTV.out _ (HN.out.below HB3.out)).mono ?_
        rintro e w4 ⟨rfl, hb4⟩
        have HB4 := Lib.hid (HB3.out.trans (hb4.mono HB3.out.size))
        clear hb4
        go_wp2_with fail
        refine (HRV.out _).mono ?_
        rintro e w5 ⟨rfl, hb5⟩
        have HB5 := Lib.hid (HB4.out.trans (hb5.mono HB4.out.size))
        clear hb5
        go_wp2_with fail
        refine (HRK.out _).mono ?_
        rintro e w6 ⟨rfl, hb6⟩
        have HB6 := Lib.hid (HB5.out.trans (hb6.mono HB5.out.size))
        clear hb6
        go_wp2
        go_ret
        exact ⟨rfl, HB6.out⟩
      | some q =>
        rw [htd] at HTV HRV
        simp only at HTV HRV
        have hq := Nm.told_some htd
        have hql : q.length ≤ 500 := by
          have h := congrArg List.length hq
          unfold Nm.token at h
          rw [List.length_append, Hx.hex_length, Hx.hex_length] at h
          have h2 : v.data.toList.length = v.size := Array.length_toList
          omega
        have HTQ := Lib.hid (fun W h => token_any (bs q) W h (by rw [bs_size]; omega))
        rw [bs_list, hq, bs_data] at HTQ
        generalize bs q = Q at *
        clear htd hs hv hsl htl hq hql
        go_enter Tryd.func3, Tryd.ntmps3
        go_wp2_with fail
        refine (HAW.out _).mono ?_
        rintro e w1 ⟨rfl, hb1⟩
        have HB1 := Lib.hid hb1
        clear hb1
        go_wp2_with fail
        refine (HTK.out _ (HN.out.below HB1.out)).mono ?_
        rintro e w2 ⟨rfl, hb2⟩
        have HB2 := Lib.hid (HB1.out.trans (hb2.mono HB1.out.size))
        clear hb2
        go_wp2_with fail
        refine (HTO.out _ (HN.out.below HB2.out)).mono ?_
        rintro e w3 ⟨rfl, hb3⟩
        have HB3 := Lib.hid (HB2.out.trans (hb3.mono HB2.out.size))
        clear hb3
        go_wp2_with fail
        refine (HTV.out _ (HN.out.below HB3.out)).mono ?_
        rintro e w4 ⟨rfl, hb4⟩
        have HB4 := Lib.hid (HB3.out.trans (hb4.mono HB3.out.size))
        clear hb4
        go_wp2_with fail
        refine (HRV.out _).mono ?_
        rintro e w5 ⟨rfl, hb5⟩
        have HB5 := Lib.hid (HB4.out.trans (hb5.mono HB4.out.size))
        clear hb5
        go_wp2_with fail
        refine (HRK.out _).mono ?_
        rintro e w6 ⟨rfl, hb6⟩
        have HB6 := Lib.hid (HB5.out.trans (hb6.mono HB5.out.size))
        clear hb6
        go_wp2_with fail
        refine (HTQ.out _ (HN.out.below HB6.out)).mono ?_
        rintro e w7 ⟨rfl, hb7⟩
        have HB7 := Lib.hid (HB6.out.trans (hb7.mono HB6.out.size))
        clear hb7
        go_wp2
        go_ret
        exact ⟨rfl, HB7.out⟩
    · have hvI : (v.size : Int) > 500 := by omega
      go_enter Tryd.func3, Tryd.ntmps3
      go_wp2_with fail
      refine (HAW.out _).mono ?_
      rintro e w1 ⟨rfl, hb1⟩
      have HB1 := Lib.hid hb1
      clear hb1
      go_wp2
      go_ret
      exact ⟨rfl, HB1.out⟩
  · have hsI : (s.size : Int) > 500 := by omega
    go_enter Tryd.func3, Tryd.ntmps3
    go_wp2_with fail
    refine (HAW.out _).mono ?_
    rintro e w1 ⟨rfl, hb1⟩
    have HB1 := Lib.hid hb1
    clear hb1
    go_wp2
    go_ret
    exact ⟨rfl, HB1.out⟩
end Go.Proofs.YtlpillpfahkjdaaDoor
