/- Walk of the statement PackParts. -/
import Derived.Test.YtgdpdkbhjekjeaaPkAwake
import Derived.Test.YtgdpdkbhjekjeaaPkPart
namespace Go.Proofs.Ytgdpdkbhjekjeaa
open Go.RowKit Lib

namespace Pk
theorem lt_eq' : ∀ a b : List UInt8, Op.bytesLess a b = lt a b
  | [], [] => rfl
  | _ :: _, [] => rfl
  | [], _ :: _ => rfl
  | a :: x, b :: y => by
    show (decide (a < b) || (a == b && Op.bytesLess x y)) = (decide (a < b) || (a == b && lt x y))
    rw [lt_eq' x y]
end Pk
theorem cutv_form (o : Option (Pk.Text × Pk.Text)) : ∃ u v b, cutv o = .tuple #[.string u, .string v, .bool b] := by
  cases o with
  | none => exact ⟨_, _, _, rfl⟩
  | some p => obtain ⟨x, y⟩ := p; exact ⟨_, _, _, rfl⟩
set_option maxRecDepth 100000 in
set_option maxHeartbeats 8000000 in
theorem packParts_any (a b x y : ByteArray) (w : World) :
    Calls Try.prog 5 #[.string a, .string b, .agg #[.string x, .string y]] w fun e w' => e = .returned (.bool true) ∧ Below w.heap.size w w' := by
  have HAW := Lib.hid (fun W => pkawake_any W)
  obtain ⟨W0, hW0⟩ : ∃ W0, W0 = w.alloc (.cells #[.string x, .string y] 34) := ⟨_, rfl⟩
  have HB0 := Lib.hid (show Below w.heap.size w W0 by rw [hW0]; exact (Below.refl _ _).alloc (Nat.le_refl _) _)
  have HK0 := Lib.hid (show Blk W0 w.heap.size 34 [.string x, .string y] by rw [hW0]; exact Blk.new w #[.string x, .string y] 34)
  by_cases ha : a.size ≤ 500
  · have haI : ¬ (a.size : Int) > 500 := by omega
    by_cases hb : b.size ≤ 500
    · have hbI : ¬ (b.size : Int) > 500 := by omega
      by_cases hx : x.size ≤ 500
      · have hxI : ¬ (x.size : Int) > 500 := by omega
        by_cases hy : y.size ≤ 500
        · have hyI : ¬ (y.size : Int) > 500 := by omega
          have HPa := Lib.hid (fun W => part_any a W (by omega))
          have HPb := Lib.hid (fun W => part_any b W (by omega))
          have HRa := Lib.hid (fun W => refCut_any a W (by omega))
          have HRb := Lib.hid (fun W => refCut_any b W (by omega))
          have hsx : (a ++ x).size ≤ 1000000 := by rw [ByteArray.size_append]; omega
          have HCx := Lib.hid (fun W => pcut_any (a ++ x) W hsx)
          have HRx := Lib.hid (fun W => refCut_any (a ++ x) W hsx)
          obtain ⟨u, v, bb, hV⟩ := cutv_form (Pk.cut (a ++ x).data.toList)
          rw [hV] at HCx HRx
          have hsum1 : a.size + x.size ≤ 9223372036854775807 := by omega
          clear hV hsx
          cases hca : Pk.cut a.data.toList with
          | some p =>
            obtain ⟨p1, p2⟩ := p
            rw [hca] at HPa HRa
            rw [Option.isSome_some, if_pos rfl] at HPa
            unfold cutv at HRa
            simp only at HRa
            generalize bs p1 = P1 at *
            generalize bs p2 = P2 at *
            cases hcb : Pk.cut b.data.toList with
            | some q =>
              obtain ⟨q1, q2⟩ := q
              rw [hcb] at HPb HRb
              rw [Option.isSome_some, if_pos rfl] at HPb
              unfold cutv at HRb
              simp only at HRb
              generalize bs q1 = Q1 at *
              generalize bs q2 = Q2 at *
              clear hca hcb ha hb hx hy
              go_enter Try.func5, Try.ntmps5
              go_wp2_with fail
              rw [← hW0]
              refine (HAW.out _).mono ?_
              rintro e w1 ⟨rfl, hb1⟩
              have HB1 := Lib.hid (HB0.out.trans (hb1.mono HB0.out.size))
              have HK1 := Lib.hid (HK0.out.below hb1 HK0.out.lt)
              have c0 := HK1.out.cell (j := 0) rfl
              have c1 := HK1.out.cell (j := 1) rfl
              clear hb1 hW0
              go_wp2_with fail
              refine (HPa.out _).mono ?_
              rintro e w2 ⟨rfl, rfl⟩
              go_wp2_with fail
              refine (HPb.out _).mono ?_
              rintro e w3 ⟨rfl, rfl⟩
              go_wp2_with fail
              refine (HRa.out _).mono ?_
              rintro e w4 ⟨rfl, hb4⟩
              have HB4 := Lib.hid (HB1.out.trans (hb4.mono HB1.out.size))
              have HK4 := Lib.hid (HK1.out.below hb4 HK1.out.lt)
              clear hb4 c0 c1
              go_wp2_with fail
              refine (HRb.out _).mono ?_
              rintro e w5 ⟨rfl, hb5⟩
              have HB5 := Lib.hid (HB4.out.trans (hb5.mono HB4.out.size))
              have HK5 := Lib.hid (HK4.out.below hb5 HK4.out.lt)
              have c0 := HK5.out.cell (j := 0) rfl
              clear hb5
              go_wp2_with fail
              refine (HCx.out _).mono ?_
              rintro e w6 ⟨rfl, hb6⟩
              have HB6 := Lib.hid (HB5.out.trans (hb6.mono HB5.out.size))
              have HK6 := Lib.hid (HK5.out.below hb6 HK5.out.lt)
              clear hb6 c0
              have c0 := HK6.out.cell (j := 0) rfl
              go_wp2_with fail
              refine (HRx.out _).mono ?_
              rintro e w7 ⟨rfl, hb7⟩
              have HB7 := Lib.hid (HB6.out.trans (hb7.mono HB6.out.size))
              have HK7 := Lib.hid (HK6.out.below hb7 HK6.out.lt)
              clear hb7 c0
              have c0 := HK7.out.cell (j := 0) rfl
              go_wp2
              go_ret
              exact ⟨rfl, HB7.out⟩
            | none =>
              rw [hcb] at HPb HRb
              rw [Option.isSome_none, if_neg (by decide)] at HPb
              unfold cutv at HRb
              simp only at HRb
              generalize bs (b.data.toList ++ [0]) = Q at *
              clear hca hcb ha hb hx hy
              go_enter Try.func5, Try.ntmps5
              go_wp2_with fail
              rw [← hW0]
              refine (HAW.out _).mono ?_
              rintro e w1 ⟨rfl, hb1⟩
              have HB1 := Lib.hid (HB0.out.trans (hb1.mono HB0.out.size))
              have HK1 := Lib.hid (HK0.out.below hb1 HK0.out.lt)
              have c0 := HK1.out.cell (j := 0) rfl
              have c1 := HK1.out.cell (j := 1) rfl
              clear hb1 hW0
              go_wp2_with fail
              refine (HPa.out _).mono ?_
              rintro e w2 ⟨rfl, rfl⟩
              go_wp2_with fail
              refine (HPb.out _).mono ?_
              rintro e w3 ⟨rfl, rfl⟩
              go_wp2_with fail
              refine (HRa.out _).mono ?_
              rintro e w4 ⟨rfl, hb4⟩
              have HB4 := Lib.hid (HB1.out.trans (hb4.mono HB1.out.size))
              have HK4 := Lib.hid (HK1.out.below hb4 HK1.out.lt)
              clear hb4 c0 c1
              go_wp2_with fail
              refine (HRb.out _).mono ?_
              rintro e w5 ⟨rfl, hb5⟩
              have HB5 := Lib.hid (HB4.out.trans (hb5.mono HB4.out.size))
              have HK5 := Lib.hid (HK4.out.below hb5 HK4.out.lt)
              have c0 := HK5.out.cell (j := 0) rfl
              clear hb5
              go_wp2_with fail
              refine (HCx.out _).mono ?_
              rintro e w6 ⟨rfl, hb6⟩
              have HB6 := Lib.hid (HB5.out.trans (hb6.mono HB5.out.size))
              have HK6 := Lib.hid (HK5.out.below hb6 HK5.out.lt)
              clear hb6 c0
              have c0 := HK6.out.cell (j := 0) rfl
              go_wp2_with fail
              refine (HRx.out _).mono ?_
              rintro e w7 ⟨rfl, hb7⟩
              have HB7 := Lib.hid (HB6.out.trans (hb7.mono HB6.out.size))
              have HK7 := Lib.hid (HK6.out.below hb7 HK6.out.lt)
              clear hb7 c0
              have c0 := HK7.out.cell (j := 0) rfl
              go_wp2
              go_ret
              exact ⟨rfl, HB7.out⟩
          | none =>
            rw [hca] at HPa HRa
            rw [Option.isSome_none, if_neg (by decide)] at HPa
            unfold cutv at HRa
            simp only at HRa
            cases hcb : Pk.cut b.data.toList with
            | some q =>
              obtain ⟨q1, q2⟩ := q
              rw [hcb] at HPb HRb
              rw [Option.isSome_some, if_pos rfl] at HPb
              unfold cutv at HRb
              simp only at HRb
              generalize bs (a.data.toList ++ [0]) = P at *
              generalize bs q1 = Q1 at *
              generalize bs q2 = Q2 at *
              clear hca hcb ha hb hx hy
              go_enter Try.func5, Try.ntmps5
              go_wp2_with fail
              rw [← hW0]
              refine (HAW.out _).mono ?_
              rintro e w1 ⟨rfl, hb1⟩
              have HB1 := Lib.hid (HB0.out.trans (hb1.mono HB0.out.size))
              have HK1 := Lib.hid (HK0.out.below hb1 HK0.out.lt)
              have c0 := HK1.out.cell (j := 0) rfl
              have c1 := HK1.out.cell (j := 1) rfl
              clear hb1 hW0
              go_wp2_with fail
              refine (HPa.out _).mono ?_
              rintro e w2 ⟨rfl, rfl⟩
              go_wp2_with fail
              refine (HPb.out _).mono ?_
              rintro e w3 ⟨rfl, rfl⟩
              go_wp2_with fail
              refine (HRa.out _).mono ?_
              rintro e w4 ⟨rfl, hb4⟩
              have HB4 := Lib.hid (HB1.out.trans (hb4.mono HB1.out.size))
              have HK4 := Lib.hid (HK1.out.below hb4 HK1.out.lt)
              clear hb4 c0 c1
              go_wp2_with fail
              refine (HRb.out _).mono ?_
              rintro e w5 ⟨rfl, hb5⟩
              have HB5 := Lib.hid (HB4.out.trans (hb5.mono HB4.out.size))
              have HK5 := Lib.hid (HK4.out.below hb5 HK4.out.lt)
              have c0 := HK5.out.cell (j := 0) rfl
              clear hb5
              go_wp2_with fail
              refine (HCx.out _).mono ?_
              rintro e w6 ⟨rfl, hb6⟩
              have HB6 := Lib.hid (HB5.out.trans (hb6.mono HB5.out.size))
              have HK6 := Lib.hid (HK5.out.below hb6 HK5.out.lt)
              clear hb6 c0
              have c0 := HK6.out.cell (j := 0) rfl
              go_wp2_with fail
              refine (HRx.out _).mono ?_
              rintro e w7 ⟨rfl, hb7⟩
              have HB7 := Lib.hid (HB6.out.trans (hb7.mono HB6.out.size))
              have HK7 := Lib.hid (HK6.out.below hb7 HK6.out.lt)
              clear hb7 c0
              have c0 := HK7.out.cell (j := 0) rfl
              go_wp2
              go_ret
              exact ⟨rfl, HB7.out⟩
            | none =>
              rw [hcb] at HPb HRb
              rw [Option.isSome_none, if_neg (by decide)] at HPb
              unfold cutv at HRb
              simp only at HRb
              obtain ⟨P, hP⟩ : ∃ P, P = bs (a.data.toList ++ [0]) := ⟨_, rfl⟩
              obtain ⟨Q, hQ⟩ : ∃ Q, Q = bs (b.data.toList ++ [0]) := ⟨_, rfl⟩
              have hPs : P.size = a.size + 1 := by rw [hP, bs_size, List.length_append, Array.length_toList]; rfl
              have hQs : Q.size = b.size + 1 := by rw [hQ, bs_size, List.length_append, Array.length_toList]; rfl
              have hna := (Pk.cut_none _).1 hca
              have hnb := (Pk.cut_none _).1 hcb
              have hPx : P ++ x = bs (a.data.toList ++ [0] ++ x.data.toList) := by rw [hP]; exact bs_append (a.data.toList ++ [0]) x.data.toList
              have hQy : Q ++ y = bs (b.data.toList ++ [0] ++ y.data.toList) := by rw [hQ]; exact bs_append (b.data.toList ++ [0]) y.data.toList
              have HCp := Lib.hid (show ∀ W, Calls Try.prog 19 #[.string (P ++ x)] W fun e w' => e = .returned (.tuple #[.string a, .string x, .bool true]) ∧ Below W.heap.size W w' from fun W => by
                have := pcut_any (P ++ x) W (by rw [ByteArray.size_append]; omega)
                rw [show (P ++ x).data.toList = a.data.toList ++ [0] ++ x.data.toList by rw [hPx]; rfl, Pk.cut_part _ _ hna] at this
                exact this)
              rw [← hP] at HPa
              rw [← hQ] at HPb
              have hsum2 : P.size + x.size ≤ 9223372036854775807 := by omega
              have hsum3 : Q.size + y.size ≤ 9223372036854775807 := by omega
              by_cases hab : a = b
              · subst hab
                clear hca hcb ha hb hx hy hP hQ hPs hQs hna hnb hPx hQy
                go_enter Try.func5, Try.ntmps5
                go_wp2_with fail
                rw [← hW0]
                refine (HAW.out _).mono ?_
                rintro e w1 ⟨rfl, hb1⟩
                have HB1 := Lib.hid (HB0.out.trans (hb1.mono HB0.out.size))
                have HK1 := Lib.hid (HK0.out.below hb1 HK0.out.lt)
                have c0 := HK1.out.cell (j := 0) rfl
                have c1 := HK1.out.cell (j := 1) rfl
                clear hb1 hW0
                go_wp2_with fail
                refine (HPa.out _).mono ?_
                rintro e w2 ⟨rfl, rfl⟩
                go_wp2_with fail
                refine (HPb.out _).mono ?_
                rintro e w3 ⟨rfl, rfl⟩
                go_wp2_with fail
                refine (HRa.out _).mono ?_
                rintro e w4 ⟨rfl, hb4⟩
                have HB4 := Lib.hid (HB1.out.trans (hb4.mono HB1.out.size))
                have HK4 := Lib.hid (HK1.out.below hb4 HK1.out.lt)
                clear hb4 c0 c1
                go_wp2_with fail
                refine (HRb.out _).mono ?_
                rintro e w5 ⟨rfl, hb5⟩
                have HB5 := Lib.hid (HB4.out.trans (hb5.mono HB4.out.size))
                have HK5 := Lib.hid (HK4.out.below hb5 HK4.out.lt)
                have c0 := HK5.out.cell (j := 0) rfl
                clear hb5
                go_wp2_with fail
                refine (HCx.out _).mono ?_
                rintro e w6 ⟨rfl, hb6⟩
                have HB6 := Lib.hid (HB5.out.trans (hb6.mono HB5.out.size))
                have HK6 := Lib.hid (HK5.out.below hb6 HK5.out.lt)
                clear hb6 c0
                have c0 := HK6.out.cell (j := 0) rfl
                go_wp2_with fail
                refine (HRx.out _).mono ?_
                rintro e w7 ⟨rfl, hb7⟩
                have HB7 := Lib.hid (HB6.out.trans (hb7.mono HB6.out.size))
                have HK7 := Lib.hid (HK6.out.below hb7 HK6.out.lt)
                clear hb7 c0
                have c0 := HK7.out.cell (j := 0) rfl
                go_wp2_with fail
                refine (HCp.out _).mono ?_
                rintro e w8 ⟨rfl, hb8⟩
                have HB8 := Lib.hid (HB7.out.trans (hb8.mono HB7.out.size))
                have HK8 := Lib.hid (HK7.out.below hb8 HK7.out.lt)
                clear hb8 c0
                have c0 := HK8.out.cell (j := 0) rfl
                have c1 := HK8.out.cell (j := 1) rfl
                go_wp2
                go_ret
                exact ⟨rfl, HB8.out⟩
              · have hne : a.data.toList ≠ b.data.toList := fun e => hab (by apply ByteArray.ext; exact Array.ext' e)
                have hq : (a.toList == b.toList) = false := by rw [beq_eq_false_iff_ne, ByteArray.toList_eq, ByteArray.toList_eq]; exact hne
                have hbl : Op.bytesLess (P ++ x).toList (Q ++ y).toList = Op.bytesLess a.toList b.toList := by
                  rw [hPx, hQy, bs_toList, bs_toList, ByteArray.toList_eq, ByteArray.toList_eq, Pk.lt_eq', Pk.lt_eq']
                  exact Pk.lt_part _ _ _ _ hna hnb hne
                clear hca hcb ha hb hx hy hP hQ hPs hQs hna hnb hPx hQy hab hne
                go_enter Try.func5, Try.ntmps5
                go_wp2_with fail
                rw [← hW0]
                refine (HAW.out _).mono ?_
                rintro e w1 ⟨rfl, hb1⟩
                have HB1 := Lib.hid (HB0.out.trans (hb1.mono HB0.out.size))
                have HK1 := Lib.hid (HK0.out.below hb1 HK0.out.lt)
                have c0 := HK1.out.cell (j := 0) rfl
                have c1 := HK1.out.cell (j := 1) rfl
                clear hb1 hW0
                go_wp2_with fail
                refine (HPa.out _).mono ?_
                rintro e w2 ⟨rfl, rfl⟩
                go_wp2_with fail
                refine (HPb.out _).mono ?_
                rintro e w3 ⟨rfl, rfl⟩
                go_wp2_with fail
                refine (HRa.out _).mono ?_
                rintro e w4 ⟨rfl, hb4⟩
                have HB4 := Lib.hid (HB1.out.trans (hb4.mono HB1.out.size))
                have HK4 := Lib.hid (HK1.out.below hb4 HK1.out.lt)
                clear hb4 c0 c1
                go_wp2_with fail
                refine (HRb.out _).mono ?_
                rintro e w5 ⟨rfl, hb5⟩
                have HB5 := Lib.hid (HB4.out.trans (hb5.mono HB4.out.size))
                have HK5 := Lib.hid (HK4.out.below hb5 HK4.out.lt)
                have c0 := HK5.out.cell (j := 0) rfl
                clear hb5
                go_wp2_with fail
                refine (HCx.out _).mono ?_
                rintro e w6 ⟨rfl, hb6⟩
                have HB6 := Lib.hid (HB5.out.trans (hb6.mono HB5.out.size))
                have HK6 := Lib.hid (HK5.out.below hb6 HK5.out.lt)
                clear hb6 c0
                have c0 := HK6.out.cell (j := 0) rfl
                go_wp2_with fail
                refine (HRx.out _).mono ?_
                rintro e w7 ⟨rfl, hb7⟩
                have HB7 := Lib.hid (HB6.out.trans (hb7.mono HB6.out.size))
                have HK7 := Lib.hid (HK6.out.below hb7 HK6.out.lt)
                clear hb7 c0
                have c0 := HK7.out.cell (j := 0) rfl
                go_wp2_with fail
                refine (HCp.out _).mono ?_
                rintro e w8 ⟨rfl, hb8⟩
                have HB8 := Lib.hid (HB7.out.trans (hb8.mono HB7.out.size))
                have HK8 := Lib.hid (HK7.out.below hb8 HK7.out.lt)
                clear hb8 c0
                have c0 := HK8.out.cell (j := 0) rfl
                have c1 := HK8.out.cell (j := 1) rfl
                go_wp2
                go_ret
                exact ⟨rfl, HB8.out⟩
        · have hyI : (y.size : Int) > 500 := by omega
          go_enter Try.func5, Try.ntmps5
          go_wp2_with fail
          rw [← hW0]
          refine (HAW.out _).mono ?_
          rintro e w1 ⟨rfl, hb1⟩
          have HB1 := Lib.hid (HB0.out.trans (hb1.mono HB0.out.size))
          have HK1 := Lib.hid (HK0.out.below hb1 HK0.out.lt)
          have c0 := HK1.out.cell (j := 0) rfl
          have c1 := HK1.out.cell (j := 1) rfl
          clear hb1 hW0
          go_wp2
          go_ret
          exact ⟨rfl, HB1.out⟩
      · have hxI : (x.size : Int) > 500 := by omega
        go_enter Try.func5, Try.ntmps5
        go_wp2_with fail
        rw [← hW0]
        refine (HAW.out _).mono ?_
        rintro e w1 ⟨rfl, hb1⟩
        have HB1 := Lib.hid (HB0.out.trans (hb1.mono HB0.out.size))
        have HK1 := Lib.hid (HK0.out.below hb1 HK0.out.lt)
        have c0 := HK1.out.cell (j := 0) rfl
        have c1 := HK1.out.cell (j := 1) rfl
        clear hb1 hW0
        go_wp2
        go_ret
        exact ⟨rfl, HB1.out⟩
    · have hbI : (b.size : Int) > 500 := by omega
      go_enter Try.func5, Try.ntmps5
      go_wp2_with fail
      rw [← hW0]
      refine (HAW.out _).mono ?_
      rintro e w1 ⟨rfl, hb1⟩
      have HB1 := Lib.hid (HB0.out.trans (hb1.mono HB0.out.size))
      have HK1 := Lib.hid (HK0.out.below hb1 HK0.out.lt)
      have c0 := HK1.out.cell (j := 0) rfl
      have c1 := HK1.out.cell (j := 1) rfl
      clear hb1 hW0
      go_wp2
      go_ret
      exact ⟨rfl, HB1.out⟩
  · have haI : (a.size : Int) > 500 := by omega
    go_enter Try.func5, Try.ntmps5
    go_wp2_with fail
    rw [← hW0]
    refine (HAW.out _).mono ?_
    rintro e w1 ⟨rfl, hb1⟩
    have HB1 := Lib.hid (HB0.out.trans (hb1.mono HB0.out.size))
    have HK1 := Lib.hid (HK0.out.below hb1 HK0.out.lt)
    have c0 := HK1.out.cell (j := 0) rfl
    have c1 := HK1.out.cell (j := 1) rfl
    clear hb1 hW0
    go_wp2
    go_ret
    exact ⟨rfl, HB1.out⟩
end Go.Proofs.Ytgdpdkbhjekjeaa
