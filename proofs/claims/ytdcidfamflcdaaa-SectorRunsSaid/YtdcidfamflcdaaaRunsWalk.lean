/- Walk of the statement SectorRuns. -/
import Derived.Test.YtdcidfamflcdaaaSecAwake
import Derived.Test.YtdcidfamflcdaaaSecAgree
import Derived.Test.YtdcidfamflcdaaaActs
namespace Go.Proofs.Ytdcidfamflcdaaa
open Go.RowKit Lib

set_option maxRecDepth 100000 in
set_option maxHeartbeats 2000000 in
theorem sectorRuns_any (n : Int) (va : Value) (l : List ActD) (w : World) (ha : RdA w va l) :
    Calls Try.prog 3 #[.int .i64 n, va] w fun e w' => e = .returned (.bool true) ∧ Below w.heap.size w w' := by
  obtain ⟨a, cap, rfl, hc, hll, hr⟩ := ha
  have HR := Lib.hid hr
  clear hr
  by_cases hg : 1 ≤ n ∧ n ≤ 65536
  · obtain ⟨n, rfl⟩ : ∃ m : Nat, n = m := ⟨n.toNat, by omega⟩
    obtain ⟨g1, g2⟩ := hg
    have e1 : ¬ (n : Int) < 1 := by omega
    have e2 : ¬ (n : Int) > 65536 := by omega
    by_cases h30 : n ≤ 30
    · have e3 : ¬ (n : Int) > 30 := by omega
      go_enter Try.func3, Try.ntmps3
      go_wp2_with fail
      refine (awake_any _).mono ?_
      rintro e w1 ⟨rfl, hb1⟩
      go_wp2_with fail
      refine (new_any n w1 (by omega) (by omega)).mono ?_
      rintro e w2 ⟨g, F, rfl, hd2, hF, hb2⟩
      go_wp2_with fail
      refine (refNew_any n w2 (by omega)).mono ?_
      rintro e w3 ⟨h, G, rfl, hd3, hG, hb3⟩
      have hP := Lib.hid (show Pair w3 F G g h (Dk.fresh n) (Dk.fresh n) from ⟨hd2.below hb3 hd2.lt, hd3, fun k hk hg => by have := hd2.lt k hk; have := hG k hg; omega⟩)
      have HB := Lib.hid ((hb1.trans (hb2.mono hb1.size)).trans (hb3.mono (Nat.le_trans hb1.size hb2.size)))
      have HF := Lib.hid (show ∀ x, un F G x → w.heap.size ≤ x from fun x hx => by
        have := hb1.size; have := hb2.size
        rcases hx with hx | hx
        · have := hF x hx; omega
        · have := hG x hx; omega)
      clear hd2 hF hb1 hb2 hd3 hG hb3 e1 e2 e3
      go_wp2
      go_loopw [52] (fun i wr => ∃ (k : Nat) (F' G' : Nat → Prop) (d : Dk.Disk), k ≤ l.length ∧ k ≤ 60 ∧ i = .int .i64 k ∧ Hid (Pair wr F' G' g h d d) ∧ Hid (Below w.heap.size w wr) ∧ Hid (∀ x, un F' G' x → w.heap.size ≤ x) ∧ Hid (d.loose.length ≤ k)) (fun i _ => l.length - (intOf i).toNat)
      case atStart => exact ⟨0, F, G, _, Nat.zero_le _, by decide, rfl, hP, HB, HF, Lib.hid (Nat.le_refl _)⟩
      case round =>
        obtain ⟨k, F', G', d, hk, hk60, rfl, hp, hb, hf, hln⟩ := hrel
        by_cases hlt : k < l.length
        · have hI : (k : Int) < l.length := by omega
          obtain ⟨⟨ok1, ok2, ok3⟩, ga, oa, rfl, hga, hxa⟩ := HR.out k hlt
          obtain ⟨ca0, ca1, ca2, ca3⟩ := hxa k hlt
          have hcell := fun p (hp : p = ga) (j : Nat) (u : Value) (hu : w.cell? ⟨p, j, none⟩ = some u) => (hb.out.cell (p := ⟨p, j, none⟩) (by show p < _; omega)).trans hu
          replace ca0 := hcell ga rfl _ _ ca0
          replace ca1 := hcell ga rfl _ _ ca1
          replace ca2 := hcell ga rfl _ _ ca2
          replace ca3 := hcell ga rfl _ _ ca3
          clear hxa hcell
          have HK := Lib.hid (ok3.below hb.out)
          have HKL := Lib.hid ok3.lt
          obtain ⟨ak, capk, hvk, _, _⟩ := ok3
          rw [hvk] at ca3 HK HKL
          clear hvk
          generalize l[k] = x at *
          obtain ⟨what, at_, text, vk, keep⟩ := x
          simp only at ca0 ca1 ca2 ca3 ok1 ok2 HK HKL
          by_cases h60 : k = 60
          · subst h60
            have hPA := Lib.hid (hp.out.but ((But.refl (fun _ => False) wr).alloc (.cells #[.int .i64 what, .int .i64 at_, .string text, .slice ak keep.length capk] 34)) (fun _ h => h.elim))
            have hBA := Lib.hid (hb.out.alloc hb.out.size (.cells #[.int .i64 what, .int .i64 at_, .string text, .slice ak keep.length capk] 34))
            go_wp2_with fail
            refine (agree_any _ F' G' g h d hPA.out (by have := hln.out; omega)).mono ?_
            rintro e wZ ⟨rfl, hbZ⟩
            have HZ := Lib.hid (hBA.out.trans (hbZ.mono hBA.out.size))
            clear hbZ
            go_wp2
            go_ret
            exact ⟨rfl, HZ.out⟩
          · have h60I : ¬ (k : Int) = 60 := by omega
            by_cases h600 : text.size ≤ 600
            · have h600I : ¬ (text.size : Int) > 600 := by omega
              have hPA := Lib.hid (hp.out.but ((But.refl (fun _ => False) wr).alloc (.cells #[.int .i64 what, .int .i64 at_, .string text, .slice ak keep.length capk] 34)) (fun _ h => h.elim))
              have hBA := Lib.hid (hb.out.alloc hb.out.size (.cells #[.int .i64 what, .int .i64 at_, .string text, .slice ak keep.length capk] 34))
              have hKA := Lib.hid (HK.out.but' ((But.refl (fun _ => False) wr).alloc (.cells #[.int .i64 what, .int .i64 at_, .string text, .slice ak keep.length capk] 34)) (fun _ _ _ h => h))
              go_wp2_with fail
              refine (do_any _ F' G' g h d what at_ text _ keep hPA.out (by have := hln.out; omega) ok1 ok2 hKA.out (fun h0 b hb' hu => by have := HKL.out h0 b hb'; have := hf.out b hu; omega)).mono ?_
              rintro e wB ⟨rfl, F2, G2, d2, hp2, hm2, hl2, _⟩
              have HP2 := Lib.hid hp2
              obtain ⟨hb2, hf2⟩ := hm2.below hf.out hBA.out.size
              have HB2 := Lib.hid (hBA.out.trans hb2)
              have HF2 := Lib.hid hf2
              have HL2 := Lib.hid (show d2.loose.length ≤ k + 1 by have := hln.out; omega)
              clear hp2 hm2 hl2 hb2 hf2 ca0 ca1 ca2 ca3 hPA hBA hKA
              go_wp2
              go_roundw
              case rel => exact ⟨k + 1, F2, G2, d2, by omega, by omega, by go_num, HP2, HB2, HF2, HL2⟩
              case measure => simp [intOf]; omega
            · have h600I : (text.size : Int) > 600 := by omega
              go_wp2
              go_ret
              exact ⟨rfl, hb.out.alloc hb.out.size _⟩
        · have hke : k = l.length := by omega
          subst hke
          go_wp2_with fail
          refine (agree_any _ F' G' g h d hp.out (by have := hln.out; omega)).mono ?_
          rintro e wZ ⟨rfl, hbZ⟩
          have HZ := Lib.hid (hb.out.trans (hbZ.mono hb.out.size))
          clear hbZ
          go_wp2
          go_ret
          exact ⟨rfl, HZ.out⟩
    · have e3 : (n : Int) > 30 := by omega
      go_enter Try.func3, Try.ntmps3
      go_wp2_with fail
      refine (awake_any _).mono ?_
      rintro e w1 ⟨rfl, hb1⟩
      go_wp2_with fail
      refine (new_any n w1 (by omega) (by omega)).mono ?_
      rintro e w2 ⟨g, F, rfl, hd2, hF, hb2⟩
      go_wp2_with fail
      refine (size_any w2 F g _ hd2).mono ?_
      rintro e w3 ⟨rfl, rfl⟩
      rw [show (Dk.fresh n).firm.length = n by simp [Dk.fresh]]
      clear hd2 hF
      go_wp2
      go_ret
      exact ⟨rfl, hb1.trans (hb2.mono hb1.size)⟩
  · go_enter Try.func3, Try.ntmps3
    go_wp2_with fail
    refine (awake_any _).mono ?_
    rintro e w1 ⟨rfl, hb1⟩
    go_wp2_with fail
    refine (new_not n w1 (by omega)).mono ?_
    rintro e w2 ⟨rfl, rfl⟩
    by_cases hn1 : n < 1
    · go_wp2_with fail
      refine (down_nil _).mono ?_
      rintro e w3 ⟨rfl, rfl⟩
      go_wp2_with fail
      refine (write_nil _ _ _).mono ?_
      rintro e w4 ⟨rfl, rfl⟩
      go_wp2
      go_ret
      exact ⟨rfl, hb1⟩
    · have hn2 : n > 65536 := by omega
      go_wp2_with fail
      refine (down_nil _).mono ?_
      rintro e w3 ⟨rfl, rfl⟩
      go_wp2_with fail
      refine (write_nil _ _ _).mono ?_
      rintro e w4 ⟨rfl, rfl⟩
      go_wp2
      go_ret
      exact ⟨rfl, hb1⟩
end Go.Proofs.Ytdcidfamflcdaaa
