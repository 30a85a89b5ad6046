/- Walk of the statement PackReads. -/
import Derived.Test.YtgdpdkbhjekjeaaPkLawWrites
import Derived.Test.YtgdpdkbhjekjeaaPkRefR
namespace Go.Proofs.Ytgdpdkbhjekjeaa
open Go.RowKit Lib

theorem rdF_nil (w : World) : RdF w (.slice none 0 0) [] := ⟨none, 0, rfl, Nat.le_refl _, fun i hi => by cases hi⟩
set_option maxRecDepth 100000 in
set_option maxHeartbeats 2000000 in
theorem packReads_any (ks s : ByteArray) (w : World) :
    Calls Try.prog 4 #[.string ks, .string s] w fun e w' => e = .returned (.bool true) ∧ Below w.heap.size w w' := by
  have HAW := Lib.hid (fun W => pkawake_any W)
  by_cases hk : ks.size ≤ 20
  · have hkI : ¬ (ks.size : Int) > 20 := by omega
    by_cases hs : s.size ≤ 2000
    · have hsI : ¬ (s.size : Int) > 2000 := by omega
      have hsl : s.data.toList.length = s.size := Array.length_toList
      have HRD := Lib.hid (fun W => read_any ks s.data.toList W (by omega) (by omega))
      have HRR := Lib.hid (fun W => refRead_any ks s.data.toList W (by omega) (by omega))
      rw [bs_data] at HRD HRR
      cases hrd : Pk.read ks.data.toList s.data.toList with
      | none =>
        rw [hrd] at HRD HRR
        have HSA := Lib.hid (fun W => same_any (.slice none 0 0) (.slice none 0 0) [] [] W (rdF_nil W) (rdF_nil W) (by decide))
        clear hrd hsl hs hk
        go_enter Try.func4, Try.ntmps4
        go_wp2_with fail
        refine (HAW.out _).mono ?_
        rintro e w1 ⟨rfl, hb1⟩
        have HB1 := Lib.hid hb1
        clear hb1
        go_wp2_with fail
        refine (HRD.out _).mono ?_
        rintro e w2 ⟨he, hb2⟩
        have he' : e = .returned (.tuple #[.slice none 0 0, .bool false]) := he
        subst he'
        have HB2 := Lib.hid (HB1.out.trans (hb2.mono HB1.out.size))
        clear hb2 he
        go_wp2_with fail
        refine (HRR.out _).mono ?_
        rintro e w3 ⟨he, hb3⟩
        have he' : e = .returned (.tuple #[.slice none 0 0, .bool false]) := he
        subst he'
        have HB3 := Lib.hid (HB2.out.trans (hb3.mono HB2.out.size))
        clear hb3 he
        go_wp2_with fail
        refine (HSA.out _).mono ?_
        rintro e w4 ⟨rfl, hb4⟩
        have HB4 := Lib.hid (HB3.out.trans (hb4.mono HB3.out.size))
        clear hb4
        go_wp2
        go_ret
        exact ⟨rfl, HB4.out⟩
      | some l =>
        rw [hrd] at HRD HRR
        have hg := Pk.read_good hrd
        have hl := (Pk.read_len hrd).2
        have hkl : ks.data.toList.length = ks.size := Array.length_toList
        have hn : ∀ f ∈ l, f.n < 2 ^ 64 := fun f hf => (hg f hf).1
        have hs4 : ∀ i (hi : i < l.length), l[i].s.length ≤ 10000 := fun i hi => by have := (hg _ (List.getElem_mem hi)).2; omega
        have HSA := Lib.hid (show ∀ W u v, Own fdElem 46 0 W u l → Own fdElem 46 0 W v l → Calls Try.prog 15 #[u, v] W fun e w' => e = .returned (.bool true) ∧ Below W.heap.size W w' from fun W u v h1 h2 => by
          have := same_any u v l l W (rdF_own h1 hn) (rdF_own h2 hn) (by omega)
          rw [decide_eq_true rfl] at this
          exact this)
        have HW := Lib.hid (show ∀ W u, Own fdElem 46 0 W u l → Calls Try.prog 10 #[.string ks, u] W fun e w' => e = .returned (.tuple #[.string s, .bool true]) ∧ Below W.heap.size W w' from fun W u h1 => by
          have := write_any ks u l W (by omega) (by omega) (rdF_own h1 hn) hs4
          rw [Pk.write_read hrd] at this
          exact this)
        clear hrd hg hl hkl hn hs4 hsl hs hk
        go_enter Try.func4, Try.ntmps4
        go_wp2_with fail
        refine (HAW.out _).mono ?_
        rintro e w1 ⟨rfl, hb1⟩
        have HB1 := Lib.hid hb1
        clear hb1
        go_wp2_with fail
        refine (HRD.out _).mono ?_
        rintro e w2 ⟨⟨v2, rfl, ho2⟩, hb2⟩
        have HB2 := Lib.hid (HB1.out.trans (hb2.mono HB1.out.size))
        have HO2 := Lib.hid (ho2.mono (Nat.zero_le _))
        clear hb2 ho2
        go_wp2_with fail
        refine (HRR.out _).mono ?_
        rintro e w3 ⟨⟨v3, rfl, ho3⟩, hb3⟩
        have HB3 := Lib.hid (HB2.out.trans (hb3.mono HB2.out.size))
        have HO23 := Lib.hid (HO2.out.below hb3 (Nat.le_refl _))
        have HO3 := Lib.hid (ho3.mono (Nat.zero_le _))
        clear hb3 ho3
        go_wp2_with fail
        refine (HSA.out _ _ _ HO23.out HO3.out).mono ?_
        rintro e w4 ⟨rfl, hb4⟩
        have HB4 := Lib.hid (HB3.out.trans (hb4.mono HB3.out.size))
        have HO4 := Lib.hid (HO23.out.below hb4 (Nat.le_refl _))
        clear hb4
        go_wp2_with fail
        refine (HW.out _ _ HO4.out).mono ?_
        rintro e w5 ⟨rfl, hb5⟩
        have HB5 := Lib.hid (HB4.out.trans (hb5.mono HB4.out.size))
        clear hb5
        go_wp2
        go_ret
        exact ⟨rfl, HB5.out⟩
    · have hsI : (s.size : Int) > 2000 := by omega
      go_enter Try.func4, Try.ntmps4
      go_wp2_with fail
      refine (HAW.out _).mono ?_
      rintro e w1 ⟨rfl, hb1⟩
      have HB1 := Lib.hid hb1
      clear hb1
      go_wp2
      go_ret
      exact ⟨rfl, HB1.out⟩
  · have hkI : (ks.size : Int) > 20 := by omega
    go_enter Try.func4, Try.ntmps4
    go_wp2_with fail
    refine (HAW.out _).mono ?_
    rintro e w1 ⟨rfl, hb1⟩
    have HB1 := Lib.hid hb1
    clear hb1
    go_wp2
    go_ret
    exact ⟨rfl, HB1.out⟩
end Go.Proofs.Ytgdpdkbhjekjeaa
