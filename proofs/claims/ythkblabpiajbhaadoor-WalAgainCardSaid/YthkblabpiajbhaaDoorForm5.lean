/- Walks of readHead, readFirst. -/
import Derived.Test.YthkblabpiajbhaaDoorForm4
import Derived.Test.YthkblabpiajbhaaDoorLogSmall
namespace Go.Proofs.YthkblabpiajbhaaDoor
open Go.RowKit Lib

theorem rest_take (s : ByteArray) : ((s.extract 1 s.size).extract 0 8).data.toList = (s.data.toList.drop 1).take 8 := by
  rw [ext_take, bs_list, ext_drop]
theorem rest_mid (s : ByteArray) : ((s.extract 1 s.size).extract 8 12).data.toList = (s.data.toList.drop 9).take 4 := by
  rw [ByteArray.data_extract, Array.toList_extract, List.extract_eq_take_drop, ext_drop, List.drop_drop]
set_option maxRecDepth 100000 in
set_option maxHeartbeats 2000000 in
theorem readHead_any (s : ByteArray) (ring : Nat) (w : World) (hs : s.size = 512) (hr : ring ≤ 4096) :
    Calls Tryd.prog 53 #[.string s, .int .i64 ring] w fun e w' => e = .returned (.tuple #[.int .u64 (Wl.readHead s.data.toList ring).1, .int .i64 (Wl.readHead s.data.toList ring).2.1, .bool (Wl.readHead s.data.toList ring).2.2]) ∧ Below w.heap.size w w' := by
  have hsI : (512 : Int) ≤ s.size := by omega
  have hsJ : (s.size : Int) ≤ 512 := by omega
  have hr1 : (s.extract 1 s.size).size = 511 := by rw [ByteArray.size_extract]; omega
  have hr1I : (511 : Int) ≤ (s.extract 1 s.size).size := by omega
  have hr1J : ((s.extract 1 s.size).size : Int) ≤ 511 := by omega
  have HS := Lib.hid hs
  clear hs
  go_enter Tryd.func53, Tryd.ntmps53
  go_wp2
  go_quiet ((go_at_call 51; exact Calls.quiet_of_same (numberOf_any _ _ (by rw [ByteArray.size_extract]; omega))))
  obtain ⟨a, ha⟩ : ∃ a, a = Wl.dec ((s.data.toList.drop 1).take 8) := ⟨_, rfl⟩
  obtain ⟨n, hn⟩ : ∃ n, n = Wl.dec ((s.data.toList.drop 9).take 4) := ⟨_, rfl⟩
  rw [rest_take s, rest_mid s, ← ha, ← hn]
  have haL : a < 2 ^ 64 := by
    have := Wl.dec_snoc_lt ((s.data.toList.drop 1).take 8)
    rw [← ha, List.length_take, List.length_drop, Array.length_toList, show s.data.size = 512 from HS.out] at this
    exact Nat.lt_of_lt_of_le this (by decide)
  have hnL : n < 2 ^ 32 := by
    have := Wl.dec_snoc_lt ((s.data.toList.drop 9).take 4)
    rw [← hn, List.length_take, List.length_drop, Array.length_toList, show s.data.size = 512 from HS.out] at this
    exact Nat.lt_of_lt_of_le this (by decide)
  have hnI : (n : Int) < 4294967296 := by omega
  have HA := Lib.hid (And.intro ha (And.intro hn haL))
  have HRH := Lib.hid (show Wl.readHead s.data.toList ring = if a = 0 ∨ n = 0 ∨ ring < n ∨ ring < Wl.sizeOf n then (0, 0, false) else (a, n, Wl.holds s.data.toList (Wl.head a n)) by unfold Wl.readHead; rw [← ha, ← hn])
  have HB0 := Lib.hid (below_drawn w nq)
  clear ha hn haL hnL
  have bad : ∀ w2, (a = 0 ∨ n = 0 ∨ ring < n ∨ ring < Wl.sizeOf n) → Below w.heap.size w w2 → (Ending.returned (.tuple #[.int .u64 0, .int .i64 0, .bool false]) = Ending.returned (.tuple #[.int .u64 (Wl.readHead s.data.toList ring).1, .int .i64 (Wl.readHead s.data.toList ring).2.1, .bool (Wl.readHead s.data.toList ring).2.2])) ∧ Below w.heap.size w w2 := fun w2 h hb => ⟨by rw [HRH.out, if_pos h]; rfl, hb⟩
  have BAD := Lib.hid bad
  clear bad
  have hrI : (ring : Int) ≤ 4096 := by omega
  by_cases h1 : a = 0
  · have h1b : ((a : Int) == 0) = true := by rw [beq_iff_eq]; omega
    have H1 := Lib.hid h1
    clear h1
    go_wp2
    go_ret3
    exact BAD.out _ (.inl H1.out) HB0.out
  · have h1b : ((a : Int) == 0) = false := by rw [beq_eq_false_iff_ne]; omega
    by_cases h2 : n = 0
    · have h2b : ((n : Int) == 0) = true := by rw [beq_iff_eq]; omega
      have H2 := Lib.hid h2
      clear h1 h2
      go_wp2
      go_ret3
      exact BAD.out _ (.inr (.inl H2.out)) HB0.out
    · have h2b : ((n : Int) == 0) = false := by rw [beq_eq_false_iff_ne]; omega
      by_cases h3 : ring < n
      · have h3b : (ring : Int) < n := by omega
        have H3 := Lib.hid h3
        clear h1 h2 h3
        go_wp2
        go_ret3
        exact BAD.out _ (.inr (.inr (.inl H3.out))) HB0.out
      · have h3b : ¬ (ring : Int) < n := by omega
        have HN := Lib.hid (show n ≤ 4096 by omega)
        by_cases h4 : ring < Wl.sizeOf n
        · have h4b : (ring : Int) < (Wl.sizeOf n : Nat) := by omega
          have H4 := Lib.hid h4
          clear h1 h2 h3 h4
          go_wp2_with fail
          refine (sizeOf_any _ n (by have := HN.out; omega)).mono ?_
          rintro e w1 ⟨rfl, rfl⟩
          go_wp2
          go_ret3
          exact BAD.out _ (.inr (.inr (.inr H4.out))) HB0.out
        · have h4b : ¬ (ring : Int) < (Wl.sizeOf n : Nat) := by omega
          have h4c : ((Wl.sizeOf n : Nat) : Int) ≤ ring := by omega
          have HG := Lib.hid (show Wl.readHead s.data.toList ring = (a, n, Wl.holds s.data.toList (Wl.head a n)) by rw [HRH.out, if_neg (by omega)])
          have hn4 : (n : Int) ≤ 4096 := by omega
          have hn0 : (0 : Int) ≤ n := by omega
          clear h1 h2 h3 h4 h4b hr1 hr1I hr1J hsI hsJ hnI hrI
          have hZ := sizeOf_any (w.drewN nq) n (by have := HN.out; omega)
          obtain ⟨z, hz⟩ : ∃ z, z = Wl.sizeOf n := ⟨_, rfl⟩
          have h4n : ¬ ring < z := by omega
          rw [← hz] at hZ h4c
          have HZ := Lib.hid hZ
          clear hz hZ
          go_wp2_with fail
          refine HZ.out.mono ?_
          rintro e w1 ⟨rfl, rfl⟩
          clear HZ h1b h2b h3b
          go_wp2_with fail
          refine (headText_any a n _ HA.out.2.2 (by have := HN.out; omega)).mono ?_
          rintro e w2 ⟨rfl, hb2⟩
          have HB2 := Lib.hid (HB0.out.trans hb2)
          clear hb2
          go_wp2_with fail
          refine (holds_any s _ w2 (by have := HS.out; omega)).mono ?_
          rintro e w3 ⟨rfl, m, rfl⟩
          rw [bs_list]
          go_wp2
          go_ret3
          refine ⟨?_, HB2.out.trans ((below_drawn w2 m).mono HB2.out.size)⟩
          rw [HG.out]
          rfl
end Go.Proofs.YthkblabpiajbhaaDoor
