/- Walk of the statement NameParts. -/
import Derived.Test.YtlpillpfahkjdaaNmPart
import Derived.Test.YtlpillpfahkjdaaNmAwake
import Derived.Test.YtlpillpfahkjdaaPkLawParts
import Derived.Deep.RegionHeld3
namespace Go.Proofs.Ytlpillpfahkjdaa
open Go.RowKit Lib

namespace Nm
theorem above (s : Pk.Text) (h : behind s ≠ []) : Pk.lt s (behind s) = true := by
  have := behind_above s.length s rfl h []
  rw [List.append_nil] at this
  exact this
theorem lt_asymm : ∀ x y : Pk.Text, Pk.lt x y = true → Pk.lt y x = false
  | _, [], h => by simp [Pk.lt] at h
  | [], _ :: _, _ => rfl
  | a :: x, b :: y, h => by
    have h1 : (decide (a < b) || (a == b && Pk.lt x y)) = true := h
    show (decide (b < a) || (b == a && Pk.lt y x)) = false
    by_cases hab : a = b
    · subst hab
      have h2 : Pk.lt x y = true := by simpa [UInt8.lt_irrefl] using h1
      rw [lt_asymm x y h2]
      simp [UInt8.lt_irrefl]
    · have h2 : a < b := by simpa [hab] using h1
      have h3 : ¬ b < a := by rw [UInt8.lt_iff_toNat_lt] at h2 ⊢; omega
      have h4 : (b == a) = false := by rw [beq_eq_false_iff_ne]; exact fun e => hab e.symm
      rw [decide_eq_false h3, h4]; rfl
theorem flat_len {parts : List Pk.Text} {k : Nat} (h : ∀ i (_ : i < k) (h : i < parts.length), parts[i].length ≤ 100) (hk : k ≤ parts.length) : ((parts.take k).flatten).length ≤ 100 * k := by
  induction k with
  | zero => simp
  | succ k ih =>
    rw [flatten_take_succ' _ _ (by omega)]
    have h1 := ih (fun i hi hp => h i (by omega) hp) (by omega)
    have h2 := h k (by omega) (by omega)
    omega
end Nm
set_option maxRecDepth 100000 in
set_option maxHeartbeats 8000000 in
theorem nameParts_any (kind : UInt8) (v : Value) (parts : List Pk.Text) (a b : Int) (w : World) (hr : Reads w v parts) (hn : parts.length ≤ 9223372036854775807) (hsz : ∀ i (hi : i < parts.length), parts[i].length ≤ 140737488355328) (hb : -9223372036854775808 ≤ b ∧ b ≤ 9223372036854775807) :
    Calls Try.prog 6 #[.int .u8 kind.toNat, v, .agg #[.int .i64 a, .int .i64 b]] w fun e w' => e = .returned (.bool true) ∧ Below w.heap.size w w' := by
  have HAW := Lib.hid (fun W => nmawake_any W)
  obtain ⟨W0, hW0⟩ : ∃ W0, W0 = w.alloc (.cells #[.int .i64 a, .int .i64 b] 36) := ⟨_, rfl⟩
  have HB0 := Lib.hid (show Below w.heap.size w W0 by rw [hW0]; exact (Below.refl _ _).alloc (Nat.le_refl _) _)
  have HK0 := Lib.hid (show Blk W0 w.heap.size 36 [.int .i64 a, .int .i64 b] by rw [hW0]; exact Blk.new w #[.int .i64 a, .int .i64 b] 36)
  have HRV := Lib.hid hr
  obtain ⟨ad, cap, hv, hcap, hcells⟩ := hr
  have HV := Lib.hid hv
  have HCL := Lib.hid hcells
  have HSZ := Lib.hid hsz
  obtain ⟨L, hL⟩ : ∃ L, L = parts.length := ⟨_, rfl⟩
  have HL := Lib.hid hL
  have hLI : (L : Int) ≤ 9223372036854775807 := by omega
  rw [← hL] at hv
  subst hv
  clear hcells hsz hL hn
  obtain ⟨u, hu⟩ : ∃ u : Nat, u = (a % 18446744073709551616).toNat := ⟨_, rfl⟩
  have hul : u < 2 ^ 64 := by omega
  have HPK := Lib.hid (fun W => partKey_any u b W hul hb)
  have HFP := Lib.hid (fun W => refPartKey_any u b W hul)
  have huI : IntKind.u64.wrap a = (u : Int) := by rw [IntKind.wrap_u64]; omega
  generalize bs (Nm.pkey u b) = PK at *
  clear hu hul hb
  by_cases h5 : L ≤ 5
  · have h5I : ¬ (L : Int) > 5 := by omega
    go_enter Try.func6, Try.ntmps6
    go_wp2_with fail
    rw [← hW0]
    refine (HAW.out _).mono ?_
    rintro e w1 ⟨rfl, hb1⟩
    have HB1 := Lib.hid (HB0.out.trans (hb1.mono HB0.out.size))
    have HK1 := Lib.hid (HK0.out.below hb1 HK0.out.lt)
    clear hb1 hW0
    go_wp2_with fail
    go_loopw [7, 18] (fun t i wr => ∃ k : Nat, k ≤ L ∧ i = .int .i64 k ∧ t = .string (bs (parts.take k).flatten) ∧ Hid (∀ i (hi : i < k) (h : i < parts.length), parts[i].length ≤ 100) ∧ wr = w1) (fun _ i _ => L - (RowKit.intOf i).toNat)
    case atStart => exact ⟨0, Nat.zero_le _, rfl, rfl, Lib.hid (fun i hi => absurd hi (Nat.not_lt_zero _)), rfl⟩
    case round =>
      obtain ⟨k, hk, rfl, rfl, HP, rfl⟩ := hrel
      by_cases hlt : k < L
      · have hltI : (k : Int) < L := by omega
        have hk1 : k < parts.length := by have := HL.out; omega
        obtain ⟨g, o, rfl, hg, hc⟩ := HCL.out k hk1
        have hpk := HSZ.out k hk1
        have c0 : wr.cell? ⟨g, o + k, none⟩ = some (.string (bs parts[k])) := (HB1.out.cell (p := ⟨g, o + k, none⟩) hg).trans (hc k hk1)
        have HT := Lib.hid (show bs (parts.take k).flatten ++ bs parts[k] = bs (parts.take (k + 1)).flatten by rw [flatten_take_succ _ _ hk1, bs_append])
        have hal := Nm.flat_len HP.out (by have := HL.out; omega)
        have hsum : (bs (parts.take k).flatten).size + (bs parts[k]).size ≤ 9223372036854775807 := by rw [bs_size, bs_size]; omega
        by_cases h100 : parts[k].length ≤ 100
        · have h100I : ¬ ((bs parts[k]).size : Int) > 100 := by rw [bs_size]; omega
          have HN := Lib.hid (show ∀ i (hi : i < k + 1) (h : i < parts.length), parts[i].length ≤ 100 from fun i hi h => by
            rcases Nat.lt_or_ge i k with h1 | h1
            · exact HP.out i h1 h
            · have : i = k := by omega
              subst this; exact h100)
          obtain ⟨X, hX⟩ : ∃ X, X = bs parts[k] := ⟨_, rfl⟩
          rw [← hX] at c0 hsum HT h100I
          generalize bs (parts.take k).flatten = A at *
          clear hX hc hpk hal h100
          go_wp2
          go_roundw
          case rel => exact ⟨k + 1, by omega, by go_num, congrArg Value.string HT.out, HN, trivial⟩
          case measure => simp [RowKit.intOf]; omega
        · have h100I : ((bs parts[k]).size : Int) > 100 := by rw [bs_size]; omega
          obtain ⟨X, hX⟩ : ∃ X, X = bs parts[k] := ⟨_, rfl⟩
          rw [← hX] at c0 hsum HT h100I
          generalize bs (parts.take k).flatten = A at *
          clear hX hc hpk hal h100
          go_wp2
          go_ret
          exact ⟨rfl, HB1.out⟩
      · have hke : k = L := by omega
        subst hke
        have hal := Nm.flat_len HP.out (by have := HL.out; omega)
        have hp4 : ∀ i (hi : i < parts.length), parts[i].length ≤ 10000 := fun i hi => Nat.le_trans (HP.out i (by have := HL.out; omega) hi) (by decide)
        have htk : parts.take k = parts := List.take_of_length_le (by have := HL.out; omega)
        rw [htk] at hal ⊢
        clear htk
        have HBH := Lib.hid (fun W => behind_any (bs parts.flatten) W (by rw [bs_size]; have := HL.out; omega))
        have HFB := Lib.hid (fun W => refBehind_any (bs parts.flatten) W (by rw [bs_size]; have := HL.out; omega))
        rw [bs_list] at HBH HFB
        have HUN := Lib.hid (fun W h => under_any kind (.slice ad k cap) parts W h hp4 (by have := HL.out; omega))
        have HFU := Lib.hid (fun W h => refUnder_any kind (.slice ad k cap) parts W h hp4 (by have := HL.out; omega))
        have hab := Nm.above parts.flatten
        generalize (kind.toNat : Int) = KD at *
        generalize bs (Nm.under kind parts) = UN at *
        clear hal hp4 h5 hlt
        by_cases hbe : Nm.behind parts.flatten = []
        · have hy : (bs (Nm.behind parts.flatten)).toList.isEmpty = true := by rw [hbe, bs_toList]; rfl
          generalize bs (Nm.behind parts.flatten) = Y at *
          generalize bs parts.flatten = A at *
          clear hab hbe
          go_wp2_with fail
          refine (HBH.out _).mono ?_
          rintro e w2 ⟨rfl, hb2⟩
          have HB2 := Lib.hid (HB1.out.trans (hb2.mono HB1.out.size))
          have HK2 := Lib.hid (HK1.out.below hb2 HK1.out.lt)
          clear hb2
          have c0 := HK2.out.cell (j := 0) rfl
          have c1 := HK2.out.cell (j := 1) rfl
          have HC := Lib.hid (And.intro HB2.out HK2.out)
          clear HB2
          go_wp2_with (refine wp_region_held_drew (S := (fun X => X.cell? ⟨w.heap.size, 0, none⟩ = some (.int .i64 a) ∧ X.cell? ⟨w.heap.size, 1, none⟩ = some (.int .i64 b))) (by kernel_rfl) ?_ (fun hS => ?_); focus skip; rotate_left; refine Hid.out ?_)
          refine Lib.hid ?_
          · first | trivial | exact ⟨c0, c1⟩
          generalize hWW : w2.drew = W at hS ⊢
          have HC := Lib.hid (show Below w.heap.size w W ∧ Blk W w.heap.size 36 [.int .i64 a, .int .i64 b] by rw [← hWW]; exact ⟨HC.out.1.drew, HC.out.2⟩)
          clear c0 c1 HK2 hWW
          refine wpAnyH_take (i := 0) (v := ?_) (by simp only [List.getElem?_toArray, List.getElem?_cons_zero]; exact rfl) (by kernel_rfl) (by kernel_rfl) (by kernel_rfl) (by exact fun _ _ _ h => h) (Or.inl ⟨by rfl, ?_⟩) hS ?_
          rotate_left
          · intro w hSw; obtain ⟨c0, c1⟩ := hSw; go_simp; try with_reducible rfl
          refine wpAnyH_take (i := 1) (v := ?_) (by simp only [List.getElem?_toArray, List.getElem?_cons_succ, List.getElem?_cons_zero]; exact rfl) (by kernel_rfl) (by kernel_rfl) (by kernel_rfl) (by exact fun _ _ _ h => h) (Or.inl ⟨by rfl, ?_⟩) hS ?_
          rotate_left
          · intro w hSw; obtain ⟨c0, c1⟩ := hSw; go_simp; try with_reducible rfl
          refine wpAnyH_take (i := 3) (v := ?_) (by simp only [List.getElem?_toArray, List.getElem?_cons_succ, List.getElem?_cons_zero]; exact rfl) (by kernel_rfl) (by kernel_rfl) (by kernel_rfl) (by exact fun _ _ _ h => h) (Or.inl ⟨by rfl, ?_⟩) hS ?_
          rotate_left
          · intro w hSw; obtain ⟨c0, c1⟩ := hSw; go_simp; try with_reducible rfl
          refine wpAnyH_take (i := 4) (v := ?_) (by simp only [List.getElem?_toArray, List.getElem?_cons_succ, List.getElem?_cons_zero]; exact rfl) (by kernel_rfl) (by kernel_rfl) (by kernel_rfl) (by exact fun _ _ _ h => h) (Or.inl ⟨by rfl, ?_⟩) hS ?_
          rotate_left
          · intro w hSw; obtain ⟨c0, c1⟩ := hSw; go_simp; try with_reducible rfl
          try simp only [Act.put, List.setIfInBounds_toArray, List.set_cons_succ, List.set_cons_zero]
          refine wpAnyH_ready (rs := [2]) (by kernel_rfl) (by simp) ?_
          refine AllReadyH.cons rfl (fun K hK => ?_) AllReadyH.nil
          go_simp
          refine (HUN.out _ (Reads.below HRV.out HC.out.1)).mono ?_
          rintro e w3 ⟨rfl, hb⟩
          have HC := Lib.hid (And.intro (HC.out.1.trans (hb.mono HC.out.1.size)) (HC.out.2.below hb HC.out.2.lt))
          clear hb
          refine hK.out _ _ (by first | trivial | exact ⟨HC.out.2.cell (j := 0) rfl, HC.out.2.cell (j := 1) rfl⟩) (fun hS => ?_); clear hK K
          refine wpAnyH_ready (rs := [5]) (by kernel_rfl) (by simp) ?_
          refine AllReadyH.cons rfl (fun K hK => ?_) AllReadyH.nil
          go_simp
          refine (HFU.out _ (Reads.below HRV.out HC.out.1)).mono ?_
          rintro e w4 ⟨rfl, hb⟩
          have HC := Lib.hid (And.intro (HC.out.1.trans (hb.mono HC.out.1.size)) (HC.out.2.below hb HC.out.2.lt))
          clear hb
          refine hK.out _ _ (by first | trivial | exact ⟨HC.out.2.cell (j := 0) rfl, HC.out.2.cell (j := 1) rfl⟩) (fun hS => ?_); clear hK K
          refine wpAnyH_take (i := 6) (v := ?_) (by simp only [List.getElem?_toArray, List.getElem?_cons_succ, List.getElem?_cons_zero]; exact rfl) (by kernel_rfl) (by kernel_rfl) (by kernel_rfl) (by exact fun _ _ _ h => h) (Or.inl ⟨by rfl, ?_⟩) hS ?_
          rotate_left
          · intro w hSw; obtain ⟨c0, c1⟩ := hSw; go_simp; try with_reducible rfl
          refine wpAnyH_take (i := 7) (v := ?_) (by simp only [List.getElem?_toArray, List.getElem?_cons_succ, List.getElem?_cons_zero]; exact rfl) (by kernel_rfl) (by kernel_rfl) (by kernel_rfl) (by exact fun _ _ _ h => h) (Or.inl ⟨by rfl, ?_⟩) hS ?_
          rotate_left
          · intro w hSw; obtain ⟨c0, c1⟩ := hSw; go_simp; try with_reducible rfl
          refine wpAnyH_take (i := 8) (v := ?_) (by simp only [List.getElem?_toArray, List.getElem?_cons_succ, List.getElem?_cons_zero]; exact rfl) (by kernel_rfl) (by kernel_rfl) (by kernel_rfl) (by exact fun _ _ _ h => h) (Or.inl ⟨by rfl, ?_⟩) hS ?_
          rotate_left
          · intro w hSw; obtain ⟨c0, c1⟩ := hSw; go_simp; try with_reducible rfl
          refine wpAnyH_take (i := 9) (v := ?_) (by simp only [List.getElem?_toArray, List.getElem?_cons_succ, List.getElem?_cons_zero]; exact rfl) (by kernel_rfl) (by kernel_rfl) (by kernel_rfl) (by exact fun _ _ _ h => h) (Or.inl ⟨by rfl, ?_⟩) hS ?_
          rotate_left
          · intro w hSw; obtain ⟨c0, c1⟩ := hSw; go_simp; try with_reducible rfl
          refine wpAnyH_take (i := 10) (v := ?_) (by simp only [List.getElem?_toArray, List.getElem?_cons_succ, List.getElem?_cons_zero]; exact rfl) (by kernel_rfl) (by kernel_rfl) (by kernel_rfl) (by exact fun _ _ _ h => h) (Or.inl ⟨by rfl, ?_⟩) hS ?_
          rotate_left
          · intro w hSw; obtain ⟨c0, c1⟩ := hSw; go_simp; try with_reducible rfl
          refine wpAnyH_take (i := 11) (v := ?_) (by simp only [List.getElem?_toArray, List.getElem?_cons_succ, List.getElem?_cons_zero]; exact rfl) (by kernel_rfl) (by kernel_rfl) (by kernel_rfl) (by exact fun _ _ _ h => h) (Or.inl ⟨by rfl, ?_⟩) hS ?_
          rotate_left
          · intro w hSw; obtain ⟨c0, c1⟩ := hSw; go_simp; try with_reducible rfl
          refine wpAnyH_take (i := 12) (v := ?_) (by simp only [List.getElem?_toArray, List.getElem?_cons_succ, List.getElem?_cons_zero]; exact rfl) (by kernel_rfl) (by kernel_rfl) (by kernel_rfl) (by exact fun _ _ _ h => h) (Or.inl ⟨by rfl, ?_⟩) hS ?_
          rotate_left
          · intro w hSw; obtain ⟨c0, c1⟩ := hSw; go_simp; try with_reducible rfl
          try simp only [Act.put, List.setIfInBounds_toArray, List.set_cons_succ, List.set_cons_zero]
          refine wpAnyH_take (i := 14) (v := ?_) (by simp only [List.getElem?_toArray, List.getElem?_cons_succ, List.getElem?_cons_zero]; exact rfl) (by kernel_rfl) (by kernel_rfl) (by kernel_rfl) (by exact fun _ _ _ h => h) (Or.inl ⟨by rfl, ?_⟩) hS ?_
          rotate_left
          · intro w hSw; obtain ⟨c0, c1⟩ := hSw; go_simp; try with_reducible rfl
          refine wpAnyH_take (i := 15) (v := ?_) (by simp only [List.getElem?_toArray, List.getElem?_cons_succ, List.getElem?_cons_zero]; exact rfl) (by kernel_rfl) (by kernel_rfl) (by kernel_rfl) (by exact fun _ _ _ h => h) (Or.inl ⟨by rfl, ?_⟩) hS ?_
          rotate_left
          · intro w hSw; obtain ⟨c0, c1⟩ := hSw; go_simp; try with_reducible rfl
          refine wpAnyH_take (i := 16) (v := ?_) (by simp only [List.getElem?_toArray, List.getElem?_cons_succ, List.getElem?_cons_zero]; exact rfl) (by kernel_rfl) (by kernel_rfl) (by kernel_rfl) (by exact fun _ _ _ h => h) (Or.inl ⟨by rfl, ?_⟩) hS ?_
          rotate_left
          · intro w hSw; obtain ⟨c0, c1⟩ := hSw; go_simp; try with_reducible rfl
          refine wpAnyH_take (i := 17) (v := ?_) (by simp only [List.getElem?_toArray, List.getElem?_cons_succ, List.getElem?_cons_zero]; exact rfl) (by kernel_rfl) (by kernel_rfl) (by kernel_rfl) (by exact fun _ _ _ h => h) (Or.inl ⟨by rfl, ?_⟩) hS ?_
          rotate_left
          · intro w hSw; obtain ⟨c0, c1⟩ := hSw; go_simp; try with_reducible rfl
          refine wpAnyH_take (i := 18) (v := ?_) (by simp only [List.getElem?_toArray, List.getElem?_cons_succ, List.getElem?_cons_zero]; exact rfl) (by kernel_rfl) (by kernel_rfl) (by kernel_rfl) (by exact fun _ _ _ h => h) (Or.inl ⟨by rfl, ?_⟩) hS ?_
          rotate_left
          · intro w hSw; obtain ⟨c0, c1⟩ := hSw; go_simp; try with_reducible rfl
          try simp only [Act.put, List.setIfInBounds_toArray, List.set_cons_succ, List.set_cons_zero]
          refine wpAnyH_ready (rs := [13]) (by kernel_rfl) (by simp) ?_
          refine AllReadyH.cons rfl (fun K hK => ?_) AllReadyH.nil
          go_simp
          refine (HPK.out _).mono ?_
          rintro e w5 ⟨rfl, hb⟩
          have HC := Lib.hid (And.intro (HC.out.1.trans (hb.mono HC.out.1.size)) (HC.out.2.below hb HC.out.2.lt))
          clear hb
          refine hK.out _ _ (by first | trivial | exact ⟨HC.out.2.cell (j := 0) rfl, HC.out.2.cell (j := 1) rfl⟩) (fun hS => ?_); clear hK K
          refine wpAnyH_ready (rs := [19]) (by kernel_rfl) (by simp) ?_
          refine AllReadyH.cons rfl (fun K hK => ?_) AllReadyH.nil
          go_simp
          refine (HFP.out _).mono ?_
          rintro e w6 ⟨rfl, hb⟩
          have HC := Lib.hid (And.intro (HC.out.1.trans (hb.mono HC.out.1.size)) (HC.out.2.below hb HC.out.2.lt))
          clear hb
          refine hK.out _ _ (by first | trivial | exact ⟨HC.out.2.cell (j := 0) rfl, HC.out.2.cell (j := 1) rfl⟩) (fun hS => ?_); clear hK K
          refine wpAnyH_take (i := 20) (v := ?_) (by simp only [List.getElem?_toArray, List.getElem?_cons_succ, List.getElem?_cons_zero]; exact rfl) (by kernel_rfl) (by kernel_rfl) (by kernel_rfl) (by exact fun _ _ _ h => h) (Or.inl ⟨by rfl, ?_⟩) hS ?_
          rotate_left
          · intro w hSw; obtain ⟨c0, c1⟩ := hSw; go_simp; try with_reducible rfl
          refine wpAnyH_take (i := 21) (v := ?_) (by simp only [List.getElem?_toArray, List.getElem?_cons_succ, List.getElem?_cons_zero]; exact rfl) (by kernel_rfl) (by kernel_rfl) (by kernel_rfl) (by exact fun _ _ _ h => h) (Or.inl ⟨by rfl, ?_⟩) hS ?_
          rotate_left
          · intro w hSw; obtain ⟨c0, c1⟩ := hSw; go_simp; try with_reducible rfl
          refine wpAnyH_take (i := 22) (v := ?_) (by simp only [List.getElem?_toArray, List.getElem?_cons_succ, List.getElem?_cons_zero]; exact rfl) (by kernel_rfl) (by kernel_rfl) (by kernel_rfl) (by exact fun _ _ _ h => h) (Or.inl ⟨by rfl, ?_⟩) hS ?_
          rotate_left
          · intro w hSw; obtain ⟨c0, c1⟩ := hSw; go_simp; try with_reducible rfl
          refine wpAnyH_take (i := 23) (v := ?_) (by simp only [List.getElem?_toArray, List.getElem?_cons_succ, List.getElem?_cons_zero]; exact rfl) (by kernel_rfl) (by kernel_rfl) (by kernel_rfl) (by exact fun _ _ _ h => h) (Or.inl ⟨by rfl, ?_⟩) hS ?_
          rotate_left
          · intro w hSw; obtain ⟨c0, c1⟩ := hSw; go_simp; try with_reducible rfl
          refine wpAnyH_take (i := 24) (v := ?_) (by simp only [List.getElem?_toArray, List.getElem?_cons_succ, List.getElem?_cons_zero]; exact rfl) (by kernel_rfl) (by kernel_rfl) (by kernel_rfl) (by exact fun _ _ _ h => h) (Or.inl ⟨by rfl, ?_⟩) hS ?_
          rotate_left
          · intro w hSw; obtain ⟨c0, c1⟩ := hSw; go_simp; try with_reducible rfl
          try simp only [Act.put, List.setIfInBounds_toArray, List.set_cons_succ, List.set_cons_zero]
          refine wpAnyH_ready (rs := [25]) (by kernel_rfl) (by simp) ?_
          refine AllReadyH.cons rfl (fun K hK => ?_) AllReadyH.nil
          go_simp
          refine (HFB.out _).mono ?_
          rintro e w7 ⟨rfl, hb⟩
          have HC := Lib.hid (And.intro (HC.out.1.trans (hb.mono HC.out.1.size)) (HC.out.2.below hb HC.out.2.lt))
          clear hb
          refine hK.out _ _ (by first | trivial | exact ⟨HC.out.2.cell (j := 0) rfl, HC.out.2.cell (j := 1) rfl⟩) (fun hS => ?_); clear hK K
          refine wpAnyH_take (i := 26) (v := ?_) (by simp only [List.getElem?_toArray, List.getElem?_cons_succ, List.getElem?_cons_zero]; exact rfl) (by kernel_rfl) (by kernel_rfl) (by kernel_rfl) (by exact fun _ _ _ h => h) (Or.inl ⟨by rfl, ?_⟩) hS ?_
          rotate_left
          · intro w hSw; obtain ⟨c0, c1⟩ := hSw; go_simp; try with_reducible rfl
          refine wpAnyH_take (i := 27) (v := ?_) (by simp only [List.getElem?_toArray, List.getElem?_cons_succ, List.getElem?_cons_zero]; exact rfl) (by kernel_rfl) (by kernel_rfl) (by kernel_rfl) (by exact fun _ _ _ h => h) (Or.inl ⟨by rfl, ?_⟩) hS ?_
          rotate_left
          · intro w hSw; obtain ⟨c0, c1⟩ := hSw; go_simp; try with_reducible rfl
          refine wpAnyH_take (i := 28) (v := ?_) (by simp only [List.getElem?_toArray, List.getElem?_cons_succ, List.getElem?_cons_zero]; exact rfl) (by kernel_rfl) (by kernel_rfl) (by kernel_rfl) (by exact fun _ _ _ h => h) (Or.inl ⟨by rfl, ?_⟩) hS ?_
          rotate_left
          · intro w hSw; obtain ⟨c0, c1⟩ := hSw; go_simp; try with_reducible rfl
          refine wpAnyH_take (i := 29) (v := ?_) (by simp only [List.getElem?_toArray, List.getElem?_cons_succ, List.getElem?_cons_zero]; exact rfl) (by kernel_rfl) (by kernel_rfl) (by kernel_rfl) (by exact fun _ _ _ h => h) (Or.inl ⟨by rfl, ?_⟩) hS ?_
          rotate_left
          · intro w hSw; obtain ⟨c0, c1⟩ := hSw; go_simp; try with_reducible rfl
          refine wpAnyH_take (i := 30) (v := ?_) (by simp only [List.getElem?_toArray, List.getElem?_cons_succ, List.getElem?_cons_zero]; exact rfl) (by kernel_rfl) (by kernel_rfl) (by kernel_rfl) (by exact fun _ _ _ h => h) (Or.inl ⟨by rfl, ?_⟩) hS ?_
          rotate_left
          · intro w hSw; obtain ⟨c0, c1⟩ := hSw; go_simp; try with_reducible rfl
          refine wpAnyH_take (i := 31) (v := ?_) (by simp only [List.getElem?_toArray, List.getElem?_cons_succ, List.getElem?_cons_zero]; exact rfl) (by kernel_rfl) (by kernel_rfl) (by kernel_rfl) (by exact fun _ _ _ h => h) (Or.inl ⟨by rfl, ?_⟩) hS ?_
          rotate_left
          · intro w hSw; obtain ⟨c0, c1⟩ := hSw; go_simp; try with_reducible rfl
          try simp only [Act.put, List.setIfInBounds_toArray, List.set_cons_succ, List.set_cons_zero]
          refine wpAnyH_take (i := 32) (v := undef) (by simp only [List.getElem?_toArray, List.getElem?_cons_succ, List.getElem?_cons_zero]; exact rfl) (by kernel_rfl) (by kernel_rfl) (by kernel_rfl) (by exact fun _ _ _ h => h) (Or.inr ⟨by rfl, rfl⟩) hS ?_
          refine wpAnyH_take (i := 33) (v := undef) (by simp only [List.getElem?_toArray, List.getElem?_cons_succ, List.getElem?_cons_zero]; exact rfl) (by kernel_rfl) (by kernel_rfl) (by kernel_rfl) (by exact fun _ _ _ h => h) (Or.inr ⟨by rfl, rfl⟩) hS ?_
          refine wpAnyH_take (i := 34) (v := undef) (by simp only [List.getElem?_toArray, List.getElem?_cons_succ, List.getElem?_cons_zero]; exact rfl) (by kernel_rfl) (by kernel_rfl) (by kernel_rfl) (by exact fun _ _ _ h => h) (Or.inr ⟨by rfl, rfl⟩) hS ?_
          try simp only [Act.put, List.setIfInBounds_toArray, List.set_cons_succ, List.set_cons_zero]
          refine wpAnyH_take (i := 35) (v := ?_) (by simp only [List.getElem?_toArray, List.getElem?_cons_succ, List.getElem?_cons_zero]; exact rfl) (by kernel_rfl) (by kernel_rfl) (by kernel_rfl) (by exact fun _ _ _ h => h) (Or.inl ⟨by rfl, ?_⟩) hS ?_
          rotate_left
          · intro w hSw; obtain ⟨c0, c1⟩ := hSw; go_simp; try with_reducible rfl
          refine wpAnyH_take (i := 36) (v := ?_) (by simp only [List.getElem?_toArray, List.getElem?_cons_succ, List.getElem?_cons_zero]; exact rfl) (by kernel_rfl) (by kernel_rfl) (by kernel_rfl) (by exact fun _ _ _ h => h) (Or.inl ⟨by rfl, ?_⟩) hS ?_
          rotate_left
          · intro w hSw; obtain ⟨c0, c1⟩ := hSw; go_simp; try with_reducible rfl
          refine wpAnyH_take (i := 37) (v := ?_) (by simp only [List.getElem?_toArray, List.getElem?_cons_succ, List.getElem?_cons_zero]; exact rfl) (by kernel_rfl) (by kernel_rfl) (by kernel_rfl) (by exact fun _ _ _ h => h) (Or.inl ⟨by rfl, ?_⟩) hS ?_
          rotate_left
          · intro w hSw; obtain ⟨c0, c1⟩ := hSw; go_simp; try with_reducible rfl
          refine wpAnyH_done (by kernel_rfl) ?_ _
          try simp only [Act.put, List.setIfInBounds_toArray, List.set_cons_succ, List.set_cons_zero]
          go_wp2
          go_ret
          exact ⟨rfl, HC.out.1⟩
        · have hy : (bs (Nm.behind parts.flatten)).toList.isEmpty = false := by
            rw [bs_toList]
            cases e : Nm.behind parts.flatten with
            | nil => exact absurd e hbe
            | cons c r => rfl
          have HGT := Lib.hid (show (!Op.bytesLess (bs (Nm.behind parts.flatten)).toList (bs parts.flatten).toList && !(bs (Nm.behind parts.flatten)).toList == (bs parts.flatten).toList) = true by
            rw [bs_toList, bs_toList, Pk.lt_eq', Nm.lt_asymm _ _ (hab hbe), Bool.not_false, Bool.true_and, Bool.not_eq_true', beq_eq_false_iff_ne]
            intro e
            have h1 := hab hbe
            rw [e, Nm.lt_irrefl] at h1
            cases h1)
          generalize bs (Nm.behind parts.flatten) = Y at *
          generalize bs parts.flatten = A at *
          clear hab hbe
          go_wp2_with fail
          refine (HBH.out _).mono ?_
          rintro e w2 ⟨rfl, hb2⟩
          have HB2 := Lib.hid (HB1.out.trans (hb2.mono HB1.out.size))
          have HK2 := Lib.hid (HK1.out.below hb2 HK1.out.lt)
          clear hb2
          have c0 := HK2.out.cell (j := 0) rfl
          have c1 := HK2.out.cell (j := 1) rfl
          have HC := Lib.hid (And.intro HB2.out HK2.out)
          clear HB2
          go_wp2_with (refine wp_region_held_drew (S := (fun X => X.cell? ⟨w.heap.size, 0, none⟩ = some (.int .i64 a) ∧ X.cell? ⟨w.heap.size, 1, none⟩ = some (.int .i64 b))) (by kernel_rfl) ?_ (fun hS => ?_); focus skip; rotate_left; refine Hid.out ?_)
          refine Lib.hid ?_
          · first | trivial | exact ⟨c0, c1⟩
          generalize hWW : w2.drew = W at hS ⊢
          have HC := Lib.hid (show Below w.heap.size w W ∧ Blk W w.heap.size 36 [.int .i64 a, .int .i64 b] by rw [← hWW]; exact ⟨HC.out.1.drew, HC.out.2⟩)
          clear c0 c1 HK2 hWW
          refine wpAnyH_take (i := 0) (v := ?_) (by simp only [List.getElem?_toArray, List.getElem?_cons_zero]; exact rfl) (by kernel_rfl) (by kernel_rfl) (by kernel_rfl) (by exact fun _ _ _ h => h) (Or.inl ⟨by rfl, ?_⟩) hS ?_
          rotate_left
          · intro w hSw; obtain ⟨c0, c1⟩ := hSw; go_simp; try with_reducible rfl
          refine wpAnyH_take (i := 1) (v := ?_) (by simp only [List.getElem?_toArray, List.getElem?_cons_succ, List.getElem?_cons_zero]; exact rfl) (by kernel_rfl) (by kernel_rfl) (by kernel_rfl) (by exact fun _ _ _ h => h) (Or.inl ⟨by rfl, ?_⟩) hS ?_
          rotate_left
          · intro w hSw; obtain ⟨c0, c1⟩ := hSw; go_simp; try with_reducible rfl
          refine wpAnyH_take (i := 3) (v := ?_) (by simp only [List.getElem?_toArray, List.getElem?_cons_succ, List.getElem?_cons_zero]; exact rfl) (by kernel_rfl) (by kernel_rfl) (by kernel_rfl) (by exact fun _ _ _ h => h) (Or.inl ⟨by rfl, ?_⟩) hS ?_
          rotate_left
          · intro w hSw; obtain ⟨c0, c1⟩ := hSw; go_simp; try with_reducible rfl
          refine wpAnyH_take (i := 4) (v := ?_) (by simp only [List.getElem?_toArray, List.getElem?_cons_succ, List.getElem?_cons_zero]; exact rfl) (by kernel_rfl) (by kernel_rfl) (by kernel_rfl) (by exact fun _ _ _ h => h) (Or.inl ⟨by rfl, ?_⟩) hS ?_
          rotate_left
          · intro w hSw; obtain ⟨c0, c1⟩ := hSw; go_simp; try with_reducible rfl
          try simp only [Act.put, List.setIfInBounds_toArray, List.set_cons_succ, List.set_cons_zero]
          refine wpAnyH_ready (rs := [2]) (by kernel_rfl) (by simp) ?_
          refine AllReadyH.cons rfl (fun K hK => ?_) AllReadyH.nil
          go_simp
          refine (HUN.out _ (Reads.below HRV.out HC.out.1)).mono ?_
          rintro e w3 ⟨rfl, hb⟩
          have HC := Lib.hid (And.intro (HC.out.1.trans (hb.mono HC.out.1.size)) (HC.out.2.below hb HC.out.2.lt))
          clear hb
          refine hK.out _ _ (by first | trivial | exact ⟨HC.out.2.cell (j := 0) rfl, HC.out.2.cell (j := 1) rfl⟩) (fun hS => ?_); clear hK K
          refine wpAnyH_ready (rs := [5]) (by kernel_rfl) (by simp) ?_
          refine AllReadyH.cons rfl (fun K hK => ?_) AllReadyH.nil
          go_simp
          refine (HFU.out _ (Reads.below HRV.out HC.out.1)).mono ?_
          rintro e w4 ⟨rfl, hb⟩
          have HC := Lib.hid (And.intro (HC.out.1.trans (hb.mono HC.out.1.size)) (HC.out.2.below hb HC.out.2.lt))
          clear hb
          refine hK.out _ _ (by first | trivial | exact ⟨HC.out.2.cell (j := 0) rfl, HC.out.2.cell (j := 1) rfl⟩) (fun hS => ?_); clear hK K
          refine wpAnyH_take (i := 6) (v := ?_) (by simp only [List.getElem?_toArray, List.getElem?_cons_succ, List.getElem?_cons_zero]; exact rfl) (by kernel_rfl) (by kernel_rfl) (by kernel_rfl) (by exact fun _ _ _ h => h) (Or.inl ⟨by rfl, ?_⟩) hS ?_
          rotate_left
          · intro w hSw; obtain ⟨c0, c1⟩ := hSw; go_simp; try with_reducible rfl
          refine wpAnyH_take (i := 7) (v := ?_) (by simp only [List.getElem?_toArray, List.getElem?_cons_succ, List.getElem?_cons_zero]; exact rfl) (by kernel_rfl) (by kernel_rfl) (by kernel_rfl) (by exact fun _ _ _ h => h) (Or.inl ⟨by rfl, ?_⟩) hS ?_
          rotate_left
          · intro w hSw; obtain ⟨c0, c1⟩ := hSw; go_simp; try with_reducible rfl
          refine wpAnyH_take (i := 8) (v := ?_) (by simp only [List.getElem?_toArray, List.getElem?_cons_succ, List.getElem?_cons_zero]; exact rfl) (by kernel_rfl) (by kernel_rfl) (by kernel_rfl) (by exact fun _ _ _ h => h) (Or.inl ⟨by rfl, ?_⟩) hS ?_
          rotate_left
          · intro w hSw; obtain ⟨c0, c1⟩ := hSw; go_simp; try with_reducible rfl
          refine wpAnyH_take (i := 9) (v := ?_) (by simp only [List.getElem?_toArray, List.getElem?_cons_succ, List.getElem?_cons_zero]; exact rfl) (by kernel_rfl) (by kernel_rfl) (by kernel_rfl) (by exact fun _ _ _ h => h) (Or.inl ⟨by rfl, ?_⟩) hS ?_
          rotate_left
          · intro w hSw; obtain ⟨c0, c1⟩ := hSw; go_simp; try with_reducible rfl
          refine wpAnyH_take (i := 10) (v := ?_) (by simp only [List.getElem?_toArray, List.getElem?_cons_succ, List.getElem?_cons_zero]; exact rfl) (by kernel_rfl) (by kernel_rfl) (by kernel_rfl) (by exact fun _ _ _ h => h) (Or.inl ⟨by rfl, ?_⟩) hS ?_
          rotate_left
          · intro w hSw; obtain ⟨c0, c1⟩ := hSw; go_simp; try with_reducible rfl
          refine wpAnyH_take (i := 11) (v := ?_) (by simp only [List.getElem?_toArray, List.getElem?_cons_succ, List.getElem?_cons_zero]; exact rfl) (by kernel_rfl) (by kernel_rfl) (by kernel_rfl) (by exact fun _ _ _ h => h) (Or.inl ⟨by rfl, ?_⟩) hS ?_
          rotate_left
          · intro w hSw; obtain ⟨c0, c1⟩ := hSw; go_simp; try with_reducible rfl
          refine wpAnyH_take (i := 12) (v := ?_) (by simp only [List.getElem?_toArray, List.getElem?_cons_succ, List.getElem?_cons_zero]; exact rfl) (by kernel_rfl) (by kernel_rfl) (by kernel_rfl) (by exact fun _ _ _ h => h) (Or.inl ⟨by rfl, ?_⟩) hS ?_
          rotate_left
          · intro w hSw; obtain ⟨c0, c1⟩ := hSw; go_simp; try with_reducible rfl
          try simp only [Act.put, List.setIfInBounds_toArray, List.set_cons_succ, List.set_cons_zero]
          refine wpAnyH_take (i := 14) (v := ?_) (by simp only [List.getElem?_toArray, List.getElem?_cons_succ, List.getElem?_cons_zero]; exact rfl) (by kernel_rfl) (by kernel_rfl) (by kernel_rfl) (by exact fun _ _ _ h => h) (Or.inl ⟨by rfl, ?_⟩) hS ?_
          rotate_left
          · intro w hSw; obtain ⟨c0, c1⟩ := hSw; go_simp; try with_reducible rfl
          refine wpAnyH_take (i := 15) (v := ?_) (by simp only [List.getElem?_toArray, List.getElem?_cons_succ, List.getElem?_cons_zero]; exact rfl) (by kernel_rfl) (by kernel_rfl) (by kernel_rfl) (by exact fun _ _ _ h => h) (Or.inl ⟨by rfl, ?_⟩) hS ?_
          rotate_left
          · intro w hSw; obtain ⟨c0, c1⟩ := hSw; go_simp; try with_reducible rfl
          refine wpAnyH_take (i := 16) (v := ?_) (by simp only [List.getElem?_toArray, List.getElem?_cons_succ, List.getElem?_cons_zero]; exact rfl) (by kernel_rfl) (by kernel_rfl) (by kernel_rfl) (by exact fun _ _ _ h => h) (Or.inl ⟨by rfl, ?_⟩) hS ?_
          rotate_left
          · intro w hSw; obtain ⟨c0, c1⟩ := hSw; go_simp; try with_reducible rfl
          refine wpAnyH_take (i := 17) (v := ?_) (by simp only [List.getElem?_toArray, List.getElem?_cons_succ, List.getElem?_cons_zero]; exact rfl) (by kernel_rfl) (by kernel_rfl) (by kernel_rfl) (by exact fun _ _ _ h => h) (Or.inl ⟨by rfl, ?_⟩) hS ?_
          rotate_left
          · intro w hSw; obtain ⟨c0, c1⟩ := hSw; go_simp; try with_reducible rfl
          refine wpAnyH_take (i := 18) (v := ?_) (by simp only [List.getElem?_toArray, List.getElem?_cons_succ, List.getElem?_cons_zero]; exact rfl) (by kernel_rfl) (by kernel_rfl) (by kernel_rfl) (by exact fun _ _ _ h => h) (Or.inl ⟨by rfl, ?_⟩) hS ?_
          rotate_left
          · intro w hSw; obtain ⟨c0, c1⟩ := hSw; go_simp; try with_reducible rfl
          try simp only [Act.put, List.setIfInBounds_toArray, List.set_cons_succ, List.set_cons_zero]
          refine wpAnyH_ready (rs := [13]) (by kernel_rfl) (by simp) ?_
          refine AllReadyH.cons rfl (fun K hK => ?_) AllReadyH.nil
          go_simp
          refine (HPK.out _).mono ?_
          rintro e w5 ⟨rfl, hb⟩
          have HC := Lib.hid (And.intro (HC.out.1.trans (hb.mono HC.out.1.size)) (HC.out.2.below hb HC.out.2.lt))
          clear hb
          refine hK.out _ _ (by first | trivial | exact ⟨HC.out.2.cell (j := 0) rfl, HC.out.2.cell (j := 1) rfl⟩) (fun hS => ?_); clear hK K
          refine wpAnyH_ready (rs := [19]) (by kernel_rfl) (by simp) ?_
          refine AllReadyH.cons rfl (fun K hK => ?_) AllReadyH.nil
          go_simp
          refine (HFP.out _).mono ?_
          rintro e w6 ⟨rfl, hb⟩
          have HC := Lib.hid (And.intro (HC.out.1.trans (hb.mono HC.out.1.size)) (HC.out.2.below hb HC.out.2.lt))
          clear hb
          refine hK.out _ _ (by first | trivial | exact ⟨HC.out.2.cell (j := 0) rfl, HC.out.2.cell (j := 1) rfl⟩) (fun hS => ?_); clear hK K
          refine wpAnyH_take (i := 20) (v := ?_) (by simp only [List.getElem?_toArray, List.getElem?_cons_succ, List.getElem?_cons_zero]; exact rfl) (by kernel_rfl) (by kernel_rfl) (by kernel_rfl) (by exact fun _ _ _ h => h) (Or.inl ⟨by rfl, ?_⟩) hS ?_
          rotate_left
          · intro w hSw; obtain ⟨c0, c1⟩ := hSw; go_simp; try with_reducible rfl
          refine wpAnyH_take (i := 21) (v := ?_) (by simp only [List.getElem?_toArray, List.getElem?_cons_succ, List.getElem?_cons_zero]; exact rfl) (by kernel_rfl) (by kernel_rfl) (by kernel_rfl) (by exact fun _ _ _ h => h) (Or.inl ⟨by rfl, ?_⟩) hS ?_
          rotate_left
          · intro w hSw; obtain ⟨c0, c1⟩ := hSw; go_simp; try with_reducible rfl
          refine wpAnyH_take (i := 22) (v := ?_) (by simp only [List.getElem?_toArray, List.getElem?_cons_succ, List.getElem?_cons_zero]; exact rfl) (by kernel_rfl) (by kernel_rfl) (by kernel_rfl) (by exact fun _ _ _ h => h) (Or.inl ⟨by rfl, ?_⟩) hS ?_
          rotate_left
          · intro w hSw; obtain ⟨c0, c1⟩ := hSw; go_simp; try with_reducible rfl
          refine wpAnyH_take (i := 23) (v := ?_) (by simp only [List.getElem?_toArray, List.getElem?_cons_succ, List.getElem?_cons_zero]; exact rfl) (by kernel_rfl) (by kernel_rfl) (by kernel_rfl) (by exact fun _ _ _ h => h) (Or.inl ⟨by rfl, ?_⟩) hS ?_
          rotate_left
          · intro w hSw; obtain ⟨c0, c1⟩ := hSw; go_simp; try with_reducible rfl
          refine wpAnyH_take (i := 24) (v := ?_) (by simp only [List.getElem?_toArray, List.getElem?_cons_succ, List.getElem?_cons_zero]; exact rfl) (by kernel_rfl) (by kernel_rfl) (by kernel_rfl) (by exact fun _ _ _ h => h) (Or.inl ⟨by rfl, ?_⟩) hS ?_
          rotate_left
          · intro w hSw; obtain ⟨c0, c1⟩ := hSw; go_simp; try with_reducible rfl
          try simp only [Act.put, List.setIfInBounds_toArray, List.set_cons_succ, List.set_cons_zero]
          refine wpAnyH_ready (rs := [25]) (by kernel_rfl) (by simp) ?_
          refine AllReadyH.cons rfl (fun K hK => ?_) AllReadyH.nil
          go_simp
          refine (HFB.out _).mono ?_
          rintro e w7 ⟨rfl, hb⟩
          have HC := Lib.hid (And.intro (HC.out.1.trans (hb.mono HC.out.1.size)) (HC.out.2.below hb HC.out.2.lt))
          clear hb
          refine hK.out _ _ (by first | trivial | exact ⟨HC.out.2.cell (j := 0) rfl, HC.out.2.cell (j := 1) rfl⟩) (fun hS => ?_); clear hK K
          refine wpAnyH_take (i := 26) (v := ?_) (by simp only [List.getElem?_toArray, List.getElem?_cons_succ, List.getElem?_cons_zero]; exact rfl) (by kernel_rfl) (by kernel_rfl) (by kernel_rfl) (by exact fun _ _ _ h => h) (Or.inl ⟨by rfl, ?_⟩) hS ?_
          rotate_left
          · intro w hSw; obtain ⟨c0, c1⟩ := hSw; go_simp; try with_reducible rfl
          refine wpAnyH_take (i := 27) (v := ?_) (by simp only [List.getElem?_toArray, List.getElem?_cons_succ, List.getElem?_cons_zero]; exact rfl) (by kernel_rfl) (by kernel_rfl) (by kernel_rfl) (by exact fun _ _ _ h => h) (Or.inl ⟨by rfl, ?_⟩) hS ?_
          rotate_left
          · intro w hSw; obtain ⟨c0, c1⟩ := hSw; go_simp; try with_reducible rfl
          refine wpAnyH_take (i := 28) (v := ?_) (by simp only [List.getElem?_toArray, List.getElem?_cons_succ, List.getElem?_cons_zero]; exact rfl) (by kernel_rfl) (by kernel_rfl) (by kernel_rfl) (by exact fun _ _ _ h => h) (Or.inl ⟨by rfl, ?_⟩) hS ?_
          rotate_left
          · intro w hSw; obtain ⟨c0, c1⟩ := hSw; go_simp; try with_reducible rfl
          refine wpAnyH_take (i := 29) (v := ?_) (by simp only [List.getElem?_toArray, List.getElem?_cons_succ, List.getElem?_cons_zero]; exact rfl) (by kernel_rfl) (by kernel_rfl) (by kernel_rfl) (by exact fun _ _ _ h => h) (Or.inl ⟨by rfl, ?_⟩) hS ?_
          rotate_left
          · intro w hSw; obtain ⟨c0, c1⟩ := hSw; go_simp; try with_reducible rfl
          refine wpAnyH_take (i := 30) (v := ?_) (by simp only [List.getElem?_toArray, List.getElem?_cons_succ, List.getElem?_cons_zero]; exact rfl) (by kernel_rfl) (by kernel_rfl) (by kernel_rfl) (by exact fun _ _ _ h => h) (Or.inl ⟨by rfl, ?_⟩) hS ?_
          rotate_left
          · intro w hSw; obtain ⟨c0, c1⟩ := hSw; go_simp; try with_reducible rfl
          refine wpAnyH_take (i := 31) (v := ?_) (by simp only [List.getElem?_toArray, List.getElem?_cons_succ, List.getElem?_cons_zero]; exact rfl) (by kernel_rfl) (by kernel_rfl) (by kernel_rfl) (by exact fun _ _ _ h => h) (Or.inl ⟨by rfl, ?_⟩) hS ?_
          rotate_left
          · intro w hSw; obtain ⟨c0, c1⟩ := hSw; go_simp; try with_reducible rfl
          try simp only [Act.put, List.setIfInBounds_toArray, List.set_cons_succ, List.set_cons_zero]
          refine wpAnyH_take (i := 32) (v := ?_) (by simp only [List.getElem?_toArray, List.getElem?_cons_succ, List.getElem?_cons_zero]; exact rfl) (by kernel_rfl) (by kernel_rfl) (by kernel_rfl) (by exact fun _ _ _ h => h) (Or.inl ⟨by rfl, ?_⟩) hS ?_
          rotate_left
          · intro w hSw; obtain ⟨c0, c1⟩ := hSw; go_simp; try with_reducible rfl
          refine wpAnyH_take (i := 33) (v := ?_) (by simp only [List.getElem?_toArray, List.getElem?_cons_succ, List.getElem?_cons_zero]; exact rfl) (by kernel_rfl) (by kernel_rfl) (by kernel_rfl) (by exact fun _ _ _ h => h) (Or.inl ⟨by rfl, ?_⟩) hS ?_
          rotate_left
          · intro w hSw; obtain ⟨c0, c1⟩ := hSw; go_simp; try with_reducible rfl
          refine wpAnyH_take (i := 34) (v := ?_) (by simp only [List.getElem?_toArray, List.getElem?_cons_succ, List.getElem?_cons_zero]; exact rfl) (by kernel_rfl) (by kernel_rfl) (by kernel_rfl) (by exact fun _ _ _ h => h) (Or.inl ⟨by rfl, ?_⟩) hS ?_
          rotate_left
          · intro w hSw; obtain ⟨c0, c1⟩ := hSw; go_simp; try with_reducible rfl
          try simp only [Act.put, List.setIfInBounds_toArray, List.set_cons_succ, List.set_cons_zero]
          refine wpAnyH_take (i := 35) (v := ?_) (by simp only [List.getElem?_toArray, List.getElem?_cons_succ, List.getElem?_cons_zero]; exact rfl) (by kernel_rfl) (by kernel_rfl) (by kernel_rfl) (by exact fun _ _ _ h => h) (Or.inl ⟨by rfl, ?_⟩) hS ?_
          rotate_left
          · intro w hSw; obtain ⟨c0, c1⟩ := hSw; go_simp; try with_reducible rfl
          refine wpAnyH_take (i := 36) (v := ?_) (by simp only [List.getElem?_toArray, List.getElem?_cons_succ, List.getElem?_cons_zero]; exact rfl) (by kernel_rfl) (by kernel_rfl) (by kernel_rfl) (by exact fun _ _ _ h => h) (Or.inl ⟨by rfl, ?_⟩) hS ?_
          rotate_left
          · intro w hSw; obtain ⟨c0, c1⟩ := hSw; go_simp; try with_reducible rfl
          refine wpAnyH_take (i := 37) (v := ?_) (by simp only [List.getElem?_toArray, List.getElem?_cons_succ, List.getElem?_cons_zero]; exact rfl) (by kernel_rfl) (by kernel_rfl) (by kernel_rfl) (by exact fun _ _ _ h => h) (Or.inl ⟨by rfl, ?_⟩) hS ?_
          rotate_left
          · intro w hSw; obtain ⟨c0, c1⟩ := hSw; go_simp; try with_reducible rfl
          refine wpAnyH_done (by kernel_rfl) ?_ _
          try simp only [Act.put, List.setIfInBounds_toArray, List.set_cons_succ, List.set_cons_zero]
          go_wp2
          go_ret
          exact ⟨congrArg (fun x => Ending.returned (Value.bool x)) HGT.out, HC.out.1⟩
  · have h5I : (L : Int) > 5 := by omega
    go_enter Try.func6, Try.ntmps6
    go_wp2_with fail
    rw [← hW0]
    refine (HAW.out _).mono ?_
    rintro e w1 ⟨rfl, hb1⟩
    have HB1 := Lib.hid (HB0.out.trans (hb1.mono HB0.out.size))
    have HK1 := Lib.hid (HK0.out.below hb1 HK0.out.lt)
    clear hb1 hW0
    go_wp2
    go_ret
    exact ⟨rfl, HB1.out⟩
end Go.Proofs.Ytlpillpfahkjdaa
