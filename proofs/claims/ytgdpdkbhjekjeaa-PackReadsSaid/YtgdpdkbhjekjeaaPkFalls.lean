/- Walks of pack's Falls and Fell, of the statements' Few and awake. -/
import Derived.Test.YtgdpdkbhjekjeaaPkRead
namespace Go.Proofs.Ytgdpdkbhjekjeaa
open Go.RowKit Lib

namespace Pk
def neg (n : Nat) : Nat := 18446744073709551615 - n
def few (l : List Fd) : Bool := decide (l.length ≤ 20) && l.all fun f => decide (f.s.length ≤ 300)
end Pk
theorem not_u64 (n : Nat) (hn : n < 2 ^ 64) : bits .xor .u64 18446744073709551615 (n : Int) = (Pk.neg n : Nat) := by
  have h2 : (BitVec.ofInt 64 (n : Int)).toNat = n := by
    rw [BitVec.toNat_ofInt]; omega
  have key : (BitVec.ofInt 64 18446744073709551615 ^^^ BitVec.ofInt 64 (n : Int)).toNat = Pk.neg n := by
    rw [show BitVec.ofInt 64 18446744073709551615 = BitVec.allOnes 64 by decide, BitVec.allOnes_xor, BitVec.toNat_not, h2]
    unfold Pk.neg
    omega
  show IntKind.u64.wrap ((BitVec.ofInt 64 18446744073709551615 ^^^ BitVec.ofInt 64 (n : Int)).toNat : Nat) = _
  rw [key, IntKind.wrap_u64]
  unfold Pk.neg
  omega
theorem neg_lt (n : Nat) : Pk.neg n < 2 ^ 64 := by unfold Pk.neg; omega
theorem falls_any (n : Nat) (w : World) (hn : n < 2 ^ 64) : Calls Try.prog 20 #[.int .u64 n] w fun e w' => e = .returned (.string (bs (Wl.enc 8 (Pk.neg n)))) ∧ Below w.heap.size w w' := by
  have hneg : bits .xor .u64 IntKind.u64.max (n : Int) = (Pk.neg n : Nat) := not_u64 n hn
  have hsg : IntKind.u64.signed = false := rfl
  have HAP := Lib.hid (fun W : World => pappendNumber_any W.heap.size W (.slice none 0 0) [] (Pk.neg n) 8 (Own.nil _ _ _ _) (Nat.le_refl _) (by decide) (neg_lt n) (by decide))
  simp only [List.nil_append] at HAP
  generalize Wl.enc 8 (Pk.neg n) = T at *
  generalize Pk.neg n = N at *
  go_enter Try.func20, Try.ntmps20
  go_wp2_with fail
  refine (HAP.out _).mono ?_
  rintro e w1 ⟨v1, rfl, ho, hb, _⟩
  have hbk := OwnY.back ho
  have HB := Lib.hid (hb.below (Nat.le_refl _) (fun k _ e => by cases e))
  clear hb ho
  go_wp2
  go_ret
  exact ⟨rfl, HB.out⟩
theorem fell_any (s : ByteArray) (w : World) : Calls Try.prog 21 #[.string s] w fun e w' => e = .returned (.tuple (if s.size = 8 then #[.int .u64 (Pk.neg (Wl.dec s.data.toList) : Nat), .bool true] else #[.int .u64 0, .bool false])) ∧ w' = w := by
  by_cases h : s.size = 8
  · rw [if_pos h]
    have hI : ((s.size : Int) != 8) = false := by rw [bne_eq_false_iff_eq]; omega
    have hd : Wl.dec s.data.toList < 2 ^ 64 := by
      have := Wl.dec_snoc_lt s.data.toList
      rw [show s.data.toList.length = 8 from (Array.length_toList).trans h] at this
      exact this
    have hneg : bits .xor .u64 IntKind.u64.max (Wl.dec s.data.toList : Nat) = (Pk.neg (Wl.dec s.data.toList) : Nat) := not_u64 _ hd
    have hsg : IntKind.u64.signed = false := rfl
    have HN := Lib.hid (fun W => pnumberOf_any s W (by omega))
    generalize Wl.dec s.data.toList = d at *
    clear h hd
    go_enter Try.func21, Try.ntmps21
    go_wp2_with fail
    refine (HN.out _).mono ?_
    rintro e w1 ⟨rfl, rfl⟩
    go_wp2
    go_ret2
    exact ⟨rfl, rfl⟩
  · rw [if_neg h]
    have hI : ((s.size : Int) != 8) = true := by rw [bne_iff_ne]; omega
    go_enter Try.func21, Try.ntmps21
    go_wp2
    go_ret2
    exact ⟨rfl, rfl⟩
set_option maxHeartbeats 1000000 in
theorem few_any (v : Value) (l : List Pk.Fd) (w : World) (hr : RdF w v l) : Calls Try.prog 9 #[v] w fun e w' => e = .returned (.bool (Pk.few l)) ∧ Below w.heap.size w w' := by
  obtain ⟨a, cap, rfl, hcap, hcells⟩ := hr
  have HC := Lib.hid hcells
  obtain ⟨L, hL⟩ : ∃ L, L = l.length := ⟨_, rfl⟩
  have HL := Lib.hid hL
  rw [← hL]
  clear hcells hL
  by_cases h20 : L ≤ 20
  · have h20I : ¬ (L : Int) > 20 := by omega
    have hLI : (L : Int) ≤ 20 := by omega
    go_enter Try.func9, Try.ntmps9
    go_wp2_with fail
    go_loopw [10] (fun i wr => ∃ k : Nat, k ≤ L ∧ i = .int .i64 k ∧ Hid ((l.take k).all (fun f => decide (f.s.length ≤ 300)) = true) ∧ Hid (Below w.heap.size w wr)) (fun i _ => L - (RowKit.intOf i).toNat)
    case atStart => exact ⟨0, Nat.zero_le _, rfl, Lib.hid rfl, Lib.hid (Below.refl _ _)⟩
    case round =>
      obtain ⟨k, hk, rfl, HA, HB⟩ := hrel
      by_cases hlt : k < L
      · have hltI : (k : Int) < L := by omega
        have hk1 : k < l.length := by have := HL.out; omega
        obtain ⟨hn, g, o, rfl, hg, hc⟩ := HC.out k hk1
        have c0 : wr.cell? ⟨g, o + k * 2, none⟩ = some (.int .u64 l[k].n) := (HB.out.cell (p := ⟨g, o + k * 2, none⟩) hg).trans (hc k hk1).1
        have c1 : wr.cell? ⟨g, o + k * 2 + 1, none⟩ = some (.string (bs l[k].s)) := (HB.out.cell (p := ⟨g, o + k * 2 + 1, none⟩) hg).trans (hc k hk1).2
        have hszk := bs_size l[k].s
        have HTK := Lib.hid (show (l.take (k + 1)).all (fun f => decide (f.s.length ≤ 300)) = decide (l[k].s.length ≤ 300) by
          rw [List.take_succ_eq_append_getElem hk1, List.all_append, HA.out]; simp)
        have HALL := Lib.hid (show decide (l[k].s.length ≤ 300) = false → Pk.few l = false from fun e => by
          unfold Pk.few
          rw [Bool.and_eq_false_iff]
          right
          rw [List.all_eq_false]
          exact ⟨l[k], List.getElem_mem hk1, by rw [e]; decide⟩)
        generalize l[k].n = n at *
        generalize l[k].s.length = m at *
        generalize bs l[k].s = X at *
        clear hc
        by_cases h3 : m ≤ 300
        · have h3I : ¬ (X.size : Int) > 300 := by omega
          have HB2 := Lib.hid (HB.out.alloc HB.out.size (.cells #[.int .u64 n, .string X] 46))
          go_wp2
          go_roundw
          case rel => exact ⟨k + 1, by omega, by go_num, Lib.hid (by rw [HTK.out]; exact decide_eq_true h3), HB2⟩
          case measure => simp [RowKit.intOf]; omega
        · have h3I : (X.size : Int) > 300 := by omega
          have HB2 := Lib.hid (HB.out.alloc HB.out.size (.cells #[.int .u64 n, .string X] 46))
          go_wp2
          go_ret
          exact ⟨by rw [HALL.out (decide_eq_false h3)]; rfl, HB2.out⟩
      · have hke : k = L := by omega
        subst hke
        have HV := Lib.hid (show Pk.few l = true by
          unfold Pk.few
          have := HA.out
          rw [List.take_of_length_le (by rw [← HL.out]; exact Nat.le_refl _)] at this
          rw [this, decide_eq_true (by rw [← HL.out]; exact h20)]
          rfl)
        go_wp2
        go_ret
        exact ⟨by rw [HV.out]; rfl, HB.out⟩
  · have h20I : (L : Int) > 20 := by omega
    have HV := Lib.hid (show Pk.few l = false by unfold Pk.few; rw [decide_eq_false (by rw [← HL.out]; exact h20)]; rfl)
    go_enter Try.func9, Try.ntmps9
    go_wp2
    go_ret
    exact ⟨by rw [HV.out]; rfl, Below.refl _ _⟩
end Go.Proofs.Ytgdpdkbhjekjeaa
