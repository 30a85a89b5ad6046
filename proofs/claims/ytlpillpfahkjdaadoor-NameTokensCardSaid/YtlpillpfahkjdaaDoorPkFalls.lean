/- Walks of pack's Falls and Fell, of the statements' Few and awake. -/
import Derived.Test.YtlpillpfahkjdaaDoorPkRead
namespace Go.Proofs.YtlpillpfahkjdaaDoor
open Go.RowKit Lib

namespace Pk
def neg (n : Nat) : Nat := 18446744073709551615 - n
def few (l : List Fd) : Bool := decide (l.length ≤ 20) && l.all fun f => decide (f.s.length ≤ 300)
end Pk
theorem not_u64 (n : Nat) (hn : n < 2 ^ 64) : bits .xor .u64 18446744073709551615 (n : Int) = (Pk.neg n : Nat) := by
  have h2 : (BitVec.ofInt 64 (n : Int)).toNat = n := by
    rw [BitVec.toNat_ofInt]; omega
  have key : (BitVec.ofInt 64 18446744073709551615 ^^^ BitVec.ofInt 64 (n : Int)).toNat = Pk.neg n := by
    rw [show BitVec.ofInt 64 18446744073709551615 = BitVec.allOnes 64 by decide, BitVec.allOnes_xor, BitVec.toNat_not, h2]
    unfold Pk.neg
    omega
  show IntKind.u64.wrap ((BitVec.ofInt 64 18446744073709551615 ^^^ BitVec.ofInt 64 (n : Int)).toNat : Nat) = _
  rw [key, IntKind.wrap_u64]
  unfold Pk.neg
  omega
theorem neg_lt (n : Nat) : Pk.neg n < 2 ^ 64 := by unfold Pk.neg; omega
theorem falls_any (n : Nat) (w : World) (hn : n < 2 ^ 64) : Calls Tryd.prog 26 #[.int .u64 n] w fun e w' => e = .returned (.string (bs (Wl.enc 8 (Pk.neg n)))) ∧ Below w.heap.size w w' := by
  have hneg : bits .xor .u64 IntKind.u64.max (n : Int) = (Pk.neg n : Nat) := not_u64 n hn
  have hsg : IntKind.u64.signed = false := rfl
  have HAP := Lib.hid (fun W : World => pappendNumber_any W.heap.size W (.slice none 0 0) [] (Pk.neg n) 8 (Own.nil _ _ _ _) (Nat.le_refl _) (by decide) (neg_lt n) (by decide))
  simp only [List.nil_append] at HAP
  generalize Wl.enc 8 (Pk.neg n) = T at *
  generalize Pk.neg n = N at *
  go_enter Tryd.func26, Tryd.ntmps26
  go_wp2_with fail
  refine (HAP.out _).mono ?_
  rintro e w1 ⟨v1, rfl, ho, hb, _⟩
  have hbk := OwnY.back ho
  have HB := Lib.hid (hb.below (Nat.le_refl _) (fun k _ e => by cases e))
  clear hb ho
  go_wp2
  go_ret
  exact ⟨rfl, HB.out⟩
theorem fell_any (s : ByteArray) (w : World) : Calls Tryd.prog 24 #[.string s] w fun e w' => e = .returned (.tuple (if s.size = 8 then #[.int .u64 (Pk.neg (Wl.dec s.data.toList) : Nat), .bool true] else #[.int .u64 0, .bool false])) ∧ w' = w := by
  by_cases h : s.size = 8
  · rw [if_pos h]
    have hI : ((s.size : Int) != 8) = false := by rw [bne_eq_false_iff_eq]; omega
    have hd : Wl.dec s.data.toList < 2 ^ 64 := by
      have := Wl.dec_snoc_lt s.data.toList
      rw [show s.data.toList.length = 8 from (Array.length_toList).trans h] at this
      exact this
    have hneg : bits .xor .u64 IntKind.u64.max (Wl.dec s.data.toList : Nat) = (Pk.neg (Wl.dec s.data.toList) : Nat) := not_u64 _ hd
    have hsg : IntKind.u64.signed = false := rfl
    have HN := Lib.hid (fun W => pnumberOf_any s W (by omega))
    generalize Wl.dec s.data.toList = d at *
    clear h hd
    go_enter Tryd.func24, Tryd.ntmps24
    go_wp2_with fail
    refine (HN.out _).mono ?_
    rintro e w1 ⟨rfl, rfl⟩
    go_wp2
    go_ret2
    exact ⟨rfl, rfl⟩
  · rw [if_neg h]
    have hI : ((s.size : Int) != 8) = true := by rw [bne_iff_ne]; omega
    go_enter Tryd.func24, Tryd.ntmps24
    go_wp2
    go_ret2
    exact ⟨rfl, rfl⟩
end Go.Proofs.YtlpillpfahkjdaaDoor
