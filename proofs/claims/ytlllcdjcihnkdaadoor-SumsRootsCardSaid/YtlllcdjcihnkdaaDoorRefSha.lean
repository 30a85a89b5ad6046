/- Walks of the document's fingerprint: its parts. -/
import Derived.Test.YtlllcdjcihnkdaaDoorShaMath
import Derived.Test.YtlllcdjcihnkdaaDoorHexWalk
import Derived.Test.YtlllcdjcihnkdaaDoorBlock
import Derived.Lib.Hide
import Derived.Deep.QuietTactic
import Derived.BigQuiet
import Derived.Laws.BitsAllLaws
namespace Go.Proofs.YtlllcdjcihnkdaaDoor
open Go.RowKit

theorem low_any (X : Int) (x : Nat) (hX : X = x) (w : World) :
    Calls Tryd.prog 27 #[.int .u64 X] w fun e w' => e = .returned (.int .u64 ((x % 4294967296 : Nat) : Int)) ∧ w' = w := by
  subst hX
  go_enter Tryd.func27, Tryd.ntmps27
  go_wp2
  go_ret
  exact ⟨ret_int (by omega), rfl⟩

theorem pow_in (x n : Nat) (hx : x < 4294967296) (hn : 1 ≤ n) : IntKind.u64.wrap ((x : Int) * 2 ^ (32 - n)) = ((x * 2 ^ (32 - n) : Nat) : Int) := by
  have h1 : 2 ^ (32 - n) ≤ 2 ^ 31 := Nat.pow_le_pow_right (by decide) (by omega)
  have h2 : x * 2 ^ (32 - n) ≤ 4294967295 * 2 ^ 31 := Nat.mul_le_mul (by omega) h1
  rw [show (x : Int) * 2 ^ (32 - n) = ((x * 2 ^ (32 - n) : Nat) : Int) by simp, IntKind.wrap_u64]
  omega
theorem right_any (x : Nat) (N : Int) (n : Nat) (hN : N = n) (hx : x < 4294967296) (hn : 1 ≤ n) (hn' : n ≤ 31) (w : World) :
    Calls Tryd.prog 37 #[.int .u64 x, .int .u64 N] w fun e w' => e = .returned (.int .u64 ((Sha.rotr x n : Nat) : Int)) ∧ w' = w := by
  subst hN
  have hr := Sha.rotr_lt x n hx (by omega)
  have HR := Lib.hid (show ((Sha.rotr x n : Nat) : Int) = ((x * 2 ^ (32 - n) % 4294967296 : Nat) : Int) + (x : Int) / 2 ^ n by unfold Sha.rotr; simp)
  obtain ⟨y, hy⟩ : ∃ y, y = x * 2 ^ (32 - n) % 4294967296 := ⟨_, rfl⟩
  have hy32 : y < 4294967296 := by omega
  have hs := Sha.shr_lt x n hx
  obtain ⟨z, hz⟩ : ∃ z, z = x / 2 ^ n := ⟨_, rfl⟩
  have HZ := Lib.hid (show (x : Int) / 2 ^ n = (z : Int) by rw [hz]; simp)
  rw [← hz] at hs
  clear hz
  go_enter Tryd.func37, Tryd.ntmps37
  go_wp2_with fail
  refine (low_any _ _ (pow_in x n hx hn) _).mono ?_
  rintro e w' ⟨rfl, rfl⟩
  rw [← hy] at HR ⊢
  clear hy
  go_wp2
  go_ret
  exact ⟨ret_int (by rw [HR.out, HZ.out, IntKind.wrap_u64]; omega), rfl⟩
theorem right_gen (x : Nat) (N : Int) (hx : x < 4294967296) (hn : 1 ≤ N ∧ N ≤ 31) (w : World) :
    Calls Tryd.prog 37 #[.int .u64 x, .int .u64 N] w fun e w' => e = .returned (.int .u64 ((Sha.rotr x N.toNat : Nat) : Int)) ∧ w' = w :=
  right_any x N N.toNat (by omega) hx (by omega) (by omega) w

theorem refSmall_gen (x : Nat) (I J K : Int) (hx : x < 4294967296) (hi : 1 ≤ I ∧ I ≤ 31 ∧ 1 ≤ J ∧ J ≤ 31 ∧ 1 ≤ K ∧ K ≤ 31) (w : World) :
    Calls Tryd.prog 28 #[.int .u64 x, .int .u64 I, .int .u64 J, .int .u64 K] w fun e w' => e = .returned (.int .u64 ((Sha.small x I.toNat J.toNat K.toNat : Nat) : Int)) ∧ w' = w := by
  obtain ⟨i, rfl⟩ : ∃ i : Nat, I = i := ⟨I.toNat, by omega⟩
  obtain ⟨j, rfl⟩ : ∃ i : Nat, J = i := ⟨J.toNat, by omega⟩
  obtain ⟨k, rfl⟩ : ∃ i : Nat, K = i := ⟨K.toNat, by omega⟩
  have hb := Lib.hid (show ((Sha.small x i j k : Nat) : Int) = bits BinOp.xor IntKind.u64 (bits BinOp.xor IntKind.u64 (Sha.rotr x i : Nat) (Sha.rotr x j : Nat)) ((x : Int) / 2 ^ k) by
    have r1 := Sha.rotr_lt x i hx (by omega)
    have r2 := Sha.rotr_lt x j hx (by omega)
    have r3 := Sha.shr_lt x k hx
    have r12 := Sha.xor_lt r1 r2
    have e : ((x : Int) / 2 ^ k) = ((x / 2 ^ k : Nat) : Int) := by simp
    rw [e, u64_xor_nat _ _ (by omega) (by omega), u64_xor_nat _ _ (by omega) (by omega)]
    rfl)
  go_enter Tryd.func28, Tryd.ntmps28
  go_wp2_with (go_at_call 37; refine (right_gen x _ hx (by omega) _).mono ?_; rintro e w' ⟨rfl, rfl⟩)
  go_ret
  exact ⟨ret_int hb.out.symm, rfl⟩

theorem refGreat_gen (x : Nat) (I J K : Int) (hx : x < 4294967296) (hi : 1 ≤ I ∧ I ≤ 31 ∧ 1 ≤ J ∧ J ≤ 31 ∧ 1 ≤ K ∧ K ≤ 31) (w : World) :
    Calls Tryd.prog 29 #[.int .u64 x, .int .u64 I, .int .u64 J, .int .u64 K] w fun e w' => e = .returned (.int .u64 ((Sha.great x I.toNat J.toNat K.toNat : Nat) : Int)) ∧ w' = w := by
  obtain ⟨i, rfl⟩ : ∃ i : Nat, I = i := ⟨I.toNat, by omega⟩
  obtain ⟨j, rfl⟩ : ∃ i : Nat, J = i := ⟨J.toNat, by omega⟩
  obtain ⟨k, rfl⟩ : ∃ i : Nat, K = i := ⟨K.toNat, by omega⟩
  have hb := Lib.hid (show ((Sha.great x i j k : Nat) : Int) = bits BinOp.xor IntKind.u64 (bits BinOp.xor IntKind.u64 (Sha.rotr x i : Nat) (Sha.rotr x j : Nat)) (Sha.rotr x k : Nat) by
    have r1 := Sha.rotr_lt x i hx (by omega)
    have r2 := Sha.rotr_lt x j hx (by omega)
    have r3 := Sha.rotr_lt x k hx (by omega)
    have r12 := Sha.xor_lt r1 r2
    rw [u64_xor_nat _ _ (by omega) (by omega), u64_xor_nat _ _ (by omega) (by omega)]
    rfl)
  go_enter Tryd.func29, Tryd.ntmps29
  go_wp2_with (go_at_call 37; refine (right_gen x _ hx (by omega) _).mono ?_; rintro e w' ⟨rfl, rfl⟩)
  go_ret
  exact ⟨ret_int hb.out.symm, rfl⟩
end Go.Proofs.YtlllcdjcihnkdaaDoor
