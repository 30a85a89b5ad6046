/- Walks of the reference of layer 10: Right, Number, Told, Cut, Same. -/
import Derived.Test.YtlpillpfahkjdaaDoorPkAwake
namespace Go.Proofs.YtlpillpfahkjdaaDoor
open Go.RowKit Lib

namespace Pk
theorem enc_cons : ∀ k n, Wl.enc (k + 1) n = UInt8.ofNat (n / 256 ^ k) :: Wl.enc k n
  | 0, n => by simp [Wl.enc]
  | k + 1, n => by
    rw [Wl.enc, enc_cons k (n / 256), Wl.enc, Nat.div_div_eq_div_mul, Nat.pow_succ, Nat.mul_comm 256]
    rfl
end Pk
theorem one_back' (w : World) (m : Nat) : (convert 47 9 (.slice (some ⟨w.heap.size, 0, none⟩) 1 1)).run Tryd.prog (w.alloc (.cells #[.int .u8 ((m : Int) % 256)] 5)) = .ok (.string (bs [UInt8.ofNat m])) (w.alloc (.cells #[.int .u8 ((m : Int) % 256)] 5)) := by
  have e : ((m : Int) % 256) = ((UInt8.ofNat m).toNat : Int) := by rw [UInt8.toNat_ofNat']; omega
  rw [e]
  exact run_convert_bytes_back (P := Tryd.prog) _ 47 9 5 ⟨w.heap.size, 0, none⟩ 1 [UInt8.ofNat m] (by kernel_rfl) (by kernel_rfl) (by kernel_rfl) (by
    intro i hi
    have h0 : i = 0 := by simp at hi; omega
    subst h0
    exact (Blk.new w #[.int .u8 ((UInt8.ofNat m).toNat : Int)] 5).cell rfl)
set_option maxHeartbeats 1000000 in
theorem refNumber_any (n width : Nat) (w : World) (hn : n < 2 ^ 64) (hw : width ≤ 8) : Calls Tryd.prog 21 #[.int .u64 n, .int .i64 width] w fun e w' => e = .returned (.string (bs (Wl.enc width n))) ∧ Below w.heap.size w w' := by
  have hwI : (width : Int) ≤ 8 := by omega
  have HN := Lib.hid hn
  clear hn
  go_enter Tryd.func21, Tryd.ntmps21
  go_wp2
  go_loopw [0, 5, 6] (fun u t i wr => ∃ k : Nat, k ≤ width ∧ i = .int .i64 k ∧ u = .int .u64 (n / 256 ^ k : Nat) ∧ t = .string (bs (Wl.enc k n)) ∧ Hid (Below w.heap.size w wr)) (fun _ _ i _ => width - (RowKit.intOf i).toNat)
  case atStart => exact ⟨0, Nat.zero_le _, rfl, by simp, rfl, Lib.hid (Below.refl _ _)⟩
  case round =>
    obtain ⟨k, hk, rfl, rfl, rfl, HB⟩ := hrel
    by_cases hlt : k < width
    · have hltI : (k : Int) < width := by omega
      have HE := Lib.hid (Pk.enc_cons k n)
      have HQ := Lib.hid (show n / 256 ^ (k + 1) = n / 256 ^ k / 256 by rw [Nat.div_div_eq_div_mul, Nat.pow_succ])
      have hsz : (bs (Wl.enc k n)).size = k := by rw [bs_size, Wl.enc_length]
      have hm : n / 256 ^ k < 2 ^ 64 := Nat.lt_of_le_of_lt (Nat.div_le_self _ _) HN.out
      have happ : bs [UInt8.ofNat (n / 256 ^ k)] ++ bs (Wl.enc k n) = bs (Wl.enc (k + 1) n) := by rw [bs_append, HE.out]; rfl
      have HAP := Lib.hid happ
      have h1 : (bs [UInt8.ofNat (n / 256 ^ k)]).size = 1 := bs_size _
      have hconv := one_back' wr (n / 256 ^ k)
      have hsum : (bs [UInt8.ofNat (n / 256 ^ k)]).size + (bs (Wl.enc k n)).size ≤ 9223372036854775807 := by rw [h1, hsz]; omega
      generalize bs (Wl.enc k n) = S at *
      generalize n / 256 ^ k = m at *
      have hmI : (m : Int) < 18446744073709551616 := by omega
      generalize bs [UInt8.ofNat m] = T at *
      clear happ h1 hsz
      have HB2 := Lib.hid (HB.out.alloc HB.out.size (.cells #[.int .u8 ((m : Int) % 256)] 5))
      go_wp2
      go_roundw
      case rel => exact ⟨k + 1, by omega, by go_num, by rw [HQ.out]; go_num, by rw [← HAP.out], HB2⟩
      case measure => simp [RowKit.intOf]; omega
    · have hke : k = width := by omega
      subst hke
      go_wp2
      go_ret
      exact ⟨rfl, HB.out⟩
/-- What Cut answers. -/
def cutv (o : Option (Pk.Text × Pk.Text)) : Value := match o with
  | some (x, y) => .tuple #[.string (bs x), .string (bs y), .bool true]
  | none => .tuple #[.string ⟨#[]⟩, .string ⟨#[]⟩, .bool false]
theorem byte_zero (c : UInt8) : (c = 0 ∧ (c.toNat : Int) = 0) ∨ (c ≠ 0 ∧ ((c.toNat : Int) == 0) = false) := by
  by_cases h : c = 0
  · subst h; exact .inl ⟨rfl, rfl⟩
  · refine .inr ⟨h, ?_⟩
    rw [beq_eq_false_iff_ne]
    intro e
    exact h (UInt8.toNat.inj (by have : (0 : UInt8).toNat = 0 := rfl; omega))
end Go.Proofs.YtlpillpfahkjdaaDoor
