/- Walks of the reference of layer 10: Right, Number, Told, Cut, Same. -/
import Derived.Test.YtlpillpfahkjdaaPkAwake
namespace Go.Proofs.Ytlpillpfahkjdaa
open Go.RowKit Lib

namespace Pk
theorem enc_cons : ∀ k n, Wl.enc (k + 1) n = UInt8.ofNat (n / 256 ^ k) :: Wl.enc k n
  | 0, n => by simp [Wl.enc]
  | k + 1, n => by
    rw [Wl.enc, enc_cons k (n / 256), Wl.enc, Nat.div_div_eq_div_mul, Nat.pow_succ, Nat.mul_comm 256]
    rfl
end Pk
theorem one_back' (w : World) (m : Nat) : (convert 51 9 (.slice (some ⟨w.heap.size, 0, none⟩) 1 1)).run Try.prog (w.alloc (.cells #[.int .u8 ((m : Int) % 256)] 5)) = .ok (.string (bs [UInt8.ofNat m])) (w.alloc (.cells #[.int .u8 ((m : Int) % 256)] 5)) := by
  have e : ((m : Int) % 256) = ((UInt8.ofNat m).toNat : Int) := by rw [UInt8.toNat_ofNat']; omega
  rw [e]
  exact run_convert_bytes_back (P := Try.prog) _ 51 9 5 ⟨w.heap.size, 0, none⟩ 1 [UInt8.ofNat m] (by kernel_rfl) (by kernel_rfl) (by kernel_rfl) (by
    intro i hi
    have h0 : i = 0 := by simp at hi; omega
    subst h0
    exact (Blk.new w #[.int .u8 ((UInt8.ofNat m).toNat : Int)] 5).cell rfl)
set_option maxHeartbeats 1000000 in
theorem refNumber_any (n width : Nat) (w : World) (hn : n < 2 ^ 64) (hw : width ≤ 8) : Calls Try.prog 35 #[.int .u64 n, .int .i64 width] w fun e w' => e = .returned (.string (bs (Wl.enc width n))) ∧ Below w.heap.size w w' := by
  have hwI : (width : Int) ≤ 8 := by omega
  have HN := Lib.hid hn
  clear hn
  go_enter Try.func35, Try.ntmps35
  go_wp2
  go_loopw [0, 5, 6] (fun u t i wr => ∃ k : Nat, k ≤ width ∧ i = .int .i64 k ∧ u = .int .u64 (n / 256 ^ k : Nat) ∧ t = .string (bs (Wl.enc k n)) ∧ Hid (Below w.heap.size w wr)) (fun _ _ i _ => width - (RowKit.intOf i).toNat)
  case atStart => exact ⟨0, Nat.zero_le _, rfl, by simp, rfl, Lib.hid (Below.refl _ _)⟩
  case round =>
    obtain ⟨k, hk, rfl, rfl, rfl, HB⟩ := hrel
    by_cases hlt : k < width
    · have hltI : (k : Int) < width := by omega
      have HE := Lib.hid (Pk.enc_cons k n)
      have HQ := Lib.hid (show n / 256 ^ (k + 1) = n / 256 ^ k / 256 by rw [Nat.div_div_eq_div_mul, Nat.pow_succ])
      have hsz : (bs (Wl.enc k n)).size = k := by rw [bs_size, Wl.enc_length]
      have hm : n / 256 ^ k < 2 ^ 64 := Nat.lt_of_le_of_lt (Nat.div_le_self _ _) HN.out
      have happ : bs [UInt8.ofNat (n / 256 ^ k)] ++ bs (Wl.enc k n) = bs (Wl.enc (k + 1) n) := by rw [bs_append, HE.out]; rfl
      have HAP := Lib.hid happ
      have h1 : (bs [UInt8.ofNat (n / 256 ^ k)]).size = 1 := bs_size _
      have hconv := one_back' wr (n / 256 ^ k)
      have hsum : (bs [UInt8.ofNat (n / 256 ^ k)]).size + (bs (Wl.enc k n)).size ≤ 9223372036854775807 := by rw [h1, hsz]; omega
      generalize bs (Wl.enc k n) = S at *
      generalize n / 256 ^ k = m at *
      have hmI : (m : Int) < 18446744073709551616 := by omega
      generalize bs [UInt8.ofNat m] = T at *
      clear happ h1 hsz
      have HB2 := Lib.hid (HB.out.alloc HB.out.size (.cells #[.int .u8 ((m : Int) % 256)] 5))
      go_wp2
      go_roundw
      case rel => exact ⟨k + 1, by omega, by go_num, by rw [HQ.out]; go_num, by rw [← HAP.out], HB2⟩
      case measure => simp [RowKit.intOf]; omega
    · have hke : k = width := by omega
      subst hke
      go_wp2
      go_ret
      exact ⟨rfl, HB.out⟩
set_option maxHeartbeats 1000000 in
theorem told_any (s : ByteArray) (w : World) (hs : s.size ≤ 8) :
    Calls Try.prog 40 #[.string s] w fun e w' => e = .returned (.int .u64 (Wl.dec s.data.toList : Nat)) ∧ w' = w := by
  have hsI : (s.size : Int) ≤ 8 := by omega
  go_enter Try.func40, Try.ntmps40
  go_wp2
  go_loop [3, 4] (fun n i => ∃ k : Nat, k ≤ s.size ∧ i = .int .i64 k ∧ n = .int .u64 (Wl.dec (s.data.toList.take k) : Nat)) (fun _ i => s.size - (RowKit.intOf i).toNat)
  case atStart => exact ⟨0, Nat.zero_le _, rfl, rfl⟩
  case round =>
    obtain ⟨k, hk, rfl, rfl⟩ := hrel
    by_cases hlt : k < s.size
    · have hb := s[k].toNat_lt
      have hd : Wl.dec (s.data.toList.take k) < 2 ^ 56 := by
        have h1 := Wl.dec_snoc_lt (s.data.toList.take k)
        have h2 : (s.data.toList.take k).length = k := by rw [List.length_take, Array.length_toList]; exact Nat.min_eq_left hk
        rw [h2] at h1
        have h3 : 256 ^ k ≤ 256 ^ 7 := Nat.pow_le_pow_right (by decide) (by omega)
        have h4 : (256 : Nat) ^ 7 = 2 ^ 56 := by decide
        omega
      have HS := Lib.hid (show Wl.dec (s.data.toList.take (k + 1)) = Wl.dec (s.data.toList.take k) * 256 + s[k].toNat by rw [take_snoc s k hlt, Wl.dec_append])
      generalize Wl.dec (s.data.toList.take k) = a at *
      have haI : (a : Int) < 72057594037927936 := by omega
      have ha0 : (0 : Int) ≤ a := by omega
      have hbI : (s[k].toNat : Int) < 256 := by omega
      clear hd
      go_wp2
      go_round
      case rel => exact ⟨k + 1, by omega, by go_num, by rw [HS.out]; go_num⟩
      case measure => simp [RowKit.intOf]; omega
    · have hke : k = s.size := by omega
      subst hke
      go_wp2
      go_ret
      refine ⟨?_, rfl⟩
      rw [List.take_of_length_le (by rw [Array.length_toList]; exact Nat.le_refl _)]
      rfl
/-- What Cut answers. -/
def cutv (o : Option (Pk.Text × Pk.Text)) : Value := match o with
  | some (x, y) => .tuple #[.string (bs x), .string (bs y), .bool true]
  | none => .tuple #[.string ⟨#[]⟩, .string ⟨#[]⟩, .bool false]
theorem byte_zero (c : UInt8) : (c = 0 ∧ (c.toNat : Int) = 0) ∨ (c ≠ 0 ∧ ((c.toNat : Int) == 0) = false) := by
  by_cases h : c = 0
  · subst h; exact .inl ⟨rfl, rfl⟩
  · refine .inr ⟨h, ?_⟩
    rw [beq_eq_false_iff_ne]
    intro e
    exact h (UInt8.toNat.inj (by have : (0 : UInt8).toNat = 0 := rfl; omega))
set_option maxHeartbeats 1000000 in
theorem refCut_any (s : ByteArray) (w : World) (hs : s.size ≤ 1000000) : Calls Try.prog 31 #[.string s] w fun e w' => e = .returned (cutv (Pk.cut s.data.toList)) ∧ Below w.heap.size w w' := by
  have hsI : (s.size : Int) ≤ 1000000 := by omega
  go_enter Try.func31, Try.ntmps31
  go_wp2
  go_loop [5] (fun i => ∃ k : Nat, k ≤ s.size ∧ i = .int .i64 k ∧ Hid ((0 : UInt8) ∉ s.data.toList.take k)) (fun i => s.size - (RowKit.intOf i).toNat)
  case atStart => exact ⟨0, Nat.zero_le _, rfl, Lib.hid (by simp)⟩
  case round =>
    obtain ⟨k, hk, rfl, HR⟩ := hrel
    by_cases hlt : k < s.size
    · have hltI : (k : Int) < s.size := by omega
      have HT := Lib.hid (take_snoc s k hlt)
      have hkI : (k : Int) ≤ 1000000 := by omega
      rcases byte_zero s[k] with ⟨h0, h⟩ | ⟨h0, h⟩
      · have hc := Pk.cut_at s.data.toList k HR.out hlt (by
          rw [List.getElem?_eq_getElem (by simpa using hlt)]
          exact congrArg some h0)
        have HV := Lib.hid (show cutv (Pk.cut s.data.toList) = .tuple #[.string (s.extract 0 k), .string (s.extract (k + 1) s.size), .bool true] by
          rw [hc]
          have e2 : s.extract (k + 1) s.size = bs (s.data.toList.drop (k + 1)) := by
            apply ByteArray.ext; apply Array.ext'; rw [ext_drop]; rfl
          rw [ext_take, e2]; rfl)
        have h1I : ((k : Int) + 1) ≤ s.size := by omega
        clear hc h0
        go_wp2_with fail
        go_region
        go_wp2
        go_ret3
        exact ⟨by rw [HV.out]; rfl, below_drawn _ 1⟩
      · have HR2 := Lib.hid (show (0 : UInt8) ∉ s.data.toList.take (k + 1) by
          rw [HT.out]
          intro hm
          rcases List.mem_append.1 hm with hm | hm
          · exact HR.out hm
          · exact h0 (List.mem_singleton.1 hm).symm)
        clear h0
        go_wp2
        go_round
        case rel => exact ⟨k + 1, by omega, by go_num, HR2⟩
        case measure => simp [RowKit.intOf]; omega
    · have hke : k = s.size := by omega
      subst hke
      have HV := Lib.hid (show Pk.cut s.data.toList = none by
        rw [Pk.cut_none]
        have := HR.out
        rwa [List.take_of_length_le (by rw [Array.length_toList]; exact Nat.le_refl _)] at this)
      go_wp2
      go_ret3
      exact ⟨by rw [HV.out]; rfl, Below.refl _ _⟩
end Go.Proofs.Ytlpillpfahkjdaa
