/- Walks of what turns numbers into bytes, and back. -/
import Derived.Test.YthkblabpiajbhaaDoorBytesZ
import Derived.Test.YthkblabpiajbhaaDoorLogMath
import Derived.Laws.Bits128
import Derived.BigQuiet
import Derived.Deep.RegionLaw
import Derived.BigRegion
import Derived.Lib.Hide
import Derived.Deep.DeepFit
import Derived.Outline
namespace Go.Proofs.YthkblabpiajbhaaDoor
open Go.RowKit Lib

theorem enc_step (w j n : Nat) (hj : j < w) : Wl.enc (j + 1) (n / 256 ^ (w - (j + 1))) = Wl.enc j (n / 256 ^ (w - j)) ++ [UInt8.ofNat (n / 256 ^ (w - (j + 1)))] := by
  rw [Wl.enc, Nat.div_div_eq_div_mul, ← Nat.pow_succ, show (w - (j + 1)).succ = w - j by omega]
theorem shift_val (n k : Nat) : (n : Int) / 2 ^ (8 * k) % 256 = ((UInt8.ofNat (n / 256 ^ k)).toNat : Int) := by
  have e : (n : Int) / 2 ^ (8 * k) = ((n / 256 ^ k : Nat) : Int) := by
    rw [Int.natCast_ediv]
    congr 1
    rw [show (256 : Nat) = 2 ^ 8 from rfl, ← Nat.pow_mul, Int.natCast_pow]
    rfl
  rw [e, UInt8.toNat_ofNat']
  omega
set_option maxHeartbeats 1000000 in
theorem appendNumber_any (z : Bool) (B : Nat) (w : World) (v : Value) (l : List UInt8) (n width : Nat) (hown : OwnZ z B w v l) (hB : B ≤ w.heap.size) (hl : l.length ≤ 800000000) (hn : n < 2 ^ 64) (hw : width ≤ 8) :
    Calls Tryd.prog 49 #[v, .int .u64 n, .int .i64 width] w fun e w' => ∃ v', e = .returned v' ∧ OwnZ z B w' v' (l ++ Wl.enc width n) ∧ But (fun k => v.ownBlock = some k) w w' ∧ (v'.ownBlock = v.ownBlock ∨ ∀ k, v'.ownBlock = some k → w.heap.size ≤ k) := by
  have hwI : (width : Int) ≤ 8 := by omega
  have HO := Lib.hid hown
  have HB := Lib.hid hB
  have HN := Lib.hid hn
  clear hown hB hn
  go_enter Tryd.func49, Tryd.ntmps49
  go_wp2
  go_loopw [0, 7] (fun u i wr => ∃ j : Nat, j ≤ width ∧ i = .int .i64 ((width : Int) - 1 - j) ∧ Hid (OwnZ z B wr u (l ++ Wl.enc j (n / 256 ^ (width - j)))) ∧ Hid (But (fun k => v.ownBlock = some k) w wr) ∧ Hid (u.ownBlock = v.ownBlock ∨ ∀ k, u.ownBlock = some k → w.heap.size ≤ k)) (fun _ i _ => ((intOf i) + 1).toNat)
  case atStart =>
    refine ⟨0, Nat.zero_le _, by simp, Lib.hid ?_, Lib.hid (But.refl _ _), Lib.hid (.inl rfl)⟩
    rw [Wl.enc, List.append_nil]; exact HO.out
  case round =>
    obtain ⟨j, hj, rfl, ho, hb, hwh⟩ := hrel
    by_cases hlt : j < width
    · obtain ⟨k, hk⟩ : ∃ k : Nat, (width : Int) - 1 - j = k := ⟨width - 1 - j, by omega⟩
      have hk7 : (k : Int) ≤ 7 := by omega
      have hk0 : (0 : Int) ≤ k := by omega
      have HK := Lib.hid (show k = width - (j + 1) by omega)
      have HJ := Lib.hid (And.intro hlt hj)
      rw [hk]
      have HKK := Lib.hid hk
      clear hk hlt hj hwI
      have HSH := Lib.hid (shift_val n k)
      go_wp2_with (at_builtin; refine Hid.out ?_)
      refine Lib.hid ?_
      rw [HSH.out]
      refine wpList_app_byteZ rfl _ _ rfl rfl (ho.out.alloc _) (by have := HB.out; have := hb.out.size; simp; omega) wr.heap.size (UInt8.ofNat (n / 256 ^ k)) rfl ((Blk.new wr #[.int .u8 ((UInt8.ofNat (n / 256 ^ k)).toNat : Int)] 5).cell rfl) (by rw [List.length_append, Wl.enc_length]; have := HJ.out; omega) ?_
      intro v' w4 hown4 hg4 hat4
      have HR := Lib.hid (show OwnZ z B w4 v' (l ++ Wl.enc (j + 1) (n / 256 ^ (width - (j + 1)))) ∧ But (fun k => v.ownBlock = some k) w w4 ∧ (v'.ownBlock = v.ownBlock ∨ ∀ k, v'.ownBlock = some k → w.heap.size ≤ k) by
        have hsz := hb.out.size
        refine ⟨?_, ?_, ?_⟩
        · rw [enc_step width j n HJ.out.1, ← List.append_assoc, ← HK.out]; exact hown4
        · refine (hb.out.alloc _).trans hg4 fun i hi e => ?_
          rcases hwh.out with h | h
          · rw [← h]; exact e
          · have := h i e; omega
        · rcases hat4 with h | h
          · rw [h]; exact hwh.out
          · exact .inr fun k hk => by have := h k hk; simp at this; omega)
      clear hown4 hg4 hat4
      go_wp2
      go_roundw
      case rel => exact ⟨j + 1, HJ.out.1, congrArg (Value.int .i64) (by have := HKK.out; omega), Lib.hid HR.out.1, Lib.hid HR.out.2.1, Lib.hid HR.out.2.2⟩
      case measure => have := HKK.out; simp [intOf] <;> omega
    · have hje : j = width := by omega
      subst hje
      have hneg : (j : Int) - 1 - j = -1 := by omega
      rw [hneg]
      go_wp2
      go_ret
      refine ⟨_, rfl, ?_, hb.out, hwh.out⟩
      have := ho.out
      rwa [Nat.sub_self, Nat.pow_zero, Nat.div_one] at this
end Go.Proofs.YthkblabpiajbhaaDoor
