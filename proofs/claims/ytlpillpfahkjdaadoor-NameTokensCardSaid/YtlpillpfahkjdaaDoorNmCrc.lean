/- Walks of sums' Check, over the one table that it reads. -/
import Derived.Test.YtlpillpfahkjdaaDoorChecked
import Derived.Test.YtlpillpfahkjdaaDoorCrcMath
import Derived.Test.YtlpillpfahkjdaaDoorHexMath
import Derived.Test.YtlpillpfahkjdaaDoorTexts
import Derived.Lib.Hide
import Derived.Laws.BitsAllLaws
import Derived.Lib.LaidTab
import Derived.ProofKit
import Derived.OpenShut
namespace Go.Proofs.YtlpillpfahkjdaaDoor
open Go.RowKit

/-- The table of nibbles, as a world holds it. -/
def Nibs (w : World) : Prop := ∀ i, i < 16 → w.cell? ⟨0, i, none⟩ = some (.int .u32 ((Crc.nibAt i : Nat) : Int))
theorem Nibs.below {w w' : World} (h : Nibs w) (hb : Below w.heap.size w w') : Nibs w' := fun i hi =>
  (hb.cell (p := ⟨0, i, none⟩) (by
    have := World.block_lt_of_cell? w _ (h i hi)
    exact this)).trans (h i hi)
theorem ret_int2 {k : IntKind} {a b : Int} (h : a = b) : Ending.returned (Value.int k a) = .returned (.int k b) := by rw [h]
theorem ncheck_any (s : ByteArray) (w : World) (hT : Nibs w) (hs : s.size ≤ 1000000000) :
    Calls Tryd.prog 15 #[.string s] w fun e w' => e = .returned (.int .u32 (Crc.crc s.data.toList : Nat)) ∧ w' = w := by
  have HT := Lib.hid hT
  clear hT
  go_enter Tryd.func15, Tryd.ntmps15
  go_wp2
  go_loop [3, 4] (fun v i => ∃ k : Nat, k ≤ s.size ∧ i = .int .i64 k ∧ v = .int .u32 ((Crc.sum 4294967295 (s.data.toList.take k) : Nat) : Int)) (fun _ i => s.size - (RowKit.intOf i).toNat)
  case atStart => exact ⟨0, Nat.zero_le _, rfl, rfl⟩
  case round =>
    obtain ⟨k, hk, rfl, rfl⟩ := hrel
    have hlt32 := Crc.sum_lt (c := 4294967295) (s.data.toList.take k) (by decide)
    by_cases hlt : k < s.size
    · obtain ⟨d, m, e, n, f, hd, hm, he, hn, x1, x2, x3, x4, x5, hf⟩ := Crc.way _ s[k] hlt32
      have hsn := Lib.hid (show Crc.sum 4294967295 (s.data.toList.take (k + 1)) = f by rw [Hx.take_snoc s k hlt, Crc.sum_snoc, ← hf])
      have c1 := HT.out m hm
      have c2 := HT.out n hn
      have b1 := Crc.nib_lt m
      have b2 := Crc.nib_lt n
      clear hf
      have hc : (s[k].toNat : Int) ≤ 255 := by have := s[k].toNat_lt; omega
      go_wp2
      go_round
      case rel => exact ⟨k + 1, by omega, by go_num, by rw [hsn.out]⟩
      case measure => simp [RowKit.intOf]; omega
    · have e := Lib.hid (show 4294967295 - Crc.sum 4294967295 (s.data.toList.take k) = Crc.crc s.data.toList by rw [Hx.take_all s k hlt]; rfl)
      have ht := Crc.turn _ hlt32
      go_wp2
      go_ret
      exact ⟨ret_int2 (by rw [e.out]), rfl⟩
theorem refCheck_any (s : ByteArray) (w : World) (hs : s.size ≤ 1000000000) :
    Calls Tryd.prog 22 #[.string s] w fun e w' => e = .returned (.int .u32 (Crc.crc s.data.toList : Nat)) ∧ w' = w := by
  go_enter Tryd.func22, Tryd.ntmps22
  go_wp2
  go_loop [3, 4, 5, 6] (fun v i j f => ∃ k : Nat, k ≤ s.size ∧ i = .int .i64 k ∧ v = .int .u64 ((Crc.sum 4294967295 (s.data.toList.take k) : Nat) : Int)) (fun _ i _ _ => s.size - (RowKit.intOf i).toNat)
  case atStart => exact ⟨0, Nat.zero_le _, rfl, rfl⟩
  case round =>
    obtain ⟨k, hk, rfl, rfl⟩ := hrel
    have hlt32 := Crc.sum_lt (c := 4294967295) (s.data.toList.take k) (by decide)
    by_cases hlt : k < s.size
    · obtain ⟨d, hd, x1, hf⟩ := Crc.way64 _ s[k] hlt32
      have hsn := Lib.hid (show Crc.sum 4294967295 (s.data.toList.take (k + 1)) = Crc.steps 8 d by rw [Hx.take_snoc s k hlt, Crc.sum_snoc, ← hf])
      have hc : (s[k].toNat : Int) ≤ 255 := by have := s[k].toNat_lt; omega
      clear hf
      go_wp2
      go_loop [3, 5, 6] (fun v j f => ∃ n : Nat, n ≤ 8 ∧ j = .int .i64 n ∧ v = .int .u64 ((Crc.steps n d : Nat) : Int)) (fun _ j _ => 8 - (RowKit.intOf j).toNat)
      case atStart => exact ⟨0, Nat.zero_le _, rfl, rfl⟩
      case round =>
        obtain ⟨n, hn, rfl, rfl⟩ := hrel
        have hst := Crc.steps_lt (n := n) hd
        obtain ⟨e, he, x2, hf2⟩ := Crc.step64 _ hst
        have hnx := Lib.hid (show Crc.steps (n + 1) d = _ from (Crc.steps_last n d).trans hf2)
        clear hf2
        by_cases hlt8 : n < 8
        · by_cases hodd : Crc.steps n d % 2 = 1
          · have ho : ((Crc.steps n d : Int) % 2 == 1) = true := by rw [beq_iff_eq]; omega
            have hnx' := Lib.hid (hnx.out.trans (if_pos hodd))
            clear hodd
            go_wp2
            go_round
            case rel => exact ⟨n + 1, by omega, by go_num, by rw [hnx'.out]⟩
            case measure => simp [RowKit.intOf]; omega
          · have ho : ((Crc.steps n d : Int) % 2 == 1) = false := by rw [beq_eq_false_iff_ne]; omega
            have hnx' := Lib.hid (hnx.out.trans (if_neg hodd))
            clear hodd
            go_wp2
            go_round
            case rel => exact ⟨n + 1, by omega, by go_num, by rw [hnx'.out]; go_num⟩
            case measure => simp [RowKit.intOf]; omega
        · obtain rfl : n = 8 := by omega
          go_wp2
          go_round
          case rel => exact ⟨k + 1, by omega, by go_num, by rw [hsn.out]⟩
          case measure => simp [RowKit.intOf]; omega
    · have e := Lib.hid (show 4294967295 - Crc.sum 4294967295 (s.data.toList.take k) = Crc.crc s.data.toList by rw [Hx.take_all s k hlt]; rfl)
      go_wp2
      go_ret
      exact ⟨ret_int2 (by rw [← e.out]; omega), rfl⟩
end Go.Proofs.YtlpillpfahkjdaaDoor
