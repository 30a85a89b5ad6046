/- Walks of pack's numbers and parts of texts: split, numberOf, appendNumber, Falls, Fell. -/
import Derived.Test.YtlpillpfahkjdaaDoorPkWalk
import Derived.Test.YtlpillpfahkjdaaDoorBytesZ
namespace Go.Proofs.YtlpillpfahkjdaaDoor
open Go.RowKit Lib

theorem split_any (s : ByteArray) (n : Nat) (w : World) (hs : s.size ≤ 1000000) (hn : n ≤ 1000000) :
    Calls Tryd.prog 42 #[.string s, .int .i64 n] w fun e w' => e = .returned (.tuple (if s.size < n then #[.string ⟨#[]⟩, .string ⟨#[]⟩, .bool false] else #[.string (bs (s.data.toList.take n)), .string (bs (s.data.toList.drop n)), .bool true])) ∧ Below w.heap.size w w' := by
  have hsI : (s.size : Int) ≤ 1000000 := by omega
  have hnI : (n : Int) ≤ 1000000 := by omega
  have e1 := ext_take s n
  have e2 : s.extract n s.size = bs (s.data.toList.drop n) := by
    apply ByteArray.ext; apply Array.ext'; rw [ext_drop]; rfl
  by_cases h : s.size < n
  · have hI : (s.size : Int) < n := by omega
    rw [if_pos h]
    go_enter Tryd.func42, Tryd.ntmps42
    go_wp2
    go_ret3
    exact ⟨rfl, Below.refl _ _⟩
  · have hI : ¬ (s.size : Int) < n := by omega
    have hI2 : (n : Int) ≤ s.size := by omega
    rw [if_neg h]
    rw [← e1, ← e2]
    clear e1 e2
    go_enter Tryd.func42, Tryd.ntmps42
    go_wp2_with fail
    go_region
    go_wp2
    go_ret3
    exact ⟨rfl, by first | exact Below.refl _ _ | exact below_drawn w 1⟩
set_option maxHeartbeats 1000000 in
theorem pnumberOf_any (s : ByteArray) (w : World) (hs : s.size ≤ 8) :
    Calls Tryd.prog 37 #[.string s] w fun e w' => e = .returned (.int .u64 (Wl.dec s.data.toList : Nat)) ∧ w' = w := by
  have hsI : (s.size : Int) ≤ 8 := by omega
  go_enter Tryd.func37, Tryd.ntmps37
  go_wp2
  go_loop [3, 4] (fun n i => ∃ k : Nat, k ≤ s.size ∧ i = .int .i64 k ∧ n = .int .u64 (Wl.dec (s.data.toList.take k) : Nat)) (fun _ i => s.size - (intOf i).toNat)
  case atStart => exact ⟨0, Nat.zero_le _, rfl, rfl⟩
  case round =>
    obtain ⟨k, hk, rfl, rfl⟩ := hrel
    by_cases hlt : k < s.size
    · have hb := s[k].toNat_lt
      have hd : Wl.dec (s.data.toList.take k) < 2 ^ 56 := by
        have h1 := Wl.dec_snoc_lt (s.data.toList.take k)
        have h2 : (s.data.toList.take k).length = k := by rw [List.length_take, Array.length_toList]; exact Nat.min_eq_left hk
        rw [h2] at h1
        have h3 : 256 ^ k ≤ 256 ^ 7 := Nat.pow_le_pow_right (by decide) (by omega)
        have h4 : (256 : Nat) ^ 7 = 2 ^ 56 := by decide
        omega
      have HS := Lib.hid (show Wl.dec (s.data.toList.take (k + 1)) = Wl.dec (s.data.toList.take k) * 256 + s[k].toNat by rw [take_snoc s k hlt, Wl.dec_append])
      have HO := Lib.hid (or_byte _ _ hd hb)
      generalize Wl.dec (s.data.toList.take k) = a at *
      have haI : (a : Int) < 72057594037927936 := by omega
      have ha0 : (0 : Int) ≤ a := by omega
      clear hd
      go_wp2
      go_round
      case rel => exact ⟨k + 1, by omega, by go_num, by rw [HO.out, HS.out]⟩
      case measure => simp [intOf]; omega
    · have hke : k = s.size := by omega
      subst hke
      go_wp2
      go_ret
      refine ⟨?_, rfl⟩
      rw [List.take_of_length_le (by rw [Array.length_toList]; exact Nat.le_refl _)]
      rfl
theorem back_nil (w : World) : (convert 47 9 (.slice none 0 0)).run Tryd.prog w = .ok (.string (bs [])) w := by kernel_rfl
theorem OwnY.back {B : Nat} {w : World} {v : Value} {l : List UInt8} (h : OwnY B w v l) : (convert 47 9 v).run Tryd.prog w = .ok (.string (bs l)) w := by
  rcases h.2 with ⟨rfl, h0⟩ | ⟨g, cap, cur, rfl, _⟩
  · have : l = [] := List.eq_nil_of_length_eq_zero h0
    subst this
    exact back_nil w
  · exact (OwnZ.ofOwn h).back
set_option maxHeartbeats 1000000 in
theorem pappendNumber_any (B : Nat) (w : World) (v : Value) (l : List UInt8) (n width : Nat) (hown : OwnY B w v l) (hB : B ≤ w.heap.size) (hl : l.length ≤ 800000000) (hn : n < 2 ^ 64) (hw : width ≤ 8) :
    Calls Tryd.prog 38 #[v, .int .u64 n, .int .i64 width] w fun e w' => ∃ v', e = .returned v' ∧ OwnY B w' v' (l ++ Wl.enc width n) ∧ But (fun k => v.ownBlock = some k) w w' ∧ (v'.ownBlock = v.ownBlock ∨ ∀ k, v'.ownBlock = some k → w.heap.size ≤ k) := by
  have hwI : (width : Int) ≤ 8 := by omega
  have HO := Lib.hid hown
  have HB := Lib.hid hB
  have HN := Lib.hid hn
  clear hown hB hn
  go_enter Tryd.func38, Tryd.ntmps38
  go_wp2
  go_loopw [0, 7] (fun u i wr => ∃ j : Nat, j ≤ width ∧ i = .int .i64 ((width : Int) - 1 - j) ∧ Hid (OwnY B wr u (l ++ Wl.enc j (n / 256 ^ (width - j)))) ∧ Hid (But (fun k => v.ownBlock = some k) w wr) ∧ Hid (u.ownBlock = v.ownBlock ∨ ∀ k, u.ownBlock = some k → w.heap.size ≤ k)) (fun _ i _ => ((intOf i) + 1).toNat)
  case atStart =>
    refine ⟨0, Nat.zero_le _, by simp, Lib.hid ?_, Lib.hid (But.refl _ _), Lib.hid (.inl rfl)⟩
    rw [Wl.enc, List.append_nil]; exact HO.out
  case round =>
    obtain ⟨j, hj, rfl, ho, hb, hwh⟩ := hrel
    by_cases hlt : j < width
    · obtain ⟨k, hk⟩ : ∃ k : Nat, (width : Int) - 1 - j = k := ⟨width - 1 - j, by omega⟩
      have hk7 : (k : Int) ≤ 7 := by omega
      have hk0 : (0 : Int) ≤ k := by omega
      have HK := Lib.hid (show k = width - (j + 1) by omega)
      have HJ := Lib.hid (And.intro hlt hj)
      rw [hk]
      have HKK := Lib.hid hk
      clear hk hlt hj hwI
      have HSH := Lib.hid (shift_val n k)
      go_wp2_with (at_builtin; refine Hid.out ?_)
      refine Lib.hid ?_
      rw [HSH.out]
      refine wpList_app2 byteST rfl _ _ rfl rfl (ho.out.alloc _) (by have := HB.out; have := hb.out.size; simp; omega) wr.heap.size 0 1 1 [UInt8.ofNat (n / 256 ^ k)] rfl rfl (Lies.of_blk (Blk.new wr #[.int .u8 ((UInt8.ofNat (n / 256 ^ k)).toNat : Int)] 5) rfl) (by rw [List.length_append, Wl.enc_length]; have := HJ.out; omega) ?_
      intro v' w4 hown4 hg4 hat4
      have HR := Lib.hid (show OwnY B w4 v' (l ++ Wl.enc (j + 1) (n / 256 ^ (width - (j + 1)))) ∧ But (fun k => v.ownBlock = some k) w w4 ∧ (v'.ownBlock = v.ownBlock ∨ ∀ k, v'.ownBlock = some k → w.heap.size ≤ k) by
        have hsz := hb.out.size
        refine ⟨?_, ?_, ?_⟩
        · rw [enc_step width j n HJ.out.1, ← List.append_assoc, ← HK.out]; exact hown4
        · refine (hb.out.alloc _).trans (But.ofGrown hg4) fun i hi e => ?_
          rcases hwh.out with h | h
          · rw [← h]; exact e
          · have := h i e; omega
        · rcases hat4 with h | h
          · rw [h]; exact hwh.out
          · exact .inr fun k hk => by have := h k hk; simp at this; omega)
      clear hown4 hg4 hat4
      go_wp2
      go_roundw
      case rel => exact ⟨j + 1, HJ.out.1, congrArg (Value.int .i64) (by have := HKK.out; omega), Lib.hid HR.out.1, Lib.hid HR.out.2.1, Lib.hid HR.out.2.2⟩
      case measure => have := HKK.out; simp [intOf] <;> omega
    · have hje : j = width := by omega
      subst hje
      have hneg : (j : Int) - 1 - j = -1 := by omega
      rw [hneg]
      go_wp2
      go_ret
      refine ⟨_, rfl, ?_, hb.out, hwh.out⟩
      have := ho.out
      rwa [Nat.sub_self, Nat.pow_zero, Nat.div_one] at this
end Go.Proofs.YtlpillpfahkjdaaDoor
