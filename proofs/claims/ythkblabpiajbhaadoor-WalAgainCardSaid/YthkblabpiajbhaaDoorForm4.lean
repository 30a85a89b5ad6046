/- Walks of headText, firstText, readHead, readFirst. -/
import Derived.Test.YthkblabpiajbhaaDoorForm3
import Derived.Lib.SlBytesConst
namespace Go.Proofs.YthkblabpiajbhaaDoor
open Go.RowKit Lib

theorem But.belowNew {w w' w'' : World} {v : Value} (h : Below w.heap.size w w') (hb : But (fun k => v.ownBlock = some k) w' w'') (hv : ∀ k, v.ownBlock = some k → w.heap.size ≤ k) : Below w.heap.size w w'' :=
  h.trans (hb.below h.size (fun k hk e => by have := hv k e; omega))
set_option maxRecDepth 100000 in
set_option maxHeartbeats 1000000 in
theorem headText_any (num n : Nat) (w : World) (hn : num < 2 ^ 64) (hn2 : n ≤ 1000000) :
    Calls Tryd.prog 42 #[.int .u64 num, .int .i64 n] w fun e w' => e = .returned (.string (bs (Wl.head num n))) ∧ Below w.heap.size w w' := by
  have HN := Lib.hid hn
  clear hn
  have hnI : (n : Int) ≤ 1000000 := by omega
  have hn0 : (0 : Int) ≤ n := by omega
  have kc := fun (w : World) (C : Array Value) (n c : Nat) => Lib.run_convert_bytes_const (P := Tryd.prog) w 22 5 C n c Tryd.underlying22 Tryd.underlying5
  go_enter Tryd.func42, Tryd.ntmps42
  go_wp2_with fail
  obtain ⟨V, hV⟩ : ∃ V, V = w.alloc (.cells #[.int .u8 104] 5 (1, 2)) := ⟨_, rfl⟩
  rw [← hV]
  have hb0 : Below w.heap.size w V := by rw [hV]; exact (Below.refl _ _).alloc (Nat.le_refl _) _
  have ho0 : OwnZ false 0 V (.slice (some ⟨w.heap.size, 0, none⟩) 1 1) [104] := by rw [hV]; exact OwnZ.const w [104] (by decide)
  refine (appendNumber_any false 0 V _ [104] num 8 ho0 (Nat.zero_le _) (by decide) HN.out (by decide)).mono ?_
  rintro e w1 ⟨v1, rfl, ho1, hbt1, hat1⟩
  have hv1 : ∀ k, v1.ownBlock = some k → w.heap.size ≤ k := fun k hk => by
    rcases hat1 with h | h
    · rw [h] at hk
      simp [Value.ownBlock] at hk
      omega
    · exact Nat.le_trans hb0.size (h k hk)
  have hb1 : Below w.heap.size w w1 := But.belowNew hb0 hbt1 (fun k hk => by simp [Value.ownBlock] at hk; omega)
  have H1 := Lib.hid (And.intro ho1 (And.intro hv1 hb1))
  clear hb0 ho0 hbt1 hat1 hv1 hb1 ho1 hV
  go_wp2_with fail
  refine (appendNumber_any false 0 w1 _ _ n 4 H1.out.1 (Nat.zero_le _) (by rw [List.length_append, Wl.enc_length]; decide) (by omega) (by decide)).mono ?_
  rintro e w2 ⟨v2, rfl, ho2, hbt2, hat2⟩
  have hb2 : Below w.heap.size w w2 := But.belowNew H1.out.2.2 hbt2 H1.out.2.1
  have hk := ho2.back
  have hh : [104] ++ Wl.enc 8 num ++ Wl.enc 4 n = Wl.head num n := by simp [Wl.head]
  rw [hh] at hk
  have HB := Lib.hid hb2
  clear ho2 hbt2 hat2 hb2 hh
  go_wp2
  go_ret
  exact ⟨rfl, HB.out⟩
theorem first_take (size ring at_ num : Nat) : Wl.title ++ (([size, ring, at_, num] : List Nat).take 4).flatMap (Wl.enc 8) = Wl.first size ring at_ num := by
  simp [Wl.first]
theorem take_flat (l : List Nat) (k : Nat) (h : k < l.length) : (l.take (k + 1)).flatMap (Wl.enc 8) = (l.take k).flatMap (Wl.enc 8) ++ Wl.enc 8 l[k] := by
  rw [List.take_succ_eq_append_getElem h, List.flatMap_append]; simp
theorem flat_len (l : List Nat) : (l.flatMap (Wl.enc 8)).length = 8 * l.length := by
  induction l with
  | nil => rfl
  | cons a l ih => rw [List.flatMap_cons, List.length_append, ih, Wl.enc_length, List.length_cons]; omega
set_option maxRecDepth 100000 in
set_option maxHeartbeats 1000000 in
theorem firstText_any (size ring at_ num : Nat) (w : World) (h1 : size ≤ 1000000) (h2 : ring ≤ 1000000) (h3 : at_ ≤ 1000000) (h4 : num < 2 ^ 64) :
    Calls Tryd.prog 31 #[.int .i64 size, .int .i64 ring, .agg #[.int .i64 at_, .int .u64 num]] w fun e w' => e = .returned (.string (bs (Wl.first size ring at_ num))) ∧ Below w.heap.size w w' := by
  have HN := Lib.hid (And.intro h1 (And.intro h2 (And.intro h3 h4)))
  have i1 : (size : Int) ≤ 1000000 := by omega
  have i2 : (ring : Int) ≤ 1000000 := by omega
  have i3 : (at_ : Int) ≤ 1000000 := by omega
  clear h1 h2 h3 h4
  have kc : (convert 22 22 (.slice (some ⟨w.heap.size + 1, 0, none⟩) 14 14)).run Tryd.prog ((w.alloc (.cells #[.int .i64 at_, .int .u64 num] 55)).alloc (.cells #[.int .u8 99, .int .u8 111, .int .u8 111, .int .u8 112, .int .u8 101, .int .u8 114, .int .u8 97, .int .u8 103, .int .u8 101, .int .u8 32, .int .u8 108, .int .u8 111, .int .u8 103, .int .u8 10] 5)) = .ok (.slice (some ⟨w.heap.size + 1, 0, none⟩) 14 14) ((w.alloc (.cells #[.int .i64 at_, .int .u64 num] 55)).alloc (.cells #[.int .u8 99, .int .u8 111, .int .u8 111, .int .u8 112, .int .u8 101, .int .u8 114, .int .u8 97, .int .u8 103, .int .u8 101, .int .u8 32, .int .u8 108, .int .u8 111, .int .u8 103, .int .u8 10] 5 (14, 15))) := by
    have := Lib.run_convert_bytes_const (P := Tryd.prog) (w.alloc (.cells #[.int .i64 at_, .int .u64 num] 55)) 22 5 #[.int .u8 99, .int .u8 111, .int .u8 111, .int .u8 112, .int .u8 101, .int .u8 114, .int .u8 97, .int .u8 103, .int .u8 101, .int .u8 32, .int .u8 108, .int .u8 111, .int .u8 103, .int .u8 10] 14 14 Tryd.underlying22 Tryd.underlying5
    rw [World.size_alloc] at this
    exact this
  go_enter Tryd.func31, Tryd.ntmps31
  go_wp2
  obtain ⟨V, hV⟩ : ∃ V, V = (((w.alloc (.cells #[.int .i64 at_, .int .u64 num] 55)).alloc (.cells #[.int .u8 99, .int .u8 111, .int .u8 111, .int .u8 112, .int .u8 101, .int .u8 114, .int .u8 97, .int .u8 103, .int .u8 101, .int .u8 32, .int .u8 108, .int .u8 111, .int .u8 103, .int .u8 10] 5 (14, 15))).alloc (.cells #[.int .u64 size, .int .u64 ring, .int .u64 at_, .int .u64 num] 53)) := ⟨_, rfl⟩
  rw [← hV]
  have HW := Lib.hid (show Below w.heap.size w V by rw [hV]; exact (((Below.refl _ _).alloc (Nat.le_refl _) _).alloc (by simp) _).alloc (by simp; omega) _)
  have HO := Lib.hid (show OwnZ false 0 V (.slice (some ⟨w.heap.size + 1, 0, none⟩) 14 14) Wl.title by
    have := (OwnZ.const (w.alloc (.cells #[.int .i64 at_, .int .u64 num] 55)) Wl.title (by decide)).alloc (.cells #[.int .u64 size, .int .u64 ring, .int .u64 at_, .int .u64 num] 53)
    rw [World.size_alloc] at this
    rw [hV]; exact this)
  have HB := Lib.hid (show Blk V (w.heap.size + 1 + 1) 53 ([size, ring, at_, num].map fun (n : Nat) => Value.int .u64 (n : Int)) by
    have := Blk.new ((w.alloc (.cells #[.int .i64 at_, .int .u64 num] 55)).alloc (.cells #[.int .u8 99, .int .u8 111, .int .u8 111, .int .u8 112, .int .u8 101, .int .u8 114, .int .u8 97, .int .u8 103, .int .u8 101, .int .u8 32, .int .u8 108, .int .u8 111, .int .u8 103, .int .u8 10] 5 (14, 15))) #[.int .u64 size, .int .u64 ring, .int .u64 at_, .int .u64 num] 53
    rw [World.size_alloc, World.size_alloc] at this
    rw [hV]; exact this)
  have HL := Lib.hid (show ∀ n ∈ [size, ring, at_, num], n < 2 ^ 64 by
    intro n hn
    obtain ⟨h1, h2, h3, h4⟩ := HN.out
    simp only [List.mem_cons, List.not_mem_nil, or_false] at hn
    rcases hn with rfl | rfl | rfl | rfl <;> omega)
  have HS := Lib.hid (show V.heap.size = w.heap.size + 3 by rw [hV]; simp)
  clear hV kc
  go_loopw [7, 23] (fun u i wr => ∃ k : Nat, k ≤ 4 ∧ i = .int .i64 k ∧ Hid (OwnZ false 0 wr u (Wl.title ++ ([size, ring, at_, num].take k).flatMap (Wl.enc 8))) ∧ Hid (∀ x, u.ownBlock = some x → w.heap.size ≤ x) ∧ Hid (Below w.heap.size w wr) ∧ Hid (Blk wr (w.heap.size + 1 + 1) 53 ([size, ring, at_, num].map fun (n : Nat) => Value.int .u64 (n : Int))) ∧ Hid (w.heap.size + 3 ≤ wr.heap.size)) (fun _ i _ => 4 - (intOf i).toNat)
  case atStart => exact ⟨0, by decide, rfl, Lib.hid (by rw [List.take_zero, List.flatMap_nil, List.append_nil]; exact HO.out), Lib.hid (fun x hx => by simp [Value.ownBlock] at hx; omega), HW, HB, Lib.hid (by have := HS.out; omega)⟩
  case round =>
    obtain ⟨k, hk, rfl, ho, hx, hw, hb, hsz⟩ := hrel
    by_cases hlt : k < 4
    · have hI : (k : Int) < 4 := by omega
      have hcell : wr.cell? ⟨w.heap.size + 1 + 1, k, none⟩ = some (.int .u64 (([size, ring, at_, num] : List Nat)[k] : Int)) := hb.out.cell (by rw [List.getElem?_map, List.getElem?_eq_getElem hlt]; rfl)
      have HLk := Lib.hid (HL.out _ (List.getElem_mem hlt))
      have HT := Lib.hid (take_flat [size, ring, at_, num] k hlt)
      have HFL := Lib.hid (flat_len (([size, ring, at_, num] : List Nat).take k))
      generalize ([size, ring, at_, num] : List Nat)[k] = n at *
      go_wp2_with fail
      refine (appendNumber_any false 0 wr _ _ n 8 ho.out (Nat.zero_le _) (by rw [List.length_append, HFL.out, List.length_take]; have : Wl.title.length = 14 := rfl; omega) HLk.out (by decide)).mono ?_
      rintro e w1 ⟨v1, rfl, ho1, hbt1, hat1⟩
      have HR := Lib.hid (show OwnZ false 0 w1 v1 (Wl.title ++ ([size, ring, at_, num].take (k + 1)).flatMap (Wl.enc 8)) ∧ (∀ x, v1.ownBlock = some x → w.heap.size ≤ x) ∧ Below w.heap.size w w1 ∧ Blk w1 (w.heap.size + 1 + 1) 53 ([size, ring, at_, num].map fun (n : Nat) => Value.int .u64 (n : Int)) ∧ w.heap.size + 3 ≤ w1.heap.size from ⟨by rw [HT.out, ← List.append_assoc]; exact ho1, fun x hx' => by
          rcases hat1 with h | h
          · rw [h] at hx'; exact hx.out x hx'
          · have := h x hx'; have := hsz.out; omega, But.belowNew hw.out hbt1 hx.out, hb.out.but hbt1 (fun e => by
            obtain ⟨cur, fz, h5⟩ := ho.out.typed e
            have := hb.out
            unfold Blk at this
            rw [this] at h5
            injection h5 with h5
            injection h5 with _ h5
            cases h5), Nat.le_trans hsz.out hbt1.size⟩)
      clear ho1 hbt1 hat1 hcell
      go_wp2
      go_roundw
      case rel => exact ⟨k + 1, by omega, by go_num, Lib.hid HR.out.1, Lib.hid HR.out.2.1, Lib.hid HR.out.2.2.1, Lib.hid HR.out.2.2.2.1, Lib.hid HR.out.2.2.2.2⟩
      case measure => simp [intOf]; omega
    · have hke : k = 4 := by omega
      subst hke
      have hbk := ho.out.back
      rw [first_take] at hbk
      go_wp2
      go_ret
      exact ⟨rfl, hw.out⟩
end Go.Proofs.YthkblabpiajbhaaDoor
