/- Walks of blank, New. -/
import Derived.Test.YthkblabpiajbhaaDoorSecWrite
namespace Go.Proofs.YthkblabpiajbhaaDoor
open Go.RowKit Lib

theorem make_ptrs (w : World) (n : Nat) (hn : n ≤ 1000000) : (Instr.makeSlice 47 (.int .i64 n) (.int .i64 n)).run Tryd.prog w = .ok (.slice (some ⟨w.heap.size, 0, none⟩) n n) (w.alloc (.cells (List.replicate n (.pointer none)).toArray 74)) := by
  obtain ⟨i, hi, hz, hs, hb⟩ := info_of (P := Tryd.prog) (E := 74) (size := 1) (bytes := 8) (z := .pointer none) (by kernel_rfl)
  have := run_make (P := Tryd.prog) w 47 74 i (.pointer none) Tryd.underlying47 hi hz .i64 .i64 n n (by omega) (by omega) (by rw [hb]; omega) (by omega)
  rw [this, hs, Int.toNat_natCast, Nat.mul_one, show (Value.pointer none).cells = #[.pointer none] from rfl, made_one]
theorem own_of_blk {w : World} {r n : Nat} {l : List Nat} (hb : Blk w r 74 (l.map ptr)) (hn : l.length = n) (hm : n ≤ 1000000) : Own ptrElem 74 0 w (.slice (some ⟨r, 0, none⟩) n n) l := by
  have e : ptrElem.cells l = l.map ptr := oneElem_cells _ _ _
  refine ⟨by rw [e, List.length_map]; exact (Nat.mul_one _).symm, .inr ⟨r, n, (l.map ptr).toArray, by rw [hn], Nat.zero_le _, hb, by omega, by unfold maxLen; omega, ?_, ?_⟩⟩
  · rw [List.size_toArray, List.length_map, hn]; exact (Nat.mul_one _).symm
  · rw [e]
    exact List.take_of_length_le (by rw [List.length_map]; exact Nat.le_of_eq (Nat.mul_one _).symm)
theorem fill_set (k n : Nat) (a b : Value) (hk : k < n) : (List.replicate k a ++ List.replicate (n - k) b).set k a = List.replicate (k + 1) a ++ List.replicate (n - (k + 1)) b := by
  rw [List.set_append_right _ _ (by simp)]
  obtain ⟨m, hm⟩ : ∃ m, n - k = m + 1 := ⟨n - k - 1, by omega⟩
  rw [hm, show n - (k + 1) = m by omega, List.length_replicate, Nat.sub_self, List.replicate_succ, List.set_cons_zero, List.replicate_succ']
  simp

set_option maxRecDepth 100000 in
theorem blank_any (n : Nat) (w : World) (hn : n ≤ 65536) :
    Calls Tryd.prog 14 #[.int .i64 n] w fun e w' => ∃ r c, e = .returned (.slice (some ⟨r, 0, none⟩) n n) ∧ Blk w' r 74 ((List.replicate n c).map ptr) ∧ Blk w' c 77 ((Dk.full []).map bcell) ∧ w.heap.size ≤ r ∧ w.heap.size ≤ c ∧ Below w.heap.size w w' := by
  obtain ⟨Z, hZ⟩ : ∃ Z, Z = zeroContent.toArray := ⟨_, rfl⟩
  have hz := fun w => zero_content w
  rw [← hZ] at hz
  have hzs : Z.size = 512 := by rw [hZ]; rfl
  have hzn : ¬ Z = #[] := by intro e; rw [e] at hzs; cases hzs
  have HZ := Lib.hid hZ
  clear hZ
  obtain ⟨R, hR⟩ : ∃ R, R = (List.replicate n (Value.pointer none)).toArray := ⟨_, rfl⟩
  have hmk := fun w => make_ptrs w n (by omega)
  rw [← hR] at hmk
  obtain ⟨c, hc⟩ : ∃ c, w.heap.size = c := ⟨_, rfl⟩
  have hw1 : (w.alloc (.cells Z 77)).heap.size = c + 1 := by simp [hc]
  obtain ⟨W, hW⟩ : ∃ W, W = (w.alloc (.cells Z 77)).alloc (.cells R 74) := ⟨_, rfl⟩
  have hmk1 := hmk (w.alloc (.cells Z 77))
  rw [hw1, ← hW] at hmk1
  have HB : Hid (Blk W (c + 1) 74 (List.replicate n (.pointer none)) ∧ Blk W c 77 ((Dk.full []).map bcell) ∧ Below c w W) := by
    refine Lib.hid ⟨?_, ?_, ?_⟩
    · have := Blk.new (w.alloc (.cells Z 77)) R 74
      rw [hw1, ← hW, hR] at this
      exact this
    · have := (Blk.new w Z 77).alloc (.cells R 74)
      rw [hc, ← hW, HZ.out] at this
      exact this
    · rw [hW]; exact ((Below.refl _ _).alloc (Nat.le_of_eq hc.symm) _).alloc (by rw [hw1]; omega) _
  have HR := Lib.hid hR
  clear hR hmk hW hw1
  go_enter Tryd.func14, Tryd.ntmps14
  rw [hc]
  go_wp2
  go_loopw [12] (fun i wr => ∃ k : Nat, k ≤ n ∧ i = .int .i64 k ∧ Blk wr (c + 1) 74 (List.replicate k (ptr c) ++ List.replicate (n - k) (.pointer none)) ∧ Blk wr c 77 ((Dk.full []).map bcell) ∧ Below c w wr) (fun i _ => n - (intOf i).toNat)
  case atStart => exact ⟨0, Nat.zero_le _, rfl, HB.out.1, HB.out.2.1, HB.out.2.2⟩
  case round =>
    obtain ⟨k, hk, rfl, hb, hb2, hbl⟩ := hrel
    by_cases hlt : k < n
    · have hI : (k : Int) < n := by omega
      have hcell : wr.cell? ⟨c + 1, k, none⟩ = some (.pointer none) := hb.cell (by rw [List.getElem?_append_right (by simp), List.length_replicate, Nat.sub_self, List.getElem?_replicate, if_pos (by omega)])
      have hfr : wr.frozen? ⟨c + 1, k, none⟩ = false := hb.frozen k
      have HH := Lib.hid (And.intro hb (And.intro hb2 hbl))
      clear hb hb2 hbl
      go_wp2
      go_roundw
      case rel =>
        obtain ⟨hb, hb2, hbl⟩ := HH.out
        refine ⟨k + 1, by omega, by go_num, ?_, ?_, ?_⟩
        · rw [← fill_set k n _ _ hlt]; exact hb.set k (ptr c)
        · exact hb2.other _ _ (by simp)
        · exact hbl.setCell (by simp) _
      case measure => simp [intOf]; omega
    · have hke : k = n := by omega
      subst hke
      have HH := Lib.hid (And.intro hb (And.intro hb2 hbl))
      clear hb hb2 hbl
      go_wp2
      go_ret
      obtain ⟨hb, hb2, hbl⟩ := HH.out
      refine ⟨c + 1, c, rfl, ?_, hb2, by omega, by omega, hbl⟩
      rw [List.map_replicate]
      simpa using hb

theorem new_sec {W : World} {F : Nat → Prop} {n r1 r2 c1 c2 g : Nat} (h1 : 1 ≤ n) (h2 : n ≤ 65536)
    (hg : Blk W g 51 [.slice (some ⟨r1, 0, none⟩) n n, .slice (some ⟨r2, 0, none⟩) n n, .slice none 0 0, .int .i64 (-1), .bool false])
    (b1 : Blk W r1 74 ((List.replicate n c1).map ptr)) (b2 : Blk W r2 74 ((List.replicate n c2).map ptr)) (hr : r1 ≠ r2)
    (t1 : Blk W c1 77 ((Dk.full []).map bcell)) (t2 : Blk W c2 77 ((Dk.full []).map bcell)) (hF : ∀ k, F k → k < W.heap.size) (f1 : F g) (f2 : F r1) (f3 : F r2) (f4 : F c1) (f5 : F c2) : Sec W F g (Dk.fresh n) := by
  have e1 : (List.replicate n c1).length = n := List.length_replicate
  have e2 : (List.replicate n c2).length = n := List.length_replicate
  refine ⟨r1, n, r2, n, .slice none 0 0, -1, List.replicate n c1, List.replicate n c2, [], fun _ => Dk.full [], ⟨?_, ?_, ?_, Own.nil _ _ _ _, hr⟩, ?_, ?_, rfl, ?_, rfl, by decide, by decide, by rw [e1]; exact h1, by rw [e1]; exact h2, ?_, f1, f2, f3, ?_, hF⟩
  · rw [e1, e2]; exact hg
  · rw [e1]; exact own_of_blk b1 e1 (by omega)
  · rw [e2]; exact own_of_blk b2 e2 (by omega)
  · intro x hx
    simp only [List.map_nil, List.append_nil, List.mem_append, List.mem_replicate] at hx
    rcases hx with ⟨_, rfl⟩ | ⟨_, rfl⟩
    · exact ⟨t1, f4, Dk.full_length [] (by decide)⟩
    · exact ⟨t2, f5, Dk.full_length [] (by decide)⟩
  · rw [List.map_replicate]; rfl
  · rw [List.map_replicate]; rfl
  · intro x hx; cases hx
  · intro k hk; simp [Value.ownBlock] at hk

set_option maxRecDepth 100000 in
theorem new_any (n : Nat) (w : World) (h1 : 1 ≤ n) (h2 : n ≤ 65536) :
    Calls Tryd.prog 6 #[.int .i64 n] w fun e w' => ∃ g F, e = .returned (.tuple #[ptr g, .int .i64 0]) ∧ Sec w' F g (Dk.fresh n) ∧ (∀ k, F k → w.heap.size ≤ k) ∧ Below w.heap.size w w' := by
  have h1I : ¬ (n : Int) < 1 := by omega
  have h2I : ¬ (n : Int) > 65536 := by omega
  go_enter Tryd.func6, Tryd.ntmps6
  go_wp2_with fail
  refine (blank_any n w h2).mono ?_
  rintro e w1 ⟨r1, c1, rfl, b1, t1, l1, m1, bl1⟩
  go_wp2_with fail
  refine (blank_any n w1 h2).mono ?_
  rintro e w2 ⟨r2, c2, rfl, b2, t2, l2, m2, bl2⟩
  have hs1 := bl1.size
  have hs2 := bl2.size
  have hr1 := b1.lt
  have hr2 := b2.lt
  have hc1 := t1.lt
  have hc2 := t2.lt
  have b1' := b1.below bl2 hr1
  have t1' := t1.below bl2 hc1
  have HN := Lib.hid (new_sec (F := fun k => w.heap.size ≤ k ∧ k < w2.heap.size + 1) h1 h2 (Blk.new w2 _ _) (b1'.alloc _) (b2.alloc _) (by omega) (t1'.alloc _) (t2.alloc _) (fun k hk => by simp; exact hk.2) ⟨by omega, by omega⟩ ⟨by omega, by omega⟩ ⟨by omega, by omega⟩ ⟨by omega, by omega⟩ ⟨by omega, by omega⟩)
  have hbl := (bl1.trans (bl2.mono hs1)).alloc (by omega) (.cells #[.slice (some ⟨r1, 0, none⟩) n n, .slice (some ⟨r2, 0, none⟩) n n, .slice none 0 0, .int .i64 (-1), .bool false] 51)
  have HB := Lib.hid hbl
  clear b1 b2 t1 t2 b1' t1' bl1 bl2 hbl
  go_wp2
  go_ret2
  exact ⟨_, _, rfl, HN.out, fun k hk => hk.1, HB.out⟩
theorem new_not (n : Int) (w : World) (h : n < 1 ∨ 65536 < n) :
    Calls Tryd.prog 6 #[.int .i64 n] w fun e w' => e = .returned (.tuple #[.pointer none, .int .i64 1]) ∧ w' = w := by
  by_cases h1 : n < 1
  · go_enter Tryd.func6, Tryd.ntmps6
    go_wp2
    go_ret2
    exact ⟨rfl, rfl⟩
  · have h2 : n > 65536 := by omega
    go_enter Tryd.func6, Tryd.ntmps6
    go_wp2
    go_ret2
    exact ⟨rfl, rfl⟩
theorem write_nil (w : World) (i : Int) (s : ByteArray) :
    Calls Tryd.prog 48 #[.pointer none, .int .i64 i, .string s] w fun e w' => e = .returned (.int .i64 3) ∧ w' = w := by
  go_enter Tryd.func48, Tryd.ntmps48
  go_wp2_with fail
  refine (down_nil _).mono ?_
  rintro e w1 ⟨rfl, rfl⟩
  go_wp2
  go_ret
  exact ⟨rfl, rfl⟩
end Go.Proofs.YthkblabpiajbhaaDoor
