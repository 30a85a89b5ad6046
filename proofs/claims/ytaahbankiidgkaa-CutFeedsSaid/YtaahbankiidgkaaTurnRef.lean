/- Walk of the reference's sum. -/
import Derived.Test.YtaahbankiidgkaaTurnBits
import Derived.Laws.Rows
import Derived.Deep.RegionHeld3
namespace Go.Proofs.Ytaahbankiidgkaa
open Go.RowKit Fx

/-- What the reference's loop has summed when it has taken k of the text's bytes. -/
def refT (s : ByteArray) (k : Nat) : Int × Int := Tn.cmul (Tn.sum (s.data.toList.take k)) (Tn.ipow ((s.size : Int) - k))

/-- A block of the call's own with two numbers. -/
def Two (w : World) (g : Nat) (a b : Int) : Prop := w.heap[g]? = some (.cells #[.int .i64 a, .int .i64 b] 35 (0, 0))
theorem Two.c0 {w : World} {g : Nat} {a b : Int} (h : Two w g a b) : w.cell? ⟨g, 0, none⟩ = some (.int .i64 a) := by unfold Two at h; simp [World.cell?, h]
theorem Two.c1 {w : World} {g : Nat} {a b : Int} (h : Two w g a b) : w.cell? ⟨g, 1, none⟩ = some (.int .i64 b) := by unfold Two at h; simp [World.cell?, h]
theorem Two.f0 {w : World} {g : Nat} {a b : Int} (h : Two w g a b) : w.frozen? ⟨g, 0, none⟩ = false := by unfold Two at h; simp [World.frozen?, h]
theorem Two.f1 {w : World} {g : Nat} {a b : Int} (h : Two w g a b) : w.frozen? ⟨g, 1, none⟩ = false := by unfold Two at h; simp [World.frozen?, h]
theorem Two.lt {w : World} {g : Nat} {a b : Int} (h : Two w g a b) : g < w.heap.size := by
  unfold Two at h; exact (Array.getElem?_eq_some_iff.1 h).1
theorem Two.below {w w' : World} {g B : Nat} {a b : Int} (h : Two w g a b) (hb : Below B w w') (hg : g < B) : Two w' g a b := by
  unfold Two at h ⊢; rw [hb.block g hg]; exact h
theorem Two.set0 {w : World} {g : Nat} {a b : Int} (h : Two w g a b) (c : Int) : Two (w.setCell ⟨g, 0, none⟩ (.int .i64 c)) g c b := by
  unfold Two at h ⊢; rw [heap_setCell_same w g 0 _ _ _ h]; rfl
theorem Two.set1 {w : World} {g : Nat} {a b : Int} (h : Two w g a b) (c : Int) : Two (w.setCell ⟨g, 1, none⟩ (.int .i64 c)) g a c := by
  unfold Two at h ⊢; rw [heap_setCell_same w g 1 _ _ _ h]; rfl

theorem refT_zero (s : ByteArray) : refT s 0 = (0, 0) := by
  unfold refT; rw [List.take_zero]; show ((0 : Int) * _ - 0 * _, (0 : Int) * _ + 0 * _) = _; rw [Int.zero_mul, Int.zero_mul]; rfl
theorem refT_succ (s : ByteArray) (k : Nat) (h : k < s.size) :
    refT s (k + 1) = ((refT s k).1 + s[k].toNat * (Tn.ipow ((s.size : Int) - 1 - k)).1, (refT s k).2 + s[k].toNat * (Tn.ipow ((s.size : Int) - 1 - k)).2) := by
  unfold refT
  rw [take_snoc s k h, Tn.sum_snoc, show (s.size : Int) - (k + 1 : Nat) = (s.size : Int) - 1 - k by omega, Tn.cmul_step, show (s.size : Int) - 1 - k + 1 = s.size - k by omega]
theorem refT_end (s : ByteArray) : refT s s.size = T s := by
  unfold refT T
  rw [take_all s s.size (by omega), Int.sub_self, Tn.cmul_one]
theorem refT_bound (s : ByteArray) (k : Nat) (hk : k ≤ s.size) : (refT s k).1.natAbs ≤ 255 * s.size ∧ (refT s k).2.natAbs ≤ 255 * s.size := by
  have h := Tn.sum_bound (s.data.toList.take k)
  have : (s.data.toList.take k).length ≤ s.size := by rw [List.length_take, Array.length_toList]; exact Nat.le_trans (Nat.min_le_left _ _) hk
  exact Tn.cmul_bound _ _ _ (by omega) (by omega)

/-- The wraps of one step. -/
theorem wraps (z p : Int) (c : Nat) (hc : c < 256) (hp : p.natAbs ≤ 1) (hz : z.natAbs ≤ 255000000000) :
    IntKind.i64.wrap (z + IntKind.i64.wrap (IntKind.i64.wrap (c : Int) * p)) = z + c * p := by
  have hm : ((c : Int) * p).natAbs ≤ 255 := by
    rw [Int.natAbs_mul]
    exact Nat.le_trans (Nat.mul_le_mul (Nat.le_of_lt_succ hc) hp) (by omega)
  rw [IntKind.wrap_i64 (c : Int), show ((c : Int) + 9223372036854775808) % 18446744073709551616 - 9223372036854775808 = c by omega]
  generalize (c : Int) * p = m at *
  rw [IntKind.wrap_i64, IntKind.wrap_i64]
  omega

set_option maxHeartbeats 2000000 in
theorem refSum_any (s : ByteArray) (w : World) (hs : s.size ≤ 1000000000) :
    Calls Try.prog 15 #[.string s] w fun e w' => e = .returned (.agg #[.int .i64 (T s).1, .int .i64 (T s).2]) ∧ Below w.heap.size w w' := by
  go_enter Try.func15, Try.ntmps15
  go_wp2
  go_loopw [5, 6] (fun i _ wr => ∃ k : Nat, k ≤ s.size ∧ i = .int .i64 k ∧ Two wr w.heap.size 0 0 ∧ Two wr (w.heap.size + 1) (refT s k).1 (refT s k).2 ∧ Below w.heap.size w wr) (fun i _ _ => s.size - (intOf i).toNat)
  case atStart =>
    refine ⟨0, Nat.zero_le _, rfl, ?_, ?_, ((Below.refl _ _).alloc (Nat.le_refl _) _).alloc (by simp) _⟩
    · unfold Two; rw [heap_alloc_old (w.alloc _) _ (h := by simp), heap_alloc_new]
    · rw [refT_zero]; unfold Two; exact heap_alloc2_new _ _ _
  case round =>
    obtain ⟨k, hk, rfl, hz0, hz, hb⟩ := hrel
    by_cases hlt : k < s.size
    · generalize hg : w.heap.size + 1 = g at *
      go_wp2_with fail
      refine (refPower_any _ _).mono ?_
      rintro e w1 ⟨rfl, hb1⟩
      have hz1 := hz.below hb1 hz.lt
      have hlt1 := hz1.lt
      have hb2 := (hb.trans (hb1.mono hb.size))
      have hz01 := hz0.below hb1 hz0.lt
      clear hz hz0 hb hb1
      have HS := Lib.hid (refT_succ s k hlt)
      have HB := refT_bound s k hk
      have HP := pow_bound (↑s.size - 1 - ↑k)
      generalize refT s k = zk at *
      generalize Tn.ipow (↑s.size - 1 - ↑k) = pk at *
      have hc := s[k].toNat_lt
      have HW1 := Lib.hid (wraps zk.1 pk.1 s[k].toNat hc HP.1 (by omega))
      have HW2 := Lib.hid (wraps zk.2 pk.2 s[k].toNat hc HP.2 (by omega))
      clear HP HB
      go_wp2_with (refine wp_region_any (by kernel_rfl) ?_; refine Hid.out ?_)
      refine Lib.hid ?_
      try (change wpAny _ _ _ _ _ _ _ (World.drew _))
      obtain ⟨W, hW⟩ : ∃ W, W = (w1.alloc (Obj.cells #[.int .i64 pk.1, .int .i64 pk.2] 35)).drew := ⟨_, rfl⟩
      rw [← hW]
      have hzW : Two W g zk.1 zk.2 := by rw [hW]; exact hz1.below (((Below.refl _ _).alloc (Nat.le_refl _) _).drew) hlt1
      have hz0W : Two W w.heap.size 0 0 := by rw [hW]; exact hz01.below (((Below.refl _ _).alloc (Nat.le_refl _) _).drew) hz01.lt
      have hpW : Two W w1.heap.size pk.1 pk.2 := by rw [hW]; exact heap_alloc_new _ _
      have hbW : Below w.heap.size w W := by rw [hW]; exact (hb2.alloc (by have := hb2.size; omega) _).drew
      have hne : g ≠ w1.heap.size := by omega
      clear hW hz1 hz01 hb2
      generalize w1.heap.size = gp at *
      have c0 := hzW.c0
      have f0 := hzW.f0
      have d0 := hpW.c0
      refine wpAny_take (i := 0) (v := ?_) rfl (by kernel_rfl) (by kernel_rfl) (by kernel_rfl) (fun _ _ _ h => h) (Or.inl ⟨by rfl, ?_⟩) ?_
      rotate_left
      · intro w; go_simp; try with_reducible rfl
      refine wpAny_take (i := 2) (v := ?_) rfl (by kernel_rfl) (by kernel_rfl) (by kernel_rfl) (fun _ _ _ h => h) (Or.inl ⟨by rfl, ?_⟩) ?_
      rotate_left
      · intro w; go_simp; try with_reducible rfl
      refine wpAny_take (i := 3) (v := ?_) rfl (by kernel_rfl) (by kernel_rfl) (by kernel_rfl) (fun _ _ _ h => h) (Or.inl ⟨by rfl, ?_⟩) ?_
      rotate_left
      · intro w; go_simp; try with_reducible rfl
      refine wpAny_take (i := 4) (v := ?_) rfl (by kernel_rfl) (by kernel_rfl) (by kernel_rfl) (fun _ _ _ h => h) (Or.inl ⟨by rfl, ?_⟩) ?_
      rotate_left
      · intro w; go_simp; try with_reducible rfl
      refine wpAny_take (i := 5) (v := ?_) rfl (by kernel_rfl) (by kernel_rfl) (by kernel_rfl) (fun _ _ _ h => h) (Or.inl ⟨by rfl, ?_⟩) ?_
      rotate_left
      · intro w; go_simp; try with_reducible rfl
      refine wpAny_take (i := 6) (v := ?_) rfl (by kernel_rfl) (by kernel_rfl) (by kernel_rfl) (fun _ _ _ h => h) (Or.inl ⟨by rfl, ?_⟩) ?_
      rotate_left
      · intro w; go_simp; try with_reducible rfl
      refine wpAny_ready (rs := [1, 7]) (by kernel_rfl) (by simp) ?_
      refine AllReady.cons rfl (fun K hK => ?_) (AllReady.cons rfl (fun K hK => ?_) AllReady.nil)
      all_goals go_simp
      all_goals (refine hK _ _ ?_; clear hK K)
      refine wpAny_ready (rs := [7]) (by kernel_rfl) (by simp) ?_
      refine AllReady.cons rfl (fun K hK => ?_) AllReady.nil
      go_simp
      refine hK _ _ ?_; clear hK K
      rotate_left
      refine wpAny_take (i := 8) (v := ?_) rfl (by kernel_rfl) (by kernel_rfl) (by kernel_rfl) (fun _ _ _ h => h) (Or.inl ⟨by rfl, ?_⟩) ?_
      rotate_left
      · intro w; go_simp; try with_reducible rfl
      refine wpAny_ready (rs := [1]) (by kernel_rfl) (by simp) ?_
      refine AllReady.cons rfl (fun K hK => ?_) AllReady.nil
      go_simp
      refine hK _ _ ?_; clear hK K
      rotate_left
      refine wpAny_take (i := 8) (v := ?_) rfl (by kernel_rfl) (by kernel_rfl) (by kernel_rfl) (fun _ _ _ h => h) (Or.inl ⟨by rfl, ?_⟩) ?_
      rotate_left
      · intro w; go_simp; try with_reducible rfl
      rotate_left
      all_goals
        refine wpAny_take (i := 9) (v := ?_) rfl (by kernel_rfl) (by kernel_rfl) (by kernel_rfl) (fun _ _ _ h => h) (Or.inl ⟨by rfl, ?_⟩) ?_
        rotate_left
        · intro w; go_simp; try with_reducible rfl
        refine wpAny_take (i := 10) (v := ?_) rfl (by kernel_rfl) (by kernel_rfl) (by kernel_rfl) (fun _ _ _ h => h) (Or.inl ⟨by rfl, ?_⟩) ?_
        rotate_left
        · intro w; go_simp; try with_reducible rfl
        refine wpAny_ready (rs := [11]) (by kernel_rfl) (by simp) ?_
        refine AllReady.cons rfl (fun K hK => ?_) AllReady.nil
        go_simp
        refine hK _ _ ?_; clear hK K
        refine wpAny_done (by kernel_rfl) ?_ _
        rw [HW1.out]
        obtain ⟨V, hV⟩ : ∃ V, V = (W.setCell ⟨g, 0, none⟩ (.int .i64 (zk.1 + s[k].toNat * pk.1))) := ⟨_, rfl⟩
        rw [← hV]
        have hzV : Two V g (zk.1 + s[k].toNat * pk.1) zk.2 := by rw [hV]; exact hzW.set0 _
        have hz0V : Two V w.heap.size 0 0 := by rw [hV]; unfold Two; rw [heap_setCell_other _ _ _ _ (by show w.heap.size ≠ g; omega)]; exact hz0W
        have hpV : Two V gp pk.1 pk.2 := by rw [hV]; unfold Two; rw [heap_setCell_other _ _ _ _ (Ne.symm hne)]; exact hpW
        have hbV : Below w.heap.size w V := by rw [hV]; exact hbW.setCell (by show w.heap.size ≤ g; omega) _
        clear hV hzW hz0W hpW hbW c0 f0 d0
        have c1 := hzV.c1
        have f1 := hzV.f1
        have d1 := hpV.c1
        go_wp2_with (refine wp_region_any (by kernel_rfl) ?_; refine Hid.out ?_)
        refine Lib.hid ?_
        try (change wpAny _ _ _ _ _ _ _ (World.drew _))
        obtain ⟨V2, hV2⟩ : ∃ V2, V2 = V.drew := ⟨_, rfl⟩
        rw [← hV2]
        refine wpAny_take (i := 0) (v := ?_) rfl (by kernel_rfl) (by kernel_rfl) (by kernel_rfl) (fun _ _ _ h => h) (Or.inl ⟨by rfl, ?_⟩) ?_
        rotate_left
        · intro w; go_simp; try with_reducible rfl
        refine wpAny_take (i := 2) (v := ?_) rfl (by kernel_rfl) (by kernel_rfl) (by kernel_rfl) (fun _ _ _ h => h) (Or.inl ⟨by rfl, ?_⟩) ?_
        rotate_left
        · intro w; go_simp; try with_reducible rfl
        refine wpAny_take (i := 3) (v := ?_) rfl (by kernel_rfl) (by kernel_rfl) (by kernel_rfl) (fun _ _ _ h => h) (Or.inl ⟨by rfl, ?_⟩) ?_
        rotate_left
        · intro w; go_simp; try with_reducible rfl
        refine wpAny_take (i := 4) (v := ?_) rfl (by kernel_rfl) (by kernel_rfl) (by kernel_rfl) (fun _ _ _ h => h) (Or.inl ⟨by rfl, ?_⟩) ?_
        rotate_left
        · intro w; go_simp; try with_reducible rfl
        refine wpAny_take (i := 5) (v := ?_) rfl (by kernel_rfl) (by kernel_rfl) (by kernel_rfl) (fun _ _ _ h => h) (Or.inl ⟨by rfl, ?_⟩) ?_
        rotate_left
        · intro w; go_simp; try with_reducible rfl
        refine wpAny_take (i := 6) (v := ?_) rfl (by kernel_rfl) (by kernel_rfl) (by kernel_rfl) (fun _ _ _ h => h) (Or.inl ⟨by rfl, ?_⟩) ?_
        rotate_left
        · intro w; go_simp; try with_reducible rfl
        refine wpAny_ready (rs := [1, 7]) (by kernel_rfl) (by simp) ?_
        refine AllReady.cons rfl (fun K hK => ?_) (AllReady.cons rfl (fun K hK => ?_) AllReady.nil)
        all_goals go_simp
        all_goals (refine hK _ _ ?_; clear hK K)
        refine wpAny_ready (rs := [7]) (by kernel_rfl) (by simp) ?_
        refine AllReady.cons rfl (fun K hK => ?_) AllReady.nil
        go_simp
        refine hK _ _ ?_; clear hK K
        rotate_left
        refine wpAny_take (i := 8) (v := ?_) rfl (by kernel_rfl) (by kernel_rfl) (by kernel_rfl) (fun _ _ _ h => h) (Or.inl ⟨by rfl, ?_⟩) ?_
        rotate_left
        · intro w; go_simp; try with_reducible rfl
        refine wpAny_ready (rs := [1]) (by kernel_rfl) (by simp) ?_
        refine AllReady.cons rfl (fun K hK => ?_) AllReady.nil
        go_simp
        refine hK _ _ ?_; clear hK K
        rotate_left
        refine wpAny_take (i := 8) (v := ?_) rfl (by kernel_rfl) (by kernel_rfl) (by kernel_rfl) (fun _ _ _ h => h) (Or.inl ⟨by rfl, ?_⟩) ?_
        rotate_left
        · intro w; go_simp; try with_reducible rfl
        rotate_left
        all_goals
          refine wpAny_take (i := 9) (v := ?_) rfl (by kernel_rfl) (by kernel_rfl) (by kernel_rfl) (fun _ _ _ h => h) (Or.inl ⟨by rfl, ?_⟩) ?_
          rotate_left
          · intro w; go_simp; try with_reducible rfl
          refine wpAny_take (i := 10) (v := ?_) rfl (by kernel_rfl) (by kernel_rfl) (by kernel_rfl) (fun _ _ _ h => h) (Or.inl ⟨by rfl, ?_⟩) ?_
          rotate_left
          · intro w; go_simp; try with_reducible rfl
          refine wpAny_ready (rs := [11]) (by kernel_rfl) (by simp) ?_
          refine AllReady.cons rfl (fun K hK => ?_) AllReady.nil
          go_simp
          refine hK _ _ ?_; clear hK K
          refine wpAny_done (by kernel_rfl) ?_ _
          rw [HW2.out]
          go_wp2
          go_roundw
          case rel =>
            refine ⟨k + 1, by omega, by go_num, ?_, ?_, (hbV.setCell (by show w.heap.size ≤ g; omega) _).drew⟩
            · show Two (V.setCell _ _) _ _ _
              unfold Two; rw [heap_setCell_other _ _ _ _ (by show w.heap.size ≠ g; omega)]; exact hz0V
            · rw [HS.out]; exact hzV.set1 _
          case measure => simp [intOf]; omega
    · have c0 := hz.c0
      have c1 := hz.c1
      have d0 := hz0.c0
      have d1 := hz0.c1
      have f0 := hz0.f0
      have f1 := hz0.f1
      obtain rfl : k = s.size := by omega
      have HE := Lib.hid (refT_end s)
      go_wp2
      (try simp only [Exit.inBlock, Exit.then])
      refine bodyPost_ret (ret_z rfl _ _ w.heap.size _ _ (0, 0) rfl ((hz0.set0 _).set1 _)) rfl ?_
      exact ⟨by rw [HE.out], (hb.setCell (Nat.le_refl _) _).setCell (Nat.le_refl _) _⟩
end Go.Proofs.Ytaahbankiidgkaa
