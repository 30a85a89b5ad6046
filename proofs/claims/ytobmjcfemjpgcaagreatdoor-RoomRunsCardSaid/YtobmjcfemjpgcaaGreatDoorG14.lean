/- Elder texts, merged (14). -/
import Derived.Test.YtobmjcfemjpgcaaGreatDoorG13
import Derived.Deep.RegionHeld3
import Derived.OrdersHeld
namespace Go.Proofs.YtobmjcfemjpgcaaGreatDoor
open Go.RowKit Lib

theorem pages7 {n : Nat} (h1 : 4 ≤ n) (h2 : n ≤ 40) : Rm.pages (n : Int) = n - 2 := Rm.pages_few (by omega) (by omega)
set_option maxRecDepth 100000 in
set_option maxHeartbeats 16000000 in
theorem roomRuns_any (w : World) (n : Int) (hn : -9223372036854775808 ≤ n ∧ n ≤ 9223372036854775807) (v : Value) (l : List Act7) (hl : RdV w v l) :
    Calls Tryz.prog 4 #[.int .i64 n, v] w fun e w' => e = .returned (.bool true) ∧ Below w.heap.size w w' := by
  have HL := Lib.hid hl
  obtain ⟨al, cl, rfl⟩ := hl.slice
  clear hl
  go_enter Tryz.func4, Tryz.ntmps4
  go_wp2_with fail
  refine (awake7_any w).mono ?_
  rintro e w1 ⟨rfl, hb1⟩
  have H1 := Lib.hid hb1
  clear hb1
  by_cases hn4 : n < 4
  · go_wp2
    go_ret
    exact ⟨rfl, H1.out⟩
  by_cases hn40 : 40 < n
  · go_wp2
    go_ret
    exact ⟨rfl, H1.out⟩
  by_cases hl80 : 80 < l.length
  · have j1 : (80 : Int) < l.length := by omega
    go_wp2
    go_ret
    exact ⟨rfl, H1.out⟩
  have j1 : ¬ (80 : Int) < l.length := by omega
  obtain ⟨m, rfl⟩ : ∃ m : Nat, n = m := ⟨n.toNat, by omega⟩
  have HM := Lib.hid (show 4 ≤ m ∧ m ≤ 40 ∧ l.length ≤ 80 by omega)
  have hmI := Lib.hid hn
  clear hl80 hn
  go_wp2_with fail
  refine (wide_any w1 m HM.out.1 (by have := HM.out; omega)).mono ?_
  rintro e w2 ⟨g, b, rfl, hk2, hb2⟩
  have H2 := Lib.hid (show Kept (fun x => x < w1.heap.size) 200 w2 b g 1 (Wl.noughts m) ∧ Below w1.heap.size w1 w2 from And.intro hk2 hb2)
  clear hk2 hb2 hn4 hn40 j1
  go_wp2_with fail
  refine (c1_begin H2.out.1).mono ?_
  rintro e w3 ⟨tb, rfl, h3, hb3⟩
  have H3 := Lib.hid (And.intro h3 (H1.out.trans ((H2.out.2.trans (hb3.mono H2.out.2.size)).mono H1.out.size)))
  clear h3 hb3
  go_wp2_with fail
  refine (room_Of w3 tb).mono ?_
  rintro e w4 ⟨rfl, rfl⟩
  obtain ⟨r, hr⟩ : ∃ r, r = w3.heap.size := ⟨_, rfl⟩
  obtain ⟨W, hW⟩ : ∃ W, W = w3.alloc (.cells #[ptr tb] 118) := ⟨_, rfl⟩
  obtain ⟨P0, hP0⟩ : ∃ P0 : List (Option Wl.Text), P0 = List.replicate (m - 2) none := ⟨_, rfl⟩
  obtain ⟨N0, hN0⟩ : ∃ N0 : List Nat, N0 = List.replicate 16 0 := ⟨_, rfl⟩
  have H4 := Lib.hid (show RmI (fun k => k < w1.heap.size ∨ k = r) 200 g 1 b tb r (Wl.noughts m) [] P0 N0 W by
    rw [hr, hW, hP0, hN0]
    exact room_begun H3.out.1 (by have := HM.out; omega) (by have := HM.out; omega))
  have HB4 := Lib.hid (show Below w.heap.size w W by rw [hW]; exact H3.out.2.alloc H3.out.2.size _)
  have HR4 := Lib.hid (show w.heap.size ≤ w1.heap.size ∧ w1.heap.size ≤ W.heap.size ∧ r < W.heap.size ∧ w.heap.size ≤ r by
    have hlt := H4.out.blk.lt
    have h3 := H3.out.2.size
    refine ⟨H1.out.size, ?_, hlt, by omega⟩
    have := H4.out.c.lt
    rcases Nat.lt_or_ge W.heap.size w1.heap.size with h | h
    · have := this W.heap.size (.inl h); omega
    · exact h)
  rw [← hr, ← hW]
  clear hr hW H3 H2
  go_wp2_with fail
  refine (ref7_new W m hmI.out (m - 2) (pages7 HM.out.1 HM.out.2.1) (by have := HM.out; omega) (by have := HM.out; omega)).mono ?_
  rintro e w5 ⟨q0, va0, vr0, F0, rfl, h5, hF5, hb5⟩
  rw [← hP0, ← hN0] at h5
  have H5 := Lib.hid (And.intro h5 (And.intro hF5 hb5))
  clear h5 hF5 hb5
  go_wp2_with fail
  refine (ref7_copy H5.out.1 (by rw [hN0]; rfl)).mono ?_
  rintro e w6 ⟨q1, va1, vr1, F1, rfl, h6, hF6, hb6⟩
  have H6 := Lib.hid (show RS w g b tb r none 0 q0 P0 N0 q1 P0 N0 P0 N0 P0 N0 w6 by
    have hs5 := H5.out.2.2.size
    have hs4 := HB4.out.size
    have h51 := H5.out.1
    have hs6 := hb6.size
    have hr5 := (H4.out.turn (X' := w5) (R' := fun k => (k < w1.heap.size ∨ k = r) ∨ F0 k) (But.of_below H5.out.2.2 (fun _ => False)) (fun _ _ h => h.elim) (fun h => h) (fun k hk => hk.imp_right fun e => ⟨H5.out.2.1 k e, h51.lt k e⟩) (.inl (.inr rfl)))
    refine ⟨fun k => ((k < w1.heap.size ∨ k = r) ∨ F0 k) ∨ F1 k, F0, F1, 1, Wl.noughts m, [], va0, vr0, va1, vr1, hr5.turn (But.of_below hb6 (fun _ => False)) (fun _ _ h => h.elim) (fun h => h) (fun k hk => hk.imp_right fun e => ⟨hF6 k e, h6.lt k e⟩) (.inl (.inl (.inr rfl))), h51.still hb6, h6, fun x hx => ⟨.inl (.inr hx), fun hf => ?_, fun e => ?_, ?_⟩, fun x hx => ⟨.inr hx, fun e => ?_, ?_⟩, fun x hx => .inl (.inl (.inl ?_)), HB4.out.trans ((H5.out.2.2.trans (hb6.mono hs5)).mono hs4), ?_, ?_, by simp, by omega, ⟨by rw [hN0]; rfl, by rw [hN0]; rfl⟩, fun z hz => by cases hz⟩
    · have := hF6 x hf; have := h51.lt x hx; omega
    · have := H5.out.2.1 x hx; have := HR4.out; omega
    · have := H5.out.2.1 x hx; omega
    · have := hF6 x hx; have := HR4.out; omega
    · have := hF6 x hx; omega
    · have := HR4.out; omega
    · rw [hP0, hN0]; exact Rm.rep_new m (by have := HM.out; omega) (by have := HM.out; omega)
    · simp [Wl.noughts]; have := HM.out; omega)
  clear h6 hF6 hb6 H5 H4 HB4 HR4
  go_wp2
  go_loopw [9, 10, 56] (fun vw vk i wr => ∃ k q qk pg rt hp hr, k ≤ l.length ∧ vw = ptr q ∧ vk = ptr qk ∧ i = .int .i64 (k : Nat) ∧ Hid (RS w g b tb r none k q pg rt qk hp hr hp hr pg rt wr)) (fun _ _ i _ => l.length - (Go.RowKit.intOf i).toNat)
  case atStart => exact ⟨0, q0, q1, P0, N0, P0, N0, Nat.zero_le _, rfl, rfl, rfl, H6⟩
  case round =>
    clear H6 hP0 hN0
    obtain ⟨k, q, qk, pg, rt, hp, hr, hk, rfl, rfl, rfl, hS⟩ := hrel
    by_cases hlt : k < l.length
    · have hI : (k : Int) < l.length := by omega
      obtain ⟨gp, op, rfl, hok, c0, c1, c2, c3⟩ := RdV.at HL.out hS.out.below hlt
      have HOk := Lib.hid hok
      have HLt := Lib.hid (show k < l.length ∧ k ≤ 80 by have := HM.out; omega)
      clear hk hok
      generalize l[k] = x at *
      obtain ⟨what, at_, xn, text⟩ := x
      simp only at c0 c1 c2 c3 HOk
      obtain ⟨Y, hY⟩ : ∃ Y, Y = wr.alloc (.cells #[.int .i64 what, .int .i64 at_, .int .u64 xn, .string text] 67) := ⟨_, rfl⟩
      have HY := Lib.hid (show RS w g b tb r (some (wr.heap.size, [.int .i64 what, .int .i64 at_, .int .u64 xn, .string text])) k q pg rt qk hp hr hp hr pg rt Y by rw [hY]; exact hS.out.held _)
      have HYd := Lib.hid (HY.out.still (Below.refl Y.heap.size Y).drew)
      have HYY := Lib.hid hY
      obtain ⟨y0, y1, y2, y3⟩ := HY.out.act
      clear hY hlt
      by_cases ht : text.size ≤ 600
      · have htI : (text.size : Int) ≤ 600 := by omega
        have HT := Lib.hid ht
        clear ht
        clear y0
        unfold ptr
        by_cases h0 : what = 0
        · as_aux_lemma =>
            subst h0
            go_wp2_with fail
            rw [← HYY.out]
            refine (rs_alloc HY.out (by have := HLt.out; omega)).mono ?_
            rintro e w8 ⟨rfl, h8⟩
            have H8 := Lib.hid h8
            clear h8 y1 y2 y3 c0 c1 c2 c3
            go_wp2_with fail
            refine (rs_ralloc H8.out).mono ?_
            rintro e w9 ⟨rfl, h9⟩
            have H9 := Lib.hid h9.free
            clear h9
            generalize (Rm.alloc pg).1 = z1
            generalize (Rm.alloc pg).2 = z2
            go_wp2
            go_roundw
            case rel => exact ⟨k + 1, q, qk, _, rt, hp, hr, HLt.out.1, rfl, rfl, by go_num, H9⟩
            case measure => have := HLt.out.1; simp [Go.RowKit.intOf]; omega
        by_cases h1 : what = 1
        · subst h1
          go_wp2_with (refine wp_region_held_drew (S := (fun X => X.cell? ⟨wr.heap.size, 1, none⟩ = some (.int .i64 at_) ∧ True)) (by kernel_rfl) ?_ (fun hS' => ?_); focus skip; rotate_left; refine Hid.out ?_)
          refine Lib.hid ?_
          · rw [← HYY.out]; exact ⟨y1, trivial⟩
          rw [← HYY.out] at hS' ⊢
          clear y1 y2 y3 c0 c1 c2 c3
          refine wpAnyH_take (i := 0) (v := ?_) (by simp only [List.getElem?_toArray, List.getElem?_cons_zero]; exact rfl) (by kernel_rfl) (by kernel_rfl) (by kernel_rfl) (by exact fun _ _ _ h => h) (Or.inl ⟨by rfl, ?_⟩) hS' ?_
          rotate_left
          · intro w hSw; obtain ⟨s0, s1⟩ := hSw; go_simp; try with_reducible rfl
          refine wpAnyH_take (i := 1) (v := ?_) (by simp only [List.getElem?_toArray, List.getElem?_cons_succ, List.getElem?_cons_zero]; exact rfl) (by kernel_rfl) (by kernel_rfl) (by kernel_rfl) (by exact fun _ _ _ h => h) (Or.inl ⟨by rfl, ?_⟩) hS' ?_
          rotate_left
          · intro w hSw; obtain ⟨s0, s1⟩ := hSw; go_simp; try with_reducible rfl
          refine wpAnyH_take (i := 2) (v := ?_) (by simp only [List.getElem?_toArray, List.getElem?_cons_succ, List.getElem?_cons_zero]; exact rfl) (by kernel_rfl) (by kernel_rfl) (by kernel_rfl) (by exact fun _ _ _ h => h) (Or.inl ⟨by rfl, ?_⟩) hS' ?_
          rotate_left
          · intro w hSw; obtain ⟨s0, s1⟩ := hSw; go_simp; try with_reducible rfl
          refine wpAnyH_take (i := 4) (v := ?_) (by simp only [List.getElem?_toArray, List.getElem?_cons_succ, List.getElem?_cons_zero]; exact rfl) (by kernel_rfl) (by kernel_rfl) (by kernel_rfl) (by exact fun _ _ _ h => h) (Or.inl ⟨by rfl, ?_⟩) hS' ?_
          rotate_left
          · intro w hSw; obtain ⟨s0, s1⟩ := hSw; go_simp; try with_reducible rfl
          refine wpAnyH_take (i := 5) (v := ?_) (by simp only [List.getElem?_toArray, List.getElem?_cons_succ, List.getElem?_cons_zero]; exact rfl) (by kernel_rfl) (by kernel_rfl) (by kernel_rfl) (by exact fun _ _ _ h => h) (Or.inl ⟨by rfl, ?_⟩) hS' ?_
          rotate_left
          · intro w hSw; obtain ⟨s0, s1⟩ := hSw; go_simp; try with_reducible rfl
          refine wpAnyH_take (i := 6) (v := ?_) (by simp only [List.getElem?_toArray, List.getElem?_cons_succ, List.getElem?_cons_zero]; exact rfl) (by kernel_rfl) (by kernel_rfl) (by kernel_rfl) (by exact fun _ _ _ h => h) (Or.inl ⟨by rfl, ?_⟩) hS' ?_
          rotate_left
          · intro w hSw; obtain ⟨s0, s1⟩ := hSw; go_simp; try with_reducible rfl
          simp only [Act.put, List.setIfInBounds_toArray, List.set_cons_succ, List.set_cons_zero]
          refine wpAnyH_ready (rs := [3]) (by kernel_rfl) (by simp) ?_
          refine AllReadyH.cons rfl (fun K hK => ?_) AllReadyH.nil
          go_simp
          refine (rs_free HYd.out (by have := HLt.out; omega) at_).mono ?_
          rintro e w8 ⟨rfl, h8⟩
          have H8 := Lib.hid h8
          refine hK.out _ _ ⟨h8.act.2.1, trivial⟩ (fun hS' => ?_); clear hK K h8
          refine wpAnyH_ready (rs := [7]) (by kernel_rfl) (by simp) ?_
          refine AllReadyH.cons rfl (fun K hK => ?_) AllReadyH.nil
          go_simp
          refine (rs_rfree H8.out at_).mono ?_
          rintro e w9 ⟨rfl, h9⟩
          have H9 := Lib.hid h9
          refine hK.out _ _ ⟨h9.act.2.1, trivial⟩ (fun hS' => ?_); clear hK K h9
          generalize Rm.refuse pg at_ = z
          refine wpAnyH_take (i := 8) (v := ?_) (by simp only [List.getElem?_toArray, List.getElem?_cons_succ, List.getElem?_cons_zero]; exact rfl) (by kernel_rfl) (by kernel_rfl) (by kernel_rfl) (by exact fun _ _ _ h => h) (Or.inl ⟨by rfl, ?_⟩) hS' ?_
          rotate_left
          · intro w hSw; obtain ⟨s0, s1⟩ := hSw; go_simp; try with_reducible rfl
          refine wpAnyH_done (by kernel_rfl) ?_ _
          have H10 := Lib.hid H9.out.free
          go_wp2
          go_roundw
          case rel => exact ⟨k + 1, q, qk, _, rt, hp, hr, HLt.out.1, rfl, rfl, by go_num, H10⟩
          case measure => have := HLt.out.1; simp [Go.RowKit.intOf]; omega
        by_cases h2 : what = 2
        · subst h2
          go_wp2_with (refine wp_region_held_drew (S := (fun X => X.cell? ⟨wr.heap.size, 1, none⟩ = some (.int .i64 at_) ∧ X.cell? ⟨wr.heap.size, 3, none⟩ = some (.string text))) (by kernel_rfl) ?_ (fun hS' => ?_); focus skip; rotate_left; refine Hid.out ?_)
          refine Lib.hid ?_
          · rw [← HYY.out]; exact ⟨y1, y3⟩
          rw [← HYY.out] at hS' ⊢
          clear y1 y2 y3 c0 c1 c2 c3
          refine wpAnyH_take (i := 0) (v := ?_) (by simp only [List.getElem?_toArray, List.getElem?_cons_zero]; exact rfl) (by kernel_rfl) (by kernel_rfl) (by kernel_rfl) (by exact fun _ _ _ h => h) (Or.inl ⟨by rfl, ?_⟩) hS' ?_
          rotate_left
          · intro w hSw; obtain ⟨s0, s1⟩ := hSw; go_simp; try with_reducible rfl
          refine wpAnyH_take (i := 1) (v := ?_) (by simp only [List.getElem?_toArray, List.getElem?_cons_succ, List.getElem?_cons_zero]; exact rfl) (by kernel_rfl) (by kernel_rfl) (by kernel_rfl) (by exact fun _ _ _ h => h) (Or.inl ⟨by rfl, ?_⟩) hS' ?_
          rotate_left
          · intro w hSw; obtain ⟨s0, s1⟩ := hSw; go_simp; try with_reducible rfl
          refine wpAnyH_take (i := 2) (v := ?_) (by simp only [List.getElem?_toArray, List.getElem?_cons_succ, List.getElem?_cons_zero]; exact rfl) (by kernel_rfl) (by kernel_rfl) (by kernel_rfl) (by exact fun _ _ _ h => h) (Or.inl ⟨by rfl, ?_⟩) hS' ?_
          rotate_left
          · intro w hSw; obtain ⟨s0, s1⟩ := hSw; go_simp; try with_reducible rfl
          refine wpAnyH_take (i := 3) (v := ?_) (by simp only [List.getElem?_toArray, List.getElem?_cons_succ, List.getElem?_cons_zero]; exact rfl) (by kernel_rfl) (by kernel_rfl) (by kernel_rfl) (by exact fun _ _ _ h => h) (Or.inl ⟨by rfl, ?_⟩) hS' ?_
          rotate_left
          · intro w hSw; obtain ⟨s0, s1⟩ := hSw; go_simp; try with_reducible rfl
          refine wpAnyH_take (i := 4) (v := ?_) (by simp only [List.getElem?_toArray, List.getElem?_cons_succ, List.getElem?_cons_zero]; exact rfl) (by kernel_rfl) (by kernel_rfl) (by kernel_rfl) (by exact fun _ _ _ h => h) (Or.inl ⟨by rfl, ?_⟩) hS' ?_
          rotate_left
          · intro w hSw; obtain ⟨s0, s1⟩ := hSw; go_simp; try with_reducible rfl
          refine wpAnyH_take (i := 6) (v := ?_) (by simp only [List.getElem?_toArray, List.getElem?_cons_succ, List.getElem?_cons_zero]; exact rfl) (by kernel_rfl) (by kernel_rfl) (by kernel_rfl) (by exact fun _ _ _ h => h) (Or.inl ⟨by rfl, ?_⟩) hS' ?_
          rotate_left
          · intro w hSw; obtain ⟨s0, s1⟩ := hSw; go_simp; try with_reducible rfl
          refine wpAnyH_take (i := 7) (v := ?_) (by simp only [List.getElem?_toArray, List.getElem?_cons_succ, List.getElem?_cons_zero]; exact rfl) (by kernel_rfl) (by kernel_rfl) (by kernel_rfl) (by exact fun _ _ _ h => h) (Or.inl ⟨by rfl, ?_⟩) hS' ?_
          rotate_left
          · intro w hSw; obtain ⟨s0, s1⟩ := hSw; go_simp; try with_reducible rfl
          refine wpAnyH_take (i := 8) (v := ?_) (by simp only [List.getElem?_toArray, List.getElem?_cons_succ, List.getElem?_cons_zero]; exact rfl) (by kernel_rfl) (by kernel_rfl) (by kernel_rfl) (by exact fun _ _ _ h => h) (Or.inl ⟨by rfl, ?_⟩) hS' ?_
          rotate_left
          · intro w hSw; obtain ⟨s0, s1⟩ := hSw; go_simp; try with_reducible rfl
          refine wpAnyH_take (i := 9) (v := ?_) (by simp only [List.getElem?_toArray, List.getElem?_cons_succ, List.getElem?_cons_zero]; exact rfl) (by kernel_rfl) (by kernel_rfl) (by kernel_rfl) (by exact fun _ _ _ h => h) (Or.inl ⟨by rfl, ?_⟩) hS' ?_
          rotate_left
          · intro w hSw; obtain ⟨s0, s1⟩ := hSw; go_simp; try with_reducible rfl
          refine wpAnyH_take (i := 10) (v := ?_) (by simp only [List.getElem?_toArray, List.getElem?_cons_succ, List.getElem?_cons_zero]; exact rfl) (by kernel_rfl) (by kernel_rfl) (by kernel_rfl) (by exact fun _ _ _ h => h) (Or.inl ⟨by rfl, ?_⟩) hS' ?_
          rotate_left
          · intro w hSw; obtain ⟨s0, s1⟩ := hSw; go_simp; try with_reducible rfl
          simp only [Act.put, List.setIfInBounds_toArray, List.set_cons_succ, List.set_cons_zero]
          refine wpAnyH_ready (rs := [5]) (by kernel_rfl) (by simp) ?_
          refine AllReadyH.cons rfl (fun K hK => ?_) AllReadyH.nil
          go_simp
          refine (rs_write HYd.out (by have := HLt.out; omega) at_ text).mono ?_
          rintro e w8 ⟨rfl, h8⟩
          have H8 := Lib.hid h8
          refine hK.out _ _ ⟨h8.act.2.1, h8.act.2.2.2⟩ (fun hS' => ?_); clear hK K h8
          refine wpAnyH_ready (rs := [11]) (by kernel_rfl) (by simp) ?_
          refine AllReadyH.cons rfl (fun K hK => ?_) AllReadyH.nil
          go_simp
          refine (rs_rwrite H8.out at_ text HT.out).mono ?_
          rintro e w9 ⟨rfl, h9⟩
          have H9 := Lib.hid h9
          refine hK.out _ _ ⟨h9.act.2.1, h9.act.2.2.2⟩ (fun hS' => ?_); clear hK K h9
          generalize Rm.wrote pg at_ text.size = z
          refine wpAnyH_take (i := 12) (v := ?_) (by simp only [List.getElem?_toArray, List.getElem?_cons_succ, List.getElem?_cons_zero]; exact rfl) (by kernel_rfl) (by kernel_rfl) (by kernel_rfl) (by exact fun _ _ _ h => h) (Or.inl ⟨by rfl, ?_⟩) hS' ?_
          rotate_left
          · intro w hSw; obtain ⟨s0, s1⟩ := hSw; go_simp; try with_reducible rfl
          refine wpAnyH_done (by kernel_rfl) ?_ _
          have H10 := Lib.hid H9.out.free
          go_wp2
          go_roundw
          case rel => exact ⟨k + 1, q, qk, _, rt, hp, hr, HLt.out.1, rfl, rfl, by go_num, H10⟩
          case measure => have := HLt.out.1; simp [Go.RowKit.intOf]; omega
        by_cases h3 : what = 3
        · as_aux_lemma =>
            subst h3
            go_wp2_with fail
            rw [← HYY.out]
            refine (rs_read HY.out at_).mono ?_
            rintro e w8 ⟨rfl, h8⟩
            have H8 := Lib.hid h8
            have a8 := h8.act.2.1
            clear h8 y1 y2 y3 c0 c1 c2 c3
            go_wp2_with fail
            refine (rs_rread H8.out at_).mono ?_
            rintro e w9 ⟨rfl, rfl⟩
            go_wp2_with fail
            refine (rs_has H8.out at_).mono ?_
            rintro e w10 ⟨rfl, h10⟩
            have H10 := Lib.hid h10
            have a10 := h10.act.2.1
            clear h10 a8
            go_wp2_with fail
            refine (rs_rhas H10.out at_).mono ?_
            rintro e w11 ⟨rfl, rfl⟩
            have H11 := Lib.hid H10.out.free
            clear a10
            generalize Rm.refuse pg at_ = z1
            generalize Rm.got pg at_ = z2
            generalize Rm.has pg at_ = z3
            generalize Rm.hasNo pg at_ = z4
            go_wp2
            go_roundw
            case rel => exact ⟨k + 1, q, qk, pg, rt, hp, hr, HLt.out.1, rfl, rfl, by go_num, Lib.hid (H11.out.more (by omega))⟩
            case measure => have := HLt.out.1; simp [Go.RowKit.intOf]; omega
        by_cases h4 : what = 4
        · subst h4
          obtain ⟨nn, hnn⟩ : ∃ nn : Nat, xn = nn := ⟨xn.toNat, by have := HOk.out.n1; simp only at this; omega⟩
          have HNn := Lib.hid (show nn < 18446744073709551616 by have := HOk.out.n1; simp only at this; omega)
          subst hnn
          by_cases hin : 0 ≤ at_ ∧ at_ < 16
          · obtain ⟨j, rfl⟩ : ∃ j : Nat, at_ = j := ⟨at_.toNat, by omega⟩
            have hj16 : (j : Int) < 16 := hin.2
            have hj0 : (0 : Int) ≤ j := hin.1
            have HJ := Lib.hid (show j < 16 by omega)
            clear hin
            go_wp2_with fail
            rw [← HYY.out]
            refine (rs_set HY.out (by have := HLt.out; omega) j nn HJ.out HNn.out).mono ?_
            rintro e w8 ⟨rfl, h8⟩
            obtain ⟨o, co, ho, hqo, d1, ⟨yv, d2⟩, d3, h9⟩ := h8.roots j nn HJ.out
            have H9 := Lib.hid (h9.free.still (Below.refl _ _).drew)
            have HSn := Lib.hid (show ((w8.setCell ⟨o, j, none⟩ (.int .u64 nn)).cell? ⟨wr.heap.size, 1, none⟩ = some (.int .i64 j) ∧ (w8.setCell ⟨o, j, none⟩ (.int .u64 nn)).cell? ⟨wr.heap.size, 2, none⟩ = some (.int .u64 nn)) ∧ (w8.setCell ⟨o, j, none⟩ (.int .u64 nn)).cell? ⟨q, 1, none⟩ = some (.slice (some ⟨o, 0, none⟩) 16 co) from ⟨⟨h9.act.2.1, h9.act.2.2.1⟩, (World.cell?_setCell_far w8 ⟨o, j, none⟩ ⟨q, 1, none⟩ (.int .u64 nn) (fun e : o = q => hqo e.symm)).trans d1⟩)
            have a8 := h8.act
            obtain ⟨a80, a81, a82, a83⟩ := a8
            clear h8 h9 y1 y2 y3 c0 c1 c2 c3 a80 a83
            go_wp2_with (refine wp_region_held_drew (S := (fun X => (X.cell? ⟨wr.heap.size, 1, none⟩ = some (.int .i64 j) ∧ X.cell? ⟨wr.heap.size, 2, none⟩ = some (.int .u64 nn)) ∧ X.cell? ⟨q, 1, none⟩ = some (.slice (some ⟨o, 0, none⟩) 16 co))) (by kernel_rfl) ?_ (fun hS' => ?_); focus skip; rotate_left; refine Hid.out ?_)
            refine Lib.hid ?_
            · exact ⟨⟨a81, a82⟩, d1⟩
            clear a81 a82 d1
            refine wpAnyH_take (i := 0) (v := ?_) (by simp only [List.getElem?_toArray, List.getElem?_cons_zero]; exact rfl) (by kernel_rfl) (by kernel_rfl) (by kernel_rfl) (by exact fun _ _ _ h => h) (Or.inl ⟨by rfl, ?_⟩) hS' ?_
            rotate_left
            · intro w hSw; obtain ⟨s0, s1⟩ := hSw; go_simp; try with_reducible rfl
            refine wpAnyH_take (i := 1) (v := ?_) (by simp only [List.getElem?_toArray, List.getElem?_cons_succ, List.getElem?_cons_zero]; exact rfl) (by kernel_rfl) (by kernel_rfl) (by kernel_rfl) (by exact fun _ _ _ h => h) (Or.inl ⟨by rfl, ?_⟩) hS' ?_
            rotate_left
            · intro w hSw; obtain ⟨s0, s1⟩ := hSw; go_simp; try with_reducible rfl
            refine wpAnyH_take (i := 2) (v := ?_) (by simp only [List.getElem?_toArray, List.getElem?_cons_succ, List.getElem?_cons_zero]; exact rfl) (by kernel_rfl) (by kernel_rfl) (by kernel_rfl) (by exact fun _ _ _ h => h) (Or.inl ⟨by rfl, ?_⟩) hS' ?_
            rotate_left
            · intro w hSw; obtain ⟨s0, s1⟩ := hSw; go_simp; try with_reducible rfl
            refine wpAnyH_take (i := 3) (v := ?_) (by simp only [List.getElem?_toArray, List.getElem?_cons_succ, List.getElem?_cons_zero]; exact rfl) (by kernel_rfl) (by kernel_rfl) (by kernel_rfl) (by exact fun _ _ _ h => h) (Or.inl ⟨by rfl, ?_⟩) hS' ?_
            rotate_left
            · intro w hSw; obtain ⟨s0, s1⟩ := hSw; go_simp; try with_reducible rfl
            refine wpAnyH_take (i := 4) (v := ?_) (by simp only [List.getElem?_toArray, List.getElem?_cons_succ, List.getElem?_cons_zero]; exact rfl) (by kernel_rfl) (by kernel_rfl) (by kernel_rfl) (by exact fun _ _ _ h => h) (Or.inl ⟨by rfl, ?_⟩) hS' ?_
            rotate_left
            · intro w hSw; obtain ⟨s0, s1⟩ := hSw; go_simp; try with_reducible rfl
            refine wpAnyH_take (i := 5) (v := ?_) (by simp only [List.getElem?_toArray, List.getElem?_cons_succ, List.getElem?_cons_zero]; exact rfl) (by kernel_rfl) (by kernel_rfl) (by kernel_rfl) (by exact fun _ _ _ h => h) (Or.inl ⟨by rfl, ?_⟩) hS' ?_
            rotate_left
            · intro w hSw; obtain ⟨s0, s1⟩ := hSw; go_simp; try with_reducible rfl
            refine wpAnyH_take (i := 6) (v := ?_) (by simp only [List.getElem?_toArray, List.getElem?_cons_succ, List.getElem?_cons_zero]; exact rfl) (by kernel_rfl) (by kernel_rfl) (by kernel_rfl) (by exact fun _ _ _ h => h) (Or.inl ⟨by rfl, ?_⟩) hS' ?_
            rotate_left
            · intro w hSw; obtain ⟨s0, s1⟩ := hSw; go_simp; try with_reducible rfl
            refine wpAnyH_take (i := 7) (v := ?_) (by simp only [List.getElem?_toArray, List.getElem?_cons_succ, List.getElem?_cons_zero]; exact rfl) (by kernel_rfl) (by kernel_rfl) (by kernel_rfl) (by exact fun _ _ _ h => h) (Or.inl ⟨by rfl, ?_⟩) hS' ?_
            rotate_left
            · intro w hSw; obtain ⟨s0, s1⟩ := hSw; go_simp; try with_reducible rfl
            refine wpAnyH_take (i := 8) (v := ?_) (by simp only [List.getElem?_toArray, List.getElem?_cons_succ, List.getElem?_cons_zero]; exact rfl) (by kernel_rfl) (by kernel_rfl) (by kernel_rfl) (by exact fun _ _ _ h => h) (Or.inl ⟨by rfl, ?_⟩) hS' ?_
            rotate_left
            · intro w hSw; obtain ⟨s0, s1⟩ := hSw; go_simp; try with_reducible rfl
            simp only [Act.put, List.setIfInBounds_toArray, List.set_cons_succ, List.set_cons_zero]
            have d2' : w8.drew.cell? ⟨o, j, none⟩ = some (.int .u64 yv) := d2
            have d3' : w8.drew.frozen? ⟨o, j, none⟩ = false := d3
            refine wpAnyH_ready (rs := [9]) (by kernel_rfl) (by simp) ?_
            refine AllReadyH.cons rfl (fun K hK => ?_) AllReadyH.nil
            go_simp
            refine hK.out _ _ HSn.out (fun hS' => ?_); clear hK K
            refine wpAnyH_done (by kernel_rfl) ?_ _
            go_wp2
            go_roundw
            case rel => exact ⟨k + 1, q, qk, _, _, hp, hr, HLt.out.1, rfl, rfl, by go_num, H9⟩
            case measure => have := HLt.out.1; simp [Go.RowKit.intOf]; omega
          · rcases (show at_ < 0 ∨ (0 ≤ at_ ∧ 16 ≤ at_) by omega) with hlo | ⟨hlo, hhi⟩
            · as_aux_lemma =>
                have hin2 : ¬ 0 ≤ at_ := by omega
                clear hin
                go_wp2_with fail
                rw [← HYY.out]
                refine (rs_set_no HY.out at_ nn (.inl hlo)).mono ?_
                rintro e w8 ⟨rfl, h8⟩
                have H8 := Lib.hid (h8.free.more (show k ≤ k + 1 by omega))
                obtain ⟨a80, a81, a82, a83⟩ := h8.act
                clear h8 y1 y2 y3 c0 c1 c2 c3 a80 a82 a83
                go_wp2
                go_roundw
                case rel => exact ⟨k + 1, q, qk, pg, rt, hp, hr, HLt.out.1, rfl, rfl, by go_num, H8⟩
                case measure => have := HLt.out.1; simp [Go.RowKit.intOf]; omega
            · as_aux_lemma =>
                have hin2 : ¬ at_ < 16 := by omega
                clear hin
                go_wp2_with fail
                rw [← HYY.out]
                refine (rs_set_no HY.out at_ nn (.inr hhi)).mono ?_
                rintro e w8 ⟨rfl, h8⟩
                have H8 := Lib.hid (h8.free.more (show k ≤ k + 1 by omega))
                obtain ⟨a80, a81, a82, a83⟩ := h8.act
                clear h8 y1 y2 y3 c0 c1 c2 c3 a80 a82 a83
                go_wp2
                go_roundw
                case rel => exact ⟨k + 1, q, qk, pg, rt, hp, hr, HLt.out.1, rfl, rfl, by go_num, H8⟩
                case measure => have := HLt.out.1; simp [Go.RowKit.intOf]; omega
        by_cases h5 : what = 5
        · as_aux_lemma =>
            subst h5
            by_cases hin : 0 ≤ at_ ∧ at_ < 16
            · obtain ⟨j, rfl⟩ : ∃ j : Nat, at_ = j := ⟨at_.toNat, by omega⟩
              have hj16 : (j : Int) < 16 := hin.2
              have hj0 : (0 : Int) ≤ j := hin.1
              have HJ := Lib.hid (show j < 16 by omega)
              clear hin
              go_wp2_with fail
              rw [← HYY.out]
              refine (rs_root HY.out j HJ.out).mono ?_
              rintro e w8 ⟨rfl, h8⟩
              generalize rt.getD j 0 = z
              have H8 := Lib.hid (h8.free.more (show k ≤ k + 1 by omega))
              obtain ⟨a80, a81, a82, a83⟩ := h8.act
              clear h8 y1 y2 y3 c0 c1 c2 c3 a80 a82 a83
              go_wp2
              go_roundw
              case rel => exact ⟨k + 1, q, qk, pg, rt, hp, hr, HLt.out.1, rfl, rfl, by go_num, H8⟩
              case measure => have := HLt.out.1; simp [Go.RowKit.intOf]; omega
            · rcases (show at_ < 0 ∨ (0 ≤ at_ ∧ 16 ≤ at_) by omega) with hlo | ⟨hlo, hhi⟩
              · have hin2 : ¬ 0 ≤ at_ := by omega
                clear hin
                go_wp2_with fail
                rw [← HYY.out]
                refine (rs_root_no HY.out at_ (.inl hlo)).mono ?_
                rintro e w8 ⟨rfl, h8⟩
                have H8 := Lib.hid (h8.free.more (show k ≤ k + 1 by omega))
                obtain ⟨a80, a81, a82, a83⟩ := h8.act
                clear h8 y1 y2 y3 c0 c1 c2 c3 a80 a82 a83
                go_wp2
                go_roundw
                case rel => exact ⟨k + 1, q, qk, pg, rt, hp, hr, HLt.out.1, rfl, rfl, by go_num, H8⟩
                case measure => have := HLt.out.1; simp [Go.RowKit.intOf]; omega
              · have hin2 : ¬ at_ < 16 := by omega
                clear hin
                go_wp2_with fail
                rw [← HYY.out]
                refine (rs_root_no HY.out at_ (.inr hhi)).mono ?_
                rintro e w8 ⟨rfl, h8⟩
                have H8 := Lib.hid (h8.free.more (show k ≤ k + 1 by omega))
                obtain ⟨a80, a81, a82, a83⟩ := h8.act
                clear h8 y1 y2 y3 c0 c1 c2 c3 a80 a82 a83
                go_wp2
                go_roundw
                case rel => exact ⟨k + 1, q, qk, pg, rt, hp, hr, HLt.out.1, rfl, rfl, by go_num, H8⟩
                case measure => have := HLt.out.1; simp [Go.RowKit.intOf]; omega
        by_cases h6 : what = 6
        · as_aux_lemma =>
            subst h6
            go_wp2_with fail
            rw [← HYY.out]
            refine (rs_commit HY.out (by have := HLt.out; omega)).mono ?_
            rintro e w8 ⟨rfl, h8⟩
            have H8 := Lib.hid h8
            clear h8 y1 y2 y3 c0 c1 c2 c3
            go_wp2_with fail
            refine (rs_copyW H8.out).mono ?_
            rintro e w9 ⟨q9, rfl, h9⟩
            have H9 := Lib.hid h9.free
            clear h9
            unfold ptr
            go_wp2
            go_roundw
            case rel => exact ⟨k + 1, q, q9, pg, rt, pg, rt, HLt.out.1, rfl, rfl, by go_num, H9⟩
            case measure => have := HLt.out.1; simp [Go.RowKit.intOf]; omega
        by_cases h7 : what = 7
        · as_aux_lemma =>
            subst h7
            go_wp2_with fail
            rw [← HYY.out]
            refine (rs_drop HY.out).mono ?_
            rintro e w8 ⟨rfl, h8⟩
            have H8 := Lib.hid h8
            clear h8 y1 y2 y3 c0 c1 c2 c3
            go_wp2_with fail
            refine (rs_copyK H8.out).mono ?_
            rintro e w9 ⟨q9, rfl, h9⟩
            have H9 := Lib.hid (h9.free.more (show k ≤ k + 1 by omega))
            clear h9
            unfold ptr
            go_wp2
            go_roundw
            case rel => exact ⟨k + 1, q9, qk, hp, hr, hp, hr, HLt.out.1, rfl, rfl, by go_num, H9⟩
            case measure => have := HLt.out.1; simp [Go.RowKit.intOf]; omega
        · have H8 := Lib.hid (HY.out.free.more (show k ≤ k + 1 by omega))
          go_wp2
          rw [← HYY.out]
          go_roundw
          case rel => exact ⟨k + 1, q, qk, pg, rt, hp, hr, HLt.out.1, rfl, rfl, by go_num, H8⟩
          case measure => have := HLt.out.1; simp [Go.RowKit.intOf]; omega
      · have htI : (text.size : Int) > 600 := by omega
        clear ht
        unfold ptr
        go_wp2
        rw [← HYY.out]
        go_ret
        exact ⟨rfl, HY.out.below⟩
    · have hI : ¬ (k : Int) < l.length := by omega
      unfold ptr
      go_wp2_with fail
      refine (rs_same hS.out).mono ?_
      rintro e w8 ⟨rfl, hb8⟩
      go_wp2
      go_ret
      exact ⟨rfl, hb8⟩
end Go.Proofs.YtobmjcfemjpgcaaGreatDoor
