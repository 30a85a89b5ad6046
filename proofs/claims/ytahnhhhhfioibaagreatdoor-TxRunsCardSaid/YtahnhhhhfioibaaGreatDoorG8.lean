/- Elder texts, merged (8). -/
import Derived.Test.YtahnhhhhfioibaaGreatDoorG7
import Derived.Lib.SliceRun
import Derived.Test.YtahnhhhhfioibaaGreatDoorG6
namespace Go.Proofs.YtahnhhhhfioibaaGreatDoor
open Go.RowKit Lib

section
variable {α : Type} {K : Elem α} {P : Program} {E T B : Nat} {w : World} {l : List α}
/-- A row's beginning. -/
theorem Own.upto {g n cap : Nat} (h : Own K E B w (.slice (some ⟨g, 0, none⟩) n cap) l) (k : Nat) (hk : k ≤ l.length) : Own K E B w (.slice (some ⟨g, 0, none⟩) k cap) (l.take k) := by
  have hl : (l.take k).length = k := by rw [List.length_take, Nat.min_eq_left hk]
  refine ⟨by rw [K.cells_length], ?_⟩
  rcases h.2 with ⟨e, _⟩ | ⟨g', cap', cur, e, hB, hh, hc, hm, hs, ht⟩
  · cases e
  · injection e with e1 e2 e3
    injection e1 with e1
    injection e1 with e1
    subst e1 e2 e3
    refine .inr ⟨g, cap, cur, by rw [hl], hB, hh, by rw [hl]; omega, hm, hs, ?_⟩
    rw [hl, K.cells_take, ← ht, List.take_take, Nat.min_eq_left (Nat.mul_le_mul_right _ hk)]
/-- What is stored behind a row's elements. -/
theorem Own.behind {g n cap : Nat} (h : Own K E B w (.slice (some ⟨g, 0, none⟩) n cap) l) (j : Nat) (u : Value) (hj : l.length * K.size ≤ j) : Own K E B (w.setCell ⟨g, j, none⟩ u) (.slice (some ⟨g, 0, none⟩) n cap) l := by
  refine ⟨h.1, ?_⟩
  rcases h.2 with ⟨e, _⟩ | ⟨g', cap', cur, e, hB, hh, hc, hm, hs, ht⟩
  · cases e
  · injection e with e1 e2 e3
    injection e1 with e1
    injection e1 with e1
    subst e1 e2 e3
    refine .inr ⟨g, cap, cur.setIfInBounds j u, rfl, hB, heap_setCell_same w g j cur E u hh, hc, hm, by rw [Array.size_setIfInBounds]; exact hs, ?_⟩
    rw [Array.toList_setIfInBounds, List.take_set_of_le hj]
    exact ht
theorem Own.cleared {g n cap : Nat} : ∀ (vs : List Value) (w : World) (j : Nat), Own K E B w (.slice (some ⟨g, 0, none⟩) n cap) l → l.length * K.size ≤ j → Own K E B (w.setCells g j vs) (.slice (some ⟨g, 0, none⟩) n cap) l ∧ But (fun k => k = g) w (w.setCells g j vs)
  | [], w, _, h, _ => ⟨h, But.refl _ _⟩
  | v :: vs, w, j, h, hj => by
    have := Own.cleared vs (w.setCell ⟨g, j, none⟩ v) (j + 1) (Own.behind h j v hj) (by omega)
    exact ⟨this.1, ((But.refl (fun k => k = g) w).setCell ⟨g, j, none⟩ v (fun _ => rfl)).trans this.2 (fun _ _ e => e)⟩
theorem Own.spare {g n cap : Nat} (h : Own K E B w (.slice (some ⟨g, 0, none⟩) n cap) l) (j : Nat) (hj : j < cap * K.size) : (w.cell? ⟨g, j, none⟩).isSome = true ∧ w.frozen? ⟨g, j, none⟩ = false := by
  rcases h.2 with ⟨e, _⟩ | ⟨g', cap', cur, e, hB, hh, hc, hm, hs, ht⟩
  · cases e
  · injection e with e1 e2 e3
    injection e1 with e1
    injection e1 with e1
    subst e1 e2 e3
    have hjc : j < cur.size := by omega
    constructor
    · simp [World.cell?, hh, hjc]
    · simp [World.frozen?, hh]
/-- append of nothing. -/
theorem wp_app_zero (ST : SliceT P T E K.size) {o : Oper} {a : Act} {K' : Act → World → Prop} {Q : Exit → Act → World → Prop} (s x : Operand)
    (ho : o.op = .call { callee := .builtin .append, args := #[s, x], argTypes := #[T, T] }) (g k cap : Nat)
    (hs : a.eval s = .slice (some ⟨g, 0, none⟩) k cap) (hown : Own K E B w (.slice (some ⟨g, 0, none⟩) k cap) l) (hk : k = l.length) (hx : ∃ ad c, a.eval x = .slice (some ad) 0 c) (hc : k ≤ cap)
    (h : ∀ w', Own K E B w' (.slice (some ⟨g, 0, none⟩) k cap) l → w.grownBy w' (some g) → K' (a.put o.dst (.slice (some ⟨g, 0, none⟩) k cap)) w') : o.wp P a w K' Q := by
  obtain ⟨i, z, hi, hz, hsize, hzs, hby⟩ := ST.info
  obtain ⟨ad, c, hx⟩ := hx
  subst hk
  obtain ⟨w', hr, h2, h3⟩ := run_append_fits (P := P) (w := w) (ty := o.type) B T E i K.size ST.under hi hsize g l.length cap (K.cells l) hown ad 0 c [] (by simp) (fun j u hu => by cases hu) (fun u hu => by cases hu) (by omega)
  unfold Oper.wp execOp
  simp only [ho, resolve, invoke, builtin, Sem.run_bind, Sem.run_pure, Result.andThen_ok, List.map_toArray, List.map_cons, List.map_nil, hs, hx, hr]
  refine h w' ?_ h3
  rw [List.append_nil] at h2
  exact h2
end
theorem put_zero (w : World) : (zeroValue 99).run Tryz.prog w = .ok (.agg #[.int .i64 0, .string .empty]) w := by kernel_rfl
theorem run_clear_puts (w : World) (o k cap : Nat) (ps : List (Nat × List UInt8)) (h : OwnP 0 w (.slice (some ⟨o, 0, none⟩) k cap) ps) (d : Nat) (hk : k + d ≤ cap) (hd : 0 < d) :
    ∃ vs, ∀ (c : Nat) (ty : TypeId), (Builtin.clear_ #[36] ty #[.slice (some ⟨o, k * 2, none⟩) d c]).run Tryz.prog w = .ok (.tuple #[]) (w.setCells o (k * 2) vs) := by
  obtain ⟨z, hz⟩ : ∃ z, z = (Builtin.zeroCells (Value.agg #[Value.int .i64 0, .string ⟨#[]⟩]).cells d).toList := ⟨_, rfl⟩
  have hz' : z = (Builtin.zeroCells #[Value.int .i64 0, .string ⟨#[]⟩] d).toList := hz
  have hzl : z.length = d * 2 := by rw [hz']; simp [Builtin.zeroCells]
  have hz1 : ∀ v ∈ z, v.oneCell' = true := by
    intro v hv
    rw [hz'] at hv
    simp only [Builtin.zeroCells, Array.toList_map, List.mem_map] at hv
    obtain ⟨i, _, rfl⟩ := hv
    have : i % 2 = 0 ∨ i % 2 = 1 := by omega
    rcases this with e | e <;> simp [e] <;> rfl
  refine ⟨z, fun c ty => ?_⟩
  have hst := run_storeCells_cells (P := Tryz.prog) o (k * 2) z 0 w
    (fun j hj => by rw [Nat.add_zero]; exact (Own.spare h (k * 2 + j) (by show _ < cap * 2; omega)).1)
    (fun j hj => by rw [Nat.add_zero]; exact (Own.spare h (k * 2 + j) (by show _ < cap * 2; omega)).2) hz1
  simp only [Nat.add_zero] at hst
  obtain ⟨m, rfl⟩ : ∃ m, d = m + 1 := ⟨d - 1, by omega⟩
  simp [Builtin.clear_, run_underlying Tryz.underlying36, ← hz, hst]
set_option maxRecDepth 100000 in
set_option maxHeartbeats 1000000 in
theorem delete_any (w : World) (o n cap i : Nat) (ps : List (Nat × List UInt8)) (h : OwnP 0 w (.slice (some ⟨o, 0, none⟩) n cap) ps) (hi : i < ps.length) :
    Calls Tryz.prog 52 #[.slice (some ⟨o, 0, none⟩) n cap, .int .i64 i, .int .i64 n] w fun e w' => e = .returned (.slice (some ⟨o, 0, none⟩) i cap) ∧ OwnP 0 w' (.slice (some ⟨o, 0, none⟩) i cap) (ps.take i) ∧ But (fun k => k = o) w w' := by
  obtain ⟨_, hn, hcap⟩ := Own.slot h
  have hcapn : n ≤ cap := by omega
  have hin : i < n := by omega
  have hinI : (i : Int) < n := by omega
  have hm := Own.len_le h
  have hpre := Own.upto h i (by omega)
  have HPre := Lib.hid hpre
  have HI := Lib.hid (And.intro hi (And.intro hn hcapn))
  have hm2 : (cap : Int) ≤ 9223372036854775807 := by
    rcases h.2 with ⟨e, _⟩ | ⟨g', cap', cur, e, _, _, _, hmx, _⟩
    · cases e
    · injection e with _ _ e3
      subst e3
      unfold maxLen at hmx
      omega
  have hile : i ≤ n := by omega
  have hic : i ≤ cap := by omega
  clear hpre hi h hn hcap hm
  have hne : ¬ (i : Int) = n := by omega
  have hnei : (i == n) = false := beq_eq_false_iff_ne.2 (by omega)
  have hneI : ((i : Int) == (n : Int)) = false := beq_eq_false_iff_ne.2 (by omega)
  by_cases hcn : cap = n
  · subst hcn
    go_enter Tryz.func52, Tryz.ntmps52
    go_wp2_with (refine wp_region_any (by kernel_rfl) ?_; refine Hid.out ?_)
    refine Lib.hid ?_
    try (change wpAny _ _ _ _ _ _ _ (World.drew _))
    refine wpAny_take (i := 0) (v := ?_) (by simp only [List.getElem?_toArray, List.getElem?_cons_zero]; exact rfl) (by kernel_rfl) (by kernel_rfl) (by kernel_rfl) (by exact fun _ _ _ h => h) (Or.inl ⟨by rfl, ?_⟩) ?_
    rotate_left
    · intro w; go_simp; try with_reducible rfl
    refine wpAny_take (i := 1) (v := ?_) (by simp only [List.getElem?_toArray, List.getElem?_cons_succ, List.getElem?_cons_zero]; exact rfl) (by kernel_rfl) (by kernel_rfl) (by kernel_rfl) (by exact fun _ _ _ h => h) (Or.inl ⟨by rfl, ?_⟩) ?_
    rotate_left
    · intro w; go_simp; try with_reducible rfl
    refine wpAny_take (i := 2) (v := ?_) (by simp only [List.getElem?_toArray, List.getElem?_cons_succ, List.getElem?_cons_zero]; exact rfl) (by kernel_rfl) (by kernel_rfl) (by kernel_rfl) (by exact fun _ _ _ h => h) (Or.inl ⟨by rfl, ?_⟩) ?_
    rotate_left
    · intro w; go_simp; try with_reducible rfl
    refine wpAny_take (i := 3) (v := ?_) (by simp only [List.getElem?_toArray, List.getElem?_cons_succ, List.getElem?_cons_zero]; exact rfl) (by kernel_rfl) (by kernel_rfl) (by kernel_rfl) (by exact fun _ _ _ h => h) (Or.inl ⟨by rfl, ?_⟩) ?_
    rotate_left
    · intro w; go_simp; try with_reducible rfl
    refine wpAny_take (i := 4) (v := ?_) (by simp only [List.getElem?_toArray, List.getElem?_cons_succ, List.getElem?_cons_zero]; exact rfl) (by kernel_rfl) (by kernel_rfl) (by kernel_rfl) (by exact fun _ _ _ h => h) (Or.inl ⟨by rfl, ?_⟩) ?_
    rotate_left
    · intro w; go_simp; try with_reducible rfl
    refine wpAny_take (i := 5) (v := ?_) (by simp only [List.getElem?_toArray, List.getElem?_cons_succ, List.getElem?_cons_zero]; exact rfl) (by kernel_rfl) (by kernel_rfl) (by kernel_rfl) (by exact fun _ _ _ h => h) (Or.inl ⟨by rfl, ?_⟩) ?_
    rotate_left
    · intro w; go_simp; try with_reducible rfl
    simp only [Act.put, List.setIfInBounds_toArray, List.set_cons_succ, List.set_cons_zero]
    refine wpAny_ready (rs := [6]) (by kernel_rfl) (by simp) ?_
    refine AllReady.cons rfl (fun K hK => ?_) AllReady.nil
    refine wp_app_zero putST _ _ rfl o i cap rfl (show OwnP 0 w.drew (.slice (some ⟨o, 0, none⟩) i cap) (ps.take i) from HPre.out) (by rw [List.length_take]; have := HI.out; omega) ⟨_, _, rfl⟩ (by omega) ?_; intro w5 h5 hg5
    refine hK _ _ ?_; clear hK K
    refine wpAny_take (i := 7) (v := ?_) (by simp only [List.getElem?_toArray, List.getElem?_cons_succ, List.getElem?_cons_zero]; exact rfl) (by kernel_rfl) (by kernel_rfl) (by kernel_rfl) (by exact fun _ _ _ h => h) (Or.inl ⟨by rfl, ?_⟩) ?_
    rotate_left
    · intro w; go_simp; try with_reducible rfl
    refine wpAny_done (by kernel_rfl) ?_ _
    have H5 := Lib.hid (show OwnP 0 w5 (.slice (some ⟨o, 0, none⟩) i cap) (ps.take i) ∧ But (fun k => k = o) w w5 from ⟨h5, ⟨hg5.os, hg5.tape, hg5.output, hg5.size, fun k hk hn => hg5.block k hk (fun e => hn (by injection e))⟩⟩)
    clear h5 hg5
    obtain ⟨vs, hcl⟩ := run_clear_puts w5 o i cap (ps.take i) H5.out.1 (cap - i) (by omega) (by omega)
    go_wp2
    go_ret
    have hz := Own.cleared (K := putElem) (E := 99) (B := 0) vs w5 (i * 2) H5.out.1 (by rw [List.length_take]; show _ * 2 ≤ _; omega)
    exact ⟨rfl, hz.1, H5.out.2.trans hz.2 (fun _ _ e => e)⟩
  · have hcn2 : (cap == n) = false := beq_eq_false_iff_ne.2 hcn
    go_enter Tryz.func52, Tryz.ntmps52
    go_wp2_with (refine wp_region_any (by kernel_rfl) ?_; refine Hid.out ?_)
    refine Lib.hid ?_
    try (change wpAny _ _ _ _ _ _ _ (World.drew _))
    refine wpAny_take (i := 0) (v := ?_) (by simp only [List.getElem?_toArray, List.getElem?_cons_zero]; exact rfl) (by kernel_rfl) (by kernel_rfl) (by kernel_rfl) (by exact fun _ _ _ h => h) (Or.inl ⟨by rfl, ?_⟩) ?_
    rotate_left
    · intro w; go_simp; try with_reducible rfl
    refine wpAny_take (i := 1) (v := ?_) (by simp only [List.getElem?_toArray, List.getElem?_cons_succ, List.getElem?_cons_zero]; exact rfl) (by kernel_rfl) (by kernel_rfl) (by kernel_rfl) (by exact fun _ _ _ h => h) (Or.inl ⟨by rfl, ?_⟩) ?_
    rotate_left
    · intro w; go_simp; try with_reducible rfl
    refine wpAny_take (i := 2) (v := ?_) (by simp only [List.getElem?_toArray, List.getElem?_cons_succ, List.getElem?_cons_zero]; exact rfl) (by kernel_rfl) (by kernel_rfl) (by kernel_rfl) (by exact fun _ _ _ h => h) (Or.inl ⟨by rfl, ?_⟩) ?_
    rotate_left
    · intro w; go_simp; try with_reducible rfl
    refine wpAny_take (i := 3) (v := ?_) (by simp only [List.getElem?_toArray, List.getElem?_cons_succ, List.getElem?_cons_zero]; exact rfl) (by kernel_rfl) (by kernel_rfl) (by kernel_rfl) (by exact fun _ _ _ h => h) (Or.inl ⟨by rfl, ?_⟩) ?_
    rotate_left
    · intro w; go_simp; try with_reducible rfl
    refine wpAny_take (i := 4) (v := ?_) (by simp only [List.getElem?_toArray, List.getElem?_cons_succ, List.getElem?_cons_zero]; exact rfl) (by kernel_rfl) (by kernel_rfl) (by kernel_rfl) (by exact fun _ _ _ h => h) (Or.inl ⟨by rfl, ?_⟩) ?_
    rotate_left
    · intro w; go_simp; try with_reducible rfl
    refine wpAny_take (i := 5) (v := ?_) (by simp only [List.getElem?_toArray, List.getElem?_cons_succ, List.getElem?_cons_zero]; exact rfl) (by kernel_rfl) (by kernel_rfl) (by kernel_rfl) (by exact fun _ _ _ h => h) (Or.inl ⟨by rfl, ?_⟩) ?_
    rotate_left
    · intro w; go_simp; try with_reducible rfl
    simp only [Act.put, List.setIfInBounds_toArray, List.set_cons_succ, List.set_cons_zero]
    refine wpAny_ready (rs := [6]) (by kernel_rfl) (by simp) ?_
    refine AllReady.cons rfl (fun K hK => ?_) AllReady.nil
    refine wp_app_zero putST _ _ rfl o i cap rfl (show OwnP 0 w.drew (.slice (some ⟨o, 0, none⟩) i cap) (ps.take i) from HPre.out) (by rw [List.length_take]; have := HI.out; omega) ⟨_, _, rfl⟩ (by omega) ?_; intro w5 h5 hg5
    refine hK _ _ ?_; clear hK K
    refine wpAny_take (i := 7) (v := ?_) (by simp only [List.getElem?_toArray, List.getElem?_cons_succ, List.getElem?_cons_zero]; exact rfl) (by kernel_rfl) (by kernel_rfl) (by kernel_rfl) (by exact fun _ _ _ h => h) (Or.inl ⟨by rfl, ?_⟩) ?_
    rotate_left
    · intro w; go_simp; try with_reducible rfl
    refine wpAny_done (by kernel_rfl) ?_ _
    have H5 := Lib.hid (show OwnP 0 w5 (.slice (some ⟨o, 0, none⟩) i cap) (ps.take i) ∧ But (fun k => k = o) w w5 from ⟨h5, ⟨hg5.os, hg5.tape, hg5.output, hg5.size, fun k hk hn => hg5.block k hk (fun e => hn (by injection e))⟩⟩)
    clear h5 hg5
    obtain ⟨vs, hcl⟩ := run_clear_puts w5 o i cap (ps.take i) H5.out.1 (n - i) (by omega) (by omega)
    go_wp2
    go_ret
    have hz := Own.cleared (K := putElem) (E := 99) (B := 0) vs w5 (i * 2) H5.out.1 (by rw [List.length_take]; show _ * 2 ≤ _; omega)
    exact ⟨rfl, hz.1, H5.out.2.trans hz.2 (fun _ _ e => e)⟩
end Go.Proofs.YtahnhhhhfioibaaGreatDoor

namespace Go.Proofs.YtahnhhhhfioibaaGreatDoor
open Go.RowKit Go.Maps Lib

theorem Kept.awake {A : Nat → Prop} {ring b g N : Nat} {H : List Wl.Text} {w : World} (h : Kept A ring w b g N H) : Awake w b H.length := by
  obtain ⟨F, s, hl, hv, _⟩ := h
  exact ⟨F, g, s, hl, hv.off_eq, hv.homes_eq⟩
set_option maxRecDepth 100000 in
theorem txread_any (w : World) (T A : Nat → Prop) (tb lb ring g N : Nat) (H : List Wl.Text) (ps : List (Nat × List UInt8)) (i : Nat) (h : TxP w T tb lb ps) (hk : Kept A ring w lb g N H) (hi : i < H.length) (hn : H.length ≤ 65536) :
    Calls Tryz.prog 14 #[ptr tb, .int .i64 i] w fun e w' => e = .returned (.tuple #[.string (bs (homeOf (Wl.along H (Tx.psI ps)) i).1), .int .i64 0]) ∧ Below w.heap.size w w' := by
  have HP := Lib.hid h
  have HK := Lib.hid hk
  have hal : i < (Wl.along H (Tx.psI ps)).length := by rw [Wl.along_length]; exact hi
  have hho := homeOf_at hal
  obtain ⟨mb, vp, vb, hx⟩ := h
  obtain ⟨ap, cp, hvp, _⟩ := Own.slice hx.op
  subst hvp
  have HX := Lib.hid hx
  rcases Tx.now_at H ps hi with ⟨h1, h2⟩ | ⟨k, hkl, h1, h2⟩
  · have HE := Lib.hid (show homeOf (Wl.along H (Tx.psI ps)) i = homeOf H i by
      rw [hho, homeOf_at hi]
      rw [List.getElem?_eq_getElem hal, List.getElem?_eq_getElem hi] at h2
      injection h2 with h2
      rw [h2])
    have HZ := Lib.hid (show (homeOf H i).2 = 0 by rw [homeOf_at hi])
    have hlk := NMap.look_none HX.out.mp (by omega) h1
    have c0 := HX.out.c0
    have c3 := HX.out.c3
    rw [HE.out]
    clear h1 h2 hho hx hk
    go_enter Tryz.func14, Tryz.ntmps14
    go_wp2_with fail
    refine (isDown_any w T tb lb H.length ps HP.out HK.out.awake).mono ?_
    rintro e w1 ⟨rfl, rfl⟩
    unfold ptr
    go_wp2_with fail
    refine (kept_read HK.out (i : Int)).mono ?_
    rintro e w2 ⟨rfl, hb⟩
    rw [HZ.out]
    have HB := Lib.hid hb
    clear hb hlk c0 c3
    go_wp2
    go_ret2
    exact ⟨rfl, HB.out⟩
  · have HE := Lib.hid (show homeOf (Wl.along H (Tx.psI ps)) i = (Dk.full (ps[k]).2, 0) by
      rw [hho]
      rw [List.getElem?_eq_getElem hal] at h2
      injection h2 with h2
      rw [h2])
    have hlk := NMap.look_some HX.out.mp (by omega) h1
    have c1 := HX.out.c1
    have c3 := HX.out.c3
    obtain ⟨o, co, e1, _, _, _⟩ := Own.form HX.out.op (by omega)
    injection e1 with e1 _ e3
    subst e1 e3
    have cx := (OwnP.at HX.out.op k hkl).2
    have hsz := (HX.out.small ps[k] (List.getElem_mem hkl)).2
    have hkI : (k : Int) < ps.length := by omega
    rw [HE.out]
    clear h1 h2 hho hx hk
    generalize ps[k] = x at *
    obtain ⟨at_, t⟩ := x
    simp only at cx hsz ⊢
    have HSz := Lib.hid hsz
    clear hsz
    go_enter Tryz.func14, Tryz.ntmps14
    go_wp2_with fail
    refine (isDown_any w T tb lb H.length ps HP.out HK.out.awake).mono ?_
    rintro e w1 ⟨rfl, rfl⟩
    unfold ptr
    go_wp2_with fail
    refine (filled_any (bs t) w1 (by rw [bs_size]; exact HSz.out)).mono ?_
    rintro e w2 ⟨rfl, hb⟩
    rw [bs_list]
    have HB := Lib.hid hb
    clear hb hlk c1 c3 cx
    go_wp2
    go_ret2
    exact ⟨rfl, HB.out⟩
/-- The change's puts, as a list of puts that is only read. -/
def putsD (ps : List (Nat × List UInt8)) : List PutD := ps.map fun p => ((p.1 : Int), bs p.2)
theorem OwnP.rdP {B : Nat} {w : World} {v : Value} {ps : List (Nat × List UInt8)} (h : OwnP B w v ps) (hs : ∀ p ∈ ps, p.1 ≤ 65536 ∧ p.2.length ≤ 512) : RdP w v (putsD ps) := by
  obtain ⟨a, cap, e, hc⟩ := Own.slice h
  have hm := Own.len_le h
  refine ⟨a, cap, by rw [e, putsD, List.length_map], by rw [putsD, List.length_map]; exact hc, by rw [putsD, List.length_map]; exact hm, fun i hi => ?_⟩
  have hi' : i < ps.length := by rwa [putsD, List.length_map] at hi
  have hsm := hs ps[i] (List.getElem_mem hi')
  refine ⟨by simp only [putsD, List.getElem_map]; omega, ?_⟩
  obtain ⟨o, co, e', hB, ho, _⟩ := Own.form h (by omega)
  rw [e] at e'
  injection e' with e1 _ e3
  subst e1 e3 e
  refine ⟨o, 0, rfl, ho, fun j hj => ?_⟩
  have hj' : j < ps.length := by rwa [putsD, List.length_map] at hj
  have := OwnP.at h j hj'
  simp only [putsD, List.getElem_map, Nat.zero_add]
  exact this
theorem putsD_pts (v : Value) (ps : List (Nat × List UInt8)) : ptsL [(v, putsD ps)] = Tx.psI ps := by
  unfold ptsL putsD Tx.psI pts
  simp only [List.map_cons, List.map_nil, List.flatten_cons, List.flatten_nil, List.append_nil, List.map_map]
  exact List.map_congr_left fun p _ => by simp [pt, bs_list]
theorem RdL.hand5 (w : World) (v : Value) (l : List PutD) (h : RdP w v l) :
    RdL (w.alloc (.cells #[v] 36)) (.slice (some ⟨w.heap.size, 0, none⟩) 1 1) [(v, l)] := by
  have q1 := h.below ((Below.refl _ _).alloc (Nat.le_refl _) (.cells #[v] 36))
  have hbl := Blk.new w #[v] 36
  refine ⟨_, 1, rfl, Nat.le_refl _, by simp, fun i hi => ⟨?_, w.heap.size, 0, rfl, hbl.lt, fun j hj => ?_⟩⟩
  · obtain rfl : i = 0 := by simpa using hi
    exact q1
  · obtain rfl : j = 0 := by simpa using hj
    exact hbl.cell rfl
set_option maxRecDepth 100000 in
set_option maxHeartbeats 1000000 in
theorem drop_any (w : World) (T : Nat → Prop) (tb lb : Nat) (ps : List (Nat × List UInt8)) (h : TxP w T tb lb ps) :
    Calls Tryz.prog 21 #[ptr tb] w fun e w' => e = .returned (.tuple #[]) ∧ ∃ T', TxP w' T' tb lb [] ∧ Moved T w T' w' := by
  obtain ⟨mb, vp, vb, hx⟩ := h
  have c0 := hx.c0
  have HX := Lib.hid hx
  clear hx
  go_enter Tryz.func21, Tryz.ntmps21
  unfold ptr
  go_wp2_with fail
  refine (begin_any5 w lb).mono ?_
  rintro e w1 ⟨tb1, T1, rfl, ⟨mb1, vp1, vb1, h1⟩, hT1, hb1⟩
  obtain ⟨a1, ca1, hv1, _⟩ := Own.slice h1.op
  obtain ⟨a2, ca2, hv2, _⟩ := Own.slice h1.ob
  subst hv1 hv2
  simp only [List.length_nil, show (Tx.befs []).length = 0 from rfl] at h1
  have H1 := Lib.hid (And.intro h1 (And.intro hT1 hb1))
  have e0 := h1.c0
  have e1 := h1.c1
  have e2 := h1.c2
  have e3 := h1.c3
  have hblk : Blk w1 tb 96 [ptr lb, vp, vb, .map (some mb)] := HX.out.blk.below hb1 (HX.out.lt tb HX.out.fb)
  have d0 := hblk.cell (j := 0) rfl
  have d1 := hblk.cell (j := 1) rfl
  have d2 := hblk.cell (j := 2) rfl
  have d3 := hblk.cell (j := 3) rfl
  have g0 := hblk.frozen 0
  have g1 := hblk.frozen 1
  have g2 := hblk.frozen 2
  have g3 := hblk.frozen 3
  clear h1 hT1 hb1 c0
  unfold ptr
  go_wp2
  refine bodyPost_end (results_none rfl _ _ _) rfl ?_
  have hbt : But (fun k => k = tb) w1 ((((w1.setCell ⟨tb, 0, none⟩ (.pointer (some ⟨lb, 0, none⟩))).setCell ⟨tb, 1, none⟩ (.slice a1 0 ca1)).setCell ⟨tb, 2, none⟩ (.slice a2 0 ca2)).setCell ⟨tb, 3, none⟩ (.map (some mb1))) :=
    ((((But.refl (fun k => k = tb) w1).setCell ⟨tb, 0, none⟩ (.pointer (some ⟨lb, 0, none⟩)) (fun _ => rfl)).setCell ⟨tb, 1, none⟩ (.slice a1 0 ca1) (fun _ => rfl)).setCell ⟨tb, 2, none⟩ (.slice a2 0 ca2) (fun _ => rfl)).setCell ⟨tb, 3, none⟩ (.map (some mb1)) (fun _ => rfl)
  have htb := HX.out.lt tb HX.out.fb
  have h2 := H1.out.1.but hbt (fun k hk e => by have := H1.out.2.1 k hk; omega)
  have hblk2 := (((hblk.set 0 (.pointer (some ⟨lb, 0, none⟩))).set 1 (.slice a1 0 ca1)).set 2 (.slice a2 0 ca2)).set 3 (.map (some mb1))
  refine ⟨rfl, fun k => T k ∨ T1 k, ⟨mb1, _, _, ⟨hblk2, h2.op, h2.ob, h2.mp, .inl HX.out.fb, .inr h2.fm, fun k hk => .inr (h2.fp k hk), fun k hk => .inr (h2.fv k hk), fun k hk => ?_, fun p hp => by cases hp⟩⟩, (But.of_below H1.out.2.2 T).trans hbt (fun k _ e => e ▸ HX.out.fb), fun k hk => ?_⟩
  · rcases hk with hk | hk
    · exact Nat.lt_of_lt_of_le (HX.out.lt k hk) (Nat.le_trans H1.out.2.2.size hbt.size)
    · exact h2.lt k hk
  · rcases hk with hk | hk
    · exact .inl hk
    · exact .inr (H1.out.2.1 k hk)
/-- Commit of a change: the log's, of its puts; then there are none, if it was OK. -/
def TxDone (T A : Nat → Prop) (tb lb ring g N : Nat) (H : List Wl.Text) (ps : List (Nat × List UInt8)) (w w' : World) (e : Ending) : Prop :=
  e = .returned (.int .i64 (Wl.comm ring H (Tx.psI ps)).1) ∧ ∃ T' w1, TxP w' T' tb lb (if (Wl.comm ring H (Tx.psI ps)).1 = 0 then [] else ps) ∧ Kept A ring w1 lb g (N + 1) (Wl.comm ring H (Tx.psI ps)).2 ∧ Off A w w1 ∧ Moved T w1 T' w'
set_option maxRecDepth 100000 in
set_option maxHeartbeats 4000000 in
theorem txcommit_any (w : World) (T A : Nat → Prop) (tb lb ring g N : Nat) (H : List Wl.Text) (ps : List (Nat × List UInt8)) (h : TxP w T tb lb ps) (hk : Kept A ring w lb g N H) (hT : ∀ k, T k → A k) (hN : N + 1 < 1000000) :
    Calls Tryz.prog 20 #[ptr tb] w fun e w' => TxDone T A tb lb ring g N H ps w w' e := by
  have HP := Lib.hid h
  have HK := Lib.hid hk
  obtain ⟨mb, vp, vb, hx⟩ := h
  have hrd := OwnP.rdP hx.op hx.small
  obtain ⟨ap, cp, hvp, _⟩ := Own.slice hx.op
  subst hvp
  have HX := Lib.hid hx
  have c0 := hx.c0
  have c1 := hx.c1
  have hb0 : Below w.heap.size w w.drew := (Below.refl _ w).drew
  have hls := RdL.hand5 w.drew _ _ (RdP.below hrd hb0)
  have HLS := Lib.hid hls
  have hx0 : TxIn (w.drew.alloc (.cells #[.slice ap ps.length cp] 36)) T tb lb mb (.slice ap ps.length cp) vb ps (Tx.befs ps) (Tx.lasts ps) := hx.below ((hb0).alloc (Nat.le_refl _) _)
  have d0 := hx0.c0
  have d1 := hx0.c1
  have e0 : w.drew.cell? ⟨tb, 0, none⟩ = some (.pointer (some ⟨lb, 0, none⟩)) := c0
  have e1 : w.drew.cell? ⟨tb, 1, none⟩ = some (.slice ap ps.length cp) := c1
  have HKa := Lib.hid (show Kept A ring (w.drew.alloc (.cells #[.slice ap ps.length cp] 36)) lb g N H from (hk.aside hb0).aside ((Below.refl _ w.drew).alloc (Nat.le_refl _) _))
  have HX0 := Lib.hid hx0
  obtain ⟨r, hr⟩ : ∃ r, r = Wl.comm ring H (Tx.psI ps) := ⟨_, rfl⟩
  have HR := Lib.hid hr
  unfold TxDone
  rw [← hr]
  clear hx hrd hls hx0 hk hr
  go_enter Tryz.func20, Tryz.ntmps20
  unfold ptr
  go_wp2
  go_region_held3 (fun w' => w'.cell? ⟨tb, 0, none⟩ = some (.pointer (some ⟨lb, 0, none⟩)) ∧ w'.cell? ⟨tb, 1, none⟩ = some (.slice ap ps.length cp))
    (first
      | (exact ⟨e0, e1⟩)
      | (exact ⟨d0, d1⟩)
      | (exact ⟨s0, s1⟩)
      | go_keep)
    (first
      | (go_at_call 54; refine (kept_commit HKa.out hN _ _ HLS.out).mono ?_; rintro e w3 ⟨rfl, hk3, ho3⟩; rw [putsD_pts, ← HR.out] at hk3 ⊢; have hx3 := HX0.out.but ho3 (fun k hk hn => hn (hT k hk)); have s0 := hx3.c0; have s1 := hx3.c1; have H3 := Lib.hid (And.intro hx3 (And.intro hk3 ho3)); clear hx3 hk3 ho3))
  have HO := Lib.hid (show Off A w w3 from (But.of_below (hb0.alloc (Nat.le_refl _) (.cells #[.slice ap ps.length cp] 36)) _).trans H3.out.2.2 (fun _ _ h => h))
  clear c0 c1 d0 d1 e0 e1 s0 s1 hb0
  obtain ⟨rc, rh⟩ := r
  simp only at H3 ⊢
  by_cases h0 : rc = 0
  · subst h0
    go_wp2_with fail
    refine (drop_any w3 T tb lb ps ⟨mb, _, _, H3.out.1⟩).mono ?_
    rintro e w4 ⟨rfl, T', h4, hm4⟩
    have H4 := Lib.hid (And.intro h4 hm4)
    clear h4 hm4
    go_wp2
    go_ret
    exact ⟨rfl, T', (by first | exact H4.out.1 | (rw [if_pos rfl]; exact H4.out.1)), w3, H3.out.2.1, HO.out, H4.out.2⟩
  · have hc : (rc == 0) = false := beq_eq_false_iff_ne.2 h0
    have H0 := Lib.hid h0
    clear h0
    go_wp2
    go_ret
    exact ⟨rfl, T, (by first | exact ⟨mb, _, _, H3.out.1⟩ | (rw [if_neg H0.out]; exact ⟨mb, _, _, H3.out.1⟩)), w3, H3.out.2.1, HO.out, Moved.refl _ _⟩
end Go.Proofs.YtahnhhhhfioibaaGreatDoor

namespace Go.Proofs.YtahnhhhhfioibaaGreatDoor
open Go.RowKit Go.Maps Go.ChangeMaps Lib

theorem numV_un5 (k : Nat) : numE.enc (Tx.un k) = .int .i64 (k : Int) := by show Value.int .i64 ((Tx.un k).length : Nat) = _; rw [Tx.un_length]
theorem dat_del (k : Nat) (m : Wl.Grp) : (dat m).del (.int .i64 k) = dat (Tx.del k m) := by
  show DataW.map _ = DataW.map _
  congr 1
  show (m.map ent).filter _ = (Tx.del k m).map ent
  unfold Tx.del
  induction m with
  | nil => rfl
  | cons x m ih =>
    rw [List.map_cons, List.filter_cons, List.filter_cons, ent_same]
    by_cases h : x.1 = k
    · rw [decide_eq_true h, if_neg (by simp), if_neg (by simp [h])]; exact ih
    · rw [decide_eq_false h, if_pos (by simp), if_pos (by simpa using h), List.map_cons, ih]
theorem But.ofTurned {w w' : World} {b : Nat} (h : w.mapTurned w' b) : But (fun k => k = b) w w' := by
  obtain ⟨es, clock, es', clock', h1, rfl⟩ := h
  exact ⟨rfl, rfl, rfl, by simp [setBlock], fun k hk hn => heap_setBlock_other h1 _ hn⟩
set_option maxRecDepth 100000 in
theorem giveBack_new (w : World) (T : Nat → Prop) (tb lb mb : Nat) (vp vb : Value) (ps : List (Nat × List UInt8)) (bl : List Int) (m : Wl.Grp) (i : Nat) (h : TxIn w T tb lb mb vp vb ps bl m) (hi : i ≤ 65536) :
    Calls Tryz.prog 51 #[ptr tb, .int .i64 i, .int .i64 (-1)] w fun e w' => e = .returned (.tuple #[]) ∧ TxIn w' T tb lb mb vp vb ps bl (Tx.del i m) ∧ Moved T w T w' := by
  have c3 := h.c3
  have HX := Lib.hid h
  clear h
  go_enter Tryz.func51, Tryz.ntmps51
  unfold ptr
  go_wp2_with (at_delete; refine wpList_delete_own _ rfl _ _ 94 3 rfl 3 (int_keyed underInt) underNMap numE.R mb m.length (dat m) rfl HX.out.mp.1 (.int .i64 i) (.int .i64 i) rfl (keyOf_int_mk underInt (key_wf (by omega))) ?_; intro w1 hown1 hturn1)
  refine bodyPost_end (results_none rfl _ _ _) rfl ?_
  rw [dat_del] at hown1
  have hm : NMap w1 mb (Tx.del i m) := ⟨ownsMap_len numE hown1, Tx.del_rising i HX.out.mp.2.1, fun x hx => HX.out.mp.2.2 x (List.mem_filter.1 hx).1⟩
  have := HX.out.map' hm (But.ofTurned hturn1)
  exact ⟨rfl, this⟩
set_option maxRecDepth 100000 in
theorem giveBack_old (w : World) (T : Nat → Prop) (tb lb mb : Nat) (vp vb : Value) (ps : List (Nat × List UInt8)) (bl : List Int) (m : Wl.Grp) (i j : Nat) (h : TxIn w T tb lb mb vp vb ps bl m) (hi : i ≤ 65536) (hn : m.length ≤ 1000000) :
    Calls Tryz.prog 51 #[ptr tb, .int .i64 i, .int .i64 j] w fun e w' => e = .returned (.tuple #[]) ∧ TxIn w' T tb lb mb vp vb ps bl (Wl.ins i (Tx.un j) m) ∧ Moved T w T w' := by
  have c3 := h.c3
  have HX := Lib.hid h
  have hj : ((j : Int) == -1) = false := beq_eq_false_iff_ne.2 (by omega)
  obtain ⟨w5, hrun, hM5, hg5⟩ := IMap.store (T := 94) h.mp underInt underNMap hn (k := i) (by omega) (t := Tx.un j) (by show Tx.un _ = Tx.un (Tx.un _).length; rw [Tx.un_length])
  rw [numV_un5] at hrun
  have H5 := Lib.hid (And.intro hM5 hg5)
  clear h hM5 hg5
  go_enter Tryz.func51, Tryz.ntmps51
  unfold ptr
  go_wp2
  refine bodyPost_end (results_none rfl _ _ _) rfl ?_
  have hb5 : But (fun k => k = mb) w w5 := ⟨H5.out.2.os, H5.out.2.tape, H5.out.2.output, H5.out.2.size, fun k hk hn => H5.out.2.block k hk (fun e => hn (by injection e))⟩
  exact ⟨rfl, HX.out.map' H5.out.1 hb5⟩
/-- Back behind no put, or not so many. -/
theorem back_none (w : World) (T : Nat → Prop) (tb lb : Nat) (ps : List (Nat × List UInt8)) (mark : Int) (h : TxP w T tb lb ps) (hm : (ps.length : Int) ≤ max mark 0) :
    Calls Tryz.prog 17 #[ptr tb, .int .i64 mark] w fun e w' => e = .returned (.tuple #[]) ∧ w' = w := by
  have HP := Lib.hid h
  clear h
  by_cases h0 : mark < 0
  · have h1 : (ps.length : Int) = 0 := by omega
    go_enter Tryz.func17, Tryz.ntmps17
    go_wp2_with fail
    refine (mark_any w T tb lb ps HP.out).mono ?_
    rintro e w1 ⟨rfl, rfl⟩
    rw [h1]
    go_wp2
    refine bodyPost_ret (results_none rfl _ _ _) rfl ?_
    exact ⟨rfl, rfl⟩
  · have h1 : ¬ (0 : Int) > mark := by omega
    have h2 : (ps.length : Int) ≤ mark := by omega
    go_enter Tryz.func17, Tryz.ntmps17
    go_wp2_with fail
    refine (mark_any w T tb lb ps HP.out).mono ?_
    rintro e w1 ⟨rfl, rfl⟩
    go_wp2
    refine bodyPost_ret (results_none rfl _ _ _) rfl ?_
    exact ⟨rfl, rfl⟩
theorem giveBack_any (w : World) (T : Nat → Prop) (tb lb mb : Nat) (vp vb : Value) (ps : List (Nat × List UInt8)) (bl : List Int) (j : Nat) (hj : j < ps.length) (h : TxIn w T tb lb mb vp vb ps bl (Tx.lasts (ps.take (j + 1)))) (b : Int) (hb : b = Tx.befOf (Tx.lasts (ps.take j)) (ps[j]).1) (hn : ps.length ≤ 900000) :
    Calls Tryz.prog 51 #[ptr tb, .int .i64 (ps[j]).1, .int .i64 b] w fun e w' => e = .returned (.tuple #[]) ∧ TxIn w' T tb lb mb vp vb ps bl (Tx.lasts (ps.take j)) ∧ Moved T w T w' := by
  have hs := (h.small ps[j] (List.getElem_mem hj)).1
  rcases Tx.befOf_cases (Tx.lasts (ps.take j)) (ps[j]).1 with e | ⟨i, e⟩
  · rw [hb, e]
    refine (giveBack_new w T tb lb mb vp vb ps bl _ (ps[j]).1 h hs).mono ?_
    rintro e' w' ⟨rfl, h', hm⟩
    rw [Tx.back_map_new hj e] at h'
    exact ⟨rfl, h', hm⟩
  · rw [hb, e]
    refine (giveBack_old w T tb lb mb vp vb ps bl _ (ps[j]).1 i h hs (by have := Tx.lasts_len (ps.take (j + 1)); rw [List.length_take] at this; omega)).mono ?_
    rintro e' w' ⟨rfl, h', hm⟩
    rw [Tx.back_map_old hj e] at h'
    exact ⟨rfl, h', hm⟩
set_option maxRecDepth 100000 in
set_option maxHeartbeats 4000000 in
theorem back_any (w : World) (T : Nat → Prop) (tb lb : Nat) (ps : List (Nat × List UInt8)) (mark : Int) (M : Nat) (h : TxP w T tb lb ps) (hM : max mark 0 = (M : Int)) (hm : M < ps.length) (hn : ps.length ≤ 900000) :
    Calls Tryz.prog 17 #[ptr tb, .int .i64 mark] w fun e w' => e = .returned (.tuple #[]) ∧ ∃ T', TxP w' T' tb lb (ps.take M) ∧ Moved T w T' w' := by
  have HP := Lib.hid h
  obtain ⟨mb, vp, vb, hx⟩ := h
  obtain ⟨o, co, hvp, _, hol, hoc⟩ := Own.form hx.op (by omega)
  obtain ⟨ob, cb, hvb, _, hbl, hbc⟩ := Own.form hx.ob (by rw [Tx.befs_length]; omega)
  rw [Tx.befs_length] at hvb hbc
  subst hvp hvb
  have HX := Lib.hid hx
  have HM := Lib.hid (And.intro hm hn)
  have hmI : ¬ (ps.length : Int) ≤ M := by omega
  have c1 := hx.c1
  clear hx
  go_enter Tryz.func17, Tryz.ntmps17
  go_wp2_with fail
  refine (mark_any w T tb lb ps HP.out).mono ?_
  rintro e w1 ⟨rfl, rfl⟩
  unfold ptr
  go_wp2
  have hdec : decide (ps.length ≤ M) = false := decide_eq_false (by omega)
  rw [hdec]
  clear hdec
  go_loopw [4] (fun i wr => ∃ (k : Nat) (z : Int), z + 1 = k ∧ M ≤ k ∧ k ≤ ps.length ∧ i = .int .i64 z ∧ Hid (TxIn wr T tb lb mb (.slice (some ⟨o, 0, none⟩) ps.length co) (.slice (some ⟨ob, 0, none⟩) ps.length cb) ps (Tx.befs ps) (Tx.lasts (ps.take k)) ∧ Moved T w1 T wr)) (fun i _ => (Go.RowKit.intOf i + 1).toNat)
  case atStart => exact ⟨ps.length, (ps.length : Int) - 1, by omega, by omega, Nat.le_refl _, by first | rfl | go_num, Lib.hid ⟨by rw [List.take_length]; exact HX.out, Moved.refl _ _⟩⟩
  case round =>
    obtain ⟨k, z, hz, hk1, hk2, rfl, hS⟩ := hrel
    by_cases hlt : M < k
    · obtain ⟨j, rfl⟩ : ∃ j, k = j + 1 := ⟨k - 1, by omega⟩
      obtain rfl : z = (j : Int) := by omega
      have hj : j < ps.length := by omega
      have hMj : (M : Int) ≤ j := by omega
      have hjI : (j : Int) < ps.length := by omega
      have d1 := hS.out.1.c1
      have d2 := hS.out.1.c2
      have e1 := (OwnP.at hS.out.1.op j hj).1
      have e2 := OwnN.at hS.out.1.ob j (by rw [Tx.befs_length]; exact hj)
      obtain ⟨bv, hbv⟩ : ∃ b, b = (Tx.befs ps)[j]'(by rw [Tx.befs_length]; exact hj) := ⟨_, rfl⟩
      obtain ⟨pa, hpa⟩ : ∃ a, a = (ps[j]).1 := ⟨_, rfl⟩
      rw [← hbv] at e2
      rw [← hpa] at e1
      have HG := Lib.hid (show Calls Tryz.prog 51 #[.pointer (some ⟨tb, 0, none⟩), .int .i64 pa, .int .i64 bv] wr.drew fun e w' => e = .returned (.tuple #[]) ∧ TxIn w' T tb lb mb (.slice (some ⟨o, 0, none⟩) ps.length co) (.slice (some ⟨ob, 0, none⟩) ps.length cb) ps (Tx.befs ps) (Tx.lasts (ps.take j)) ∧ Moved T wr.drew T w' by
        rw [hpa]
        exact giveBack_any wr.drew T tb lb mb _ _ ps _ j hj (hS.out.1.but ((But.refl (fun _ => False) wr).drew) (fun _ _ h => h)) bv (by rw [hbv, Tx.befs_at]) HM.out.2)
      have HEq := Lib.hid (And.intro hbv hpa)
      have HJ := Lib.hid hj
      have HMj := Lib.hid hlt
      have d1d : wr.drew.cell? ⟨tb, 1, none⟩ = some (.slice (some ⟨o, 0, none⟩) ps.length co) := d1
      have d2d : wr.drew.cell? ⟨tb, 2, none⟩ = some (.slice (some ⟨ob, 0, none⟩) ps.length cb) := d2
      have e1d : wr.drew.cell? ⟨o, j * 2, none⟩ = some (.int .i64 pa) := e1
      have e2d : wr.drew.cell? ⟨ob, j, none⟩ = some (.int .i64 bv) := e2
      clear hbv hpa hz hk1 hk2 hlt d1 d2 e1 e2 c1 hm hmI
      go_wp2
      go_region_held3 (fun w' => w'.cell? ⟨tb, 1, none⟩ = some (.slice (some ⟨o, 0, none⟩) ps.length co) ∧ w'.cell? ⟨tb, 2, none⟩ = some (.slice (some ⟨ob, 0, none⟩) ps.length cb) ∧ w'.cell? ⟨o, j * 2, none⟩ = some (.int .i64 pa) ∧ w'.cell? ⟨ob, j, none⟩ = some (.int .i64 bv))
        (first
          | (exact ⟨d1d, d2d, e1d, e2d⟩)
          | (exact ⟨s1, s2, s3, s4⟩)
          | go_keep)
        (first
          | (go_at_call 51; refine HG.out.mono ?_; rintro e w3 ⟨rfl, h3, m3⟩; have s1 := h3.c1; have s2 := h3.c2; have s3 := (OwnP.at h3.op j HJ.out).1; rw [← HEq.out.2] at s3; have s4 := OwnN.at h3.ob j (by rw [Tx.befs_length]; exact HJ.out); rw [← HEq.out.1] at s4; have H3 := Lib.hid (show TxIn w3 T tb lb mb (.slice (some ⟨o, 0, none⟩) ps.length co) (.slice (some ⟨ob, 0, none⟩) ps.length cb) ps (Tx.befs ps) (Tx.lasts (ps.take j)) ∧ Moved T w1 T w3 from ⟨h3, hS.out.2.trans ((show Moved T wr T wr.drew from ⟨(But.refl T wr).drew, fun _ h => .inl h⟩).trans m3)⟩); clear h3 m3))
      clear s1 s2 s3 s4 d1d d2d e1d e2d
      go_wp2
      go_roundw
      case rel => exact ⟨j, (j : Int) - 1, by omega, by have := HMj.out; omega, by have := HJ.out; omega, by first | rfl | go_num, H3⟩
      case measure => simp [Go.RowKit.intOf]
    · have hkM : k = M := by omega
      rw [hkM] at hS
      have hzM : ¬ (M : Int) ≤ z := by omega
      have HZ := Lib.hid (And.intro hz hkM)
      clear hz hkM hk1 hk2 hlt c1 hm hmI
      have d1d : wr.drew.cell? ⟨tb, 1, none⟩ = some (.slice (some ⟨o, 0, none⟩) ps.length co) := hS.out.1.c1
      have HD := Lib.hid (delete_any wr.drew o ps.length co M ps (show OwnP 0 wr.drew (.slice (some ⟨o, 0, none⟩) ps.length co) ps from hS.out.1.op) HM.out.1)
      go_wp2_with (refine wp_region_any (by kernel_rfl) ?_; refine Hid.out ?_)
      refine Lib.hid ?_
      try (change wpAny _ _ _ _ _ _ _ (World.drew _))
      refine wpAny_take (i := 0) (v := ?_) (by simp only [List.getElem?_toArray, List.getElem?_cons_zero]; exact rfl) (by kernel_rfl) (by kernel_rfl) (by kernel_rfl) (by exact fun _ _ _ h => h) (Or.inl ⟨by rfl, ?_⟩) ?_
      rotate_left
      · intro w; go_simp; try with_reducible rfl
      refine wpAny_take (i := 1) (v := ?_) (by simp only [List.getElem?_toArray, List.getElem?_cons_succ, List.getElem?_cons_zero]; exact rfl) (by kernel_rfl) (by kernel_rfl) (by kernel_rfl) (by exact fun _ _ _ h => h) (Or.inl ⟨by rfl, ?_⟩) ?_
      rotate_left
      · intro w; go_simp; try with_reducible rfl
      refine wpAny_take (i := 2) (v := ?_) (by simp only [List.getElem?_toArray, List.getElem?_cons_succ, List.getElem?_cons_zero]; exact rfl) (by kernel_rfl) (by kernel_rfl) (by kernel_rfl) (by exact fun _ _ _ h => h) (Or.inl ⟨by rfl, ?_⟩) ?_
      rotate_left
      · intro w; go_simp; try with_reducible rfl
      refine wpAny_take (i := 3) (v := ?_) (by simp only [List.getElem?_toArray, List.getElem?_cons_succ, List.getElem?_cons_zero]; exact rfl) (by kernel_rfl) (by kernel_rfl) (by kernel_rfl) (by exact fun _ _ _ h => h) (Or.inl ⟨by rfl, ?_⟩) ?_
      rotate_left
      · intro w; go_simp; try with_reducible rfl
      refine wpAny_take (i := 5) (v := ?_) (by simp only [List.getElem?_toArray, List.getElem?_cons_succ, List.getElem?_cons_zero]; exact rfl) (by kernel_rfl) (by kernel_rfl) (by kernel_rfl) (by exact fun _ _ _ h => h) (Or.inl ⟨by rfl, ?_⟩) ?_
      rotate_left
      · intro w; go_simp; try with_reducible rfl
      refine wpAny_take (i := 6) (v := ?_) (by simp only [List.getElem?_toArray, List.getElem?_cons_succ, List.getElem?_cons_zero]; exact rfl) (by kernel_rfl) (by kernel_rfl) (by kernel_rfl) (by exact fun _ _ _ h => h) (Or.inl ⟨by rfl, ?_⟩) ?_
      rotate_left
      · intro w; go_simp; try with_reducible rfl
      refine wpAny_take (i := 7) (v := ?_) (by simp only [List.getElem?_toArray, List.getElem?_cons_succ, List.getElem?_cons_zero]; exact rfl) (by kernel_rfl) (by kernel_rfl) (by kernel_rfl) (by exact fun _ _ _ h => h) (Or.inl ⟨by rfl, ?_⟩) ?_
      rotate_left
      · intro w; go_simp; try with_reducible rfl
      refine wpAny_take (i := 8) (v := ?_) (by simp only [List.getElem?_toArray, List.getElem?_cons_succ, List.getElem?_cons_zero]; exact rfl) (by kernel_rfl) (by kernel_rfl) (by kernel_rfl) (by exact fun _ _ _ h => h) (Or.inl ⟨by rfl, ?_⟩) ?_
      rotate_left
      · intro w; go_simp; try with_reducible rfl
      refine wpAny_ready (rs := [4, 9]) (by kernel_rfl) (by simp) ?_
      refine AllReady.cons rfl (fun K hK => ?_) (AllReady.cons rfl (fun K hK => ?_) AllReady.nil)
      focus (
        go_simp
        refine hK _ _ ?_; clear hK K
        refine wpAny_ready (rs := [9]) (by kernel_rfl) (by simp) ?_
        refine AllReady.cons rfl (fun K hK => ?_) AllReady.nil
        go_simp
        refine hK _ _ ?_; clear hK K
        refine wpAny_take (i := 10) (v := ?_) (by simp only [List.getElem?_toArray, List.getElem?_cons_succ, List.getElem?_cons_zero]; exact rfl) (by kernel_rfl) (by kernel_rfl) (by kernel_rfl) (by exact fun _ _ _ h => h) (Or.inl ⟨by rfl, ?_⟩) ?_
        rotate_left
        · intro w; go_simp; try with_reducible rfl
      )
      rotate_left
      focus (
        go_simp
        refine hK _ _ ?_; clear hK K
        refine wpAny_take (i := 10) (v := ?_) (by simp only [List.getElem?_toArray, List.getElem?_cons_succ, List.getElem?_cons_zero]; exact rfl) (by kernel_rfl) (by kernel_rfl) (by kernel_rfl) (by exact fun _ _ _ h => h) (Or.inl ⟨by rfl, ?_⟩) ?_
        rotate_left
        · intro w; go_simp; try with_reducible rfl
        refine wpAny_ready (rs := [4]) (by kernel_rfl) (by simp) ?_
        refine AllReady.cons rfl (fun K hK => ?_) AllReady.nil
        go_simp
        refine hK _ _ ?_; clear hK K
      )
      all_goals (
        refine wpAny_ready (rs := [11]) (by kernel_rfl) (by simp) ?_
        refine AllReady.cons rfl (fun K hK => ?_) AllReady.nil
        go_simp
        refine HD.out.mono ?_; rintro e w5 ⟨rfl, h5, hb5⟩
        refine hK _ _ ?_; clear hK K
        have hbw : But (fun k => k = o) wr w5 := ((But.refl (fun k => k = o) wr).drew).trans hb5 (fun _ _ e => e)
        have hx5 := hS.out.1.puts' (W := wr) (Below.refl _ _) h5 ⟨hbw.os, hbw.tape, hbw.output, hbw.size, fun k hk hn => hbw.block k hk (fun e => hn (by rw [e]; rfl))⟩ (.inl rfl) (fun p hp => HX.out.small p (List.mem_of_mem_take hp))
        have hblk : Blk w5 tb 96 [ptr lb, .slice (some ⟨o, 0, none⟩) ps.length co, .slice (some ⟨ob, 0, none⟩) ps.length cb, .map (some mb)] := hS.out.1.blk.but hbw (fun e => hS.out.1.pne (by rw [e]; rfl))
        have s1 := hblk.cell (j := 1) rfl
        have s2 := hblk.frozen 1
        have H5 := Lib.hid hx5
        clear h5 hb5 hbw hx5
        refine wpAny_take (i := 12) (v := ?_) (by simp only [List.getElem?_toArray, List.getElem?_cons_succ, List.getElem?_cons_zero]; exact rfl) (by kernel_rfl) (by kernel_rfl) (by kernel_rfl) (by exact fun _ _ _ h => h) (Or.inl ⟨by rfl, ?_⟩) ?_
        rotate_left
        · intro w; go_simp; try with_reducible rfl
        refine wpAny_take (i := 13) (v := ?_) (by simp only [List.getElem?_toArray, List.getElem?_cons_succ, List.getElem?_cons_zero]; exact rfl) (by kernel_rfl) (by kernel_rfl) (by kernel_rfl) (by exact fun _ _ _ h => h) (Or.inl ⟨by rfl, ?_⟩) ?_
        rotate_left
        · intro w; go_simp; try with_reducible rfl
        refine wpAny_ready (rs := [14]) (by kernel_rfl) (by simp) ?_
        refine AllReady.cons rfl (fun K hK => ?_) AllReady.nil
        go_simp
        refine hK _ _ ?_; clear hK K
        refine wpAny_done (by kernel_rfl) ?_ _
        clear s1 s2 d1d
        obtain ⟨w6, hw6⟩ : ∃ w6, w6 = w5.setCell ⟨tb, 1, none⟩ (.slice (some ⟨o, 0, none⟩) M co) := ⟨_, rfl⟩
        rw [← hw6] at H5 ⊢
        obtain ⟨T5, H6⟩ : ∃ T5, Hid (TxIn w6 T5 tb lb mb (.slice (some ⟨o, 0, none⟩) M co) (.slice (some ⟨ob, 0, none⟩) ps.length cb) (ps.take M) (Tx.befs ps) (Tx.lasts (ps.take M)) ∧ Moved T wr T5 w6) := ⟨_, H5⟩
        have t2 := H6.out.1.c2
        have t3 := H6.out.1.blk.frozen 2
        have hMc : M ≤ cb := by have := HM.out.1; omega
        have hML : M ≤ ps.length := by have := HM.out.1; omega
        clear hw6 H5 hblk
        go_wp2
        refine bodyPost_end (results_none rfl _ _ _) rfl ?_
        have ho7 := Own.upto H6.out.1.ob M (by rw [Tx.befs_length]; exact hML)
        rw [Tx.befs_take ps M hML] at ho7
        have H7 := H6.out.1.befs' (W := w6) (Below.refl _ _) ho7 ⟨rfl, rfl, rfl, Nat.le_refl _, fun _ _ _ => rfl⟩ (.inl rfl)
        exact ⟨rfl, _, ⟨mb, _, _, H7.1⟩, hS.out.2.trans (H6.out.2.trans H7.2)⟩
      )
end Go.Proofs.YtahnhhhhfioibaaGreatDoor

namespace Go.Proofs.YtahnhhhhfioibaaGreatDoor
open Go.RowKit Lib

def Chg (w0 : World) (Z : Nat → Option Obj) (ring g N lb tb : Nat) (H : List Wl.Text) (ps : List (Nat × List UInt8)) (V : Value) (L : List Wl.Text) (X : World) : Prop :=
  ∃ A T, Kept A ring X lb g N H ∧ TxP X T tb lb ps ∧ (∀ k, T k → A k) ∧ (∀ k, k < w0.heap.size → A k) ∧ (∀ k, T k → w0.heap.size ≤ k) ∧ Below w0.heap.size w0 X ∧ OwnS w0.heap.size X V L ∧ (∀ k, V.ownBlock = some k → A k ∧ ¬ T k) ∧ ∀ x o, Z x = some o → A x ∧ ¬ T x ∧ X.heap[x]? = some o
section
variable {w0 X X' : World} {Z : Nat → Option Obj} {ring g N lb tb : Nat} {H H' : List Wl.Text} {ps ps' : List (Nat × List UInt8)} {V : Value} {L : List Wl.Text} {A T T' : Nat → Prop}
theorem Kept.moved (h : Kept A ring X lb g N H) (hT : ∀ k, T k → A k) (hM : Moved T X T' X') (hlt : ∀ k, T' k → k < X'.heap.size) : Kept (fun k => A k ∨ T' k) ring X' lb g N H := by
  obtain ⟨F, s, hl, hv, hf, ha, hlA⟩ := h
  refine ⟨F, s, hl.but hM.1 (fun k hk hn => ha k hk (hT k hn)), hv, hf, fun x hx hn => ?_, fun x hx => hx.elim (fun h => Nat.lt_of_lt_of_le (hlA x h) hM.1.size) (hlt x)⟩
  rcases hn with hn | hn
  · exact ha x hx hn
  · rcases hM.2 x hn with h1 | h1
    · exact ha x hx (hT x h1)
    · have := hl.lt x hx; omega
theorem chg_step (hk : Kept A ring X lb g N H) (hT : ∀ k, T k → A k) (h1 : ∀ k, k < w0.heap.size → A k) (h2 : ∀ k, T k → w0.heap.size ≤ k) (hb : Below w0.heap.size w0 X) (ho : OwnS w0.heap.size X V L) (hV : ∀ k, V.ownBlock = some k → A k ∧ ¬ T k) (hZ : ∀ x o, Z x = some o → A x ∧ ¬ T x ∧ X.heap[x]? = some o) (hM : Moved T X T' X') (hx : TxP X' T' tb lb ps') : Chg w0 Z ring g N lb tb H ps' V L X' :=
  ⟨fun k => A k ∨ T' k, T', hk.moved hT hM hx.lt, hx, fun k hk => .inr hk, fun k hk => .inl (h1 k hk), fun k hk => (hM.2 k hk).elim (h2 k) (fun h => Nat.le_trans hb.size h),
    hb.trans (hM.1.below hb.size (fun k hk hn => by have := h2 k hn; omega)), Own.but ho hM.1 (fun k hk => (hV k hk).2), fun k hk => ⟨.inl (hV k hk).1, fun hn => (hM.2 k hn).elim (hV k hk).2 (fun h => by have := (Own.block ho k hk).2; omega)⟩,
    fun x o hz => by
      obtain ⟨z1, z2, z3⟩ := hZ x o hz
      have hlt := (Array.getElem?_eq_some_iff.1 z3).1
      exact ⟨.inl z1, fun hn => (hM.2 x hn).elim z2 (fun h => by omega), (hM.1.block x hlt z2).trans z3⟩⟩
theorem Chg.still (h : Chg w0 Z ring g N lb tb H ps V L X) (hb : Below X.heap.size X X') : Chg w0 Z ring g N lb tb H ps V L X' := by
  obtain ⟨A, T, hk, hx, hT, h1, h2, hbl, ho, hV, hZ⟩ := h
  exact ⟨A, T, hk.aside hb, hx.below hb, hT, h1, h2, hbl.trans (hb.mono hbl.size), Own.but ho (But.of_below hb (fun _ => False)) (fun _ _ h => h), hV, fun x o hz => ⟨(hZ x o hz).1, (hZ x o hz).2.1, (hb.block x (Array.getElem?_eq_some_iff.1 (hZ x o hz).2.2).1).trans (hZ x o hz).2.2⟩⟩
theorem Chg.below (h : Chg w0 Z ring g N lb tb H ps V L X) : Below w0.heap.size w0 X := by
  obtain ⟨A, T, hk, hx, hT, h1, h2, hbl, ho, hV, hZ⟩ := h
  exact hbl
theorem Chg.own (h : Chg w0 Z ring g N lb tb H ps V L X) : OwnS w0.heap.size X V L := by
  obtain ⟨A, T, hk, hx, hT, h1, h2, hbl, ho, hV, hZ⟩ := h
  exact ho
/-- A row that is new, in the row's place. -/
theorem Chg.row (h : Chg w0 Z ring g N lb tb H ps V L X) {V' : Value} {L' : List Wl.Text} (hb : Below X.heap.size X X') (ho' : OwnS X.heap.size X' V' L') : Chg w0 Z ring g N lb tb H ps V' L' X' := by
  obtain ⟨A, T, hk, hx, hT, h1, h2, hbl, _, _, hZ⟩ := h
  obtain ⟨F, s, hl, hv, hf, ha, hlA⟩ := hk
  have hx' := hx.below hb
  refine ⟨fun k => A k ∨ V'.ownBlock = some k, T, ⟨F, s, hl.below hb, hv, hf, fun x hx hn => ?_, fun x hx => hx.elim (fun h => Nat.lt_of_lt_of_le (hlA x h) hb.size) (fun e => (Own.block ho' x e).2)⟩, hx', fun k hk => .inl (hT k hk), fun k hk => .inl (h1 k hk), h2, hbl.trans (hb.mono hbl.size), Own.mono ho' hbl.size, fun k hk => ⟨.inr hk, fun hn => ?_⟩, fun x o hz => ⟨.inl (hZ x o hz).1, (hZ x o hz).2.1, (hb.block x (Array.getElem?_eq_some_iff.1 (hZ x o hz).2.2).1).trans (hZ x o hz).2.2⟩⟩
  · rcases hn with hn | hn
    · exact ha x hx hn
    · have := (Own.block ho' x hn).1; have := hl.lt x hx; omega
  · have := (Own.block ho' k hk).1; have := hx.lt k hn; omega
/-- A block that is new is held from here on. -/
theorem Chg.held (h : Chg w0 Z ring g N lb tb H ps V L X) (o : Obj) {q : Nat} (hq : X.heap.size = q) : Chg w0 (fun x => if x = q then some o else Z x) ring g N lb tb H ps V L (X.alloc o) := by
  have hb : Below X.heap.size X (X.alloc o) := (Below.refl _ _).alloc (Nat.le_refl _) _
  obtain ⟨A, T, hk, hx, hT, h1, h2, hbl, ho, hV, hZ⟩ := h
  obtain ⟨F, s, hl, hv, hf, ha, hlA⟩ := hk
  refine ⟨fun x => A x ∨ x = q, T, ⟨F, s, hl.below hb, hv, hf, fun x hx' hn => ?_, fun x hx' => ?_⟩, hx.below hb, fun k hk => .inl (hT k hk), fun k hk => .inl (h1 k hk), h2, hbl.trans (hb.mono hbl.size), Own.but ho (But.of_below hb (fun _ => False)) (fun _ _ h => h), fun k hk => ⟨.inl (hV k hk).1, (hV k hk).2⟩, fun x o' hz => ?_⟩
  · rcases hn with hn | hn
    · exact ha x hx' hn
    · have := hl.lt x hx'; omega
  · rcases hx' with hx' | hx'
    · exact Nat.lt_of_lt_of_le (hlA x hx') hb.size
    · rw [World.size_alloc]; omega
  · have hz : (if x = q then some o else Z x) = some o' := hz
    by_cases e : x = q
    · rw [if_pos e] at hz
      injection hz with hz
      subst hz e
      exact ⟨.inr rfl, fun hn => by have := hx.lt _ hn; omega, by rw [← hq]; exact heap_alloc_new X o⟩
    · rw [if_neg e] at hz
      exact ⟨.inl (hZ x o' hz).1, (hZ x o' hz).2.1, (hb.block x (Array.getElem?_eq_some_iff.1 (hZ x o' hz).2.2).1).trans (hZ x o' hz).2.2⟩
theorem Chg.less {Z' : Nat → Option Obj} (h : Chg w0 Z ring g N lb tb H ps V L X) (hZ' : ∀ x o, Z' x = some o → Z x = some o) : Chg w0 Z' ring g N lb tb H ps V L X := by
  obtain ⟨A, T, hk, hx, hT, h1, h2, hbl, ho, hV, hZ⟩ := h
  exact ⟨A, T, hk, hx, hT, h1, h2, hbl, ho, hV, fun x o hz => hZ x o (hZ' x o hz)⟩
theorem Chg.holds (h : Chg w0 Z ring g N lb tb H ps V L X) {q : Nat} {o : Obj} (hz : Z q = some o) : X.heap[q]? = some o := by
  obtain ⟨A, T, hk, hx, hT, h1, h2, hbl, ho, hV, hZ⟩ := h
  exact (hZ q o hz).2.2
theorem chg_begin (hk : Kept A ring X lb g N H) (h1 : ∀ k, k < w0.heap.size → A k) (hb : Below w0.heap.size w0 X) :
    Calls Tryz.prog 10 #[ptr lb] X fun e X' => ∃ tb, e = .returned (ptr tb) ∧ Chg w0 (fun _ => none) ring g N lb tb H [] (.slice none 0 0) [] X' := by
  refine (begin_any5 X lb).mono ?_
  rintro e X' ⟨tb, T, rfl, hx, hT, hb'⟩
  refine ⟨tb, rfl, fun k => A k ∨ T k, T, ?_, hx, fun k hk => .inr hk, fun k hk => .inl (h1 k hk), fun k hk => Nat.le_trans hb.size (hT k hk), hb.trans (hb'.mono hb.size), Own.nil _ _ _ _, fun k hk => (by simp [Value.ownBlock] at hk), fun x o hz => by cases hz⟩
  obtain ⟨F, s, hl, hv, hf, ha, hlA⟩ := hk
  refine ⟨F, s, hl.below hb', hv, hf, fun x hx hn => ?_, fun x hx' => hx'.elim (fun h => Nat.lt_of_lt_of_le (hlA x h) hb'.size) (hx.lt x)⟩
  rcases hn with hn | hn
  · exact ha x hx hn
  · have := hT x hn; have := hl.lt x hx; omega
theorem chg_write (h : Chg w0 Z ring g N lb tb H ps V L X) (i : Nat) (s : ByteArray) (hi : i < H.length) (hn : H.length ≤ 65536) (hs : s.size ≤ 512) (hp : ps.length ≤ 900000) :
    Calls Tryz.prog 13 #[ptr tb, .int .i64 i, .string s] X fun e X' => e = .returned (.int .i64 0) ∧ Chg w0 Z ring g N lb tb H (ps ++ [(i, s.data.toList)]) V L X' := by
  obtain ⟨A, T, hk, hx, hT, h1, h2, hbl, ho, hV, hZ⟩ := h
  refine (txwrite_ok X T tb lb H.length ps i s hx hk.awake hi hn hs hp).mono ?_
  rintro e X' ⟨rfl, T', hx', hM⟩
  exact ⟨rfl, chg_step hk hT h1 h2 hbl ho hV hZ hM hx'⟩
theorem chg_write_no (h : Chg w0 Z ring g N lb tb H ps V L X) (i : Int) (s : ByteArray) (c : Int) (hc : (c = 2 ∧ (i < 0 ∨ (H.length : Int) ≤ i)) ∨ (c = 5 ∧ 0 ≤ i ∧ i < H.length ∧ 512 < s.size)) :
    Calls Tryz.prog 13 #[ptr tb, .int .i64 i, .string s] X fun e X' => e = .returned (.int .i64 c) ∧ Chg w0 Z ring g N lb tb H ps V L X' := by
  have h' := h
  obtain ⟨A, T, hk, hx, hT, h1, h2, hbl, ho, hV, hZ⟩ := h
  refine (txwrite_no X T tb lb H.length ps i s hx hk.awake c hc).mono ?_
  rintro e X' ⟨rfl, rfl⟩
  exact ⟨rfl, h'⟩
theorem chg_read (h : Chg w0 Z ring g N lb tb H ps V L X) (i : Nat) (hi : i < H.length) (hn : H.length ≤ 65536) :
    Calls Tryz.prog 14 #[ptr tb, .int .i64 i] X fun e X' => e = .returned (.tuple #[.string (bs (homeOf (Wl.along H (Tx.psI ps)) i).1), .int .i64 0]) ∧ Chg w0 Z ring g N lb tb H ps V L X' ∧ Below X.heap.size X X' := by
  have h' := h
  obtain ⟨A, T, hk, hx, hT, h1, h2, hbl, ho, hV, hZ⟩ := h
  refine (txread_any X T A tb lb ring g N H ps i hx hk hi hn).mono ?_
  rintro e X' ⟨rfl, hb⟩
  exact ⟨rfl, h'.still hb, hb⟩
theorem chg_mark (h : Chg w0 Z ring g N lb tb H ps V L X) :
    Calls Tryz.prog 16 #[ptr tb] X fun e X' => e = .returned (.int .i64 ps.length) ∧ X' = X := by
  obtain ⟨A, T, hk, hx, _⟩ := h
  exact mark_any X T tb lb ps hx
theorem chg_touched (h : Chg w0 Z ring g N lb tb H ps V L X) :
    Calls Tryz.prog 22 #[ptr tb] X fun e X' => e = .returned (.int .i64 (Tx.lasts ps).length) ∧ X' = X := by
  obtain ⟨A, T, hk, hx, _⟩ := h
  exact touched_any X T tb lb ps hx
theorem chg_back (h : Chg w0 Z ring g N lb tb H ps V L X) (M : Nat) (hp : ps.length ≤ 900000) :
    Calls Tryz.prog 17 #[ptr tb, .int .i64 M] X fun e X' => e = .returned (.tuple #[]) ∧ Chg w0 Z ring g N lb tb H (ps.take M) V L X' := by
  have h' := h
  obtain ⟨A, T, hk, hx, hT, h1, h2, hbl, ho, hV, hZ⟩ := h
  by_cases hM : M < ps.length
  · refine (back_any X T tb lb ps M M hx (by omega) hM hp).mono ?_
    rintro e X' ⟨rfl, T', hx', hMv⟩
    exact ⟨rfl, chg_step hk hT h1 h2 hbl ho hV hZ hMv hx'⟩
  · refine (back_none X T tb lb ps M hx (by omega)).mono ?_
    rintro e X' ⟨rfl, rfl⟩
    rw [List.take_of_length_le (by omega)]
    exact ⟨rfl, h'⟩
theorem chg_drop (h : Chg w0 Z ring g N lb tb H ps V L X) :
    Calls Tryz.prog 21 #[ptr tb] X fun e X' => e = .returned (.tuple #[]) ∧ Chg w0 Z ring g N lb tb H [] V L X' := by
  obtain ⟨A, T, hk, hx, hT, h1, h2, hbl, ho, hV, hZ⟩ := h
  refine (drop_any X T tb lb ps hx).mono ?_
  rintro e X' ⟨rfl, T', hx', hM⟩
  exact ⟨rfl, chg_step hk hT h1 h2 hbl ho hV hZ hM hx'⟩
theorem chg_commit (h : Chg w0 Z ring g N lb tb H ps V L X) (hN : N + 1 < 1000000) :
    Calls Tryz.prog 20 #[ptr tb] X fun e X' => e = .returned (.int .i64 (Wl.comm ring H (Tx.psI ps)).1) ∧ Chg w0 Z ring g (N + 1) lb tb (Wl.comm ring H (Tx.psI ps)).2 (if (Wl.comm ring H (Tx.psI ps)).1 = 0 then [] else ps) V L X' := by
  obtain ⟨A, T, hk, hx, hT, h1, h2, hbl, ho, hV, hZ⟩ := h
  refine (txcommit_any X T A tb lb ring g N H ps hx hk hT hN).mono ?_
  rintro e X' ⟨rfl, T', w1, hx', hk1, ho1, hM⟩
  exact ⟨rfl, chg_step hk1 hT h1 h2 (hbl.trans (Off.below ho1 h1 hbl.size)) (Own.but ho ho1 (fun k hk hn => hn (hV k hk).1)) hV (fun x o hz => ⟨(hZ x o hz).1, (hZ x o hz).2.1, (ho1.block x (Array.getElem?_eq_some_iff.1 (hZ x o hz).2.2).1 (fun hn => hn (hZ x o hz).1)).trans (hZ x o hz).2.2⟩) hM hx'⟩
theorem chg_log (h : Chg w0 Z ring g N lb tb H ps V L X) (i : Int) :
    Calls Tryz.prog 25 #[ptr lb, .int .i64 i] X fun e X' => e = .returned (.tuple #[.string (bs (homeOf H i).1), .int .i64 (homeOf H i).2]) ∧ Chg w0 Z ring g N lb tb H ps V L X' ∧ Below X.heap.size X X' := by
  have h' := h
  obtain ⟨A, T, hk, _⟩ := h
  refine (kept_read hk i).mono ?_
  rintro e X' ⟨rfl, hb⟩
  exact ⟨rfl, h'.still hb, hb⟩
end
end Go.Proofs.YtahnhhhhfioibaaGreatDoor

namespace Go.Proofs.YtahnhhhhfioibaaGreatDoor
open Go.RowKit Go.Maps Lib

theorem ent_far (x : Nat × List UInt8) (z : Int) (h : (x.1 : Int) ≠ z) : (ent x).1.sameKey (.int .i64 z) = false := by
  simp only [ent, Lit.sameKey, true_and]
  exact decide_eq_false h
theorem far_at {m : Wl.Grp} {z : Int} (h : ∀ x ∈ m, (x.1 : Int) ≠ z) (y : DataW Unit) : (dat m).atKey (.int .i64 z) y = y := by
  have : (m.map ent).find? (fun p => p.1.sameKey (.int .i64 z)) = none := by
    rw [List.find?_eq_none]
    intro p hp
    obtain ⟨x, hx, rfl⟩ := List.mem_map.1 hp
    rw [ent_far x z (h x hx)]; decide
  unfold dat DataW.atKey
  simp only
  rw [this]
theorem far_has {m : Wl.Grp} {z : Int} (h : ∀ x ∈ m, (x.1 : Int) ≠ z) : Maps.has (dat m) (.int .i64 z) = false := by
  show (m.map ent).any (fun p => p.1.sameKey (.int .i64 z)) = false
  rw [List.any_eq_false]
  intro p hp
  obtain ⟨x, hx, rfl⟩ := List.mem_map.1 hp
  rw [ent_far x z (h x hx)]; decide
theorem far_wf {z : Int} (h : -9223372036854775808 ≤ z ∧ z ≤ 9223372036854775807) : (Lit.int .i64 z).wf = true := by
  simp [Lit.wf, IntKind.min, IntKind.max, IntKind.signed, IntKind.bits]
  omega
theorem IMap.look_out {P : Program} {T E K : TypeId} {M : ME} {w : World} {b : Nat} {m : Wl.Grp} (h : IMap P K M w b m) (hk : P.underlying K = some (.int .i64)) (ht : P.underlying T = some (.map K E)) {z : List UInt8} (hz : (zeroValue E).run P w = .ok (M.enc z) w) (hzf : M.fits z)
    {k : Int} (hkw : -9223372036854775808 ≤ k ∧ k ≤ 9223372036854775807) (hl : ∀ x ∈ m, (x.1 : Int) ≠ k) : (Instr.lookup T (.map (some b)) (.int .i64 k) true).run P w = .ok (.tuple #[M.enc z, .bool false]) w := by
  obtain ⟨v, ps, hr, hv⟩ := h.1.look_ok (int_keyed hk) ht hz (M.read z hzf) (keyOf_int_mk hk (far_wf hkw))
  rw [far_at hl] at hv
  rw [far_has hl] at hr
  obtain ⟨l, rfl, hf, he⟩ := M.inv _ _ hv
  injection he with he _
  injection he with he
  injection he with he
  subst he
  exact hr
theorem NMap.look_out {w : World} {b : Nat} {m : Wl.Grp} (h : NMap w b m) {z : Int} (hz : -9223372036854775808 ≤ z ∧ z ≤ 9223372036854775807) (hl : ∀ x ∈ m, (x.1 : Int) ≠ z) :
    (Instr.lookup 94 (.map (some b)) (.int .i64 z) true).run Tryz.prog w = .ok (.tuple #[.int .i64 0, .bool false]) w :=
  IMap.look_out (M := numE) h underInt underNMap (zero_int w) rfl hz hl
set_option maxRecDepth 100000 in
set_option maxHeartbeats 4000000 in
theorem txread_out (w : World) (T A : Nat → Prop) (tb lb ring g N : Nat) (H : List Wl.Text) (ps : List (Nat × List UInt8)) (i : Int) (h : TxP w T tb lb ps) (hk : Kept A ring w lb g N H) (hi : i < 0 ∨ (H.length : Int) ≤ i) (hr : -9223372036854775808 ≤ i ∧ i ≤ 9223372036854775807) (hs : ∀ p ∈ ps, p.1 < H.length) :
    Calls Tryz.prog 14 #[ptr tb, .int .i64 i] w fun e w' => e = .returned (.tuple #[.string ⟨#[]⟩, .int .i64 2]) ∧ Below w.heap.size w w' := by
  have HP := Lib.hid h
  have HK := Lib.hid hk
  obtain ⟨mb, vp, vb, hx⟩ := h
  have HX := Lib.hid hx
  have HZ := Lib.hid (show homeOf H i = ([], 2) by unfold homeOf; rw [if_neg (by omega)])
  have hfar : ∀ x ∈ Tx.lasts ps, (x.1 : Int) ≠ i := by
    intro x hx e
    rcases Tx.lasts_look x.1 ps with ⟨h1, _⟩ | ⟨k, hk, _, h2, _⟩
    · exact Wl.look_none.1 h1 x hx rfl
    · have := hs _ (List.getElem_mem hk)
      omega
  have hlk := NMap.look_out HX.out.mp hr hfar
  have c0 := HX.out.c0
  have c3 := HX.out.c3
  clear hx hk hfar
  go_enter Tryz.func14, Tryz.ntmps14
  go_wp2_with fail
  refine (isDown_any w T tb lb H.length ps HP.out HK.out.awake).mono ?_
  rintro e w1 ⟨rfl, rfl⟩
  unfold ptr
  go_wp2_with fail
  refine (kept_read HK.out i).mono ?_
  rintro e w2 ⟨rfl, hb⟩
  rw [HZ.out]
  have HB := Lib.hid hb
  clear hb hlk c0 c3
  go_wp2
  go_ret2
  exact ⟨rfl, HB.out⟩
end Go.Proofs.YtahnhhhhfioibaaGreatDoor

namespace Go.Proofs.YtahnhhhhfioibaaGreatDoor
open Go.RowKit Lib

def C1 (R : Nat → Prop) (ring g N lb tb : Nat) (H : List Wl.Text) (ps : List (Nat × List UInt8)) (X : World) : Prop :=
  ∃ A T, Kept A ring X lb g N H ∧ TxP X T tb lb ps ∧ (∀ k, T k → A k) ∧ ∀ k, R k → A k ∧ ¬ T k
section
variable {X X' : World} {R R' S : Nat → Prop} {ring g N lb tb : Nat} {H H' : List Wl.Text} {ps ps' : List (Nat × List UInt8)} {A T T' : Nat → Prop}
theorem C1.lt (h : C1 R ring g N lb tb H ps X) : ∀ k, R k → k < X.heap.size := by
  obtain ⟨A, T, ⟨F, s, hl, hv, hf, ha, hlA⟩, x, a, hR⟩ := h
  exact fun k hk => hlA k (hR k hk).1
/-- The caller's own stores, and its new blocks. -/
theorem C1.turn (h : C1 R ring g N lb tb H ps X) (hb : But S X X') (hS : ∀ k, k < X.heap.size → S k → R k) (hR' : ∀ k, R' k → R k ∨ (X.heap.size ≤ k ∧ k < X'.heap.size)) : C1 R' ring g N lb tb H ps X' := by
  obtain ⟨A, T, ⟨F, s, hl, hv, hf, ha, hlA⟩, x, a, hR⟩ := h
  have hb' : But R X X' := hb.mono hS
  refine ⟨fun k => A k ∨ (X.heap.size ≤ k ∧ k < X'.heap.size), T, ⟨F, s, hl.but hb' (fun k hk hn => ha k hk (hR k hn).1), hv, hf, fun x hx hn => ?_, fun x hx => hx.elim (fun h => Nat.lt_of_lt_of_le (hlA x h) hb.size) (fun h => h.2)⟩, x.but hb' (fun k hk hn => (hR k hn).2 hk), fun k hk => .inl (a k hk), fun k hk => ?_⟩
  · rcases hn with hn | hn
    · exact ha x hx hn
    · have := hl.lt x hx; omega
  · rcases hR' k hk with h | h
    · exact ⟨.inl (hR k h).1, (hR k h).2⟩
    · exact ⟨.inr h, fun ht => by have := x.lt k ht; omega⟩
theorem C1.still (h : C1 R ring g N lb tb H ps X) (hb : Below X.heap.size X X') : C1 R ring g N lb tb H ps X' :=
  h.turn (But.of_below hb (fun _ => False)) (fun _ _ h => h.elim) (fun _ hk => .inl hk)
theorem C1.less (h : C1 R ring g N lb tb H ps X) (hR' : ∀ k, R' k → R k) : C1 R' ring g N lb tb H ps X :=
  h.turn (But.refl (fun _ => False) X) (fun _ _ h => h.elim) (fun k hk => .inl (hR' k hk))
theorem c1_step (hk : Kept A ring X lb g N H) (a : ∀ k, T k → A k) (hR : ∀ k, R k → A k ∧ ¬ T k) (hM : Moved T X T' X') (hx : TxP X' T' tb lb ps') :
    C1 R ring g N lb tb H ps' X' ∧ But (fun k => ¬ R k) X X' := by
  have hlt : ∀ k, A k → k < X.heap.size := by
    obtain ⟨F, s, hl, hv, hf, ha, hlA⟩ := hk
    exact hlA
  refine ⟨⟨fun k => A k ∨ T' k, T', hk.moved a hM hx.lt, hx, fun k hk => .inr hk, fun k hk => ⟨.inl (hR k hk).1, fun ht => ?_⟩⟩, hM.1.mono (fun k _ h1 hr => (hR k hr).2 h1)⟩
  rcases hM.2 k ht with h | h
  · exact (hR k hk).2 h
  · have := hlt k (hR k hk).1; omega
theorem c1_begin (hk : Kept A ring X lb g N H) :
    Calls Tryz.prog 10 #[ptr lb] X fun e X' => ∃ tb, e = .returned (ptr tb) ∧ C1 A ring g N lb tb H [] X' ∧ Below X.heap.size X X' := by
  refine (begin_any5 X lb).mono ?_
  rintro e X' ⟨tb, T, rfl, hx, hT, hb'⟩
  obtain ⟨F, s, hl, hv, hf, ha, hlA⟩ := hk
  refine ⟨tb, rfl, ⟨fun k => A k ∨ T k, T, ⟨F, s, hl.below hb', hv, hf, fun x hx hn => ?_, fun x hx' => hx'.elim (fun h => Nat.lt_of_lt_of_le (hlA x h) hb'.size) (hx.lt x)⟩, hx, fun k h => .inr h, fun k hk => ⟨.inl hk, fun ht => ?_⟩⟩, hb'⟩
  · rcases hn with hn | hn
    · exact ha x hx hn
    · have := hT x hn; have := hl.lt x hx; omega
  · have := hT k ht; have := hlA k hk; omega
theorem c1_write (h : C1 R ring g N lb tb H ps X) (i : Nat) (s : ByteArray) (hi : i < H.length) (hn : H.length ≤ 65536) (hs : s.size ≤ 512) (hp : ps.length ≤ 900000) :
    Calls Tryz.prog 13 #[ptr tb, .int .i64 i, .string s] X fun e X' => e = .returned (.int .i64 0) ∧ C1 R ring g N lb tb H (ps ++ [(i, s.data.toList)]) X' ∧ But (fun k => ¬ R k) X X' := by
  obtain ⟨A, T, hk, x, a, hR⟩ := h
  refine (txwrite_ok X T tb lb H.length ps i s x hk.awake hi hn hs hp).mono ?_
  rintro e X' ⟨rfl, T', hx', hM⟩
  exact ⟨rfl, c1_step hk a hR hM hx'⟩
theorem c1_write_no (h : C1 R ring g N lb tb H ps X) (i : Int) (s : ByteArray) (c : Int) (hc : (c = 2 ∧ (i < 0 ∨ (H.length : Int) ≤ i)) ∨ (c = 5 ∧ 0 ≤ i ∧ i < H.length ∧ 512 < s.size)) :
    Calls Tryz.prog 13 #[ptr tb, .int .i64 i, .string s] X fun e X' => e = .returned (.int .i64 c) ∧ X' = X := by
  obtain ⟨A, T, hk, x, a, hR⟩ := h
  exact txwrite_no X T tb lb H.length ps i s x hk.awake c hc
theorem c1_read (h : C1 R ring g N lb tb H ps X) (i : Nat) (hi : i < H.length) (hn : H.length ≤ 65536) :
    Calls Tryz.prog 14 #[ptr tb, .int .i64 i] X fun e X' => e = .returned (.tuple #[.string (bs ((Wl.along H (Tx.psI ps)).getD i [])), .int .i64 0]) ∧ Below X.heap.size X X' := by
  obtain ⟨A, T, hk, x, _⟩ := h
  have hj : i < (Wl.along H (Tx.psI ps)).length := by rw [Wl.along_length]; omega
  refine (txread_any X T A tb lb ring g N H ps i x hk hi hn).mono ?_
  rintro e X' ⟨rfl, hb⟩
  refine ⟨?_, hb⟩
  rw [homeOf_at hj, List.getD_eq_getElem?_getD, List.getElem?_eq_getElem hj, Option.getD_some]
theorem c1_read_no (h : C1 R ring g N lb tb H ps X) (i : Int) (hi : i < 0 ∨ (H.length : Int) ≤ i) (hr : -9223372036854775808 ≤ i ∧ i ≤ 9223372036854775807) (hs : ∀ p ∈ ps, p.1 < H.length) :
    Calls Tryz.prog 14 #[ptr tb, .int .i64 i] X fun e X' => e = .returned (.tuple #[.string ⟨#[]⟩, .int .i64 2]) ∧ Below X.heap.size X X' := by
  obtain ⟨A, T, hk, x, _⟩ := h
  exact txread_out X T A tb lb ring g N H ps i x hk hi hr hs
theorem c1_homes (h : C1 R ring g N lb tb H ps X) :
    Calls Tryz.prog 24 #[ptr tb] X fun e X' => e = .returned (.int .i64 H.length) ∧ X' = X := by
  obtain ⟨A, T, hk, x, _⟩ := h
  exact txhomes_any X T tb lb H.length ps x hk.awake
theorem c1_drop (h : C1 R ring g N lb tb H ps X) :
    Calls Tryz.prog 21 #[ptr tb] X fun e X' => e = .returned (.tuple #[]) ∧ C1 R ring g N lb tb H [] X' ∧ But (fun k => ¬ R k) X X' := by
  obtain ⟨A, T, hk, x, a, hR⟩ := h
  refine (drop_any X T tb lb ps x).mono ?_
  rintro e X' ⟨rfl, T', hx', hM⟩
  exact ⟨rfl, c1_step hk a hR hM hx'⟩
theorem c1_commit (h : C1 R ring g N lb tb H ps X) (hN : N + 1 < 1000000) :
    Calls Tryz.prog 20 #[ptr tb] X fun e X' => e = .returned (.int .i64 (Wl.comm ring H (Tx.psI ps)).1) ∧ C1 R ring g (N + 1) lb tb (Wl.comm ring H (Tx.psI ps)).2 (if (Wl.comm ring H (Tx.psI ps)).1 = 0 then [] else ps) X' ∧ But (fun k => ¬ R k) X X' := by
  obtain ⟨A, T, hk, x, a, hR⟩ := h
  refine (txcommit_any X T A tb lb ring g N H ps x hk a hN).mono ?_
  rintro e X' ⟨rfl, T', w1, hx', hk1, ho1, hM⟩
  obtain ⟨h1, h2⟩ := c1_step (R := R) hk1 a hR hM hx'
  exact ⟨rfl, h1, (ho1.mono (fun k _ hn hr => hn (hR k hr).1)).trans h2 (fun k _ hr => hr)⟩
end
end Go.Proofs.YtahnhhhhfioibaaGreatDoor

namespace Go.Proofs.YtahnhhhhfioibaaGreatDoor
open Go.RowKit Lib

theorem aw6_home : homeOf (Wl.along (Wl.noughts 11) (Tx.psI [(1, [97])])) 1 = (Dk.full [97], 0) := by rfl
theorem aw6_home2 : homeOf (Dk.puts (Wl.noughts 11) [(1, Dk.full [97])]) 1 = (Dk.full [97], 0) := by rfl
theorem aw6_text : (bs (Dk.full [97])).extract 0 2 = ⟨#[97, 0]⟩ := by rw [ext_take]; rfl
theorem aw6_comm : Wl.comm 8 (Wl.noughts 11) (Tx.psI [(1, [97])]) = (0, Dk.puts (Wl.noughts 11) [(1, Dk.full [97])]) :=
  comm_one (by decide) 1 (by simp [Wl.noughts]) [97] (by decide)
set_option maxRecDepth 100000 in
set_option maxHeartbeats 4000000 in
theorem awake6_any (w : World) : Calls Tryz.prog 7 #[] w fun e w' => e = .returned (.bool true) ∧ Below w.heap.size w w' := by
  go_enter Tryz.func7, Tryz.ntmps7
  go_wp2_with fail
  refine (new_any 20 w (by decide) (by decide)).mono ?_
  rintro e w1 ⟨g, FD, rfl, hd1, hF, hb1⟩
  have H1 := Lib.hid (And.intro hd1 (And.intro hF hb1))
  clear hd1 hF hb1
  go_wp2_with fail
  refine (kept_begun (A := fun x => x < w.heap.size) (ring := 8) (size := 20) H1.out.1 (fun x hx hn => by have := H1.out.2.1 x hx; omega) (fun x hx => by have := H1.out.2.2.size; omega) (by decide) (by decide) (by decide) (by decide)).mono ?_
  rintro e w2 ⟨b, rfl, hk2, ho2⟩
  have H2 := Lib.hid (show Kept (fun x => x < w.heap.size) 8 w2 b g 1 (Wl.noughts 11) ∧ Below w.heap.size w w2 from ⟨hk2, H1.out.2.2.trans (Off.below ho2 (fun x hx => hx) H1.out.2.2.size)⟩)
  clear hk2 ho2
  have hn11 : (Wl.noughts 11).length = 11 := by simp [Wl.noughts]
  have HN := Lib.hid hn11
  clear hn11
  go_wp2_with fail
  refine (chg_begin H2.out.1 (fun k hk => hk) H2.out.2).mono ?_
  rintro e w3 ⟨tb, rfl, h3⟩
  have H3 := Lib.hid h3
  clear h3
  go_wp2_with fail
  refine (chg_write H3.out 1 ⟨#[97]⟩ (by rw [HN.out]; decide) (by rw [HN.out]; decide) (by decide) (by decide)).mono ?_
  rintro e w4 ⟨rfl, h4⟩
  have H4 := Lib.hid (show Chg w (fun _ => none) 8 g 1 b tb (Wl.noughts 11) [(1, [97])] (.slice none 0 0) [] w4 from h4)
  clear h4
  go_wp2_with fail
  refine (chg_mark H4.out).mono ?_
  rintro e w5 ⟨rfl, rfl⟩
  go_wp2_with fail
  refine (chg_write H4.out 1 ⟨#[98]⟩ (by rw [HN.out]; decide) (by rw [HN.out]; decide) (by decide) (by decide)).mono ?_
  rintro e w6 ⟨rfl, h6⟩
  have H6 := Lib.hid (show Chg w (fun _ => none) 8 g 1 b tb (Wl.noughts 11) [(1, [97]), (1, [98])] (.slice none 0 0) [] w6 from h6)
  clear h6
  go_wp2_with fail
  refine (chg_back H6.out 1 (by decide)).mono ?_
  rintro e w7 ⟨rfl, h7⟩
  have H7 := Lib.hid (show Chg w (fun _ => none) 8 g 1 b tb (Wl.noughts 11) [(1, [97])] (.slice none 0 0) [] w7 from h7)
  clear h7
  go_wp2_with fail
  refine (chg_read H7.out 1 (by rw [HN.out]; decide) (by rw [HN.out]; decide)).mono ?_
  rintro e w8 ⟨rfl, h8, -⟩
  have H8 := Lib.hid h8
  clear h8
  rw [show homeOf (Wl.along (Wl.noughts 11) (Tx.psI [(1, [97])])) ((1 : Nat) : Int) = (Dk.full [97], 0) from aw6_home]
  go_wp2_with fail
  refine (chg_commit H8.out (by decide)).mono ?_
  rintro e w9 ⟨rfl, h9⟩
  rw [aw6_comm] at h9 ⊢
  have H9 := Lib.hid h9
  clear h9
  go_wp2_with fail
  refine (chg_log H9.out 1).mono ?_
  rintro e w10 ⟨rfl, h10, -⟩
  have H10 := Lib.hid h10
  clear h10
  rw [aw6_home2]
  have hx := aw6_text
  have hs : (bs (Dk.full [97])).size = 512 := by rw [bs_size]; exact Dk.full_length _ (by decide)
  generalize bs (Dk.full [97]) = S at *
  have hsI : (2 : Int) ≤ S.size := by omega
  go_wp2
  go_ret
  exact ⟨rfl, H10.out.below⟩
end Go.Proofs.YtahnhhhhfioibaaGreatDoor
