/- Elder texts, merged (8). -/
import Derived.Test.YtobmjcfemjpgcaaDoorG7
import Derived.Lib.SliceRun
import Derived.Test.YtobmjcfemjpgcaaDoorG6
namespace Go.Proofs.YtobmjcfemjpgcaaDoor
open Go.RowKit Lib

section
variable {α : Type} {K : Elem α} {P : Program} {E T B : Nat} {w : World} {l : List α}
/-- A row's beginning. -/
theorem Own.upto {g n cap : Nat} (h : Own K E B w (.slice (some ⟨g, 0, none⟩) n cap) l) (k : Nat) (hk : k ≤ l.length) : Own K E B w (.slice (some ⟨g, 0, none⟩) k cap) (l.take k) := by
  have hl : (l.take k).length = k := by rw [List.length_take, Nat.min_eq_left hk]
  refine ⟨by rw [K.cells_length], ?_⟩
  rcases h.2 with ⟨e, _⟩ | ⟨g', cap', cur, e, hB, hh, hc, hm, hs, ht⟩
  · cases e
  · injection e with e1 e2 e3
    injection e1 with e1
    injection e1 with e1
    subst e1 e2 e3
    refine .inr ⟨g, cap, cur, by rw [hl], hB, hh, by rw [hl]; omega, hm, hs, ?_⟩
    rw [hl, K.cells_take, ← ht, List.take_take, Nat.min_eq_left (Nat.mul_le_mul_right _ hk)]
/-- What is stored behind a row's elements. -/
theorem Own.behind {g n cap : Nat} (h : Own K E B w (.slice (some ⟨g, 0, none⟩) n cap) l) (j : Nat) (u : Value) (hj : l.length * K.size ≤ j) : Own K E B (w.setCell ⟨g, j, none⟩ u) (.slice (some ⟨g, 0, none⟩) n cap) l := by
  refine ⟨h.1, ?_⟩
  rcases h.2 with ⟨e, _⟩ | ⟨g', cap', cur, e, hB, hh, hc, hm, hs, ht⟩
  · cases e
  · injection e with e1 e2 e3
    injection e1 with e1
    injection e1 with e1
    subst e1 e2 e3
    refine .inr ⟨g, cap, cur.setIfInBounds j u, rfl, hB, heap_setCell_same w g j cur E u hh, hc, hm, by rw [Array.size_setIfInBounds]; exact hs, ?_⟩
    rw [Array.toList_setIfInBounds, List.take_set_of_le hj]
    exact ht
theorem Own.cleared {g n cap : Nat} : ∀ (vs : List Value) (w : World) (j : Nat), Own K E B w (.slice (some ⟨g, 0, none⟩) n cap) l → l.length * K.size ≤ j → Own K E B (w.setCells g j vs) (.slice (some ⟨g, 0, none⟩) n cap) l ∧ But (fun k => k = g) w (w.setCells g j vs)
  | [], w, _, h, _ => ⟨h, But.refl _ _⟩
  | v :: vs, w, j, h, hj => by
    have := Own.cleared vs (w.setCell ⟨g, j, none⟩ v) (j + 1) (Own.behind h j v hj) (by omega)
    exact ⟨this.1, ((But.refl (fun k => k = g) w).setCell ⟨g, j, none⟩ v (fun _ => rfl)).trans this.2 (fun _ _ e => e)⟩
theorem Own.spare {g n cap : Nat} (h : Own K E B w (.slice (some ⟨g, 0, none⟩) n cap) l) (j : Nat) (hj : j < cap * K.size) : (w.cell? ⟨g, j, none⟩).isSome = true ∧ w.frozen? ⟨g, j, none⟩ = false := by
  rcases h.2 with ⟨e, _⟩ | ⟨g', cap', cur, e, hB, hh, hc, hm, hs, ht⟩
  · cases e
  · injection e with e1 e2 e3
    injection e1 with e1
    injection e1 with e1
    subst e1 e2 e3
    have hjc : j < cur.size := by omega
    constructor
    · simp [World.cell?, hh, hjc]
    · simp [World.frozen?, hh]
/-- append of nothing. -/
theorem wp_app_zero (ST : SliceT P T E K.size) {o : Oper} {a : Act} {K' : Act → World → Prop} {Q : Exit → Act → World → Prop} (s x : Operand)
    (ho : o.op = .call { callee := .builtin .append, args := #[s, x], argTypes := #[T, T] }) (g k cap : Nat)
    (hs : a.eval s = .slice (some ⟨g, 0, none⟩) k cap) (hown : Own K E B w (.slice (some ⟨g, 0, none⟩) k cap) l) (hk : k = l.length) (hx : ∃ ad c, a.eval x = .slice (some ad) 0 c) (hc : k ≤ cap)
    (h : ∀ w', Own K E B w' (.slice (some ⟨g, 0, none⟩) k cap) l → w.grownBy w' (some g) → K' (a.put o.dst (.slice (some ⟨g, 0, none⟩) k cap)) w') : o.wp P a w K' Q := by
  obtain ⟨i, z, hi, hz, hsize, hzs, hby⟩ := ST.info
  obtain ⟨ad, c, hx⟩ := hx
  subst hk
  obtain ⟨w', hr, h2, h3⟩ := run_append_fits (P := P) (w := w) (ty := o.type) B T E i K.size ST.under hi hsize g l.length cap (K.cells l) hown ad 0 c [] (by simp) (fun j u hu => by cases hu) (fun u hu => by cases hu) (by omega)
  unfold Oper.wp execOp
  simp only [ho, resolve, invoke, builtin, Sem.run_bind, Sem.run_pure, Result.andThen_ok, List.map_toArray, List.map_cons, List.map_nil, hs, hx, hr]
  refine h w' ?_ h3
  rw [List.append_nil] at h2
  exact h2
end
theorem put_zero (w : World) : (zeroValue 35).run Tryd.prog w = .ok (.agg #[.int .i64 0, .string .empty]) w := by kernel_rfl
theorem run_clear_puts (w : World) (o k cap : Nat) (ps : List (Nat × List UInt8)) (h : OwnP 0 w (.slice (some ⟨o, 0, none⟩) k cap) ps) (d : Nat) (hk : k + d ≤ cap) (hd : 0 < d) :
    ∃ vs, ∀ (c : Nat) (ty : TypeId), (Builtin.clear_ #[22] ty #[.slice (some ⟨o, k * 2, none⟩) d c]).run Tryd.prog w = .ok (.tuple #[]) (w.setCells o (k * 2) vs) := by
  obtain ⟨z, hz⟩ : ∃ z, z = (Builtin.zeroCells (Value.agg #[Value.int .i64 0, .string ⟨#[]⟩]).cells d).toList := ⟨_, rfl⟩
  have hz' : z = (Builtin.zeroCells #[Value.int .i64 0, .string ⟨#[]⟩] d).toList := hz
  have hzl : z.length = d * 2 := by rw [hz']; simp [Builtin.zeroCells]
  have hz1 : ∀ v ∈ z, v.oneCell' = true := by
    intro v hv
    rw [hz'] at hv
    simp only [Builtin.zeroCells, Array.toList_map, List.mem_map] at hv
    obtain ⟨i, _, rfl⟩ := hv
    have : i % 2 = 0 ∨ i % 2 = 1 := by omega
    rcases this with e | e <;> simp [e] <;> rfl
  refine ⟨z, fun c ty => ?_⟩
  have hst := run_storeCells_cells (P := Tryd.prog) o (k * 2) z 0 w
    (fun j hj => by rw [Nat.add_zero]; exact (Own.spare h (k * 2 + j) (by show _ < cap * 2; omega)).1)
    (fun j hj => by rw [Nat.add_zero]; exact (Own.spare h (k * 2 + j) (by show _ < cap * 2; omega)).2) hz1
  simp only [Nat.add_zero] at hst
  obtain ⟨m, rfl⟩ : ∃ m, d = m + 1 := ⟨d - 1, by omega⟩
  simp [Builtin.clear_, run_underlying Tryd.underlying22, ← hz, hst]
end Go.Proofs.YtobmjcfemjpgcaaDoor

namespace Go.Proofs.YtobmjcfemjpgcaaDoor
open Go.RowKit Go.Maps Lib

theorem Kept.awake {A : Nat → Prop} {ring b g N : Nat} {H : List Wl.Text} {w : World} (h : Kept A ring w b g N H) : Awake w b H.length := by
  obtain ⟨F, s, hl, hv, _⟩ := h
  exact ⟨F, g, s, hl, hv.off_eq, hv.homes_eq⟩
set_option maxRecDepth 100000 in
theorem txread_any (w : World) (T A : Nat → Prop) (tb lb ring g N : Nat) (H : List Wl.Text) (ps : List (Nat × List UInt8)) (i : Nat) (h : TxP w T tb lb ps) (hk : Kept A ring w lb g N H) (hi : i < H.length) (hn : H.length ≤ 65536) :
    Calls Tryd.prog 91 #[ptr tb, .int .i64 i] w fun e w' => e = .returned (.tuple #[.string (bs (homeOf (Wl.along H (Tx.psI ps)) i).1), .int .i64 0]) ∧ Below w.heap.size w w' := by
  have HP := Lib.hid h
  have HK := Lib.hid hk
  have hal : i < (Wl.along H (Tx.psI ps)).length := by rw [Wl.along_length]; exact hi
  have hho := homeOf_at hal
  obtain ⟨mb, vp, vb, hx⟩ := h
  obtain ⟨ap, cp, hvp, _⟩ := Own.slice hx.op
  subst hvp
  have HX := Lib.hid hx
  rcases Tx.now_at H ps hi with ⟨h1, h2⟩ | ⟨k, hkl, h1, h2⟩
  · have HE := Lib.hid (show homeOf (Wl.along H (Tx.psI ps)) i = homeOf H i by
      rw [hho, homeOf_at hi]
      rw [List.getElem?_eq_getElem hal, List.getElem?_eq_getElem hi] at h2
      injection h2 with h2
      rw [h2])
    have HZ := Lib.hid (show (homeOf H i).2 = 0 by rw [homeOf_at hi])
    have hlk := NMap.look_none HX.out.mp (by omega) h1
    have c0 := HX.out.c0
    have c3 := HX.out.c3
    rw [HE.out]
    clear h1 h2 hho hx hk
    go_enter Tryd.func91, Tryd.ntmps91
    go_wp2_with fail
    refine (isDown_any w T tb lb H.length ps HP.out HK.out.awake).mono ?_
    rintro e w1 ⟨rfl, rfl⟩
    unfold ptr
    go_wp2_with fail
    refine (kept_read HK.out (i : Int)).mono ?_
    rintro e w2 ⟨rfl, hb⟩
    rw [HZ.out]
    have HB := Lib.hid hb
    clear hb hlk c0 c3
    go_wp2
    go_ret2
    exact ⟨rfl, HB.out⟩
  · have HE := Lib.hid (show homeOf (Wl.along H (Tx.psI ps)) i = (Dk.full (ps[k]).2, 0) by
      rw [hho]
      rw [List.getElem?_eq_getElem hal] at h2
      injection h2 with h2
      rw [h2])
    have hlk := NMap.look_some HX.out.mp (by omega) h1
    have c1 := HX.out.c1
    have c3 := HX.out.c3
    obtain ⟨o, co, e1, _, _, _⟩ := Own.form HX.out.op (by omega)
    injection e1 with e1 _ e3
    subst e1 e3
    have cx := (OwnP.at HX.out.op k hkl).2
    have hsz := (HX.out.small ps[k] (List.getElem_mem hkl)).2
    have hkI : (k : Int) < ps.length := by omega
    rw [HE.out]
    clear h1 h2 hho hx hk
    generalize ps[k] = x at *
    obtain ⟨at_, t⟩ := x
    simp only at cx hsz ⊢
    have HSz := Lib.hid hsz
    clear hsz
    go_enter Tryd.func91, Tryd.ntmps91
    go_wp2_with fail
    refine (isDown_any w T tb lb H.length ps HP.out HK.out.awake).mono ?_
    rintro e w1 ⟨rfl, rfl⟩
    unfold ptr
    go_wp2_with fail
    refine (filled_any (bs t) w1 (by rw [bs_size]; exact HSz.out)).mono ?_
    rintro e w2 ⟨rfl, hb⟩
    rw [bs_list]
    have HB := Lib.hid hb
    clear hb hlk c1 c3 cx
    go_wp2
    go_ret2
    exact ⟨rfl, HB.out⟩
/-- The change's puts, as a list of puts that is only read. -/
def putsD (ps : List (Nat × List UInt8)) : List PutD := ps.map fun p => ((p.1 : Int), bs p.2)
theorem OwnP.rdP {B : Nat} {w : World} {v : Value} {ps : List (Nat × List UInt8)} (h : OwnP B w v ps) (hs : ∀ p ∈ ps, p.1 ≤ 65536 ∧ p.2.length ≤ 512) : RdP w v (putsD ps) := by
  obtain ⟨a, cap, e, hc⟩ := Own.slice h
  have hm := Own.len_le h
  refine ⟨a, cap, by rw [e, putsD, List.length_map], by rw [putsD, List.length_map]; exact hc, by rw [putsD, List.length_map]; exact hm, fun i hi => ?_⟩
  have hi' : i < ps.length := by rwa [putsD, List.length_map] at hi
  have hsm := hs ps[i] (List.getElem_mem hi')
  refine ⟨by simp only [putsD, List.getElem_map]; omega, ?_⟩
  obtain ⟨o, co, e', hB, ho, _⟩ := Own.form h (by omega)
  rw [e] at e'
  injection e' with e1 _ e3
  subst e1 e3 e
  refine ⟨o, 0, rfl, ho, fun j hj => ?_⟩
  have hj' : j < ps.length := by rwa [putsD, List.length_map] at hj
  have := OwnP.at h j hj'
  simp only [putsD, List.getElem_map, Nat.zero_add]
  exact this
theorem putsD_pts (v : Value) (ps : List (Nat × List UInt8)) : ptsL [(v, putsD ps)] = Tx.psI ps := by
  unfold ptsL putsD Tx.psI pts
  simp only [List.map_cons, List.map_nil, List.flatten_cons, List.flatten_nil, List.append_nil, List.map_map]
  exact List.map_congr_left fun p _ => by simp [pt, bs_list]
theorem RdL.hand5 (w : World) (v : Value) (l : List PutD) (h : RdP w v l) :
    RdL (w.alloc (.cells #[v] 22)) (.slice (some ⟨w.heap.size, 0, none⟩) 1 1) [(v, l)] := by
  have q1 := h.below ((Below.refl _ _).alloc (Nat.le_refl _) (.cells #[v] 22))
  have hbl := Blk.new w #[v] 22
  refine ⟨_, 1, rfl, Nat.le_refl _, by simp, fun i hi => ⟨?_, w.heap.size, 0, rfl, hbl.lt, fun j hj => ?_⟩⟩
  · obtain rfl : i = 0 := by simpa using hi
    exact q1
  · obtain rfl : j = 0 := by simpa using hj
    exact hbl.cell rfl
/-- Commit of a change: the log's, of its puts; then there are none, if it was OK. -/
def TxDone (T A : Nat → Prop) (tb lb ring g N : Nat) (H : List Wl.Text) (ps : List (Nat × List UInt8)) (w w' : World) (e : Ending) : Prop :=
  e = .returned (.int .i64 (Wl.comm ring H (Tx.psI ps)).1) ∧ ∃ T' w1, TxP w' T' tb lb (if (Wl.comm ring H (Tx.psI ps)).1 = 0 then [] else ps) ∧ Kept A ring w1 lb g (N + 1) (Wl.comm ring H (Tx.psI ps)).2 ∧ Off A w w1 ∧ Moved T w1 T' w'
end Go.Proofs.YtobmjcfemjpgcaaDoor

namespace Go.Proofs.YtobmjcfemjpgcaaDoor
open Go.RowKit Go.Maps Go.ChangeMaps Lib

theorem numV_un5 (k : Nat) : numE.enc (Tx.un k) = .int .i64 (k : Int) := by show Value.int .i64 ((Tx.un k).length : Nat) = _; rw [Tx.un_length]
theorem dat_del (k : Nat) (m : Wl.Grp) : (dat m).del (.int .i64 k) = dat (Tx.del k m) := by
  show DataW.map _ = DataW.map _
  congr 1
  show (m.map ent).filter _ = (Tx.del k m).map ent
  unfold Tx.del
  induction m with
  | nil => rfl
  | cons x m ih =>
    rw [List.map_cons, List.filter_cons, List.filter_cons, ent_same]
    by_cases h : x.1 = k
    · rw [decide_eq_true h, if_neg (by simp), if_neg (by simp [h])]; exact ih
    · rw [decide_eq_false h, if_pos (by simp), if_pos (by simpa using h), List.map_cons, ih]
theorem But.ofTurned {w w' : World} {b : Nat} (h : w.mapTurned w' b) : But (fun k => k = b) w w' := by
  obtain ⟨es, clock, es', clock', h1, rfl⟩ := h
  exact ⟨rfl, rfl, rfl, by simp [setBlock], fun k hk hn => heap_setBlock_other h1 _ hn⟩
end Go.Proofs.YtobmjcfemjpgcaaDoor

namespace Go.Proofs.YtobmjcfemjpgcaaDoor
open Go.RowKit Lib

def Chg (w0 : World) (Z : Nat → Option Obj) (ring g N lb tb : Nat) (H : List Wl.Text) (ps : List (Nat × List UInt8)) (V : Value) (L : List Wl.Text) (X : World) : Prop :=
  ∃ A T, Kept A ring X lb g N H ∧ TxP X T tb lb ps ∧ (∀ k, T k → A k) ∧ (∀ k, k < w0.heap.size → A k) ∧ (∀ k, T k → w0.heap.size ≤ k) ∧ Below w0.heap.size w0 X ∧ OwnS w0.heap.size X V L ∧ (∀ k, V.ownBlock = some k → A k ∧ ¬ T k) ∧ ∀ x o, Z x = some o → A x ∧ ¬ T x ∧ X.heap[x]? = some o
section
variable {w0 X X' : World} {Z : Nat → Option Obj} {ring g N lb tb : Nat} {H H' : List Wl.Text} {ps ps' : List (Nat × List UInt8)} {V : Value} {L : List Wl.Text} {A T T' : Nat → Prop}
theorem Kept.moved (h : Kept A ring X lb g N H) (hT : ∀ k, T k → A k) (hM : Moved T X T' X') (hlt : ∀ k, T' k → k < X'.heap.size) : Kept (fun k => A k ∨ T' k) ring X' lb g N H := by
  obtain ⟨F, s, hl, hv, hf, ha, hlA⟩ := h
  refine ⟨F, s, hl.but hM.1 (fun k hk hn => ha k hk (hT k hn)), hv, hf, fun x hx hn => ?_, fun x hx => hx.elim (fun h => Nat.lt_of_lt_of_le (hlA x h) hM.1.size) (hlt x)⟩
  rcases hn with hn | hn
  · exact ha x hx hn
  · rcases hM.2 x hn with h1 | h1
    · exact ha x hx (hT x h1)
    · have := hl.lt x hx; omega
theorem chg_step (hk : Kept A ring X lb g N H) (hT : ∀ k, T k → A k) (h1 : ∀ k, k < w0.heap.size → A k) (h2 : ∀ k, T k → w0.heap.size ≤ k) (hb : Below w0.heap.size w0 X) (ho : OwnS w0.heap.size X V L) (hV : ∀ k, V.ownBlock = some k → A k ∧ ¬ T k) (hZ : ∀ x o, Z x = some o → A x ∧ ¬ T x ∧ X.heap[x]? = some o) (hM : Moved T X T' X') (hx : TxP X' T' tb lb ps') : Chg w0 Z ring g N lb tb H ps' V L X' :=
  ⟨fun k => A k ∨ T' k, T', hk.moved hT hM hx.lt, hx, fun k hk => .inr hk, fun k hk => .inl (h1 k hk), fun k hk => (hM.2 k hk).elim (h2 k) (fun h => Nat.le_trans hb.size h),
    hb.trans (hM.1.below hb.size (fun k hk hn => by have := h2 k hn; omega)), Own.but ho hM.1 (fun k hk => (hV k hk).2), fun k hk => ⟨.inl (hV k hk).1, fun hn => (hM.2 k hn).elim (hV k hk).2 (fun h => by have := (Own.block ho k hk).2; omega)⟩,
    fun x o hz => by
      obtain ⟨z1, z2, z3⟩ := hZ x o hz
      have hlt := (Array.getElem?_eq_some_iff.1 z3).1
      exact ⟨.inl z1, fun hn => (hM.2 x hn).elim z2 (fun h => by omega), (hM.1.block x hlt z2).trans z3⟩⟩
theorem Chg.still (h : Chg w0 Z ring g N lb tb H ps V L X) (hb : Below X.heap.size X X') : Chg w0 Z ring g N lb tb H ps V L X' := by
  obtain ⟨A, T, hk, hx, hT, h1, h2, hbl, ho, hV, hZ⟩ := h
  exact ⟨A, T, hk.aside hb, hx.below hb, hT, h1, h2, hbl.trans (hb.mono hbl.size), Own.but ho (But.of_below hb (fun _ => False)) (fun _ _ h => h), hV, fun x o hz => ⟨(hZ x o hz).1, (hZ x o hz).2.1, (hb.block x (Array.getElem?_eq_some_iff.1 (hZ x o hz).2.2).1).trans (hZ x o hz).2.2⟩⟩
theorem Chg.below (h : Chg w0 Z ring g N lb tb H ps V L X) : Below w0.heap.size w0 X := by
  obtain ⟨A, T, hk, hx, hT, h1, h2, hbl, ho, hV, hZ⟩ := h
  exact hbl
theorem Chg.own (h : Chg w0 Z ring g N lb tb H ps V L X) : OwnS w0.heap.size X V L := by
  obtain ⟨A, T, hk, hx, hT, h1, h2, hbl, ho, hV, hZ⟩ := h
  exact ho
/-- A row that is new, in the row's place. -/
theorem Chg.row (h : Chg w0 Z ring g N lb tb H ps V L X) {V' : Value} {L' : List Wl.Text} (hb : Below X.heap.size X X') (ho' : OwnS X.heap.size X' V' L') : Chg w0 Z ring g N lb tb H ps V' L' X' := by
  obtain ⟨A, T, hk, hx, hT, h1, h2, hbl, _, _, hZ⟩ := h
  obtain ⟨F, s, hl, hv, hf, ha, hlA⟩ := hk
  have hx' := hx.below hb
  refine ⟨fun k => A k ∨ V'.ownBlock = some k, T, ⟨F, s, hl.below hb, hv, hf, fun x hx hn => ?_, fun x hx => hx.elim (fun h => Nat.lt_of_lt_of_le (hlA x h) hb.size) (fun e => (Own.block ho' x e).2)⟩, hx', fun k hk => .inl (hT k hk), fun k hk => .inl (h1 k hk), h2, hbl.trans (hb.mono hbl.size), Own.mono ho' hbl.size, fun k hk => ⟨.inr hk, fun hn => ?_⟩, fun x o hz => ⟨.inl (hZ x o hz).1, (hZ x o hz).2.1, (hb.block x (Array.getElem?_eq_some_iff.1 (hZ x o hz).2.2).1).trans (hZ x o hz).2.2⟩⟩
  · rcases hn with hn | hn
    · exact ha x hx hn
    · have := (Own.block ho' x hn).1; have := hl.lt x hx; omega
  · have := (Own.block ho' k hk).1; have := hx.lt k hn; omega
/-- A block that is new is held from here on. -/
theorem Chg.held (h : Chg w0 Z ring g N lb tb H ps V L X) (o : Obj) {q : Nat} (hq : X.heap.size = q) : Chg w0 (fun x => if x = q then some o else Z x) ring g N lb tb H ps V L (X.alloc o) := by
  have hb : Below X.heap.size X (X.alloc o) := (Below.refl _ _).alloc (Nat.le_refl _) _
  obtain ⟨A, T, hk, hx, hT, h1, h2, hbl, ho, hV, hZ⟩ := h
  obtain ⟨F, s, hl, hv, hf, ha, hlA⟩ := hk
  refine ⟨fun x => A x ∨ x = q, T, ⟨F, s, hl.below hb, hv, hf, fun x hx' hn => ?_, fun x hx' => ?_⟩, hx.below hb, fun k hk => .inl (hT k hk), fun k hk => .inl (h1 k hk), h2, hbl.trans (hb.mono hbl.size), Own.but ho (But.of_below hb (fun _ => False)) (fun _ _ h => h), fun k hk => ⟨.inl (hV k hk).1, (hV k hk).2⟩, fun x o' hz => ?_⟩
  · rcases hn with hn | hn
    · exact ha x hx' hn
    · have := hl.lt x hx'; omega
  · rcases hx' with hx' | hx'
    · exact Nat.lt_of_lt_of_le (hlA x hx') hb.size
    · rw [World.size_alloc]; omega
  · have hz : (if x = q then some o else Z x) = some o' := hz
    by_cases e : x = q
    · rw [if_pos e] at hz
      injection hz with hz
      subst hz e
      exact ⟨.inr rfl, fun hn => by have := hx.lt _ hn; omega, by rw [← hq]; exact heap_alloc_new X o⟩
    · rw [if_neg e] at hz
      exact ⟨.inl (hZ x o' hz).1, (hZ x o' hz).2.1, (hb.block x (Array.getElem?_eq_some_iff.1 (hZ x o' hz).2.2).1).trans (hZ x o' hz).2.2⟩
theorem Chg.less {Z' : Nat → Option Obj} (h : Chg w0 Z ring g N lb tb H ps V L X) (hZ' : ∀ x o, Z' x = some o → Z x = some o) : Chg w0 Z' ring g N lb tb H ps V L X := by
  obtain ⟨A, T, hk, hx, hT, h1, h2, hbl, ho, hV, hZ⟩ := h
  exact ⟨A, T, hk, hx, hT, h1, h2, hbl, ho, hV, fun x o hz => hZ x o (hZ' x o hz)⟩
theorem Chg.holds (h : Chg w0 Z ring g N lb tb H ps V L X) {q : Nat} {o : Obj} (hz : Z q = some o) : X.heap[q]? = some o := by
  obtain ⟨A, T, hk, hx, hT, h1, h2, hbl, ho, hV, hZ⟩ := h
  exact (hZ q o hz).2.2
theorem chg_begin (hk : Kept A ring X lb g N H) (h1 : ∀ k, k < w0.heap.size → A k) (hb : Below w0.heap.size w0 X) :
    Calls Tryd.prog 15 #[ptr lb] X fun e X' => ∃ tb, e = .returned (ptr tb) ∧ Chg w0 (fun _ => none) ring g N lb tb H [] (.slice none 0 0) [] X' := by
  refine (begin_any5 X lb).mono ?_
  rintro e X' ⟨tb, T, rfl, hx, hT, hb'⟩
  refine ⟨tb, rfl, fun k => A k ∨ T k, T, ?_, hx, fun k hk => .inr hk, fun k hk => .inl (h1 k hk), fun k hk => Nat.le_trans hb.size (hT k hk), hb.trans (hb'.mono hb.size), Own.nil _ _ _ _, fun k hk => (by simp [Value.ownBlock] at hk), fun x o hz => by cases hz⟩
  obtain ⟨F, s, hl, hv, hf, ha, hlA⟩ := hk
  refine ⟨F, s, hl.below hb', hv, hf, fun x hx hn => ?_, fun x hx' => hx'.elim (fun h => Nat.lt_of_lt_of_le (hlA x h) hb'.size) (hx.lt x)⟩
  rcases hn with hn | hn
  · exact ha x hx hn
  · have := hT x hn; have := hl.lt x hx; omega
theorem chg_write (h : Chg w0 Z ring g N lb tb H ps V L X) (i : Nat) (s : ByteArray) (hi : i < H.length) (hn : H.length ≤ 65536) (hs : s.size ≤ 512) (hp : ps.length ≤ 900000) :
    Calls Tryd.prog 68 #[ptr tb, .int .i64 i, .string s] X fun e X' => e = .returned (.int .i64 0) ∧ Chg w0 Z ring g N lb tb H (ps ++ [(i, s.data.toList)]) V L X' := by
  obtain ⟨A, T, hk, hx, hT, h1, h2, hbl, ho, hV, hZ⟩ := h
  refine (txwrite_ok X T tb lb H.length ps i s hx hk.awake hi hn hs hp).mono ?_
  rintro e X' ⟨rfl, T', hx', hM⟩
  exact ⟨rfl, chg_step hk hT h1 h2 hbl ho hV hZ hM hx'⟩
theorem chg_write_no (h : Chg w0 Z ring g N lb tb H ps V L X) (i : Int) (s : ByteArray) (c : Int) (hc : (c = 2 ∧ (i < 0 ∨ (H.length : Int) ≤ i)) ∨ (c = 5 ∧ 0 ≤ i ∧ i < H.length ∧ 512 < s.size)) :
    Calls Tryd.prog 68 #[ptr tb, .int .i64 i, .string s] X fun e X' => e = .returned (.int .i64 c) ∧ Chg w0 Z ring g N lb tb H ps V L X' := by
  have h' := h
  obtain ⟨A, T, hk, hx, hT, h1, h2, hbl, ho, hV, hZ⟩ := h
  refine (txwrite_no X T tb lb H.length ps i s hx hk.awake c hc).mono ?_
  rintro e X' ⟨rfl, rfl⟩
  exact ⟨rfl, h'⟩
theorem chg_read (h : Chg w0 Z ring g N lb tb H ps V L X) (i : Nat) (hi : i < H.length) (hn : H.length ≤ 65536) :
    Calls Tryd.prog 91 #[ptr tb, .int .i64 i] X fun e X' => e = .returned (.tuple #[.string (bs (homeOf (Wl.along H (Tx.psI ps)) i).1), .int .i64 0]) ∧ Chg w0 Z ring g N lb tb H ps V L X' ∧ Below X.heap.size X X' := by
  have h' := h
  obtain ⟨A, T, hk, hx, hT, h1, h2, hbl, ho, hV, hZ⟩ := h
  refine (txread_any X T A tb lb ring g N H ps i hx hk hi hn).mono ?_
  rintro e X' ⟨rfl, hb⟩
  exact ⟨rfl, h'.still hb, hb⟩
theorem chg_log (h : Chg w0 Z ring g N lb tb H ps V L X) (i : Int) :
    Calls Tryd.prog 11 #[ptr lb, .int .i64 i] X fun e X' => e = .returned (.tuple #[.string (bs (homeOf H i).1), .int .i64 (homeOf H i).2]) ∧ Chg w0 Z ring g N lb tb H ps V L X' ∧ Below X.heap.size X X' := by
  have h' := h
  obtain ⟨A, T, hk, _⟩ := h
  refine (kept_read hk i).mono ?_
  rintro e X' ⟨rfl, hb⟩
  exact ⟨rfl, h'.still hb, hb⟩
end
end Go.Proofs.YtobmjcfemjpgcaaDoor

namespace Go.Proofs.YtobmjcfemjpgcaaDoor
open Go.RowKit Go.Maps Lib

theorem ent_far (x : Nat × List UInt8) (z : Int) (h : (x.1 : Int) ≠ z) : (ent x).1.sameKey (.int .i64 z) = false := by
  simp only [ent, Lit.sameKey, true_and]
  exact decide_eq_false h
theorem far_at {m : Wl.Grp} {z : Int} (h : ∀ x ∈ m, (x.1 : Int) ≠ z) (y : DataW Unit) : (dat m).atKey (.int .i64 z) y = y := by
  have : (m.map ent).find? (fun p => p.1.sameKey (.int .i64 z)) = none := by
    rw [List.find?_eq_none]
    intro p hp
    obtain ⟨x, hx, rfl⟩ := List.mem_map.1 hp
    rw [ent_far x z (h x hx)]; decide
  unfold dat DataW.atKey
  simp only
  rw [this]
theorem far_has {m : Wl.Grp} {z : Int} (h : ∀ x ∈ m, (x.1 : Int) ≠ z) : Maps.has (dat m) (.int .i64 z) = false := by
  show (m.map ent).any (fun p => p.1.sameKey (.int .i64 z)) = false
  rw [List.any_eq_false]
  intro p hp
  obtain ⟨x, hx, rfl⟩ := List.mem_map.1 hp
  rw [ent_far x z (h x hx)]; decide
theorem far_wf {z : Int} (h : -9223372036854775808 ≤ z ∧ z ≤ 9223372036854775807) : (Lit.int .i64 z).wf = true := by
  simp [Lit.wf, IntKind.min, IntKind.max, IntKind.signed, IntKind.bits]
  omega
theorem IMap.look_out {P : Program} {T E K : TypeId} {M : ME} {w : World} {b : Nat} {m : Wl.Grp} (h : IMap P K M w b m) (hk : P.underlying K = some (.int .i64)) (ht : P.underlying T = some (.map K E)) {z : List UInt8} (hz : (zeroValue E).run P w = .ok (M.enc z) w) (hzf : M.fits z)
    {k : Int} (hkw : -9223372036854775808 ≤ k ∧ k ≤ 9223372036854775807) (hl : ∀ x ∈ m, (x.1 : Int) ≠ k) : (Instr.lookup T (.map (some b)) (.int .i64 k) true).run P w = .ok (.tuple #[M.enc z, .bool false]) w := by
  obtain ⟨v, ps, hr, hv⟩ := h.1.look_ok (int_keyed hk) ht hz (M.read z hzf) (keyOf_int_mk hk (far_wf hkw))
  rw [far_at hl] at hv
  rw [far_has hl] at hr
  obtain ⟨l, rfl, hf, he⟩ := M.inv _ _ hv
  injection he with he _
  injection he with he
  injection he with he
  subst he
  exact hr
theorem NMap.look_out {w : World} {b : Nat} {m : Wl.Grp} (h : NMap w b m) {z : Int} (hz : -9223372036854775808 ≤ z ∧ z ≤ 9223372036854775807) (hl : ∀ x ∈ m, (x.1 : Int) ≠ z) :
    (Instr.lookup 88 (.map (some b)) (.int .i64 z) true).run Tryd.prog w = .ok (.tuple #[.int .i64 0, .bool false]) w :=
  IMap.look_out (M := numE) h underInt underNMap (zero_int w) rfl hz hl
set_option maxRecDepth 100000 in
set_option maxHeartbeats 4000000 in
theorem txread_out (w : World) (T A : Nat → Prop) (tb lb ring g N : Nat) (H : List Wl.Text) (ps : List (Nat × List UInt8)) (i : Int) (h : TxP w T tb lb ps) (hk : Kept A ring w lb g N H) (hi : i < 0 ∨ (H.length : Int) ≤ i) (hr : -9223372036854775808 ≤ i ∧ i ≤ 9223372036854775807) (hs : ∀ p ∈ ps, p.1 < H.length) :
    Calls Tryd.prog 91 #[ptr tb, .int .i64 i] w fun e w' => e = .returned (.tuple #[.string ⟨#[]⟩, .int .i64 2]) ∧ Below w.heap.size w w' := by
  have HP := Lib.hid h
  have HK := Lib.hid hk
  obtain ⟨mb, vp, vb, hx⟩ := h
  have HX := Lib.hid hx
  have HZ := Lib.hid (show homeOf H i = ([], 2) by unfold homeOf; rw [if_neg (by omega)])
  have hfar : ∀ x ∈ Tx.lasts ps, (x.1 : Int) ≠ i := by
    intro x hx e
    rcases Tx.lasts_look x.1 ps with ⟨h1, _⟩ | ⟨k, hk, _, h2, _⟩
    · exact Wl.look_none.1 h1 x hx rfl
    · have := hs _ (List.getElem_mem hk)
      omega
  have hlk := NMap.look_out HX.out.mp hr hfar
  have c0 := HX.out.c0
  have c3 := HX.out.c3
  clear hx hk hfar
  go_enter Tryd.func91, Tryd.ntmps91
  go_wp2_with fail
  refine (isDown_any w T tb lb H.length ps HP.out HK.out.awake).mono ?_
  rintro e w1 ⟨rfl, rfl⟩
  unfold ptr
  go_wp2_with fail
  refine (kept_read HK.out i).mono ?_
  rintro e w2 ⟨rfl, hb⟩
  rw [HZ.out]
  have HB := Lib.hid hb
  clear hb hlk c0 c3
  go_wp2
  go_ret2
  exact ⟨rfl, HB.out⟩
end Go.Proofs.YtobmjcfemjpgcaaDoor

namespace Go.Proofs.YtobmjcfemjpgcaaDoor
open Go.RowKit Lib

def C1 (R : Nat → Prop) (ring g N lb tb : Nat) (H : List Wl.Text) (ps : List (Nat × List UInt8)) (X : World) : Prop :=
  ∃ A T, Kept A ring X lb g N H ∧ TxP X T tb lb ps ∧ (∀ k, T k → A k) ∧ ∀ k, R k → A k ∧ ¬ T k
section
variable {X X' : World} {R R' S : Nat → Prop} {ring g N lb tb : Nat} {H H' : List Wl.Text} {ps ps' : List (Nat × List UInt8)} {A T T' : Nat → Prop}
theorem C1.lt (h : C1 R ring g N lb tb H ps X) : ∀ k, R k → k < X.heap.size := by
  obtain ⟨A, T, ⟨F, s, hl, hv, hf, ha, hlA⟩, x, a, hR⟩ := h
  exact fun k hk => hlA k (hR k hk).1
/-- The caller's own stores, and its new blocks. -/
theorem C1.turn (h : C1 R ring g N lb tb H ps X) (hb : But S X X') (hS : ∀ k, k < X.heap.size → S k → R k) (hR' : ∀ k, R' k → R k ∨ (X.heap.size ≤ k ∧ k < X'.heap.size)) : C1 R' ring g N lb tb H ps X' := by
  obtain ⟨A, T, ⟨F, s, hl, hv, hf, ha, hlA⟩, x, a, hR⟩ := h
  have hb' : But R X X' := hb.mono hS
  refine ⟨fun k => A k ∨ (X.heap.size ≤ k ∧ k < X'.heap.size), T, ⟨F, s, hl.but hb' (fun k hk hn => ha k hk (hR k hn).1), hv, hf, fun x hx hn => ?_, fun x hx => hx.elim (fun h => Nat.lt_of_lt_of_le (hlA x h) hb.size) (fun h => h.2)⟩, x.but hb' (fun k hk hn => (hR k hn).2 hk), fun k hk => .inl (a k hk), fun k hk => ?_⟩
  · rcases hn with hn | hn
    · exact ha x hx hn
    · have := hl.lt x hx; omega
  · rcases hR' k hk with h | h
    · exact ⟨.inl (hR k h).1, (hR k h).2⟩
    · exact ⟨.inr h, fun ht => by have := x.lt k ht; omega⟩
theorem C1.still (h : C1 R ring g N lb tb H ps X) (hb : Below X.heap.size X X') : C1 R ring g N lb tb H ps X' :=
  h.turn (But.of_below hb (fun _ => False)) (fun _ _ h => h.elim) (fun _ hk => .inl hk)
theorem C1.less (h : C1 R ring g N lb tb H ps X) (hR' : ∀ k, R' k → R k) : C1 R' ring g N lb tb H ps X :=
  h.turn (But.refl (fun _ => False) X) (fun _ _ h => h.elim) (fun k hk => .inl (hR' k hk))
theorem c1_step (hk : Kept A ring X lb g N H) (a : ∀ k, T k → A k) (hR : ∀ k, R k → A k ∧ ¬ T k) (hM : Moved T X T' X') (hx : TxP X' T' tb lb ps') :
    C1 R ring g N lb tb H ps' X' ∧ But (fun k => ¬ R k) X X' := by
  have hlt : ∀ k, A k → k < X.heap.size := by
    obtain ⟨F, s, hl, hv, hf, ha, hlA⟩ := hk
    exact hlA
  refine ⟨⟨fun k => A k ∨ T' k, T', hk.moved a hM hx.lt, hx, fun k hk => .inr hk, fun k hk => ⟨.inl (hR k hk).1, fun ht => ?_⟩⟩, hM.1.mono (fun k _ h1 hr => (hR k hr).2 h1)⟩
  rcases hM.2 k ht with h | h
  · exact (hR k hk).2 h
  · have := hlt k (hR k hk).1; omega
theorem c1_begin (hk : Kept A ring X lb g N H) :
    Calls Tryd.prog 15 #[ptr lb] X fun e X' => ∃ tb, e = .returned (ptr tb) ∧ C1 A ring g N lb tb H [] X' ∧ Below X.heap.size X X' := by
  refine (begin_any5 X lb).mono ?_
  rintro e X' ⟨tb, T, rfl, hx, hT, hb'⟩
  obtain ⟨F, s, hl, hv, hf, ha, hlA⟩ := hk
  refine ⟨tb, rfl, ⟨fun k => A k ∨ T k, T, ⟨F, s, hl.below hb', hv, hf, fun x hx hn => ?_, fun x hx' => hx'.elim (fun h => Nat.lt_of_lt_of_le (hlA x h) hb'.size) (hx.lt x)⟩, hx, fun k h => .inr h, fun k hk => ⟨.inl hk, fun ht => ?_⟩⟩, hb'⟩
  · rcases hn with hn | hn
    · exact ha x hx hn
    · have := hT x hn; have := hl.lt x hx; omega
  · have := hT k ht; have := hlA k hk; omega
theorem c1_write (h : C1 R ring g N lb tb H ps X) (i : Nat) (s : ByteArray) (hi : i < H.length) (hn : H.length ≤ 65536) (hs : s.size ≤ 512) (hp : ps.length ≤ 900000) :
    Calls Tryd.prog 68 #[ptr tb, .int .i64 i, .string s] X fun e X' => e = .returned (.int .i64 0) ∧ C1 R ring g N lb tb H (ps ++ [(i, s.data.toList)]) X' ∧ But (fun k => ¬ R k) X X' := by
  obtain ⟨A, T, hk, x, a, hR⟩ := h
  refine (txwrite_ok X T tb lb H.length ps i s x hk.awake hi hn hs hp).mono ?_
  rintro e X' ⟨rfl, T', hx', hM⟩
  exact ⟨rfl, c1_step hk a hR hM hx'⟩
theorem c1_write_no (h : C1 R ring g N lb tb H ps X) (i : Int) (s : ByteArray) (c : Int) (hc : (c = 2 ∧ (i < 0 ∨ (H.length : Int) ≤ i)) ∨ (c = 5 ∧ 0 ≤ i ∧ i < H.length ∧ 512 < s.size)) :
    Calls Tryd.prog 68 #[ptr tb, .int .i64 i, .string s] X fun e X' => e = .returned (.int .i64 c) ∧ X' = X := by
  obtain ⟨A, T, hk, x, a, hR⟩ := h
  exact txwrite_no X T tb lb H.length ps i s x hk.awake c hc
theorem c1_read (h : C1 R ring g N lb tb H ps X) (i : Nat) (hi : i < H.length) (hn : H.length ≤ 65536) :
    Calls Tryd.prog 91 #[ptr tb, .int .i64 i] X fun e X' => e = .returned (.tuple #[.string (bs ((Wl.along H (Tx.psI ps)).getD i [])), .int .i64 0]) ∧ Below X.heap.size X X' := by
  obtain ⟨A, T, hk, x, _⟩ := h
  have hj : i < (Wl.along H (Tx.psI ps)).length := by rw [Wl.along_length]; omega
  refine (txread_any X T A tb lb ring g N H ps i x hk hi hn).mono ?_
  rintro e X' ⟨rfl, hb⟩
  refine ⟨?_, hb⟩
  rw [homeOf_at hj, List.getD_eq_getElem?_getD, List.getElem?_eq_getElem hj, Option.getD_some]
theorem c1_read_no (h : C1 R ring g N lb tb H ps X) (i : Int) (hi : i < 0 ∨ (H.length : Int) ≤ i) (hr : -9223372036854775808 ≤ i ∧ i ≤ 9223372036854775807) (hs : ∀ p ∈ ps, p.1 < H.length) :
    Calls Tryd.prog 91 #[ptr tb, .int .i64 i] X fun e X' => e = .returned (.tuple #[.string ⟨#[]⟩, .int .i64 2]) ∧ Below X.heap.size X X' := by
  obtain ⟨A, T, hk, x, _⟩ := h
  exact txread_out X T A tb lb ring g N H ps i x hk hi hr hs
theorem c1_homes (h : C1 R ring g N lb tb H ps X) :
    Calls Tryd.prog 42 #[ptr tb] X fun e X' => e = .returned (.int .i64 H.length) ∧ X' = X := by
  obtain ⟨A, T, hk, x, _⟩ := h
  exact txhomes_any X T tb lb H.length ps x hk.awake
end
end Go.Proofs.YtobmjcfemjpgcaaDoor
