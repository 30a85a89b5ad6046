/- Rows of bytes of the call's own that may bear a mark behind them ([]byte(s)); a byte appended (no function of the program is named here). -/
import Derived.Test.YtlpillpfahkjdaaDoorTexts
import Derived.Lib.Hide
namespace Go.Proofs.YtlpillpfahkjdaaDoor
open Go.RowKit Lib

section
variable {P : Program}
theorem run_append_one_room (w : World) (t ty e : TypeId) (i : TypeInfo) (ht : P.underlying t = some (.slice e)) (hi : P.info? e = some i) (hs1 : i.size = 1)
    (g sLen sCap : Nat) (cur : Array Value) (fz : Nat × Nat) (hg : w.heap[g]? = some (.cells cur e fz)) (hfz : ¬ (fz.1 ≤ sLen ∧ sLen < fz.2))
    (a : Addr) (u : Value) (hu : w.cell? a = some u) (h1 : u.oneCell' = true) (hroom : sLen + 1 ≤ sCap) (hfit : sLen < cur.size) :
    (Builtin.append_ #[t, t] ty #[.slice (some ⟨g, 0, none⟩) sLen sCap, .slice (some a) 1 1]).run P w = .ok (.slice (some ⟨g, 0, none⟩) (sLen + 1) sCap) (w.setRow g (cur.setIfInBounds sLen u)) := by
  have hf := run_firstCells_some (P := P) w i.size 1 a 1 1 [u] (by simp [hs1]) (fun j v hj => by
    cases j with
    | zero => simp at hj; subst hj; simpa [Addr.add] using hu
    | succ j => simp at hj)
  have hcell : w.cell? ⟨g, sLen, none⟩ = some cur[sLen] := by simp [World.cell?, hg, hfit]
  have hfro : w.frozen? ⟨g, sLen, none⟩ = false := by
    unfold World.frozen?
    rw [hg]
    simp only [Bool.and_eq_false_iff, decide_eq_false_iff_not]
    by_cases h : fz.1 ≤ sLen
    · omega
    · exact .inl h
  have hadd : (⟨g, sLen, none⟩ : Addr).add 0 = ⟨g, sLen, none⟩ := by simp [Addr.add]
  have hst : (storeCells ⟨g, sLen, none⟩ [u]).run P w = .ok () (w.setRow g (cur.setIfInBounds sLen u)) := by
    simp only [storeCells, Sem.run_bind]
    rw [hadd, run_store P w _ u _ h1, hcell]
    simp [hfro, setCell_eq_setRow w g sLen cur e fz u hg]
  simp [Builtin.append_, run_underlying ht, sizeOf, typeInfo, hi, hs1, Builtin.lenOf, hroom, hs1 ▸ hf, Addr.add_lit, hst]
end

theorem below_setRow' {B g : Nat} {w0 w : World} (hb : Below B w0 w) (hBg : B ≤ g) (cs : Array Value) : Below B w0 (w.setRow g cs) :=
  hb.trans ⟨rfl, rfl, rfl, by simp [World.setRow], fun k hk => setRow_other w g k cs (by omega)⟩
/-- v holds the bytes l, in a row of the call's own, from block B on; a mark may stand behind it. -/
def OwnG (B : Nat) (w : World) (v : Value) (l : List UInt8) : Prop :=
  ∃ g cap cur fz, v = .slice (some ⟨g, 0, none⟩) l.length cap ∧ B ≤ g ∧ w.heap[g]? = some (.cells cur 5 fz) ∧ (∀ j, j < cur.size → ¬ (fz.1 ≤ j ∧ j < fz.2)) ∧ l.length ≤ cap ∧ cap ≤ maxLen ∧ cur.size = cap ∧ cur.toList.take l.length = l.map bcell
theorem OwnG.below {B B' : Nat} {w w' : World} {v : Value} {l : List UInt8} (h : OwnG B w v l) (hb : Below B' w w') (hB : w.heap.size ≤ B') : OwnG B w' v l := by
  obtain ⟨g, cap, cur, fz, rfl, h1, h2, h3⟩ := h
  exact ⟨g, cap, cur, fz, rfl, h1, by rw [hb.block g (by have := (Array.getElem?_eq_some_iff.1 h2).1; omega)]; exact h2, h3⟩
theorem OwnG.alloc {B : Nat} {w : World} {v : Value} {l : List UInt8} (h : OwnG B w v l) (o : Obj) : OwnG B (w.alloc o) v l := h.below ((Below.refl _ w).alloc (Nat.le_refl _) o) (Nat.le_refl _)
theorem OwnG.slice {B : Nat} {w : World} {v : Value} {l : List UInt8} (h : OwnG B w v l) : ∃ g cap, v = .slice (some ⟨g, 0, none⟩) l.length cap ∧ B ≤ g := by
  obtain ⟨g, cap, cur, fz, rfl, h1, _⟩ := h
  exact ⟨g, cap, rfl, h1⟩
theorem OwnG.cell {B : Nat} {w : World} {g n cap : Nat} {l : List UInt8} (h : OwnG B w (.slice (some ⟨g, 0, none⟩) n cap) l) (j : Nat) (hj : j < l.length) : w.cell? ⟨g, j, none⟩ = some (bcell l[j]) := by
  obtain ⟨g', cap', cur, fz, e, h1, h2, _, _, _, _, h3⟩ := h
  injection e with e1 e2 e3
  injection e1 with e1
  injection e1 with e1
  subst e1
  rw [cell_of_row w g j cur _ fz h2]
  have : (cur.toList.take l.length)[j]? = some (bcell l[j]) := by rw [h3, List.getElem?_map, List.getElem?_eq_getElem hj]; rfl
  rw [List.getElem?_take, if_pos hj] at this
  simpa using this
/-- []byte(s). -/
theorem own_of_string (w : World) (s : ByteArray) (hs : s.size ≤ 1000000) : ∃ v o, (convert 9 47 (.string s)).run Tryd.prog w = .ok v (w.drew.alloc o) ∧ OwnG w.heap.size (w.drew.alloc o) v s.data.toList := by
  refine ⟨_, _, run_bytes_of_string (P := Tryd.prog) w 9 47 5 s Tryd.underlying9 Tryd.underlying47 Tryd.underlying5, ?_⟩
  have hge := grownCap_ge w s.size 0 5
  have hle := grownCap_le_maxLen w s.size 0 5 (by unfold maxLen; omega)
  have hsz : (bytesRow s (grownCap w s.size 0 5)).size = grownCap w s.size 0 5 := by
    have hd : s.data.size = s.size := rfl
    simp [bytesRow, hd]; omega
  have hl : s.data.toList.length = s.size := Array.length_toList
  refine ⟨w.heap.size, grownCap w s.size 0 5, bytesRow s (grownCap w s.size 0 5), _, by rw [hl], Nat.le_refl _, heap_alloc_new w.drew _, fun j hj h => by have := h.1; simp only at this; omega, by rw [hl]; exact hge, hle, hsz, ?_⟩
  unfold bytesRow
  rw [Array.toList_append, List.take_append_of_le_length (by simp), List.take_of_length_le (by simp), Array.toList_map]
  rfl
/-- append(b, c). -/
theorem wpList_app_byte {B : Nat} {w : World} {v : Value} {l : List UInt8} {ops : Array Oper} {rest : List Oper} {o : Oper} {a : Act} {Q : Exit → Act → World → Prop} (hgd : o.guard = none) (s x : Operand)
    (ho : o.op = .call { callee := .builtin .append, args := #[s, x], argTypes := #[47, 47] })
    (hs : a.eval s = v) (hown : OwnG B w v l) (hB : B ≤ w.heap.size) (g : Nat) (c : UInt8) (hx : a.eval x = .slice (some ⟨g, 0, none⟩) 1 1) (hc : w.cell? ⟨g, 0, none⟩ = some (bcell c)) (hlen : l.length ≤ 1000000)
    (h : ∀ v' w', OwnG B w' v' (l ++ [c]) → Below B w w' → wpList Tryd.prog ops Q rest (a.put o.dst v') w') : wpList Tryd.prog ops Q (o :: rest) a w := by
  obtain ⟨i, hi, hz, hsz, hby⟩ := info_of (P := Tryd.prog) (E := 5) (size := 1) (bytes := 1) (z := .int .u8 0) (by kernel_rfl)
  obtain ⟨gv, cap, cur, fz, rfl, h1, h2, h3, h4, h5, h6, h7⟩ := hown
  have hrun : ∃ v' w', (Builtin.append_ #[47, 47] o.type #[.slice (some ⟨gv, 0, none⟩) l.length cap, .slice (some ⟨g, 0, none⟩) 1 1]).run Tryd.prog w = .ok v' w' ∧ OwnG B w' v' (l ++ [c]) ∧ Below B w w' := by
    by_cases hroom : l.length + 1 ≤ cap
    · refine ⟨_, _, run_append_one_room w 47 o.type 5 i Tryd.underlying47 hi hsz gv l.length cap cur fz h2 (h3 _ (by omega)) ⟨g, 0, none⟩ (bcell c) hc rfl hroom (by omega), ⟨gv, cap, cur.setIfInBounds l.length (bcell c), fz, by simp, h1, setRow_heap w gv cur _ _ fz h2, by simpa using h3, by simpa using hroom, h5, by simpa using h6, ?_⟩, below_setRow' (Below.refl _ _) h1 _⟩
      rw [Array.toList_setIfInBounds, List.length_append, List.length_singleton, List.take_succ_eq_append_getElem (by simp; omega), List.getElem_set_self, List.take_set, List.map_append]
      rw [List.set_eq_of_length_le (by rw [List.length_take]; omega), h7]
      rfl
    · have holds : ∀ j u, (l.map bcell)[j]? = some u → w.cell? ((⟨gv, 0, none⟩ : Addr).add j) = some u := by
        intro j u hu
        rw [show (⟨gv, 0, none⟩ : Addr).add j = ⟨gv, j, none⟩ by unfold Addr.add; split <;> simp_all, cell_of_row w gv j cur _ fz h2]
        rw [← h7] at hu
        by_cases hj : j < l.length
        · grind
        · grind
      have hr := run_append_grow (P := Tryd.prog) w 47 o.type 5 i (.int .u8 0) Tryd.underlying47 hi hz ⟨gv, 0, none⟩ l.length cap (l.map bcell) (by rw [hsz]; simp) holds ⟨g, 0, none⟩ 1 1 [bcell c] (by rw [hsz]; rfl) (fun j u hu => by
        cases j with
        | zero => simp at hu; subst hu; simpa [Addr.add] using hc
        | succ j => simp at hu) (by omega) (by omega) (growslice_fits (by omega) (by rw [hby]; omega))
      have hge := grownCap_ge w (l.length + 1) cap 5
      have hle := grownCap_le_maxLen w (l.length + 1) cap 5 (by unfold maxLen; omega)
      refine ⟨_, _, hr, ⟨w.heap.size, grownCap w (l.length + 1) cap 5, _, (0, 0), by simp, hB, heap_alloc_new w.drew _, fun j _ h => by have := h.2; simp only at this; omega, by simpa using hge, hle, ?_, ?_⟩, ⟨rfl, rfl, rfl, by simp, fun k hk => Below.heap_alloc w.drew _ k (by show k < w.heap.size; omega)⟩⟩
      · simp only [Array.size_append, List.size_toArray, List.length_map, size_zeroCells, List.length_singleton]
        show l.length + 1 + (grownCap w (l.length + 1) cap 5 - (l.length + 1)) * 1 = _
        omega
      · grind
  obtain ⟨v', w', hr, h8, h9⟩ := hrun
  refine wpList_plain hgd fun K hK => ?_
  unfold Oper.wp execOp
  simp only [ho, resolve, invoke, builtin, Sem.run_bind, Sem.run_pure, Result.andThen_ok, List.map_toArray, List.map_cons, List.map_nil, hs, hx, hr]
  exact hK _ _ (h v' w' h8 h9)
theorem OwnG.back {B : Nat} {w : World} {g n cap : Nat} {l : List UInt8} (h : OwnG B w (.slice (some ⟨g, 0, none⟩) n cap) l) (hn : n = l.length) : (convert 47 9 (.slice (some ⟨g, 0, none⟩) n cap)).run Tryd.prog w = .ok (.string (bs l)) w := by
  subst hn
  exact run_convert_bytes_back (P := Tryd.prog) w 47 9 5 ⟨g, 0, none⟩ cap l (by kernel_rfl) (by kernel_rfl) (by kernel_rfl) (by
    intro i hi
    rw [show (⟨g, 0, none⟩ : Addr).add i = ⟨g, i, none⟩ by unfold Addr.add; split <;> simp_all]
    exact h.cell i hi)
end Go.Proofs.YtlpillpfahkjdaaDoor
