/- Rows of bytes of the call's own that may bear a mark behind them; z: they bear none. As XBytesG, with where the row lies, and with the mark told (no function of the program is named here). -/
import Derived.Test.YtlpillpfahkjdaaDoorBytesG
import Derived.Test.YtlpillpfahkjdaaDoorAppend
import Derived.Test.YtlpillpfahkjdaaDoorSec
import Derived.Lib.SlBytesConst
namespace Go.Proofs.YtlpillpfahkjdaaDoor
open Go.RowKit Lib

def byteElem : Elem UInt8 := oneElem bcell (fun _ => rfl)
theorem byteST : SliceT Tryd.prog 47 5 byteElem.size := SliceT.of (size := 1) (bytes := 1) (z := .int .u8 0) Tryd.underlying47 (by kernel_rfl) rfl (by decide)
abbrev OwnY (B : Nat) (w : World) (v : Value) (l : List UInt8) : Prop := Own byteElem 5 B w v l
theorem But.ofGrown {w w' : World} {row : Option Nat} (hg : w.grownBy w' row) : But (fun x => row = some x) w w' := ⟨hg.os, hg.tape, hg.output, hg.size, fun x hx hn => hg.block x hx (fun e => hn e.symm)⟩
def OwnZ (z : Bool) (B : Nat) (w : World) (v : Value) (l : List UInt8) : Prop :=
  ∃ g cap cur fz, v = .slice (some ⟨g, 0, none⟩) l.length cap ∧ B ≤ g ∧ w.heap[g]? = some (.cells cur 5 fz) ∧ (∀ j, j < cur.size → ¬ (fz.1 ≤ j ∧ j < fz.2)) ∧ l.length ≤ cap ∧ cap ≤ maxLen ∧ cur.size = cap ∧ cur.toList.take l.length = l.map bcell ∧ (z = true → fz = (0, 0))
variable {z : Bool}
theorem OwnZ.but {B : Nat} {S : Nat → Prop} {w w' : World} {v : Value} {l : List UInt8} (h : OwnZ z B w v l) (hb : But S w w') (hn : ∀ g, v.ownBlock = some g → ¬ S g) : OwnZ z B w' v l := by
  obtain ⟨g, cap, cur, fz, rfl, h1, h2, h3⟩ := h
  exact ⟨g, cap, cur, fz, rfl, h1, by rw [hb.block g (Array.getElem?_eq_some_iff.1 h2).1 (hn g rfl)]; exact h2, h3⟩
theorem OwnZ.alloc {B : Nat} {w : World} {v : Value} {l : List UInt8} (h : OwnZ z B w v l) (o : Obj) : OwnZ z B (w.alloc o) v l := h.but ((But.refl (fun _ => False) w).alloc o) (fun _ _ h => h)
theorem OwnZ.slice {B : Nat} {w : World} {v : Value} {l : List UInt8} (h : OwnZ z B w v l) : ∃ g cap, v = .slice (some ⟨g, 0, none⟩) l.length cap ∧ B ≤ g ∧ g < w.heap.size ∧ l.length ≤ cap := by
  obtain ⟨g, cap, cur, fz, rfl, h1, h2, _, h4, _⟩ := h
  exact ⟨g, cap, rfl, h1, (Array.getElem?_eq_some_iff.1 h2).1, h4⟩
theorem OwnZ.cell {B : Nat} {w : World} {g n cap : Nat} {l : List UInt8} (h : OwnZ z B w (.slice (some ⟨g, 0, none⟩) n cap) l) (j : Nat) (hj : j < l.length) : w.cell? ⟨g, j, none⟩ = some (bcell l[j]) := by
  obtain ⟨g', cap', cur, fz, e, h1, h2, _, _, _, _, h3, _⟩ := h
  injection e with e1 e2 e3
  injection e1 with e1
  injection e1 with e1
  subst e1
  rw [cell_of_row w g j cur _ fz h2]
  have : (cur.toList.take l.length)[j]? = some (bcell l[j]) := by rw [h3, List.getElem?_map, List.getElem?_eq_getElem hj]; rfl
  rw [List.getElem?_take, if_pos hj] at this
  simpa using this
theorem OwnZ.block {B : Nat} {w : World} {v : Value} {l : List UInt8} (h : OwnZ z B w v l) : ∀ k, v.ownBlock = some k → B ≤ k ∧ k < w.heap.size := by
  obtain ⟨g, cap, rfl, h1, h2, _⟩ := h.slice
  intro k hk
  simp [Value.ownBlock] at hk
  omega
theorem OwnZ.typed {B : Nat} {w : World} {v : Value} {l : List UInt8} (h : OwnZ z B w v l) {k : Nat} (hk : v.ownBlock = some k) : ∃ cur fz, w.heap[k]? = some (.cells cur 5 fz) := by
  obtain ⟨g, cap, cur, fz, rfl, _, h2, _⟩ := h
  simp [Value.ownBlock] at hk
  subst hk
  exact ⟨cur, fz, h2⟩
theorem OwnZ.own {B : Nat} {w : World} {v : Value} {l : List UInt8} (h : OwnZ true B w v l) : OwnY B w v l := by
  obtain ⟨g, cap, cur, fz, rfl, h1, h2, _, h4, h5, h6, h7, h8⟩ := h
  rw [h8 rfl] at h2
  refine ⟨by rw [byteElem.cells_length], .inr ⟨g, cap, cur, rfl, h1, h2, h4, h5, ?_, ?_⟩⟩
  · rw [show byteElem.size = 1 from rfl, Nat.mul_one]; exact h6
  · rw [show byteElem.cells l = l.map bcell from oneElem_cells _ _ _, show byteElem.size = 1 from rfl, Nat.mul_one]; exact h7
theorem OwnZ.ofOwn {B : Nat} {w : World} {g n cap : Nat} {l : List UInt8} (h : OwnY B w (.slice (some ⟨g, 0, none⟩) n cap) l) : OwnZ true B w (.slice (some ⟨g, 0, none⟩) n cap) l := by
  rcases h.2 with ⟨e, _⟩ | ⟨g', cap', cur, e, hg, hh, hc, hm, hs, ht⟩
  · cases e
  · injection e with e1 e2 e3
    injection e1 with e1
    injection e1 with e1
    subst e1 e2 e3
    refine ⟨g, cap, cur, (0, 0), rfl, hg, hh, fun j _ h => by have := h.2; simp only at this; omega, hc, hm, ?_, ?_, fun _ => rfl⟩
    · rw [show byteElem.size = 1 from rfl, Nat.mul_one] at hs; exact hs
    · rw [show byteElem.cells l = l.map bcell from oneElem_cells _ _ _, show byteElem.size = 1 from rfl, Nat.mul_one] at ht; exact ht
/-- []byte of a constant: a row that bears a mark. -/
theorem OwnZ.const (w : World) (l : List UInt8) (hn : l.length ≤ 1000000) : OwnZ false 0 (w.alloc (.cells (l.map bcell).toArray 5 (l.length, l.length + 1))) (.slice (some ⟨w.heap.size, 0, none⟩) l.length l.length) l :=
  ⟨w.heap.size, l.length, (l.map bcell).toArray, (l.length, l.length + 1), rfl, Nat.zero_le _, heap_alloc_new w _, fun j hj h => by have := h.1; simp at hj; simp only at this; omega, Nat.le_refl _, by unfold maxLen; omega, by simp, by rw [List.take_of_length_le (by simp)], fun h => by cases h⟩
/-- append(b, c). -/
theorem wpList_app_byteZ {B : Nat} {w : World} {v : Value} {l : List UInt8} {ops : Array Oper} {rest : List Oper} {o : Oper} {a : Act} {Q : Exit → Act → World → Prop} (hgd : o.guard = none) (s x : Operand)
    (ho : o.op = .call { callee := .builtin .append, args := #[s, x], argTypes := #[47, 47] })
    (hs : a.eval s = v) (hown : OwnZ z B w v l) (hB : B ≤ w.heap.size) (g : Nat) (c : UInt8) (hx : a.eval x = .slice (some ⟨g, 0, none⟩) 1 1) (hc : w.cell? ⟨g, 0, none⟩ = some (bcell c)) (hlen : l.length ≤ 900000000)
    (h : ∀ v' w', OwnZ z B w' v' (l ++ [c]) → But (fun k => v.ownBlock = some k) w w' → (v'.ownBlock = v.ownBlock ∨ ∀ k, v'.ownBlock = some k → w.heap.size ≤ k) → wpList Tryd.prog ops Q rest (a.put o.dst v') w') : wpList Tryd.prog ops Q (o :: rest) a w := by
  obtain ⟨i, hi, hz, hsz, hby⟩ := info_of (P := Tryd.prog) (E := 5) (size := 1) (bytes := 1) (z := .int .u8 0) (by kernel_rfl)
  obtain ⟨gv, cap, cur, fz, rfl, h1, h2, h3, h4, h5, h6, h7, h7z⟩ := hown
  have hrun : ∃ v' w', (Builtin.append_ #[47, 47] o.type #[.slice (some ⟨gv, 0, none⟩) l.length cap, .slice (some ⟨g, 0, none⟩) 1 1]).run Tryd.prog w = .ok v' w' ∧ OwnZ z B w' v' (l ++ [c]) ∧ But (fun k => some gv = some k) w w' ∧ (v'.ownBlock = some gv ∨ ∀ k, v'.ownBlock = some k → w.heap.size ≤ k) := by
    by_cases hroom : l.length + 1 ≤ cap
    · refine ⟨_, _, run_append_one_room w 47 o.type 5 i Tryd.underlying47 hi hsz gv l.length cap cur fz h2 (h3 _ (by omega)) ⟨g, 0, none⟩ (bcell c) hc rfl hroom (by omega), ⟨gv, cap, cur.setIfInBounds l.length (bcell c), fz, by simp, h1, setRow_heap w gv cur _ _ fz h2, by simpa using h3, by simpa using hroom, h5, by simpa using h6, ?_, h7z⟩, (But.refl _ w).setRow gv _ (fun _ => rfl), .inl rfl⟩
      rw [Array.toList_setIfInBounds, List.length_append, List.length_singleton, List.take_succ_eq_append_getElem (by simp; omega), List.getElem_set_self, List.take_set, List.map_append]
      rw [List.set_eq_of_length_le (by rw [List.length_take]; omega), h7]
      rfl
    · have holds : ∀ j u, (l.map bcell)[j]? = some u → w.cell? ((⟨gv, 0, none⟩ : Addr).add j) = some u := by
        intro j u hu
        rw [show (⟨gv, 0, none⟩ : Addr).add j = ⟨gv, j, none⟩ by unfold Addr.add; split <;> simp_all, cell_of_row w gv j cur _ fz h2]
        rw [← h7] at hu
        by_cases hj : j < l.length
        · grind
        · grind
      have hr := run_append_grow (P := Tryd.prog) w 47 o.type 5 i (.int .u8 0) Tryd.underlying47 hi hz ⟨gv, 0, none⟩ l.length cap (l.map bcell) (by rw [hsz]; simp) holds ⟨g, 0, none⟩ 1 1 [bcell c] (by rw [hsz]; rfl) (fun j u hu => by
        cases j with
        | zero => simp at hu; subst hu; simpa [Addr.add] using hc
        | succ j => simp at hu) (by omega) (by omega) (growslice_fits (by omega) (by rw [hby]; omega))
      have hge := grownCap_ge w (l.length + 1) cap 5
      have hle := grownCap_le_maxLen w (l.length + 1) cap 5 (by unfold maxLen; omega)
      refine ⟨_, _, hr, ⟨w.heap.size, grownCap w (l.length + 1) cap 5, _, (0, 0), by simp, hB, heap_alloc_new w.drew _, fun j _ h => by have := h.2; simp only at this; omega, by simpa using hge, hle, ?_, ?_, fun _ => rfl⟩, (But.refl _ w).drew.alloc _, .inr fun k hk => by simp [Value.ownBlock] at hk; omega⟩
      · simp only [Array.size_append, List.size_toArray, List.length_map, size_zeroCells, List.length_singleton]
        show l.length + 1 + (grownCap w (l.length + 1) cap 5 - (l.length + 1)) * 1 = _
        omega
      · grind
  obtain ⟨v', w', hr, h8, h9, h10⟩ := hrun
  refine wpList_plain hgd fun K hK => ?_
  unfold Oper.wp execOp
  simp only [ho, resolve, invoke, builtin, Sem.run_bind, Sem.run_pure, Result.andThen_ok, List.map_toArray, List.map_cons, List.map_nil, hs, hx, hr]
  exact hK _ _ (h v' w' h8 h9 h10)
theorem OwnZ.back {B : Nat} {w : World} {v : Value} {l : List UInt8} (h : OwnZ z B w v l) : (convert 47 9 v).run Tryd.prog w = .ok (.string (bs l)) w := by
  obtain ⟨g, cap, rfl, _⟩ := h.slice
  exact run_convert_bytes_back (P := Tryd.prog) w 47 9 5 ⟨g, 0, none⟩ cap l (by kernel_rfl) (by kernel_rfl) (by kernel_rfl) (by
    intro i hi
    rw [show (⟨g, 0, none⟩ : Addr).add i = ⟨g, i, none⟩ by unfold Addr.add; split <;> simp_all]
    exact h.cell i hi)
end Go.Proofs.YtlpillpfahkjdaaDoor
