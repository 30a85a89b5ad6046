/- Slices of ints that a call makes: what they own, as a list of numbers. -/
import Derived.Test.YtlllcdjcihnkdaaDoorOwnU
import Derived.Test.YtlllcdjcihnkdaaDoorBlock
import Derived.Test.YtlllcdjcihnkdaaDoorDigits
namespace Go.Proofs.YtlllcdjcihnkdaaDoor
open Go.RowKit

/-- Integers (from 0 up) as cells. -/
def i64s (l : List Nat) : List Value := l.map fun (n : Nat) => Value.int .i64 (n : Int)
theorem i64s_length (l : List Nat) : (i64s l).length = l.length := by simp [i64s]
theorem i64s_append (a b : List Nat) : i64s (a ++ b) = i64s a ++ i64s b := by simp [i64s]
theorem i64s_get (l : List Nat) (j : Nat) (h : j < l.length) : (i64s l)[j]? = some (.int .i64 ((l.getD j 0 : Nat) : Int)) := by simp [i64s, h]
theorem i64s_one (l : List Nat) : ∀ u ∈ i64s l, u.oneCell' = true := by
  intro u hu
  simp only [i64s, List.mem_map] at hu
  obtain ⟨c, _, rfl⟩ := hu
  rfl
/-- v holds the numbers l, in memory of the call's own (from block B on). -/
def OwnI (B : Nat) (w : World) (v : Value) (l : List Nat) : Prop := w.ownsRow B 3 1 v l.length (i64s l)
theorem OwnI.alloc {B : Nat} {w : World} {v : Value} {l : List Nat} (h : OwnI B w v l) (o : Obj) : OwnI B (w.alloc o) v l := World.ownsRow.alloc h o
theorem OwnI.drew {B : Nat} {w : World} {v : Value} {l : List Nat} (h : OwnI B w v l) : OwnI B w.drew v l := World.ownsRow.drew h
theorem OwnI.drewN {B : Nat} {w : World} {v : Value} {l : List Nat} (h : OwnI B w v l) (n : Nat) : OwnI B (w.drewN n) v l := h
theorem OwnI.nil (B : Nat) (w : World) : OwnI B w (.slice none 0 0) [] := World.ownsRow_nil w B _ 1
theorem OwnI.form {B : Nat} {w : World} {v : Value} {l : List Nat} (h : OwnI B w v l) (hn : 0 < l.length) : ∃ g cap, v = .slice (some ⟨g, 0, none⟩) l.length cap ∧ B ≤ g ∧ g < w.heap.size := World.ownsRow.form h hn
/-- Block g holds the numbers l. -/
def RwI (w : World) (g : Nat) (l : List Nat) : Prop := ∀ j, j < l.length → w.cell? ⟨g, j, none⟩ = some (.int .i64 ((l.getD j 0 : Nat) : Int))
theorem OwnI.rw {B : Nat} {w : World} {g n cap : Nat} {l : List Nat} (h : OwnI B w (.slice (some ⟨g, 0, none⟩) n cap) l) (hn : n = l.length) : RwI w g l := by
  subst hn
  intro j hj
  rw [World.ownsRow.cellAt h j (by omega), i64s_get l j hj]
theorem RwI.below {w w' : World} {g B : Nat} {l : List Nat} (h : RwI w g l) (hb : Below B w w') (hg : g < B) : RwI w' g l := fun j hj => (hb.cell (p := ⟨g, j, none⟩) hg).trans (h j hj)
theorem RwI.news {w : World} {g : Nat} {l : List Nat} (h : RwI w g l) : ∀ j u, (i64s l)[j]? = some u → w.cell? ((⟨g, 0, none⟩ : Addr).add j) = some u := by
  intro j u hu
  have hj : j < l.length := by
    rcases Nat.lt_or_ge j l.length with h' | h'
    · exact h'
    · rw [List.getElem?_eq_none (by rw [i64s_length]; exact h')] at hu; cases hu
  rw [i64s_get l j hj] at hu
  rw [← hu, ← h j hj, add_at, Nat.zero_add]
theorem RwI.part {w : World} {g : Nat} {l : List Nat} (h : RwI w g l) (o m : Nat) (ho : o + m ≤ l.length) : ∀ j u, (i64s ((l.drop o).take m))[j]? = some u → w.cell? ((⟨g, o, none⟩ : Addr).add j) = some u := by
  have hl : ((l.drop o).take m).length = m := by rw [List.length_take, List.length_drop]; omega
  intro j u hu
  have hj : j < m := by
    rcases Nat.lt_or_ge j m with h' | h'
    · exact h'
    · rw [List.getElem?_eq_none (by rw [i64s_length, hl]; exact h')] at hu; cases hu
  rw [i64s_get _ j (by omega)] at hu
  have e : ((l.drop o).take m).getD j 0 = l.getD (o + j) 0 := by
    simp only [List.getD_eq_getElem?_getD]
    rw [List.getElem?_take_of_lt hj, List.getElem?_drop]
  rw [← hu, e, ← h (o + j) (by omega), add_at]
theorem info_int : (Tryd.prog.info? 3).map (fun i => (i.zero, i.size, i.bytes)) = some (some (.int .i64 0), 1, 8) := by kernel_rfl

/-- append of numbers, as one operation. -/
theorem wp_appI {o : Oper} {a : Act} {w : World} {K : Act → World → Prop} {Q : Exit → Act → World → Prop} (s x : Operand)
    (ho : o.op = .call { callee := .builtin .append, args := #[s, x], argTypes := #[53, 53] })
    (B : Nat) (w0 : World) (v : Value) (l : List Nat) (hs : a.eval s = v) (hown : OwnI B w v l) (hb : Below B w0 w) (hB : B ≤ w.heap.size)
    (ad : Addr) (m c : Nat) (ms : List Nat) (hx : a.eval x = .slice (some ad) m c) (hm : ms.length = m) (hnews : ∀ j u, (i64s ms)[j]? = some u → w.cell? (ad.add j) = some u)
    (hlen : l.length + m ≤ 1000000000000)
    (h : ∀ v' w', OwnI B w' v' (l ++ ms) → Below B w0 w' → K (a.put o.dst v') w') : o.wp Tryd.prog a w K Q := by
  obtain ⟨i0, hi, hz0, hz1, hz2⟩ := info_parts info_int
  refine wp_append_own w s x 53 ho B 3 i0 (.int .i64 0) 1 8 Tryd.underlying53 hi hz0 hz1 hz2 rfl (by decide) v l.length (i64s l) hs hown ad m c (i64s ms) hx (by rw [i64s_length]; omega) hnews (i64s_one _) (by unfold maxLen; omega) (by omega) hB ?_
  intro v' w' hown' hgrow _
  refine h v' w' ?_ (hb.grown hgrow hB fun k hk => (hown.lt k hk).1)
  unfold OwnI
  rw [List.length_append, i64s_append, hm]
  exact hown'
theorem step_appI {ops : Array Oper} {o : Oper} {a : Act} {w : World} {K : Act → World → Prop} {Q : Exit → Act → World → Prop} {E : Prop} (hgd : o.guard = none) (s x : Operand)
    (ho : o.op = .call { callee := .builtin .append, args := #[s, x], argTypes := #[53, 53] })
    (B : Nat) (w0 : World) (v : Value) (l : List Nat) (hs : a.eval s = v) (hown : OwnI B w v l) (hb : Below B w0 w) (hB : B ≤ w.heap.size)
    (ad : Addr) (m c : Nat) (ms : List Nat) (hx : a.eval x = .slice (some ad) m c) (hm : ms.length = m) (hnews : ∀ j u, (i64s ms)[j]? = some u → w.cell? (ad.add j) = some u)
    (hlen : l.length + m ≤ 1000000000000)
    (h : ∀ v' w', OwnI B w' v' (l ++ ms) → Below B w0 w' → K (a.put o.dst v') w') :
    if Region.wanted o (yielded ops a.tmps) = true then Oper.wp Tryd.prog o a w K Q else E := by
  have hw : Region.wanted o (yielded ops a.tmps) = true := by simp [Region.wanted, hgd]
  rw [if_pos hw]
  exact wp_appI s x ho B w0 v l hs hown hb hB ad m c ms hx hm hnews hlen h
theorem wpList_appI {ops : Array Oper} {rest : List Oper} {o : Oper} {a : Act} {w : World} {Q : Exit → Act → World → Prop} (hgd : o.guard = none) (s x : Operand)
    (ho : o.op = .call { callee := .builtin .append, args := #[s, x], argTypes := #[53, 53] })
    (B : Nat) (w0 : World) (v : Value) (l : List Nat) (hs : a.eval s = v) (hown : OwnI B w v l) (hb : Below B w0 w) (hB : B ≤ w.heap.size)
    (ad : Addr) (m c : Nat) (ms : List Nat) (hx : a.eval x = .slice (some ad) m c) (hm : ms.length = m) (hnews : ∀ j u, (i64s ms)[j]? = some u → w.cell? (ad.add j) = some u)
    (hlen : l.length + m ≤ 1000000000000)
    (h : ∀ v' w', OwnI B w' v' (l ++ ms) → Below B w0 w' → wpList Tryd.prog ops Q rest (a.put o.dst v') w') : wpList Tryd.prog ops Q (o :: rest) a w :=
  wpList_plain hgd fun _ hK => wp_appI s x ho B w0 v l hs hown hb hB ad m c ms hx hm hnews hlen fun v' w' h1 h2 => hK _ _ (h v' w' h1 h2)
/-- append onto a row that holds numbers already: the old cells stay. -/
theorem wp_appIK {o : Oper} {a : Act} {w : World} {K : Act → World → Prop} {Q : Exit → Act → World → Prop} (s x : Operand)
    (ho : o.op = .call { callee := .builtin .append, args := #[s, x], argTypes := #[53, 53] })
    (B : Nat) (w0 : World) (g n cap : Nat) (l : List Nat) (hs : a.eval s = .slice (some ⟨g, 0, none⟩) n cap) (hn : n = l.length) (hown : OwnI B w (.slice (some ⟨g, 0, none⟩) n cap) l) (hb : Below B w0 w) (hB : B ≤ w.heap.size)
    (ad : Addr) (m c : Nat) (ms : List Nat) (hx : a.eval x = .slice (some ad) m c) (hm : ms.length = m) (hm0 : 0 < m) (hnews : ∀ j u, (i64s ms)[j]? = some u → w.cell? (ad.add j) = some u)
    (hlen : l.length + m ≤ 1000000000000)
    (h : ∀ v' w', OwnI B w' v' (l ++ ms) → Below B w0 w' → RwI w' g l → K (a.put o.dst v') w') : o.wp Tryd.prog a w K Q := by
  subst hn
  obtain ⟨i0, hi, hz0, hz1, hz2⟩ := info_parts info_int
  obtain ⟨v', w', hr, h2, h3, _, _⟩ := run_append_own_at (P := Tryd.prog) w B 53 o.type 3 i0 (.int .i64 0) 1 8 Tryd.underlying53 hi hz0 hz1 hz2 rfl (by decide) _ l.length (i64s l) hown ad m c (i64s ms) (by rw [i64s_length]; omega) hnews (i64s_one _) (by unfold maxLen; omega) (by omega) hB
  have hown2 : OwnI B w' v' (l ++ ms) := by
    unfold OwnI
    rw [List.length_append, i64s_append, hm]
    exact h2
  have hk : RwI w' g l := by
    rcases hown.2 with ⟨h', _⟩ | ⟨g', cap', cur, h', _, hg, _, _, hcs, _⟩
    · simp at h'
    · simp only [Value.slice.injEq, Option.some.injEq, Addr.mk.injEq, and_true, true_and] at h'
      obtain ⟨rfl, rfl⟩ := h'
      by_cases hroom : l.length + m ≤ cap
      · have hr2 := run_append_room (P := Tryd.prog) w 53 o.type 3 i0 Tryd.underlying53 hi g l.length cap cur hg ad m c (i64s ms) (by rw [i64s_length, hz1]; omega) hnews (i64s_one _) hroom (by rw [i64s_length, hz1, hcs]; omega)
        rw [hr] at hr2
        have e1 : v' = .slice (some ⟨g, 0, none⟩) (l.length + m) cap := by injection hr2
        rw [e1] at hown2
        have hr3 := hown2.rw (by rw [List.length_append, hm])
        intro j hj
        have := hr3 j (by rw [List.length_append]; omega)
        rw [this]
        simp only [List.getD_eq_getElem?_getD]
        rw [List.getElem?_append_left hj]
      · have holds := World.ownsRow.cells hown (g := g) rfl
        have hr2 := run_append_grow (P := Tryd.prog) w 53 o.type 3 i0 (.int .i64 0) Tryd.underlying53 hi hz0 ⟨g, 0, none⟩ l.length cap (i64s l) (by rw [i64s_length, hz1]; omega) holds ad m c (i64s ms) (by rw [i64s_length, hz1]; omega) hnews (by omega) (by omega) (by rw [hz2]; exact growslice_fits (by omega) (by omega))
        rw [hr] at hr2
        injection hr2 with _ e2
        have hl := hown.rw rfl
        intro j hj
        rw [← hl j hj, e2]
        have hgl : g < w.heap.size := by
          rcases Nat.lt_or_ge g w.heap.size with hlt | hge
          · exact hlt
          · rw [Array.getElem?_eq_none hge] at hg; cases hg
        exact World.cell?_alloc_old w.drew _ ⟨g, j, none⟩ (Nat.ne_of_lt hgl)
  unfold Oper.wp execOp
  simp only [ho, resolve, invoke, builtin, Sem.run_bind, Sem.run_pure, Result.andThen_ok, List.map_toArray, List.map_cons, List.map_nil, hs, hx, hr]
  exact h v' w' hown2 (hb.grown h3 hB fun k hk => (hown.lt k hk).1) hk
theorem step_appIK {ops : Array Oper} {o : Oper} {a : Act} {w : World} {K : Act → World → Prop} {Q : Exit → Act → World → Prop} {E : Prop} (hgd : o.guard = none) (s x : Operand)
    (ho : o.op = .call { callee := .builtin .append, args := #[s, x], argTypes := #[53, 53] })
    (B : Nat) (w0 : World) (g n cap : Nat) (l : List Nat) (hs : a.eval s = .slice (some ⟨g, 0, none⟩) n cap) (hn : n = l.length) (hown : OwnI B w (.slice (some ⟨g, 0, none⟩) n cap) l) (hb : Below B w0 w) (hB : B ≤ w.heap.size)
    (ad : Addr) (m c : Nat) (ms : List Nat) (hx : a.eval x = .slice (some ad) m c) (hm : ms.length = m) (hm0 : 0 < m) (hnews : ∀ j u, (i64s ms)[j]? = some u → w.cell? (ad.add j) = some u)
    (hlen : l.length + m ≤ 1000000000000)
    (h : ∀ v' w', OwnI B w' v' (l ++ ms) → Below B w0 w' → RwI w' g l → K (a.put o.dst v') w') :
    if Region.wanted o (yielded ops a.tmps) = true then Oper.wp Tryd.prog o a w K Q else E := by
  have hw : Region.wanted o (yielded ops a.tmps) = true := by simp [Region.wanted, hgd]
  rw [if_pos hw]
  exact wp_appIK s x ho B w0 g n cap l hs hn hown hb hB ad m c ms hx hm hm0 hnews hlen h
/-- The cells of a new block of numbers. -/
theorem news_int (w : World) (ms : List Nat) (cs : Array Value) (t : TypeId) (h : cs.toList = i64s ms) : ∀ j u, (i64s ms)[j]? = some u → (w.alloc (.cells cs t)).cell? ((⟨w.heap.size, 0, none⟩ : Addr).add j) = some u := by
  rw [← h]
  exact World.news_of_block (w := (w.alloc (.cells cs t))) (cs := cs) (t := t) (fr := (0, 0)) (heap_alloc_new w _)
theorem i64s_one_eq (x : Nat) (a : Int) (h : a = x) : (#[Value.int .i64 a] : Array Value).toList = i64s [x] := by subst h; rfl

theorem rwI_new (w : World) (cs : Array Value) (t : TypeId) (l : List Nat) (h : cs.toList = i64s l) : RwI (w.alloc (.cells cs t)) w.heap.size l := by
  intro j hj
  exact (Blk.new w t cs).cell (by rw [h]; exact i64s_get l j hj)
theorem RwI.other {w : World} {g : Nat} {l : List Nat} (h : RwI w g l) (a : Addr) (v : Value) (hne : g ≠ a.block) : RwI (w.setCell a v) g l := fun j hj =>
  (World.cell?_setCell_other w _ _ v (fun e => hne (by rw [e]))).trans (h j hj)
theorem RwI.set {w : World} {g : Nat} {l : List Nat} (h : RwI w g l) (j x : Nat) (hj : j < l.length) : RwI (w.setCell ⟨g, j, none⟩ (.int .i64 ((x : Nat) : Int))) g (l.set j x) := by
  intro i hi
  rw [List.length_set] at hi
  by_cases e : j = i
  · subst e
    rw [World.cell?_setCell_same (h := h j hj)]
    simp [List.getD, hj]
  · rw [World.cell?_setCell_other w _ _ _ (fun e2 => e (by injection e2)), h i hi]
    simp [List.getD, e]

theorem madeI (n : Nat) : (madeCells (Value.int .i64 0).cells (n * 1)).toList = i64s (List.replicate n 0) := by
  rw [Nat.mul_one, show (Value.int .i64 0).cells = #[.int .i64 0] from rfl, toList_madeCells_one, i64s, List.map_replicate]
  rfl
/-- make([]int, n): so many zeros. -/
theorem wpList_mkI {ops : Array Oper} {rest : List Oper} {o : Oper} {a : Act} {w : World} {Q : Exit → Act → World → Prop} (hgd : o.guard = none) (s x : Operand)
    (ho : o.op = .makeSlice 53 s x) (B : Nat) (w0 : World) (L C : Int) (n : Nat) (hs : a.eval s = .int .i64 L) (hx : a.eval x = .int .i64 C) (hL : L = n) (hC : C = n) (hn : n ≤ 1000000000) (hb : Below B w0 w) (hB : B ≤ w.heap.size)
    (h : ∀ w', OwnI B w' (.slice (some ⟨w.heap.size, 0, none⟩) n n) (List.replicate n 0) → Below B w0 w' → wpList Tryd.prog ops Q rest (a.put o.dst (.slice (some ⟨w.heap.size, 0, none⟩) n n)) w') : wpList Tryd.prog ops Q (o :: rest) a w := by
  obtain ⟨i0, hi, hz0, hz1, hz2⟩ := info_parts info_int
  refine wpList_make_full _ hgd s x 53 ho B 3 i0 (.int .i64 0) 1 Tryd.underlying53 hi hz0 hz1 _ _ _ _ n hs hx hL hC (by rw [hz2]; omega) (by unfold maxLen; omega) hB ?_
  intro w' hown hgrow
  refine h w' ?_ (hb.grown hgrow hB fun k hk => by cases hk)
  unfold OwnI
  rw [List.length_replicate, ← madeI]
  exact hown
end Go.Proofs.YtlllcdjcihnkdaaDoor
