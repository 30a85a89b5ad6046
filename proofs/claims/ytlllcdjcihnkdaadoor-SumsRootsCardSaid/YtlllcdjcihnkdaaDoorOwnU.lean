/- Slices of numbers of 64 bits that a call makes: what they own, as a list of numbers; the document's known numbers. -/
import Derived.Test.YtlllcdjcihnkdaaDoorRefSha
import Derived.Test.YtlllcdjcihnkdaaDoorBytes
namespace Go.Proofs.YtlllcdjcihnkdaaDoor
open Go.RowKit

/-- Numbers of 64 bits as cells. -/
def u64s (l : List Nat) : List Value := l.map fun (n : Nat) => Value.int .u64 (n : Int)
theorem u64s_length (l : List Nat) : (u64s l).length = l.length := by simp [u64s]
theorem u64s_append (a b : List Nat) : u64s (a ++ b) = u64s a ++ u64s b := by simp [u64s]
theorem u64s_get (l : List Nat) (j : Nat) (h : j < l.length) : (u64s l)[j]? = some (.int .u64 ((l.getD j 0 : Nat) : Int)) := by simp [u64s, h]
theorem u64s_one (l : List Nat) : ∀ u ∈ u64s l, u.oneCell' = true := by
  intro u hu
  simp only [u64s, List.mem_map] at hu
  obtain ⟨c, _, rfl⟩ := hu
  rfl
/-- v holds the numbers l, in memory of the call's own (from block B on). -/
def OwnU (B : Nat) (w : World) (v : Value) (l : List Nat) : Prop := w.ownsRow B 38 1 v l.length (u64s l)
theorem OwnU.alloc {B : Nat} {w : World} {v : Value} {l : List Nat} (h : OwnU B w v l) (o : Obj) : OwnU B (w.alloc o) v l := World.ownsRow.alloc h o
theorem OwnU.drew {B : Nat} {w : World} {v : Value} {l : List Nat} (h : OwnU B w v l) : OwnU B w.drew v l := World.ownsRow.drew h
theorem OwnU.drewN {B : Nat} {w : World} {v : Value} {l : List Nat} (h : OwnU B w v l) (n : Nat) : OwnU B (w.drewN n) v l := h
theorem OwnU.nil (B : Nat) (w : World) : OwnU B w (.slice none 0 0) [] := World.ownsRow_nil w B _ 1
theorem OwnU.form {B : Nat} {w : World} {v : Value} {l : List Nat} (h : OwnU B w v l) (hn : 0 < l.length) : ∃ g cap, v = .slice (some ⟨g, 0, none⟩) l.length cap ∧ B ≤ g ∧ g < w.heap.size := World.ownsRow.form h hn
/-- Block g holds the numbers l. -/
def Rw (w : World) (g : Nat) (l : List Nat) : Prop := ∀ j, j < l.length → w.cell? ⟨g, j, none⟩ = some (.int .u64 ((l.getD j 0 : Nat) : Int))
theorem OwnU.rw {B : Nat} {w : World} {g n cap : Nat} {l : List Nat} (h : OwnU B w (.slice (some ⟨g, 0, none⟩) n cap) l) (hn : n = l.length) : Rw w g l := by
  subst hn
  intro j hj
  rw [World.ownsRow.cellAt h j (by omega), u64s_get l j hj]
theorem Rw.below {w w' : World} {g B : Nat} {l : List Nat} (h : Rw w g l) (hb : Below B w w') (hg : g < B) : Rw w' g l := fun j hj => (hb.cell (p := ⟨g, j, none⟩) hg).trans (h j hj)
theorem add_at (g o j : Nat) : (⟨g, o, none⟩ : Addr).add j = ⟨g, o + j, none⟩ := by
  rcases Nat.eq_zero_or_pos j with rfl | h
  · simp [Addr.add]
  · simp [Addr.add, Nat.ne_of_gt h]
theorem Rw.news {w : World} {g : Nat} {l : List Nat} (h : Rw w g l) : ∀ j u, (u64s l)[j]? = some u → w.cell? ((⟨g, 0, none⟩ : Addr).add j) = some u := by
  intro j u hu
  have hj : j < l.length := by
    rcases Nat.lt_or_ge j l.length with h' | h'
    · exact h'
    · rw [List.getElem?_eq_none (by rw [u64s_length]; exact h')] at hu; cases hu
  rw [u64s_get l j hj] at hu
  rw [← hu, ← h j hj, add_at, Nat.zero_add]
theorem Rw.part {w : World} {g : Nat} {l : List Nat} (h : Rw w g l) (o m : Nat) (ho : o + m ≤ l.length) : ∀ j u, (u64s ((l.drop o).take m))[j]? = some u → w.cell? ((⟨g, o, none⟩ : Addr).add j) = some u := by
  have hl : ((l.drop o).take m).length = m := by rw [List.length_take, List.length_drop]; omega
  intro j u hu
  have hj : j < m := by
    rcases Nat.lt_or_ge j m with h' | h'
    · exact h'
    · rw [List.getElem?_eq_none (by rw [u64s_length, hl]; exact h')] at hu; cases hu
  rw [u64s_get _ j (by omega)] at hu
  have e : ((l.drop o).take m).getD j 0 = l.getD (o + j) 0 := by
    simp only [List.getD_eq_getElem?_getD]
    rw [List.getElem?_take_of_lt hj, List.getElem?_drop]
  rw [← hu, e, ← h (o + j) (by omega), add_at]
theorem info_u64 : (Tryd.prog.info? 38).map (fun i => (i.zero, i.size, i.bytes)) = some (some (.int .u64 0), 1, 8) := by kernel_rfl

/-- append of numbers, as one operation. -/
theorem wp_appU {o : Oper} {a : Act} {w : World} {K : Act → World → Prop} {Q : Exit → Act → World → Prop} (s x : Operand)
    (ho : o.op = .call { callee := .builtin .append, args := #[s, x], argTypes := #[25, 25] })
    (B : Nat) (w0 : World) (v : Value) (l : List Nat) (hs : a.eval s = v) (hown : OwnU B w v l) (hb : Below B w0 w) (hB : B ≤ w.heap.size)
    (ad : Addr) (m c : Nat) (ms : List Nat) (hx : a.eval x = .slice (some ad) m c) (hm : ms.length = m) (hnews : ∀ j u, (u64s ms)[j]? = some u → w.cell? (ad.add j) = some u)
    (hlen : l.length + m ≤ 1000000000000)
    (h : ∀ v' w', OwnU B w' v' (l ++ ms) → Below B w0 w' → K (a.put o.dst v') w') : o.wp Tryd.prog a w K Q := by
  obtain ⟨i0, hi, hz0, hz1, hz2⟩ := info_parts info_u64
  refine wp_append_own w s x 25 ho B 38 i0 (.int .u64 0) 1 8 Tryd.underlying25 hi hz0 hz1 hz2 rfl (by decide) v l.length (u64s l) hs hown ad m c (u64s ms) hx (by rw [u64s_length]; omega) hnews (u64s_one _) (by unfold maxLen; omega) (by omega) hB ?_
  intro v' w' hown' hgrow _
  refine h v' w' ?_ (hb.grown hgrow hB fun k hk => (hown.lt k hk).1)
  unfold OwnU
  rw [List.length_append, u64s_append, hm]
  exact hown'
theorem step_appU {ops : Array Oper} {o : Oper} {a : Act} {w : World} {K : Act → World → Prop} {Q : Exit → Act → World → Prop} {E : Prop} (hgd : o.guard = none) (s x : Operand)
    (ho : o.op = .call { callee := .builtin .append, args := #[s, x], argTypes := #[25, 25] })
    (B : Nat) (w0 : World) (v : Value) (l : List Nat) (hs : a.eval s = v) (hown : OwnU B w v l) (hb : Below B w0 w) (hB : B ≤ w.heap.size)
    (ad : Addr) (m c : Nat) (ms : List Nat) (hx : a.eval x = .slice (some ad) m c) (hm : ms.length = m) (hnews : ∀ j u, (u64s ms)[j]? = some u → w.cell? (ad.add j) = some u)
    (hlen : l.length + m ≤ 1000000000000)
    (h : ∀ v' w', OwnU B w' v' (l ++ ms) → Below B w0 w' → K (a.put o.dst v') w') :
    if Region.wanted o (yielded ops a.tmps) = true then Oper.wp Tryd.prog o a w K Q else E := by
  have hw : Region.wanted o (yielded ops a.tmps) = true := by simp [Region.wanted, hgd]
  rw [if_pos hw]
  exact wp_appU s x ho B w0 v l hs hown hb hB ad m c ms hx hm hnews hlen h
theorem wpList_appU {ops : Array Oper} {rest : List Oper} {o : Oper} {a : Act} {w : World} {Q : Exit → Act → World → Prop} (hgd : o.guard = none) (s x : Operand)
    (ho : o.op = .call { callee := .builtin .append, args := #[s, x], argTypes := #[25, 25] })
    (B : Nat) (w0 : World) (v : Value) (l : List Nat) (hs : a.eval s = v) (hown : OwnU B w v l) (hb : Below B w0 w) (hB : B ≤ w.heap.size)
    (ad : Addr) (m c : Nat) (ms : List Nat) (hx : a.eval x = .slice (some ad) m c) (hm : ms.length = m) (hnews : ∀ j u, (u64s ms)[j]? = some u → w.cell? (ad.add j) = some u)
    (hlen : l.length + m ≤ 1000000000000)
    (h : ∀ v' w', OwnU B w' v' (l ++ ms) → Below B w0 w' → wpList Tryd.prog ops Q rest (a.put o.dst v') w') : wpList Tryd.prog ops Q (o :: rest) a w :=
  wpList_plain hgd fun _ hK => wp_appU s x ho B w0 v l hs hown hb hB ad m c ms hx hm hnews hlen fun v' w' h1 h2 => hK _ _ (h v' w' h1 h2)
/-- append onto a row that holds numbers already: the old cells stay. -/
theorem wp_appK {o : Oper} {a : Act} {w : World} {K : Act → World → Prop} {Q : Exit → Act → World → Prop} (s x : Operand)
    (ho : o.op = .call { callee := .builtin .append, args := #[s, x], argTypes := #[25, 25] })
    (B : Nat) (w0 : World) (g n cap : Nat) (l : List Nat) (hs : a.eval s = .slice (some ⟨g, 0, none⟩) n cap) (hn : n = l.length) (hown : OwnU B w (.slice (some ⟨g, 0, none⟩) n cap) l) (hb : Below B w0 w) (hB : B ≤ w.heap.size)
    (ad : Addr) (m c : Nat) (ms : List Nat) (hx : a.eval x = .slice (some ad) m c) (hm : ms.length = m) (hm0 : 0 < m) (hnews : ∀ j u, (u64s ms)[j]? = some u → w.cell? (ad.add j) = some u)
    (hlen : l.length + m ≤ 1000000000000)
    (h : ∀ v' w', OwnU B w' v' (l ++ ms) → Below B w0 w' → Rw w' g l → K (a.put o.dst v') w') : o.wp Tryd.prog a w K Q := by
  subst hn
  obtain ⟨i0, hi, hz0, hz1, hz2⟩ := info_parts info_u64
  obtain ⟨v', w', hr, h2, h3, _, _⟩ := run_append_own_at (P := Tryd.prog) w B 25 o.type 38 i0 (.int .u64 0) 1 8 Tryd.underlying25 hi hz0 hz1 hz2 rfl (by decide) _ l.length (u64s l) hown ad m c (u64s ms) (by rw [u64s_length]; omega) hnews (u64s_one _) (by unfold maxLen; omega) (by omega) hB
  have hown2 : OwnU B w' v' (l ++ ms) := by
    unfold OwnU
    rw [List.length_append, u64s_append, hm]
    exact h2
  have hk : Rw w' g l := by
    rcases hown.2 with ⟨h', _⟩ | ⟨g', cap', cur, h', _, hg, _, _, hcs, _⟩
    · simp at h'
    · simp only [Value.slice.injEq, Option.some.injEq, Addr.mk.injEq, and_true, true_and] at h'
      obtain ⟨rfl, rfl⟩ := h'
      by_cases hroom : l.length + m ≤ cap
      · have hr2 := run_append_room (P := Tryd.prog) w 25 o.type 38 i0 Tryd.underlying25 hi g l.length cap cur hg ad m c (u64s ms) (by rw [u64s_length, hz1]; omega) hnews (u64s_one _) hroom (by rw [u64s_length, hz1, hcs]; omega)
        rw [hr] at hr2
        have e1 : v' = .slice (some ⟨g, 0, none⟩) (l.length + m) cap := by injection hr2
        rw [e1] at hown2
        have hr3 := hown2.rw (by rw [List.length_append, hm])
        intro j hj
        have := hr3 j (by rw [List.length_append]; omega)
        rw [this]
        simp only [List.getD_eq_getElem?_getD]
        rw [List.getElem?_append_left hj]
      · have holds := World.ownsRow.cells hown (g := g) rfl
        have hr2 := run_append_grow (P := Tryd.prog) w 25 o.type 38 i0 (.int .u64 0) Tryd.underlying25 hi hz0 ⟨g, 0, none⟩ l.length cap (u64s l) (by rw [u64s_length, hz1]; omega) holds ad m c (u64s ms) (by rw [u64s_length, hz1]; omega) hnews (by omega) (by omega) (by rw [hz2]; exact growslice_fits (by omega) (by omega))
        rw [hr] at hr2
        injection hr2 with _ e2
        have hl := hown.rw rfl
        intro j hj
        rw [← hl j hj, e2]
        have hgl : g < w.heap.size := by
          rcases Nat.lt_or_ge g w.heap.size with hlt | hge
          · exact hlt
          · rw [Array.getElem?_eq_none hge] at hg; cases hg
        exact World.cell?_alloc_old w.drew _ ⟨g, j, none⟩ (Nat.ne_of_lt hgl)
  unfold Oper.wp execOp
  simp only [ho, resolve, invoke, builtin, Sem.run_bind, Sem.run_pure, Result.andThen_ok, List.map_toArray, List.map_cons, List.map_nil, hs, hx, hr]
  exact h v' w' hown2 (hb.grown h3 hB fun k hk => (hown.lt k hk).1) hk
theorem step_appK {ops : Array Oper} {o : Oper} {a : Act} {w : World} {K : Act → World → Prop} {Q : Exit → Act → World → Prop} {E : Prop} (hgd : o.guard = none) (s x : Operand)
    (ho : o.op = .call { callee := .builtin .append, args := #[s, x], argTypes := #[25, 25] })
    (B : Nat) (w0 : World) (g n cap : Nat) (l : List Nat) (hs : a.eval s = .slice (some ⟨g, 0, none⟩) n cap) (hn : n = l.length) (hown : OwnU B w (.slice (some ⟨g, 0, none⟩) n cap) l) (hb : Below B w0 w) (hB : B ≤ w.heap.size)
    (ad : Addr) (m c : Nat) (ms : List Nat) (hx : a.eval x = .slice (some ad) m c) (hm : ms.length = m) (hm0 : 0 < m) (hnews : ∀ j u, (u64s ms)[j]? = some u → w.cell? (ad.add j) = some u)
    (hlen : l.length + m ≤ 1000000000000)
    (h : ∀ v' w', OwnU B w' v' (l ++ ms) → Below B w0 w' → Rw w' g l → K (a.put o.dst v') w') :
    if Region.wanted o (yielded ops a.tmps) = true then Oper.wp Tryd.prog o a w K Q else E := by
  have hw : Region.wanted o (yielded ops a.tmps) = true := by simp [Region.wanted, hgd]
  rw [if_pos hw]
  exact wp_appK s x ho B w0 g n cap l hs hn hown hb hB ad m c ms hx hm hm0 hnews hlen h
/-- The cells of a new block of numbers. -/
theorem news_u64 (w : World) (ms : List Nat) (cs : Array Value) (t : TypeId) (h : cs.toList = u64s ms) : ∀ j u, (u64s ms)[j]? = some u → (w.alloc (.cells cs t)).cell? ((⟨w.heap.size, 0, none⟩ : Addr).add j) = some u := by
  rw [← h]
  exact World.news_of_block (w := (w.alloc (.cells cs t))) (cs := cs) (t := t) (fr := (0, 0)) (heap_alloc_new w _)
theorem u64s_one_eq (x : Nat) (a : Int) (h : a = x) : (#[Value.int .u64 a] : Array Value).toList = u64s [x] := by subst h; rfl

namespace Nb
/-- One more byte of a text of numbers: those that are whole, the one that is begun, its digits. -/
def step (s : List Nat × Nat × Nat) (c : UInt8) : List Nat × Nat × Nat :=
  if Hx.val c < 0 then s else if s.2.2 = 7 then (s.1 ++ [16 * s.2.1 + (Hx.val c).toNat], 0, 0) else (s.1, 16 * s.2.1 + (Hx.val c).toNat, s.2.2 + 1)
def run (l : List UInt8) : List Nat × Nat × Nat := l.foldl step ([], 0, 0)
theorem run_snoc (l : List UInt8) (c : UInt8) : run (l ++ [c]) = step (run l) c := by simp [run]
theorem pow_le {d : Nat} (h : d ≤ 7) : 16 ^ d ≤ 268435456 := Nat.le_trans (Nat.pow_le_pow_right (by decide) h) (by decide)
theorem step_ok (s : List Nat × Nat × Nat) (c : UInt8) (n : Nat) (h : s.2.1 < 16 ^ s.2.2 ∧ s.2.2 ≤ 7 ∧ s.1.length ≤ n) : (step s c).2.1 < 16 ^ (step s c).2.2 ∧ (step s c).2.2 ≤ 7 ∧ (step s c).1.length ≤ n + 1 := by
  obtain ⟨o, x, d⟩ := s
  obtain ⟨h1, h2, h3⟩ := h
  simp only at h1 h2 h3
  unfold step
  by_cases hv : Hx.val c < 0
  · rw [if_pos hv]
    exact ⟨h1, h2, by simp only; omega⟩
  · rw [if_neg hv]
    have hle := Hx.val_le c
    by_cases hd : d = 7
    · rw [if_pos hd]
      exact ⟨by simp, by simp, by simp; omega⟩
    · rw [if_neg hd]
      refine ⟨?_, by simp only; omega, by simp only; omega⟩
      show 16 * x + (Hx.val c).toNat < 16 ^ (d + 1)
      rw [Nat.pow_succ]
      omega
theorem run_from (l : List UInt8) : ∀ (s : List Nat × Nat × Nat) (n : Nat), s.2.1 < 16 ^ s.2.2 ∧ s.2.2 ≤ 7 ∧ s.1.length ≤ n → (l.foldl step s).2.1 < 16 ^ (l.foldl step s).2.2 ∧ (l.foldl step s).2.2 ≤ 7 ∧ (l.foldl step s).1.length ≤ n + l.length := by
  induction l with
  | nil => intro s n h; exact h
  | cons c l ih =>
    intro s n h
    have := ih (step s c) (n + 1) (step_ok s c n h)
    rw [List.length_cons, show n + (l.length + 1) = n + 1 + l.length by omega]
    exact this
theorem run_ok (l : List UInt8) : (run l).2.1 ≤ 268435455 ∧ (run l).2.2 ≤ 7 ∧ (run l).1.length ≤ l.length := by
  have h := run_from l ([], 0, 0) 0 ⟨by decide, by decide, by decide⟩
  rw [Nat.zero_add] at h
  obtain ⟨h1, h2, h3⟩ := h
  exact ⟨by have := pow_le h2; unfold run; omega, h2, h3⟩
end Nb

theorem numbers_any (t : ByteArray) (w : World) (ht : t.size ≤ 10000) :
    Calls Tryd.prog 34 #[.string t] w fun e w' => ∃ v, e = .returned v ∧ OwnU w.heap.size w' v (Nb.run t.data.toList).1 ∧ Below w.heap.size w w' := by
  go_enter Tryd.func34, Tryd.ntmps34
  go_wp2
  go_loopw [3, 4, 5, 6, 7] (fun v x d i _ wr => ∃ (k : Nat) (s : List Nat × Nat × Nat), k ≤ t.size ∧ Hid (s = Nb.run (t.data.toList.take k)) ∧ i = .int .i64 k ∧ x = .int .u64 (s.2.1 : Nat) ∧ d = .int .i64 (s.2.2 : Nat) ∧ OwnU w.heap.size wr v s.1 ∧ Below w.heap.size w wr) (fun _ _ _ i _ _ => t.size - (intOf i).toNat)
  case atStart => exact ⟨0, ([], 0, 0), Nat.zero_le _, rfl, rfl, rfl, rfl, OwnU.nil _ _, Below.refl _ _⟩
  case round =>
    obtain ⟨k, ⟨l, x, d⟩, hk, hs, rfl, rfl, rfl, hown, hb⟩ := hrel
    simp only at hown ⊢
    by_cases hlt : k < t.size
    · have ok := Nb.run_ok (t.data.toList.take k)
      rw [← hs.out] at ok
      obtain ⟨hx, hd, hl⟩ := ok
      simp only at hx hd hl
      have hl' : l.length ≤ 10000 := by rw [List.length_take] at hl; omega
      clear hl
      have hn := Lib.hid (show Nb.run (t.data.toList.take (k + 1)) = Nb.step (l, x, d) t[k] by rw [Hx.take_snoc t k hlt, Nb.run_snoc, ← hs.out])
      have hge := Hx.val_ge t[k]
      have hle := Hx.val_le t[k]
      have HV := Lib.hid (show Nb.step (l, x, d) t[k] = if Hx.val t[k] < 0 then (l, x, d) else if d = 7 then (l ++ [16 * x + (Hx.val t[k]).toNat], 0, 0) else (l, 16 * x + (Hx.val t[k]).toNat, d + 1) from rfl)
      go_wp2_with fail
      refine (value_any t[k] _).mono ?_
      rintro e w' ⟨rfl, rfl⟩
      rw [← hn.out] at HV
      obtain ⟨z, hz⟩ : ∃ z, z = Hx.val t[k] := ⟨_, rfl⟩
      rw [← hz] at hge hle HV ⊢
      clear hn hz
      by_cases hneg : z < 0
      · have HN := Lib.hid (HV.out.trans (if_pos hneg))
        go_wp2
        go_roundw
        case rel => exact ⟨k + 1, (l, x, d), by omega, HN.out.symm, by go_num, rfl, rfl, hown, hb⟩
        case measure => simp [intOf]; omega
      · have hneg' : ¬ z < 0 := hneg
        obtain ⟨y, rfl⟩ : ∃ y : Nat, z = y := ⟨z.toNat, by omega⟩
        by_cases h7 : d = 7
        · have HN := Lib.hid ((HV.out.trans (if_neg hneg)).trans (if_pos h7))
          have h8 : (d : Int) = 7 := by omega
          rw [h8]
          clear HV hneg hd h7
          go_wp2_with (at_builtin; refine wpList_appU rfl _ _ rfl w.heap.size wr _ _ rfl (hown.alloc _) ((Below.refl _ _).alloc hb.size _) (by have := hb.size; simp; omega) ⟨wr.heap.size, 0, none⟩ 1 1 [16 * x + y] rfl rfl (news_u64 _ _ _ _ (u64s_one_eq _ _ (by simp))) (by omega) ?_; intro v' w1 hown' hb')
          refine ⟨⟨k + 1, (l ++ [16 * x + y], 0, 0), by omega, by rw [HN.out]; rfl, by go_num, rfl, rfl, hown', hb.trans hb'⟩, by simp [intOf]; omega⟩
        · have HN := Lib.hid ((HV.out.trans (if_neg hneg)).trans (if_neg h7))
          have hne : ((d : Int) + 1 == 8) = false := by rw [beq_eq_false_iff_ne]; omega
          clear HV hneg h7
          go_wp2
          go_roundw
          case rel => exact ⟨k + 1, (l, 16 * x + y, d + 1), by omega, HN.out.symm, by go_num, by go_num, by go_num, hown, hb⟩
          case measure => simp [intOf]; omega
    · have e := Lib.hid (Hx.take_all t k hlt)
      go_wp2
      go_ret
      exact ⟨_, rfl, by have h := hs.out; rw [e.out] at h; rw [← h]; exact hown, hb⟩
end Go.Proofs.YtlllcdjcihnkdaaDoor
