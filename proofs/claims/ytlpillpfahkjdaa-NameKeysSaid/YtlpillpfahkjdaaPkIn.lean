/- Rows of fields, and pairs of texts, that came in. -/
import Derived.Test.YtlpillpfahkjdaaPkTop
import Derived.Test.YtlpillpfahkjdaaStays
import Derived.ChangeSlices
import Derived.Deep.Grids
namespace Go.Proofs.Ytlpillpfahkjdaa
set_option maxRecDepth 100000
open Go.ChangeShapes Go.WideShapes Go.ChangeAt Go.RowKit

theorem padd (g o j : Nat) : (⟨g, o, none⟩ : Addr).add j = ⟨g, o + j, none⟩ := by unfold Addr.add; split <;> simp_all
theorem prow_in {H : Type} {enc : TypeId × Value → H} {W : World} {n : Nat} {v : Value} {y : DataW H × List MemPlace} {α : Type} [Inhabited α] {T E c : Nat} (f : α → List Value) (ok : α → Prop)
    (hT : Try.prog.underlying T = some (.slice E)) (hc : Try.prog.cellsOf E = c) (h0 : 0 < c)
    (hel : ∀ (n : Nat) (cs : List Value) (y : DataW H × List MemPlace), cs.length = c → DataW.trod enc Try.prog W 0 (fun _ => true) true n E cs = some y → ∃ x, cs = f x ∧ ok x)
    (h : DataW.trod enc Try.prog W 0 (fun _ => true) true n T [v] = some y) :
    ∃ (l : List α) (a : Option Addr) (cap : Nat), v = .slice a l.length cap ∧ l.length ≤ cap ∧ l.length ≤ 9223372036854775807 ∧ ∀ i (hi : i < l.length), ok l[i] ∧ ∃ g o, a = some ⟨g, o, none⟩ ∧ g < W.heap.size ∧
      ∀ j (hj : j < l.length) m, m < c → W.cell? ⟨g, o + (j * c + m), none⟩ = (f l[j])[m]? := by
  rcases Deep.open_slice hT h with ⟨e, _⟩ | ⟨a, len, cap, m, n', D, Pl, e, _, hl, hmx, hm, _, hx⟩
  · simp only [List.cons.injEq, and_true] at e
    exact ⟨[], none, 0, e, Nat.le_refl _, by simp, fun i hi => by simp at hi⟩
  · simp only [List.cons.injEq, and_true] at e
    subst e
    simp only [if_true] at hm
    subst hm
    rw [hc] at hx
    obtain ⟨X, hX⟩ := Deep.choose_lt (α := α) (p := fun i x => W.cells? 0 (a.add (i * c)) c = some (f x) ∧ ok x) (fun i (hi : i < m) => by
      obtain ⟨cs', h1, h2⟩ := hx i hi
      obtain ⟨x, rfl, hx'⟩ := hel _ _ _ (World.cells?_some h1).2.1 h2
      exact ⟨x, h1, hx'⟩)
    rcases Nat.eq_zero_or_pos len with rfl | hn
    · exact ⟨[], _, m, rfl, Nat.zero_le _, by simp, fun i hi => by simp at hi⟩
    · obtain ⟨g, o, spot⟩ := a
      have h00 := (World.cells?_some (hX 0 (by omega)).1).2.2 0 h0
      have hf0 := (World.cells?_some (hX 0 (by omega)).1).2.1
      rw [List.getElem?_eq_getElem (by omega)] at h00
      have hspot : spot = none := by simpa [Addr.add] using World.cell?_spot h00
      subst hspot
      have hg := World.block_lt_of_cell? _ _ h00
      have hg : g < W.heap.size := by rw [padd, padd] at hg; exact hg
      refine ⟨(List.range len).map X, some ⟨g, o, none⟩, m, by simp, by simpa using hl, by simp; unfold maxLen at hmx; omega, fun i hi => ?_⟩
      have hi' : i < len := by simpa using hi
      refine ⟨by simpa using (hX i (by omega)).2, g, o, rfl, hg, fun j hj k hk => ?_⟩
      have hj' : j < len := by simpa using hj
      have k0 := (World.cells?_some (hX j (by omega)).1).2.2 k hk
      rw [padd, padd] at k0
      rw [List.getElem_map, List.getElem_range, ← Nat.add_assoc]
      exact k0
theorem u64_wf {m : Int} (hw : (Lit.int .u64 m).wf = true) : ∃ n : Nat, m = n ∧ n < 2 ^ 64 := by
  simp only [Lit.wf, Bool.and_eq_true, decide_eq_true_eq] at hw
  have h1 : (0 : Int) ≤ m := hw.1
  have h2 : m ≤ 18446744073709551615 := hw.2
  exact ⟨m.toNat, by omega, by omega⟩
theorem field_in {H : Type} {enc : TypeId × Value → H} {W : World} {n : Nat} {cs : List Value} {y : DataW H × List MemPlace} (hcl : cs.length = 2)
    (h : DataW.trod enc Try.prog W 0 (fun _ => true) true n 56 cs = some y) : ∃ x : Pk.Fd, cs = [.int .u64 x.n, .string (bs x.s)] ∧ x.n < 2 ^ 64 := by
  obtain ⟨xs, k, _, _, _, hxl, hf⟩ := DataW.trod_struct Try.underlying56 h
  have ci : Try.prog.cellsOf 22 = 1 := by kernel_rfl
  have cst : Try.prog.cellsOf 9 = 1 := by kernel_rfl
  match xs, hxl, cs, hcl with
  | [y0, y1], _, [v0, v1], _ =>
    have g0 := hf 0 _ rfl
    have g1 := hf 1 _ rfl
    simp [ci, cst] at g0 g1
    obtain ⟨m0, e0, _, hw⟩ := DataW.trod_int Try.underlying22 g0
    obtain ⟨s, e1, _, _⟩ := DataW.trod_string Try.underlying9 g1
    injection e0 with e0 _
    injection e1 with e1 _
    subst e0 e1
    obtain ⟨m, rfl, hm⟩ := u64_wf hw
    exact ⟨⟨m, s.data.toList⟩, rfl, hm⟩
theorem fields_in {H : Type} {enc : TypeId × Value → H} {W : World} {base : Nat} {v : Value} {d : DataW H} {p : List MemPlace}
    (hval : Value.okWide Try.prog W .any base 59 v) (hd : DataW.Trod enc Try.prog W 0 (fun _ => true) true 59 v d p) : ∃ l, RdF W v l ∧ l.length ≤ 9223372036854775807 := by
  obtain ⟨a, n, cap, rfl⟩ := okWide_slice Try.underlying59 hval
  obtain ⟨f, hf⟩ := hd
  obtain ⟨l, a', cap', e, h1, h2, h3⟩ := prow_in (fun x : Pk.Fd => [.int .u64 x.n, .string (bs x.s)]) (fun x => x.n < 2 ^ 64) Try.underlying59 (c := 2) (by kernel_rfl) (by decide) (fun n cs y hl h => field_in hl h) hf
  refine ⟨l, ⟨a', cap', e, h1, fun i hi => ?_⟩, h2⟩
  obtain ⟨k1, g, o, k2, k3, k4⟩ := h3 i hi
  exact ⟨k1, g, o, k2, k3, fun j hj => ⟨k4 j hj 0 (by decide), by rw [Nat.add_assoc]; exact k4 j hj 1 (by decide)⟩⟩
theorem fields_form {H : Type} {enc : TypeId × Value → H} {W : World} {base : Nat} {v : Value} {d : DataW H} {p : List MemPlace}
    (hval : Value.okWide Try.prog W .any base 59 v) (hd : DataW.Trod enc Try.prog W 0 (fun _ => true) true 59 v d p) : v = .slice none 0 0 ∨ ∃ ad n c, v = .slice (some ad) n c := by
  obtain ⟨a, n, cap, rfl⟩ := okWide_slice Try.underlying59 hval
  obtain ⟨f, hf⟩ := hd
  rcases Deep.open_slice Try.underlying59 hf with ⟨e, _⟩ | ⟨a', len, cap', m, n', D, Pl, e, _⟩
  · simp only [Value.cells, List.cons.injEq, and_true] at e
    exact .inl e
  · simp only [Value.cells, List.cons.injEq, and_true] at e
    exact .inr ⟨_, _, _, e⟩
end Go.Proofs.Ytlpillpfahkjdaa
