/- A slice of acts that came in. -/
import Derived.Test.YtdcidfamflcdaaaReads4
import Derived.Test.YtdcidfamflcdaaaSecDo
namespace Go.Proofs.Ytdcidfamflcdaaa
open Go.ChangeShapes Go.WideShapes Go.ChangeAt Go.RowKit

/-- An act: what, where, a text, what is kept (and the value that it lies in). -/
structure ActD where
  what : Int
  at_ : Int
  text : ByteArray
  vk : Value
  keep : List Bool
instance : Inhabited ActD := ⟨⟨0, 0, .empty, .slice none 0 0, []⟩⟩
def ActD.ok (W : World) (x : ActD) : Prop := -9223372036854775808 ≤ x.at_ ∧ x.at_ ≤ 9223372036854775807 ∧ RdB W x.vk x.keep
/-- v reads as the acts l. -/
def RdA (w : World) (v : Value) (l : List ActD) : Prop :=
  ∃ (a : Option Addr) (cap : Nat), v = .slice a l.length cap ∧ l.length ≤ cap ∧ l.length ≤ 9223372036854775807 ∧ ∀ i (hi : i < l.length), l[i].ok w ∧ ∃ g o, a = some ⟨g, o, none⟩ ∧ g < w.heap.size ∧
    ∀ j (hj : j < l.length), w.cell? ⟨g, o + j * 4, none⟩ = some (.int .i64 l[j].what) ∧ w.cell? ⟨g, o + j * 4 + 1, none⟩ = some (.int .i64 l[j].at_) ∧ w.cell? ⟨g, o + j * 4 + 2, none⟩ = some (.string l[j].text) ∧ w.cell? ⟨g, o + j * 4 + 3, none⟩ = some l[j].vk

theorem act_in {H : Type} {enc : TypeId × Value → H} {W : World} {n : Nat} {cs : List Value} {y : DataW H × List MemPlace}
    (h : DataW.trod enc Try.prog W 0 (fun _ => true) true n 34 cs = some y) : ∃ x : ActD, cs = [.int .i64 x.what, .int .i64 x.at_, .string x.text, x.vk] ∧ x.ok W := by
  obtain ⟨xs, k, _, _, hcl, hxl, hf⟩ := DataW.trod_struct Try.underlying34 h
  have c4 : Try.prog.cellsOf 34 = 4 := by kernel_rfl
  have ci : Try.prog.cellsOf 3 = 1 := by kernel_rfl
  have cst : Try.prog.cellsOf 9 = 1 := by kernel_rfl
  have cb : Try.prog.cellsOf 32 = 1 := by kernel_rfl
  rw [c4] at hcl
  match xs, hxl, cs, hcl with
  | [y0, y1, y2, y3], _, [v0, v1, v2, v3], _ =>
    have g0 := hf 0 _ rfl
    have g1 := hf 1 _ rfl
    have g2 := hf 2 _ rfl
    have g3 := hf 3 _ rfl
    simp [ci, cst, cb] at g0 g1 g2 g3
    obtain ⟨m0, e0, _, _⟩ := DataW.trod_int Try.underlying3 g0
    obtain ⟨m1, e1, _, hw⟩ := DataW.trod_int Try.underlying3 g1
    obtain ⟨s, e2, _, _⟩ := DataW.trod_string Try.underlying9 g2
    obtain ⟨l, hl⟩ := bools_in' g3
    injection e0 with e0 _
    injection e1 with e1 _
    injection e2 with e2 _
    subst e0 e1 e2
    have hw' : (-9223372036854775808 : Int) ≤ m1 ∧ m1 ≤ 9223372036854775807 := by
      simp only [Lit.wf, Bool.and_eq_true, decide_eq_true_eq] at hw
      exact hw
    exact ⟨⟨m0, m1, s, v3, l⟩, rfl, hw'.1, hw'.2, hl⟩

theorem acts_in {H : Type} {enc : TypeId × Value → H} {W : World} {base : Nat} {v : Value} {d : DataW H} {p : List MemPlace}
    (hval : Value.okWide Try.prog W .any base 22 v) (hd : DataW.Trod enc Try.prog W 0 (fun _ => true) true 22 v d p) : ∃ l, RdA W v l := by
  obtain ⟨a, n, cap, rfl⟩ := okWide_slice Try.underlying22 hval
  obtain ⟨f, hf⟩ := hd
  have c4 : Try.prog.cellsOf 34 = 4 := by kernel_rfl
  rcases Deep.open_slice Try.underlying22 hf with ⟨e, _⟩ | ⟨a', len, cap', m, n', D, Pl, e, _, hl, hmx, hm, _, hx⟩
  · simp only [Value.cells, List.cons.injEq, and_true] at e
    rw [e]
    exact ⟨[], none, 0, rfl, Nat.le_refl _, by simp, fun i hi => by simp at hi⟩
  · simp only [Value.cells, List.cons.injEq, and_true] at e
    rw [e]
    simp only [if_true] at hm
    subst hm
    rw [c4] at hx
    obtain ⟨X, hX⟩ := Deep.choose_lt (α := ActD) (p := fun i x => W.cells? 0 (a'.add (i * 4)) 4 = some [.int .i64 x.what, .int .i64 x.at_, .string x.text, x.vk] ∧ x.ok W) (fun i (hi : i < m) => by
      obtain ⟨cs', h1, h2⟩ := hx i hi
      obtain ⟨x, rfl, hx'⟩ := act_in h2
      exact ⟨x, h1, hx'⟩)
    rcases Nat.eq_zero_or_pos len with rfl | hn
    · exact ⟨[], _, m, rfl, Nat.zero_le _, by simp, fun i hi => by simp at hi⟩
    · obtain ⟨g, o, spot⟩ := a'
      have h0 := (World.cells?_some (hX 0 (by omega)).1).2.2 0 (by omega)
      have hspot : spot = none := by simpa [Addr.add] using World.cell?_spot h0
      subst hspot
      have hg := World.block_lt_of_cell? _ _ h0
      have hg : g < W.heap.size := by rw [addr_add, addr_add] at hg; exact hg
      refine ⟨(List.range len).map X, some ⟨g, o, none⟩, m, by simp, by simpa using hl, by simp; unfold maxLen at hmx; omega, fun i hi => ?_⟩
      have hi' : i < len := by simpa using hi
      refine ⟨by simpa using (hX i (by omega)).2, g, o, rfl, hg, fun j hj => ?_⟩
      have hj' : j < len := by simpa using hj
      obtain ⟨_, _, hc⟩ := World.cells?_some (hX j (by omega)).1
      have k0 := hc 0 (by omega)
      have k1 := hc 1 (by omega)
      have k2 := hc 2 (by omega)
      have k3 := hc 3 (by omega)
      rw [addr_add, addr_add] at k0 k1 k2 k3
      rw [List.getElem_map, List.getElem_range]
      exact ⟨by simpa using k0, by simpa using k1, by simpa using k2, by simpa using k3⟩
end Go.Proofs.Ytdcidfamflcdaaa
