/- Rows of bytes and of bools that came in. -/
import Derived.Test.YthkblabpiajbhaaDoorSecFall
import Derived.Test.YthkblabpiajbhaaDoorStays
import Derived.ChangeSlices
import Derived.Deep.Grids
namespace Go.Proofs.YthkblabpiajbhaaDoor
set_option maxRecDepth 100000
open Go.ChangeShapes Go.WideShapes Go.ChangeAt Go.RowKit

/-- v reads as the bytes l. -/
def RdY (w : World) (v : Value) (l : List UInt8) : Prop :=
  ∃ (a : Option Addr) (cap : Nat), v = .slice a l.length cap ∧ l.length ≤ cap ∧ ∀ i (_ : i < l.length), ∃ g o, a = some ⟨g, o, none⟩ ∧ g < w.heap.size ∧ ∀ j (hj : j < l.length), w.cell? ⟨g, o + j, none⟩ = some (.int .u8 l[j].toNat)
theorem RdY.below {w w' : World} {v : Value} {l : List UInt8} (h : RdY w v l) (hb : Below w.heap.size w w') : RdY w' v l := by
  obtain ⟨a, cap, rfl, hc, hi⟩ := h
  refine ⟨a, cap, rfl, hc, fun i hil => ?_⟩
  obtain ⟨g, o, rfl, e2, e3⟩ := hi i hil
  exact ⟨g, o, rfl, Nat.lt_of_lt_of_le e2 hb.size, fun j hj => (hb.cell (p := ⟨g, o + j, none⟩) e2).trans (e3 j hj)⟩
theorem RdB.below {w w' : World} {v : Value} {l : List Bool} (h : RdB w v l) (hb : Below w.heap.size w w') : RdB w' v l := by
  obtain ⟨a, cap, rfl, hc, hi⟩ := h
  refine ⟨a, cap, rfl, hc, fun i hil => ?_⟩
  obtain ⟨g, o, rfl, e2, e3⟩ := hi i hil
  exact ⟨g, o, rfl, Nat.lt_of_lt_of_le e2 hb.size, fun j hj => (hb.cell (p := ⟨g, o + j, none⟩) e2).trans (e3 j hj)⟩

theorem addr_add (g o j : Nat) : (⟨g, o, none⟩ : Addr).add j = ⟨g, o + j, none⟩ := by unfold Addr.add; split <;> simp_all

theorem bools_in' {H : Type} {enc : TypeId × Value → H} {W : World} {base fuel : Nat} {held : Bool} {v : Value} {x : DataW H × List MemPlace}
    (h : DataW.trod enc Tryd.prog W base (fun _ => true) held fuel 23 [v] = some x) : ∃ l, RdB W v l := by
  rcases Deep.open_bools Tryd.underlying23 Tryd.underlying4 (by kernel_rfl) h with ⟨e, _⟩ | ⟨a, n, cap, B, e, _, hl, _, _, hcell⟩
  · simp only [List.cons.injEq, and_true] at e
    subst e
    exact ⟨[], RdB.nil _⟩
  · simp only [List.cons.injEq, and_true] at e
    subst e
    obtain ⟨g, o, spot⟩ := a
    rcases Nat.eq_zero_or_pos n with rfl | hn
    · exact ⟨[], _, cap, rfl, Nat.zero_le _, fun i hi => by simp at hi⟩
    · have h0 := hcell 0 (by omega)
      have hspot : spot = none := by simpa [Addr.add] using World.cell?_spot h0
      subst hspot
      have hg := World.block_lt_of_cell? _ _ h0
      have hg : g < W.heap.size := by rw [addr_add] at hg; exact hg
      refine ⟨(List.range n).map B, _, cap, by simp, by simpa using hl, fun i hi => ⟨g, o, rfl, hg, fun j hj => ?_⟩⟩
      · have hj' : j < n := by simpa using hj
        have := hcell j (by omega)
        rw [addr_add] at this
        rw [this]; simp
theorem bools_in {H : Type} {enc : TypeId × Value → H} {W : World} {base : Nat} {v : Value} {d : DataW H} {p : List MemPlace}
    (hval : Value.okWide Tryd.prog W .any base 23 v) (hd : DataW.Trod enc Tryd.prog W 0 (fun _ => true) true 23 v d p) : ∃ l, RdB W v l := by
  obtain ⟨a, n, cap, rfl⟩ := okWide_slice Tryd.underlying23 hval
  obtain ⟨f, hf⟩ := hd
  exact bools_in' hf
theorem bytes_in {H : Type} {enc : TypeId × Value → H} {W : World} {base : Nat} {v : Value} {d : DataW H} {p : List MemPlace}
    (hval : Value.okWide Tryd.prog W .any base 22 v) (hd : DataW.Trod enc Tryd.prog W 0 (fun _ => true) true 22 v d p) : ∃ l, RdY W v l := by
  obtain ⟨a, n, cap, rfl⟩ := okWide_slice Tryd.underlying22 hval
  obtain ⟨f, hf⟩ := hd
  rcases open_ints Tryd.underlying22 Tryd.underlying5 (by kernel_rfl) hf with ⟨e, _⟩ | ⟨a', n', cap', zs, e, _, hl, _, hm, _, hcell, hwf⟩
  · simp only [Value.cells, List.cons.injEq, and_true] at e
    rw [e]
    exact ⟨[], none, 0, rfl, Nat.le_refl _, fun i hi => by simp at hi⟩
  · simp only [Value.cells, List.cons.injEq, and_true] at e
    rw [e]
    simp only [if_true] at hm
    obtain ⟨g, o, spot⟩ := a'
    rcases Nat.eq_zero_or_pos n' with rfl | hn
    · exact ⟨[], _, cap', rfl, Nat.zero_le _, fun i hi => by simp at hi⟩
    · have h0 := hcell 0 (by omega)
      have hspot : spot = none := by simpa [Addr.add] using World.cell?_spot h0
      subst hspot
      have hg := World.block_lt_of_cell? _ _ h0
      have hg : g < W.heap.size := by rw [addr_add] at hg; exact hg
      refine ⟨(zs.take n').map (fun z => UInt8.ofNat z.toNat), _, cap', by simp; omega, by simp; omega, fun i hi => ⟨g, o, rfl, hg, fun j hj => ?_⟩⟩
      have hj' : j < n' := by simp at hj; omega
      have hjz : j < zs.length := by omega
      have := hcell j hjz
      rw [addr_add] at this
      rw [this]
      have hw := hwf zs[j] (List.getElem_mem hjz)
      have h2 : (0 : Int) ≤ zs[j] ∧ zs[j] ≤ 255 := by
        have := hw
        simp only [Lit.wf, Bool.and_eq_true, decide_eq_true_eq] at this
        exact this
      rw [List.getElem_map, List.getElem_take, List.getD_eq_getElem?_getD, List.getElem?_eq_getElem hjz, Option.getD_some, UInt8.toNat_ofNat']
      congr 2
      omega
end Go.Proofs.YthkblabpiajbhaaDoor
