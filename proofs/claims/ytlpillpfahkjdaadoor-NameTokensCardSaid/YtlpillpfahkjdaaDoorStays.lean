/- Arguments of any readable types read behind the call as they did, where nothing below the heap's old size has turned; a slice of strings, opened. -/
import Derived.Test.YtlpillpfahkjdaaDoorPost
import Derived.Carry
import Derived.SliceStrings
import Derived.SizedLaws
import Derived.Deep.Strs
namespace Go.Proofs.YtlpillpfahkjdaaDoor
open Go.ChangeShapes Go.WideShapes Go.ChangeAt Go.RowKit

theorem laidOut : laidOutB Tryd.prog = true := by kernel_rfl

theorem trodAll_stays {H : Type} {enc : TypeId × Value → H} {W W' : World} {sp : Nat → Bool} (ts : List TypeId) :
    ∀ {vs : List Value} {ds : List (DataW H)} {ps : List MemPlace}, (∀ t ∈ ts, Tryd.prog.readableRec t = true ∧ t < Tryd.prog.types.size) →
      DataW.TrodAll enc Tryd.prog W 0 (fun _ => true) true ts vs ds ps → (∀ p ∈ ps, W.sameAt W' p) → (∀ p ∈ ps, sp p.block = true) → DataW.TrodAll enc Tryd.prog W' 0 sp true ts vs ds ps := by
  induction ts with
  | nil =>
    intro vs ds ps _ h _ _
    cases vs <;> cases ds <;> first | exact h | cases h
  | cons t ts ih =>
    intro vs ds ps ht h hs hp
    cases vs with
    | nil => cases h
    | cons v vs =>
      cases ds with
      | nil => cases h
      | cons d ds =>
        obtain ⟨p, q, h1, h2, rfl⟩ := h
        have h0 := ht t (List.mem_cons_self ..)
        exact ⟨p, q, WideElems.Trod_stays laidOut h0.1 h0.2 h1 (fun x hx => hs x (List.mem_append.2 (.inl hx))) (fun x hx => hp x (List.mem_append.2 (.inl hx))),
          ih (fun t ht' => ht t (List.mem_cons_of_mem _ ht')) h2 (fun x hx => hs x (List.mem_append.2 (.inr hx))) (fun x hx => hp x (List.mem_append.2 (.inr hx))), rfl⟩

set_option maxRecDepth 100000 in
/-- What is read of a slice of strings: s i stands in cell i; each has at most 2^47 bytes, and so many are they. -/
theorem strings_in {H : Type} {enc : TypeId × Value → H} {W : World} {base T E : Nat} {v : Value} {d : DataW H} {p : List MemPlace} (hT : Tryd.prog.underlying T = some (.slice E)) (hE : Tryd.prog.underlying E = some .string) (hc : Tryd.prog.cellsOf E = 1) (hby : 1 ≤ Tryd.prog.bytesOf E)
    (hval : Value.okWide Tryd.prog W .any base T v) (hd : DataW.Trod enc Tryd.prog W 0 (fun _ => true) true T v d p) (hw : ∀ n ∈ d.weights Tryd.prog T, n ≤ reachBytes) :
    ∃ (a : Option Addr) (n cap : Nat) (S : Nat → ByteArray), v = .slice a n cap ∧ n ≤ cap ∧ n ≤ 140737488355328 ∧
      ∀ i, i < n → (S i).size ≤ 140737488355328 ∧ ∃ g o, a = some ⟨g, o, none⟩ ∧ g < W.heap.size ∧ ∀ j, j < n → W.cell? ⟨g, o + j, none⟩ = some (.string (S j)) := by
  obtain ⟨a, n, cap, rfl⟩ := okWide_slice hT hval
  obtain ⟨f, hf⟩ := hd
  have hr := Deep.open_strs hT hE hc hf
  rcases hr with ⟨e, _⟩ | ⟨a', len, cap', m, S, e, _, hl, _, hm, hx, hcell⟩
  · simp only [Value.cells, List.cons.injEq, and_true] at e
    injection e with e1 e2 e3
    subst e1 e2 e3
    exact ⟨none, 0, 0, fun _ => .empty, rfl, Nat.le_refl _, by decide, fun i hi => absurd hi (by omega)⟩
  · simp only [Value.cells, List.cons.injEq, and_true] at e
    injection e with e1 e2 e3
    subst e1 e2 e3
    simp only [if_true] at hm
    subst hm
    injection hx with hx1 hx2
    subst hx1
    have hR : reachBytes ≤ 140737488355328 := by decide
    have hwn := hw ((((List.range n).map fun i => (DataW.lit (.string (S i).data.toList) : DataW H)).length + ((List.range (m - n)).map fun j => (DataW.lit (.string (S (n + j)).data.toList) : DataW H)).length) * Tryd.prog.bytesOf E) (by simp [DataW.weights, hT])
    have hws : ∀ (l : List (DataW H)) (x : DataW H), x ∈ l → ∀ k ∈ x.weights Tryd.prog E, k ∈ DataW.weightsAll Tryd.prog E l := by
      intro l
      induction l with
      | nil => intro x hx; cases hx
      | cons y l ih =>
        intro x hx k hk
        simp only [DataW.weightsAll, List.mem_append]
        rcases List.mem_cons.1 hx with rfl | hx
        · exact .inl hk
        · exact .inr (ih x hx k hk)
    refine ⟨some a', n, m, S, rfl, hl, ?_, fun i hi => ⟨?_, ?_⟩⟩
    · rw [List.length_map, List.length_map, List.length_range, List.length_range] at hwn
      have : n * 1 ≤ (n + (m - n)) * Tryd.prog.bytesOf E := Nat.mul_le_mul (by omega) hby
      omega
    · have : (S i).data.toList.length ≤ reachBytes := hw _ (by
        simp only [DataW.weights, hT, List.mem_cons, List.mem_append]
        refine .inr (.inl (hws _ (.lit (.string (S i).data.toList)) (List.mem_map.2 ⟨i, List.mem_range.2 hi, rfl⟩) _ (by simp [DataW.weights])))
      )
      rw [Array.length_toList] at this
      exact Nat.le_trans this hR
    · obtain ⟨g, o, spot⟩ := a'
      have h0 := (hcell 0 (by omega)).1
      have hspot : spot = none := by simpa [Addr.add] using World.cell?_spot h0
      subst hspot
      refine ⟨g, o, rfl, World.block_lt_of_cell? _ _ h0, fun j hj => ?_⟩
      have := (hcell j (by omega)).1
      rwa [show (⟨g, o, none⟩ : Addr).add j = ⟨g, o + j, none⟩ by unfold Addr.add; split <;> simp_all] at this
end Go.Proofs.YtlpillpfahkjdaaDoor
