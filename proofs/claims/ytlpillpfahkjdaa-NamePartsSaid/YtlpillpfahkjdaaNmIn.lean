/- Named, and a pair of ints, as arguments: what a caller may hand in. -/
import Derived.Test.YtlpillpfahkjdaaPkIn
namespace Go.Proofs.Ytlpillpfahkjdaa
open Go.ChangeShapes Go.WideShapes Go.ChangeAt Go.RowKit Lib

theorem named_in {H : Type} {enc : TypeId × Value → H} {W : World} {base : Nat} {v : Value} {d : DataW H} {p : List MemPlace}
    (hval : Value.okWide Try.prog W .any base 31 v) (hd : DataW.Trod enc Try.prog W 0 (fun _ => true) true 31 v d p) (hw : ∀ n ∈ d.weights Try.prog 31, n ≤ reachBytes) :
    ∃ (x y : ByteArray) (n : Nat), v = .agg #[.string x, .string y, .int .u64 n] ∧ n < 2 ^ 64 ∧ x.size ≤ 140737488355328 ∧ y.size ≤ 140737488355328 := by
  have hval' := hval
  simp only [Value.okWide, Try.underlying31] at hval'
  obtain ⟨cs, rfl, hsz, _⟩ := hval'
  have c3 : Try.prog.cellsOf 31 = 3 := by kernel_rfl
  rw [c3] at hsz
  obtain ⟨f, hf⟩ := hd
  obtain ⟨xs, k, _, hdp, _, hxl, hx⟩ := DataW.trod_struct Try.underlying31 hf
  injection hdp with hdd _
  have ci : Try.prog.cellsOf 22 = 1 := by kernel_rfl
  have cst : Try.prog.cellsOf 9 = 1 := by kernel_rfl
  obtain ⟨l⟩ := cs
  match l, hsz, xs, hxl with
  | [v0, v1, v2], _, [y0, y1, y2], _ =>
    have g0 := hx 0 _ rfl
    have g1 := hx 1 _ rfl
    have g2 := hx 2 _ rfl
    simp [Value.cells, ci, cst] at g0 g1 g2
    obtain ⟨s0, e0, f0, _⟩ := DataW.trod_string Try.underlying9 g0
    obtain ⟨s1, e1, f1, _⟩ := DataW.trod_string Try.underlying9 g1
    obtain ⟨m, e2, _, hwf⟩ := DataW.trod_int Try.underlying22 g2
    injection e0 with e0 _
    injection e1 with e1 _
    injection e2 with e2 _
    subst e0 e1 e2
    obtain ⟨n, rfl, hn⟩ := u64_wf hwf
    have z0 := hw s0.data.toList.length (by
      rw [hdd]
      simp [DataW.weights, DataW.weightsEach, Try.underlying31, f0])
    have z1 := hw s1.data.toList.length (by
      rw [hdd]
      simp [DataW.weights, DataW.weightsEach, Try.underlying31, f1])
    rw [Array.length_toList] at z0 z1
    have hre : reachBytes ≤ 140737488355328 := by decide
    exact ⟨s0, s1, n, rfl, hn, Nat.le_trans z0 hre, Nat.le_trans z1 hre⟩
theorem i64_wf {m : Int} (hw : (Lit.int .i64 m).wf = true) : -9223372036854775808 ≤ m ∧ m ≤ 9223372036854775807 := by
  simp only [Lit.wf, Bool.and_eq_true, decide_eq_true_eq] at hw
  exact hw
theorem twoInts_in {H : Type} {enc : TypeId × Value → H} {W : World} {base : Nat} {v : Value} {d : DataW H} {p : List MemPlace}
    (hval : Value.okWide Try.prog W .any base 36 v) (hd : DataW.Trod enc Try.prog W 0 (fun _ => true) true 36 v d p) :
    ∃ a b : Int, v = .agg #[.int .i64 a, .int .i64 b] ∧ (-9223372036854775808 ≤ a ∧ a ≤ 9223372036854775807) ∧ -9223372036854775808 ≤ b ∧ b ≤ 9223372036854775807 := by
  have hval' := hval
  simp only [Value.okWide, Try.underlying36] at hval'
  obtain ⟨cs, rfl, hsz, _⟩ := hval'
  have c2 : Try.prog.cellsOf 36 = 2 := by kernel_rfl
  have c1 : Try.prog.cellsOf 3 = 1 := by kernel_rfl
  rw [c2] at hsz
  obtain ⟨f, hf⟩ := hd
  obtain ⟨xs, m, _, _, _, hxl, hx⟩ := DataW.trod_array Try.underlying36 hf
  rw [c1] at hx
  obtain ⟨l⟩ := cs
  match l, hsz, xs, hxl with
  | [v0, v1], _, [y0, y1], _ =>
    have g0 := hx 0 (by decide)
    have g1 := hx 1 (by decide)
    simp [Value.cells] at g0 g1
    obtain ⟨a, e0, _, w0⟩ := DataW.trod_int Try.underlying3 g0
    obtain ⟨b, e1, _, w1⟩ := DataW.trod_int Try.underlying3 g1
    injection e0 with e0 _
    injection e1 with e1 _
    subst e0 e1
    exact ⟨a, b, rfl, i64_wf w0, i64_wf w1⟩
end Go.Proofs.Ytlpillpfahkjdaa
