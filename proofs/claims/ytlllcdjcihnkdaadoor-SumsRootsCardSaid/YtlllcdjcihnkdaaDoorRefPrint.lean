/- Walk of the document's fingerprint, by the known numbers; the law of both. -/
import Derived.Test.YtlllcdjcihnkdaaDoorRefBy
import Derived.Test.YtlllcdjcihnkdaaDoorLawSmall
namespace Go.Proofs.YtlllcdjcihnkdaaDoor
open Go.RowKit

theorem Sha.cubes_ok : ∀ x ∈ Sha.cubes, x < 4294967296 := by decide +kernel

theorem refPrint_any (s : ByteArray) (w : World) (hs : s.size ≤ 1000000000) :
    Calls Tryd.prog 10 #[.string s] w fun e w' => e = .returned (.string ⟨(Sha.print s.data.toList).toArray⟩) ∧ Below w.heap.size w w' := by
  go_enter Tryd.func10, Tryd.ntmps10
  go_wp2_with fail
  refine (squares_any _).mono ?_
  rintro e w1 ⟨v1, rfl, hown1, hb1⟩
  obtain ⟨gf, cf, rfl, hf1, hf2⟩ := hown1.form (show 0 < Sha.H0.list.length by decide)
  have hRf := hown1.rw rfl
  go_wp2_with fail
  refine (cubes_any _).mono ?_
  rintro e w2 ⟨v2, rfl, hown2, hb2⟩
  obtain ⟨gk, ck, rfl, hk1, hk2⟩ := hown2.form (show 0 < Sha.cubes.length by decide)
  have hRk := hown2.rw rfl
  have hRf2 := hRf.below hb2 hf2
  have hf3 : gf < w2.heap.size := by have := hb2.size; omega
  go_wp2_with fail
  refine (by_any s _ hs Sha.H0 Sha.H0_ok Sha.cubes rfl Sha.cubes_ok gf gk cf ck hRf2 hf3 hRk hk2).mono ?_
  rintro e w3 ⟨rfl, hb3⟩
  go_wp2
  go_ret
  exact ⟨rfl, hb1.trans ((hb2.trans (hb3.mono hb2.size)).mono hb1.size)⟩

theorem prints_any (s : ByteArray) (w : World) (hT : Tabs w) :
    Calls Tryd.prog 3 #[.string s] w fun e w' => e = .returned (.bool true) ∧ Below w.heap.size w w' := by
  have HT := Lib.hid hT
  clear hT
  by_cases hs : s.size ≤ 2000
  · have hs1 : ¬ ((s.size : Int) > 2000) := by omega
    go_enter Tryd.func3, Tryd.ntmps3
    go_wp2_with fail
    refine (adds_any _ HT.out).mono ?_
    rintro e w1 ⟨rfl, hb1⟩
    go_wp2_with fail
    refine (print_any s _ (HT.out.below hb1 (Nat.le_refl _)) (by omega)).mono ?_
    rintro e w2 ⟨rfl, hb2⟩
    go_wp2_with fail
    refine (refPrint_any s _ (by omega)).mono ?_
    rintro e w3 ⟨rfl, hb3⟩
    have hall : Below w.heap.size w w3 := hb1.trans ((hb2.trans (hb3.mono hb2.size)).mono hb1.size)
    go_wp2
    go_ret
    exact ⟨rfl, hall⟩
  · have hs1 : (2000 : Int) < s.size := by omega
    go_enter Tryd.func3, Tryd.ntmps3
    go_wp2_with fail
    refine (adds_any _ HT.out).mono ?_
    rintro e w1 ⟨rfl, hb1⟩
    go_wp2
    go_ret
    exact ⟨rfl, hb1⟩
end Go.Proofs.YtlllcdjcihnkdaaDoor
