/- The tables of the program, out of what a row lists. -/
import Derived.Test.YtlllcdjcihnkdaaDoorRows
import Derived.Test.YtlllcdjcihnkdaaDoorCrcWalk
import Derived.Lib.LaidTab
import Derived.ProofKit
import Derived.OpenShut
namespace Go.Proofs.YtlllcdjcihnkdaaDoor
open Go.ChangeShapes Go.WideShapes Go.ChangeAt Go.RowKit

theorem laidVars_mem {P : Program} {w : World} {n : String} {d : DataW Unit} : ∀ {l : List (String × DataW Unit)} {ps : List MemPlace}, DataW.LaidVars P w l ps → (n, d) ∈ l →
    ∃ g t cs fuel p, P.globalNamed n = some g ∧ (P.globals[g]?).map (·.type) = some t ∧ w.var? P n = some cs ∧ DataW.trod (fun _ => ()) P w 0 (fun _ => true) false fuel t cs.toList = some (d, p)
  | [], _, _, hm => by cases hm
  | (n', d') :: r, ps, ⟨g, t, cs, fuel, p, q, h1, h2, h3, h4, h5, _⟩, hm => by
    rcases List.mem_cons.1 hm with h | h
    · cases h
      exact ⟨g, t, cs, fuel, p, h1, h2, h3, h4⟩
    · exact laidVars_mem h5 h

/-- A table of integers that stands anywhere on the list. -/
theorem tabIs_of_mem {P : Program} {W : World} {name : String} {k : IntKind} {zs : List Int} {l : List (String × DataW Unit)} {g : Nat} {t e : TypeId} {n : Nat}
    (hg : P.globalNamed name = some g) (hty : (P.globals[g]?).map (·.type) = some t) (ht : P.underlying t = some (.array n e)) (he : P.underlying e = some (.int k)) (hce : P.cellsOf e = 1) (hct : P.cellsOf t = n)
    (hm : (name, Lib.tabData k zs) ∈ l) (h : laidMet P l W) : Lib.TabIs P W name k zs := by
  obtain ⟨ps, hv, _⟩ := h
  obtain ⟨g', t', cs, fuel, p, hg', ht', hvar, hd⟩ := laidVars_mem hv hm
  obtain rfl := Option.some.inj (hg.symm.trans hg')
  obtain rfl := Option.some.inj (hty.symm.trans ht')
  unfold Lib.TabIs
  rw [hvar, ← Lib.cells_of_tab ht he hce hct hd]

theorem gNib : Tryd.prog.globalNamed "cooperage/sums.nibbles" = some 0 := by kernel_rfl
theorem gNibT : (Tryd.prog.globals[0]?).map (·.type) = some 47 := by kernel_rfl
theorem gCub : Tryd.prog.globalNamed "cooperage/sums.cubeRoots" = some 1 := by kernel_rfl
theorem gCubT : (Tryd.prog.globals[1]?).map (·.type) = some 50 := by kernel_rfl
theorem cellsN : Tryd.prog.cellsOf 47 = 16 := by kernel_rfl
theorem cellsC : Tryd.prog.cellsOf 50 = 64 := by kernel_rfl
theorem cellsU : Tryd.prog.cellsOf 28 = 1 := by kernel_rfl

/-- Numbers as integers. -/
def ints (l : List Nat) : List Int := l.map fun (n : Nat) => (n : Int)
theorem ints_get (l : List Nat) (i : Nat) : (ints l).getD i 0 = ((l.getD i 0 : Nat) : Int) := by
  simp only [ints, List.getD_eq_getElem?_getD, List.getElem?_map]
  cases l[i]? <;> rfl

/-- What the list gives. -/
theorem tabs_of {l : List (String × DataW Unit)} {W : World} (h : laidMet Tryd.prog l W) (h1 : ("cooperage/sums.nibbles", Lib.tabData .u32 (ints Crc.nib)) ∈ l) (h2 : ("cooperage/sums.cubeRoots", Lib.tabData .u32 (ints Sha.cubes)) ∈ l) : Tabs W := by
  have hn := tabIs_of_mem gNib gNibT Tryd.underlying47 Tryd.underlying28 cellsU cellsN h1 h
  have hc := tabIs_of_mem gCub gCubT Tryd.underlying50 Tryd.underlying28 cellsU cellsC h2 h
  have c1 : ∀ i, i < 16 → W.cell? ⟨0, i, none⟩ = some (.int .u32 ((Crc.nibAt i : Nat) : Int)) := fun i hi => by
    rw [hn.cell gNib i hi, ints_get]; rfl
  have c2 : ∀ i, i < 64 → W.cell? ⟨1, i, none⟩ = some (.int .u32 ((Sha.cubeAt i : Nat) : Int)) := fun i hi => by
    rw [hc.cell gCub i hi, ints_get]; rfl
  refine ⟨c1, c2, ?_⟩
  have := World.block_lt_of_cell? W _ (c2 0 (by decide))
  have := World.block_lt_of_cell? W _ (c1 0 (by decide))
  simp at *
  omega

/-- A law's last step where of the world behind the call only 'below the old heap all is as it was' is known. -/
theorem post_below {H : Type} {enc : TypeId × Value → H} {P : Program} {f : Func} {s : ChangeSpec} {apart fresh handsOn again : Bool} {W W' : World} {args : Array Value} {v : Value} {ds gs : List (DataW H)} {before pa pv : List MemPlace}
    (hW : DataW.Whole enc P f.params.toList s.vars apart W args.toList ds gs before) (hb : Below W.heap.size W W') (hps : before = pa ++ pv)
    (hres : ∀ (b : Nat) (sp : Nat → Bool) (hd : Bool), DataW.TrodAll enc P W' b sp hd f.resultTypes.toList (v.resultList f.resultTypes.size) (s.fn H (ds ++ gs)).results [])
    (hargs : ∀ sp : Nat → Bool, (∀ p ∈ before, sp p.block = true) → DataW.TrodAll enc P W' 0 sp true f.params.toList args.toList (s.fn H (ds ++ gs)).args pa)
    (hvars : ∀ sp : Nat → Bool, (∀ p ∈ before, sp p.block = true) → DataW.TrodVars enc P W' sp s.vars (s.fn H (ds ++ gs)).vars pv)
    (hok : ∀ (j : Nat) (t : TypeId) (r : Value), f.resultTypes[j]? = some t → (v.resultList f.resultTypes.size)[j]? = some r → Value.okWide P W' .any 0 t r) :
    s.post enc P f apart fresh handsOn again W args v W' := by
  have lt : ∀ p ∈ before, p.block < W.heap.size := fun p hp => hW.lt p hp
  have old : ∀ p ∈ before, (fun b => decide (b < W.heap.size)) p.block = true := fun p hp => by simpa using hW.lt p hp
  refine ⟨ds, gs, before, [], pa, pv, hW, hres _ _ _, hargs _ old, hvars _ old, World.keptBut_mono (fun p hp => ⟨hp, ?_⟩) (hb.frame (· ∈ before)), fun _ => ?_⟩
  · rw [hps, List.mem_append] at hp
    exact .inr hp
  · obtain ⟨_, _, _, _, _, hz, hn⟩ := hW
    refine ⟨hok, _, _, ([] ++ pa) ++ pv, ⟨[] ++ pa, pv, trodAll_append (hargs _ (fun _ _ => rfl)) (hres _ _ _), hvars _ (fun _ _ => rfl), rfl, fun b off hp => ?_, fun ha => ?_⟩, fun p hp _ => ?_⟩
    · have hin : MemPlace.cell b off ∈ before := by rw [hps]; simpa using hp
      have hl : b < W.heap.size := lt _ hin
      rw [hb.frozen hl]
      exact hz b off hin
    · have h := hn ha
      rw [hps] at h
      simpa using h
    · rw [hps]
      simpa using hp
end Go.Proofs.YtlllcdjcihnkdaaDoor
