/- slices.Sorted(maps.Keys(m)): the keys of a map of contents, rising. -/
import Derived.Test.YthkblabpiajbhaaDoorIter
import Derived.Test.YthkblabpiajbhaaDoorIMap
import Derived.Test.YthkblabpiajbhaaDoorLog
namespace Go.Proofs.YthkblabpiajbhaaDoor
open Go.RowKit Go.Maps Go.Sort Go.Shelf

theorem sortsA (m : Nat) : AnyZI.SortsIn Tryd.prog sortedA_ren Fence.wide m :=
  ⟨fun blk off cap ss W hH hblk hsz => callsIn_wide.2 (AnyM.slices_Sort_int sortA blk off cap ss W hH hblk hsz),
   fun p cap W => callsIn_wide.2 (AnyM.slices_Sort_int_none sortA p cap W)⟩
theorem keys_any (mb : Option Nat) (w : World) : Calls Tryd.prog 29 #[.map mb] w fun e w' =>
    e = .returned (.func (.func 47) #[] #[.pointer (some ⟨w.heap.size, 0, none⟩)]) ∧ w' = w.alloc (.cells #[.map mb] 52) :=
  (callsIn_wide (n := 5)).1 (AnyZI.keys_in keysA Fence.wide 5 trivial rfl mb w)
theorem sorted_keys {m : Wl.Grp} (h : Wl.Rising m) {ss : List Int} (hp : ss.Perm (m.map fun x => (x.1 : Int))) : ss.mergeSort (fun x y => decide (x ≤ y)) = m.map fun x => (x.1 : Int) := by
  rw [mergeSort_of_perm_i hp]
  refine List.mergeSort_of_pairwise ?_
  rw [List.pairwise_map]
  exact h.imp fun {x y} hxy => by simp only [leI, decide_eq_true_eq]; omega
theorem sorted_any (b q : Nat) (m : Wl.Grp) (w : World) (hm : CMap w b m) (hlen : m.length ≤ 1000000) (hq : w.cell? ⟨q, 0, none⟩ = some (.map (some b))) :
    Calls Tryd.prog 28 #[.func (.func 47) #[] #[.pointer (some ⟨q, 0, none⟩)]] w fun e w' =>
      ∃ v, e = .returned v ∧ Own (intElem .i64) 3 w.heap.size w' v (m.map fun x => (x.1 : Int)) ∧ Below w.heap.size w w' := by
  have hseq : SeqGives Fence.wide 2 Tryd.prog 47 #[.pointer (some ⟨q, 0, none⟩)] encZ (fun ss => ss.Perm (intKeys (dat m))) (Maps.size (dat m)) w :=
    AnyZI.keys_gives (ρ := keysA_ren) { keysA with } Fence.wide _ trivial rfl (by omega) q b m.length (dat m) _ (World.block_lt_of_cell? _ _ hq) hq hm.1
  have cS := AnyZI.sorted_in sortedA Fence.wide 5 trivial trivial trivial trivial rfl (by omega) (sortsA _) (enters_of Tryd.func46 (by kernel_rfl) rfl) 47 #[.pointer (some ⟨q, 0, none⟩)] trivial (enters_of Tryd.func47 (by kernel_rfl) rfl) _ _ (by rw [dat_size]; unfold maxLen; omega) (by rw [dat_size]; omega) w hseq
  change CallsIn _ _ Tryd.prog 28 _ _ _ at cS
  refine ((callsIn_wide (n := 5)).1 cS).mono ?_
  rintro e w' ⟨v, ss, rfl, hS, hrow, hnil, hb⟩
  refine ⟨v, rfl, ?_, hb⟩
  rw [dat_keys] at hS
  rw [sorted_keys hm.2.1 hS] at hrow
  have hl : ss.length = (m.map fun x => (x.1 : Int)).length := hS.length_eq
  rw [hl] at hrow
  unfold Own
  rw [show (intElem .i64).cells (m.map fun x => (x.1 : Int)) = (m.map fun x => (x.1 : Int)).map (fun n => Value.int .i64 n) from oneElem_cells _ _ _]
  exact hrow
end Go.Proofs.YthkblabpiajbhaaDoor
