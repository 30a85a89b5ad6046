/- A disk as the program has it in memory: Sec w F g d: block g holds the disk d; F: all blocks that it is in. -/
import Derived.Test.YtlpillpfahkjdaaDoorTexts
import Derived.Test.YtlpillpfahkjdaaDoorDiskMath
import Derived.Laws.Bits128
import Derived.BigQuiet
import Derived.Deep.RegionLaw
import Derived.BigRegion
import Derived.Lib.Hide
import Derived.Deep.DeepFit
import Derived.Deep.RegionHeld3
namespace Go.Proofs.YtlpillpfahkjdaaDoor
open Go.RowKit

theorem ret_int' {k : IntKind} {a b : Int} (h : a = b) : Ending.returned (Value.int k a) = .returned (.int k b) := by rw [h]
theorem ret_bool' {a b : Bool} (h : a = b) : Ending.returned (Value.bool a) = .returned (.bool b) := by rw [h]

section
variable {α β : Type} {K : Elem α} {K' : Elem β} {E E' T : TypeId} {B B' : Nat} {w : World} {v v' : Value} {l : List α} {l' : List β}
theorem Own.typed (h : Own K E B w v l) {k : Nat} (hk : v.ownBlock = some k) : ∃ cur, w.heap[k]? = some (.cells cur E (0, 0)) := by
  rcases h.2 with ⟨rfl, _⟩ | ⟨g, cap, cur, rfl, _, hh, _⟩
  · simp [Value.ownBlock] at hk
  · simp [Value.ownBlock] at hk
    subst hk
    exact ⟨cur, hh⟩
theorem Own.ne_blk (h : Own K E B w v l) {g : Nat} {t : TypeId} {cs : List Value} (hb : Blk w g t cs) (ht : E ≠ t) : v.ownBlock ≠ some g := by
  intro e
  obtain ⟨cur, hc⟩ := h.typed e
  unfold Blk at hb
  rw [hb] at hc
  injection hc with hc
  injection hc with _ hc
  exact ht hc.symm
theorem Own.ne_own (h : Own K E B w v l) (h' : Own K' E' B' w v' l') (ht : E ≠ E') {k : Nat} (hk : v.ownBlock = some k) : v'.ownBlock ≠ some k := by
  intro e
  obtain ⟨cur, hc⟩ := h.typed hk
  obtain ⟨cur', hc'⟩ := h'.typed e
  rw [hc] at hc'
  injection hc' with hc'
  injection hc' with _ hc'
  exact ht hc'
theorem Blk.ne {g g' : Nat} {t t' : TypeId} {cs cs' : List Value} (h : Blk w g t cs) (h' : Blk w g' t' cs') (ht : t ≠ t') : g ≠ g' := by
  grind [Blk]
theorem Own.slot {g n c : Nat} (h : Own K E B w (.slice (some ⟨g, 0, none⟩) n c) l) : g < w.heap.size ∧ n = l.length ∧ l.length ≤ c := by
  rcases h.2 with ⟨e, _⟩ | ⟨g', cap', cur, e, _, hh, hc, _⟩
  · cases e
  · grind
end

def ptr (c : Nat) : Value := .pointer (some ⟨c, 0, none⟩)
def ptrElem : Elem Nat := oneElem ptr (fun _ => rfl)
def wrElem : Elem (Nat × Nat) := ⟨fun x => [.int .i64 x.1, ptr x.2], 2, by decide, fun _ => rfl, by
  intro a u hu
  simp only [List.mem_cons, List.not_mem_nil, or_false] at hu
  rcases hu with rfl | rfl <;> rfl⟩
namespace SecIn
variable {w w' : World} {g f cf l cl : Nat} {vo : Value} {n : Int} {off : Bool} {pf pl : List Nat} {ws : List (Nat × Nat)}
end SecIn

end Go.Proofs.YtlpillpfahkjdaaDoor
