/- A disk as the program has it in memory: Sec w F g d: block g holds the disk d; F: all blocks that it is in. -/
import Derived.Test.YthkblabpiajbhaaDoorTexts
import Derived.Test.YthkblabpiajbhaaDoorDiskMath
import Derived.Laws.Bits128
import Derived.BigQuiet
import Derived.Deep.RegionLaw
import Derived.BigRegion
import Derived.Lib.Hide
import Derived.Deep.DeepFit
import Derived.Deep.RegionHeld3
namespace Go.Proofs.YthkblabpiajbhaaDoor
open Go.RowKit

theorem ret_int' {k : IntKind} {a b : Int} (h : a = b) : Ending.returned (Value.int k a) = .returned (.int k b) := by rw [h]
theorem ret_bool' {a b : Bool} (h : a = b) : Ending.returned (Value.bool a) = .returned (.bool b) := by rw [h]

section
variable {α β : Type} {K : Elem α} {K' : Elem β} {E E' T : TypeId} {B B' : Nat} {w : World} {v v' : Value} {l : List α} {l' : List β}
theorem Own.typed (h : Own K E B w v l) {k : Nat} (hk : v.ownBlock = some k) : ∃ cur, w.heap[k]? = some (.cells cur E (0, 0)) := by
  rcases h.2 with ⟨rfl, _⟩ | ⟨g, cap, cur, rfl, _, hh, _⟩
  · simp [Value.ownBlock] at hk
  · simp [Value.ownBlock] at hk
    subst hk
    exact ⟨cur, hh⟩
theorem Own.ne_blk (h : Own K E B w v l) {g : Nat} {t : TypeId} {cs : List Value} (hb : Blk w g t cs) (ht : E ≠ t) : v.ownBlock ≠ some g := by
  intro e
  obtain ⟨cur, hc⟩ := h.typed e
  unfold Blk at hb
  rw [hb] at hc
  injection hc with hc
  injection hc with _ hc
  exact ht hc.symm
theorem Own.ne_own (h : Own K E B w v l) (h' : Own K' E' B' w v' l') (ht : E ≠ E') {k : Nat} (hk : v.ownBlock = some k) : v'.ownBlock ≠ some k := by
  intro e
  obtain ⟨cur, hc⟩ := h.typed hk
  obtain ⟨cur', hc'⟩ := h'.typed e
  rw [hc] at hc'
  injection hc' with hc'
  injection hc' with _ hc'
  exact ht hc'
theorem Blk.ne {g g' : Nat} {t t' : TypeId} {cs cs' : List Value} (h : Blk w g t cs) (h' : Blk w g' t' cs') (ht : t ≠ t') : g ≠ g' := by
  intro e
  subst e
  unfold Blk at h h'
  rw [h] at h'
  injection h' with h'
  injection h' with _ h'
  exact ht h'
theorem Own.slot {g n c : Nat} (h : Own K E B w (.slice (some ⟨g, 0, none⟩) n c) l) : g < w.heap.size ∧ n = l.length ∧ l.length ≤ c := by
  rcases h.2 with ⟨e, _⟩ | ⟨g', cap', cur, e, _, hh, hc, _⟩
  · cases e
  · injection e with e1 e2 e3
    injection e1 with e1
    injection e1 with e1
    subst e1 e2 e3
    exact ⟨(Array.getElem?_eq_some_iff.1 hh).1, rfl, hc⟩
end

def ptr (c : Nat) : Value := .pointer (some ⟨c, 0, none⟩)
def ptrElem : Elem Nat := oneElem ptr (fun _ => rfl)
def wrElem : Elem (Nat × Nat) := ⟨fun x => [.int .i64 x.1, ptr x.2], 2, by decide, fun _ => rfl, by
  intro a u hu
  simp only [List.mem_cons, List.not_mem_nil, or_false] at hu
  rcases hu with rfl | rfl <;> rfl⟩
theorem ptrST : SliceT Tryd.prog 47 74 ptrElem.size := SliceT.of (size := 1) (bytes := 8) (z := .pointer none) Tryd.underlying47 (by kernel_rfl) rfl (by decide)
theorem wrST : SliceT Tryd.prog 49 76 wrElem.size := SliceT.of (size := 2) (bytes := 16) (z := .agg #[.int .i64 0, .pointer none]) Tryd.underlying49 (by kernel_rfl) rfl (by decide)

/-- The blocks of a disk: its fields (block g), what is firm (pf), what is latest (pl), what is loose (ws): numbers of blocks of contents. -/
structure SecIn (w : World) (g f cf l cl : Nat) (vo : Value) (n : Int) (off : Bool) (pf pl : List Nat) (ws : List (Nat × Nat)) : Prop where
  blk : Blk w g 51 [.slice (some ⟨f, 0, none⟩) pf.length cf, .slice (some ⟨l, 0, none⟩) pl.length cl, vo, .int .i64 n, .bool off]
  of : Own ptrElem 74 0 w (.slice (some ⟨f, 0, none⟩) pf.length cf) pf
  ol : Own ptrElem 74 0 w (.slice (some ⟨l, 0, none⟩) pl.length cl) pl
  oo : Own wrElem 76 0 w vo ws
  fl : f ≠ l

namespace SecIn
variable {w w' : World} {g f cf l cl : Nat} {vo : Value} {n : Int} {off : Bool} {pf pl : List Nat} {ws : List (Nat × Nat)}
theorem gf (h : SecIn w g f cf l cl vo n off pf pl ws) : g ≠ f := fun e => h.of.ne_blk h.blk (by decide) (by rw [e]; rfl)
theorem gl (h : SecIn w g f cf l cl vo n off pf pl ws) : g ≠ l := fun e => h.ol.ne_blk h.blk (by decide) (by rw [e]; rfl)
theorem og (h : SecIn w g f cf l cl vo n off pf pl ws) : vo.ownBlock ≠ some g := h.oo.ne_blk h.blk (by decide)
theorem ofn (h : SecIn w g f cf l cl vo n off pf pl ws) : vo.ownBlock ≠ some f := fun e => h.oo.ne_own h.of (by decide) e rfl
theorem oln (h : SecIn w g f cf l cl vo n off pf pl ws) : vo.ownBlock ≠ some l := fun e => h.oo.ne_own h.ol (by decide) e rfl
theorem but {S : Nat → Prop} (h : SecIn w g f cf l cl vo n off pf pl ws) (hb : But S w w') (h1 : ¬ S g) (h2 : ¬ S f) (h3 : ¬ S l) (h4 : ∀ k, vo.ownBlock = some k → ¬ S k) : SecIn w' g f cf l cl vo n off pf pl ws :=
  ⟨h.blk.but hb h1, h.of.but hb (fun k hk => by simp [Value.ownBlock] at hk; subst hk; exact h2), h.ol.but hb (fun k hk => by simp [Value.ownBlock] at hk; subst hk; exact h3), h.oo.but hb h4, h.fl⟩
theorem alloc (h : SecIn w g f cf l cl vo n off pf pl ws) (o : Obj) : SecIn (w.alloc o) g f cf l cl vo n off pf pl ws :=
  h.but ((But.refl (fun _ => False) w).alloc o) id id id (fun _ _ => id)
theorem drewN (h : SecIn w g f cf l cl vo n off pf pl ws) (k : Nat) : SecIn (w.drewN k) g f cf l cl vo n off pf pl ws := ⟨h.blk, h.of, h.ol, h.oo, h.fl⟩
theorem drew (h : SecIn w g f cf l cl vo n off pf pl ws) : SecIn w.drew g f cf l cl vo n off pf pl ws := ⟨h.blk, h.of, h.ol, h.oo, h.fl⟩
/-- A store into block g. -/
theorem setG (h : SecIn w g f cf l cl vo n off pf pl ws) (j : Nat) (u : Value) (vo' : Value) (n' : Int) (off' : Bool) (ws' : List (Nat × Nat))
    (hoo : Own wrElem 76 0 w vo' ws')
    (hs : [Value.slice (some ⟨f, 0, none⟩) pf.length cf, .slice (some ⟨l, 0, none⟩) pl.length cl, vo, .int .i64 n, .bool off].set j u = [.slice (some ⟨f, 0, none⟩) pf.length cf, .slice (some ⟨l, 0, none⟩) pl.length cl, vo', .int .i64 n', .bool off']) :
    SecIn (w.setCell ⟨g, j, none⟩ u) g f cf l cl vo' n' off' pf pl ws' := by
  have hb : But (· = g) w (w.setCell ⟨g, j, none⟩ u) := (But.refl _ w).setCell _ _ (fun _ => rfl)
  refine ⟨?_, h.of.but hb (fun k hk e => h.gf ?_), h.ol.but hb (fun k hk e => h.gl ?_), hoo.but hb (fun k hk e => ?_), h.fl⟩
  · rw [← hs]; exact h.blk.set j u
  · simp [Value.ownBlock] at hk; omega
  · simp [Value.ownBlock] at hk; omega
  · exact hoo.ne_blk h.blk (by decide) (by rw [hk, e])
theorem setLeft (h : SecIn w g f cf l cl vo n off pf pl ws) (n' : Int) : SecIn (w.setCell ⟨g, 3, none⟩ (.int .i64 n')) g f cf l cl vo n' off pf pl ws := h.setG 3 _ vo n' off ws h.oo rfl
theorem setDown (h : SecIn w g f cf l cl vo n off pf pl ws) (b : Bool) : SecIn (w.setCell ⟨g, 4, none⟩ (.bool b)) g f cf l cl vo n b pf pl ws := h.setG 4 _ vo n b ws h.oo rfl
theorem setLoose (h : SecIn w g f cf l cl vo n off pf pl ws) (vo' : Value) (ws' : List (Nat × Nat)) (ho : Own wrElem 76 0 w vo' ws') : SecIn (w.setCell ⟨g, 2, none⟩ vo') g f cf l cl vo' n off pf pl ws' := h.setG 2 _ vo' n off ws' ho rfl
theorem setFirm (h : SecIn w g f cf l cl vo n off pf pl ws) (j c : Nat) : SecIn (w.setCell ⟨f, j, none⟩ (ptr c)) g f cf l cl vo n off (pf.set j c) pl ws := by
  have hb : But (· = f) w (w.setCell ⟨f, j, none⟩ (ptr c)) := (But.refl _ w).setCell _ _ (fun _ => rfl)
  have hs := Own.store h.of j c
  refine ⟨?_, ?_, h.ol.but hb (fun k hk e => h.fl ?_), h.oo.but hb (fun k hk e => h.ofn (by rw [hk, e])), h.fl⟩
  · rw [List.length_set]; exact h.blk.but hb h.gf
  · rw [List.length_set]; exact hs
  · simp [Value.ownBlock] at hk; omega
theorem setLatest (h : SecIn w g f cf l cl vo n off pf pl ws) (j c : Nat) : SecIn (w.setCell ⟨l, j, none⟩ (ptr c)) g f cf l cl vo n off pf (pl.set j c) ws := by
  have hb : But (· = l) w (w.setCell ⟨l, j, none⟩ (ptr c)) := (But.refl _ w).setCell _ _ (fun _ => rfl)
  have hs := Own.store h.ol j c
  refine ⟨?_, h.of.but hb (fun k hk e => h.fl ?_), ?_, h.oo.but hb (fun k hk e => h.oln (by rw [hk, e])), h.fl⟩
  · rw [List.length_set]; exact h.blk.but hb h.gl
  · simp [Value.ownBlock] at hk; omega
  · rw [List.length_set]; exact hs
/-- A row grew. -/
theorem grown (h : SecIn w g f cf l cl vo n off pf pl ws) {row : Option Nat} (hg : w.grownBy w' row) (h1 : row ≠ some g) (h2 : row ≠ some f) (h3 : row ≠ some l) (h4 : ∀ k, vo.ownBlock = some k → row ≠ some k) : SecIn w' g f cf l cl vo n off pf pl ws :=
  h.but (S := fun k => row = some k) ⟨hg.os, hg.tape, hg.output, hg.size, fun k hk hn => hg.block k hk (fun e => hn e.symm)⟩ h1 h2 h3 h4
/-- A row grew that is the loose one: all but the loose row are as they were. -/
theorem grownLoose (h : SecIn w g f cf l cl vo n off pf pl ws) (hg : w.grownBy w' vo.ownBlock) (vo' : Value) (ws' : List (Nat × Nat)) (ho : Own wrElem 76 0 w' vo' ws') :
    SecIn (w'.setCell ⟨g, 2, none⟩ vo') g f cf l cl vo' n off pf pl ws' := by
  have hb : But (fun k => vo.ownBlock = some k) w w' := ⟨hg.os, hg.tape, hg.output, hg.size, fun k hk hn => hg.block k hk (fun e => hn e.symm)⟩
  have h' : Blk w' g 51 [.slice (some ⟨f, 0, none⟩) pf.length cf, .slice (some ⟨l, 0, none⟩) pl.length cl, vo, .int .i64 n, .bool off] := h.blk.but hb h.og
  have h2 := h.of.but hb (fun k hk => by simp [Value.ownBlock] at hk; subst hk; exact h.ofn)
  have h3 := h.ol.but hb (fun k hk => by simp [Value.ownBlock] at hk; subst hk; exact h.oln)
  have hb2 : But (· = g) w' (w'.setCell ⟨g, 2, none⟩ vo') := (But.refl _ w').setCell _ _ (fun _ => rfl)
  refine ⟨h'.set 2 vo', h2.but hb2 (fun k hk e => h.gf ?_), h3.but hb2 (fun k hk e => h.gl ?_), ho.but hb2 (fun k hk e => ho.ne_blk h' (by decide) (by rw [hk, e])), h.fl⟩
  · simp [Value.ownBlock] at hk; omega
  · simp [Value.ownBlock] at hk; omega
end SecIn

/-- The contents in the blocks cs: T tells them. -/
def Txts (w : World) (F : Nat → Prop) (T : Nat → List UInt8) (cs : List Nat) : Prop := ∀ c ∈ cs, Blk w c 77 ((T c).map bcell) ∧ F c ∧ (T c).length = 512
theorem Txts.but {S : Nat → Prop} {w w' : World} {F : Nat → Prop} {T : Nat → List UInt8} {cs : List Nat} (h : Txts w F T cs) (hb : But S w w') (hn : ∀ c ∈ cs, ¬ S c) : Txts w' F T cs :=
  fun c hc => ⟨(h c hc).1.but hb (hn c hc), (h c hc).2⟩

/-- In block g lies the disk d; its blocks are all of F. -/
def Sec (w : World) (F : Nat → Prop) (g : Nat) (d : Dk.Disk) : Prop :=
  ∃ (f cf l cl : Nat) (vo : Value) (n : Int) (pf pl : List Nat) (ws : List (Nat × Nat)) (T : Nat → List UInt8),
    SecIn w g f cf l cl vo n d.off pf pl ws ∧ Txts w F T (pf ++ (pl ++ ws.map (·.2))) ∧ d.firm = pf.map T ∧ d.loose = ws.map (fun x => (x.1, T x.2)) ∧ d.now = pl.map T ∧
    max n (-1) = d.fuel ∧ n ≤ 9223372036854775807 ∧ -9223372036854775808 ≤ n ∧ 1 ≤ pf.length ∧ pf.length ≤ 65536 ∧ (∀ x ∈ ws, x.1 < pf.length) ∧
    F g ∧ F f ∧ F l ∧ (∀ k, vo.ownBlock = some k → F k) ∧ ∀ k, F k → k < w.heap.size

/-- A call has turned no blocks but those of F; what it is in now is of F or new. -/
def Moved (F : Nat → Prop) (w : World) (F' : Nat → Prop) (w' : World) : Prop := But F w w' ∧ ∀ k, F' k → F k ∨ w.heap.size ≤ k
theorem Moved.refl (F : Nat → Prop) (w : World) : Moved F w F w := ⟨But.refl _ _, fun _ h => .inl h⟩
theorem Moved.trans {F F' F'' : Nat → Prop} {w w' w'' : World} (h : Moved F w F' w') (k : Moved F' w' F'' w'') : Moved F w F'' w'' :=
  ⟨h.1.trans k.1 (fun i hi hf => (h.2 i hf).resolve_right (by omega)), fun i hi => by
    rcases k.2 i hi with hf | hl
    · exact h.2 i hf
    · exact .inr (Nat.le_trans h.1.size hl)⟩
theorem Moved.below {F F' : Nat → Prop} {B : Nat} {w w' : World} (h : Moved F w F' w') (hF : ∀ k, F k → B ≤ k) (hB : B ≤ w.heap.size) : Below B w w' ∧ ∀ k, F' k → B ≤ k :=
  ⟨h.1.below hB (fun k hk hf => by have := hF k hf; omega), fun k hk => (h.2 k hk).elim (hF k) (fun h1 => Nat.le_trans hB h1)⟩

theorem Sec.lt {w : World} {F : Nat → Prop} {g : Nat} {d : Dk.Disk} (h : Sec w F g d) : ∀ k, F k → k < w.heap.size := by
  obtain ⟨_, _, _, _, _, _, _, _, _, _, _, _, _, _, _, _, _, _, _, _, _, _, _, _, _, h⟩ := h
  exact h
theorem Sec.but {S : Nat → Prop} {w w' : World} {F : Nat → Prop} {g : Nat} {d : Dk.Disk} (h : Sec w F g d) (hb : But S w w') (hn : ∀ k, F k → ¬ S k) : Sec w' F g d := by
  obtain ⟨f, cf, l, cl, vo, n, pf, pl, ws, T, h1, h2, h3, h4, hp, h5, h6, h6', h7, h8, h9, h10, h11, h12, h13, h14⟩ := h
  exact ⟨f, cf, l, cl, vo, n, pf, pl, ws, T, h1.but hb (hn _ h10) (hn _ h11) (hn _ h12) (fun k hk => hn _ (h13 k hk)), h2.but hb (fun c hc => hn c (h2 c hc).2.1), h3, h4, hp, h5, h6, h6', h7, h8, h9, h10, h11, h12, h13, fun k hk => Nat.lt_of_lt_of_le (h14 k hk) hb.size⟩
theorem Sec.drewN {w : World} {F : Nat → Prop} {g : Nat} {d : Dk.Disk} (h : Sec w F g d) (n : Nat) : Sec (w.drewN n) F g d := h.but ((But.refl (fun _ => False) w).drewN n) (fun _ _ h => h)
theorem Sec.below {B : Nat} {w w' : World} {F : Nat → Prop} {g : Nat} {d : Dk.Disk} (h : Sec w F g d) (hb : Below B w w') (hn : ∀ k, F k → k < B) : Sec w' F g d :=
  h.but (S := fun k => B ≤ k) ⟨hb.os, hb.tape, hb.output, hb.size, fun k _ hk => hb.block k (by omega)⟩ (fun k hk => by have := hn k hk; omega)
end Go.Proofs.YthkblabpiajbhaaDoor
