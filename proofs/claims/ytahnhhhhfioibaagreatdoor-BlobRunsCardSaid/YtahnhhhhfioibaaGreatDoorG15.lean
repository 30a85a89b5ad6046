/- Elder texts, merged (15). -/
import Derived.Test.YtahnhhhhfioibaaGreatDoorG9
import Derived.Test.YtahnhhhhfioibaaGreatDoorG3
import Derived.Laws.BitsAllLaws
namespace Go.Proofs.YtahnhhhhfioibaaGreatDoor
namespace Bl
open Wl (Text)
open Rm

/-- How many pages so many bytes take. -/
def need (n : Nat) : Nat := if n ≤ 506 then 1 else (n - 1) / 506 + 1
theorem need_pos (n : Nat) : 1 ≤ need n := by unfold need; split <;> omega
theorem need_small {n : Nat} (h : n ≤ 506) : need n = 1 := by unfold need; rw [if_pos h]
theorem need_step {n : Nat} (h : 506 < n) : need n = need (n - 506) + 1 := by
  unfold need
  rw [if_neg (by omega)]
  split <;> omega
theorem need_le {n : Nat} (h : n ≤ 131199) : need n ≤ 260 := by unfold need; split <;> omega
def head (k : UInt8) (n q : Nat) : Text := [k, UInt8.ofNat (n / 65536), UInt8.ofNat (n / 256), UInt8.ofNat n, UInt8.ofNat (q / 256), UInt8.ofNat q]
def pageText (k : UInt8) (s : Text) (q : Nat) : Text := head k s.length q ++ s.take 506
def page (k : UInt8) (s : Text) (q : Nat) : Text := Dk.full (pageText k s q)
theorem pageText_length (k : UInt8) (s : Text) (q : Nat) : (pageText k s q).length = 6 + min 506 s.length := by
  unfold pageText
  rw [List.length_append, List.length_take]
  rfl
theorem page_length (k : UInt8) (s : Text) (q : Nat) : (page k s q).length = 512 := Dk.full_length _ (by rw [pageText_length]; omega)
theorem page_is (k : UInt8) (s : Text) (q : Nat) : page k s q = k :: UInt8.ofNat (s.length / 65536) :: UInt8.ofNat (s.length / 256) :: UInt8.ofNat s.length :: UInt8.ofNat (q / 256) :: UInt8.ofNat q :: (s.take 506 ++ List.replicate (506 - min 506 s.length) 0) := by
  unfold page Dk.full
  rw [pageText_length]
  unfold pageText head
  rw [show 512 - (6 + min 506 s.length) = 506 - min 506 s.length by omega]
  simp only [List.cons_append, List.nil_append]
/-- What the head of a page tells. -/
def kindOf (t : Text) : UInt8 := t.getD 0 0
def leftOf (t : Text) : Nat := (t.getD 1 0).toNat * 65536 + (t.getD 2 0).toNat * 256 + (t.getD 3 0).toNat
def nextOf (t : Text) : Nat := (t.getD 4 0).toNat * 256 + (t.getD 5 0).toNat
theorem kind_page (k : UInt8) (s : Text) (q : Nat) : kindOf (page k s q) = k := by rw [page_is]; rfl
theorem left_page (k : UInt8) (s : Text) (q : Nat) (h : s.length < 16777216) : leftOf (page k s q) = s.length := by
  rw [page_is]
  show (UInt8.ofNat (s.length / 65536)).toNat * 65536 + (UInt8.ofNat (s.length / 256)).toNat * 256 + (UInt8.ofNat s.length).toNat = _
  rw [UInt8.toNat_ofNat', UInt8.toNat_ofNat', UInt8.toNat_ofNat']
  omega
theorem next_page (k : UInt8) (s : Text) (q : Nat) (h : q < 65536) : nextOf (page k s q) = q := by
  rw [page_is]
  show (UInt8.ofNat (q / 256)).toNat * 256 + (UInt8.ofNat q).toNat = _
  rw [UInt8.toNat_ofNat', UInt8.toNat_ofNat']
  omega
theorem body_page (k : UInt8) (s : Text) (q : Nat) (h : 506 < s.length) : (page k s q).drop 6 = s.take 506 := by
  rw [page_is]
  show s.take 506 ++ _ = _
  rw [show 506 - min 506 s.length = 0 by omega]
  exact List.append_nil _
theorem tail_page (k : UInt8) (s : Text) (q : Nat) (h : s.length ≤ 506) : ((page k s q).drop 6).take s.length = s := by
  rw [page_is]
  show (s.take 506 ++ _).take _ = _
  rw [List.take_of_length_le h, List.take_append_of_le_length (Nat.le_refl _), List.take_of_length_le (Nat.le_refl _)]

/-- The pages l hold s, the first one being of the kind k. -/
def Chain (pg : List (Option Text)) : UInt8 → List Nat → Text → Prop
  | _, [], _ => False
  | k, [p], s => s.length ≤ 506 ∧ pg.getD p none = some (page k s 0)
  | k, p :: q :: l, s => 506 < s.length ∧ pg.getD p none = some (page k s q) ∧ Chain pg 0xb1 (q :: l) (s.drop 506)
theorem Chain.same {pg pg' : List (Option Text)} : ∀ {l : List Nat} {k : UInt8} {s : Text}, (∀ p ∈ l, pg'.getD p none = pg.getD p none) → Chain pg k l s → Chain pg' k l s
  | [], _, _, _, h => h
  | [_], _, _, e, h => ⟨h.1, (e _ List.mem_cons_self).trans h.2⟩
  | _ :: _ :: _, _, _, e, h => ⟨h.1, (e _ List.mem_cons_self).trans h.2.1, Chain.same (fun x hx => e x (List.mem_cons_of_mem _ hx)) h.2.2⟩
theorem Chain.length {pg : List (Option Text)} : ∀ {l : List Nat} {k : UInt8} {s : Text}, Chain pg k l s → l.length = need s.length
  | [], _, _, h => h.elim
  | [p], k, s, h => by rw [need_small h.1]; rfl
  | p :: q :: l, k, s, h => by
    have := Chain.length h.2.2
    rw [List.length_drop] at this
    rw [need_step h.1, ← this]
    rfl
theorem getD_lt {pg : List (Option Text)} {p : Nat} {t : Text} (h : pg.getD p none = some t) : p < pg.length := by
  rw [List.getD_eq_getElem?_getD] at h
  by_cases hp : p < pg.length
  · exact hp
  · rw [List.getElem?_eq_none (by omega)] at h; cases h
theorem Chain.taken {pg : List (Option Text)} : ∀ {l : List Nat} {k : UInt8} {s : Text}, Chain pg k l s → ∀ p ∈ l, (pg.getD p none).isSome = true
  | [], _, _, h, _, _ => h.elim
  | [p], k, s, h, x, hx => by rw [List.mem_singleton.1 hx, h.2]; rfl
  | p :: q :: l, k, s, h, x, hx => by
    rcases List.mem_cons.1 hx with rfl | hx
    · rw [h.2.1]; rfl
    · exact Chain.taken h.2.2 x hx
theorem isSome_lt {pg : List (Option Text)} {p : Nat} (h : (pg.getD p none).isSome = true) : p < pg.length := by
  cases e : pg.getD p none with
  | none => rw [e] at h; cases h
  | some t => exact getD_lt e

/-! ### Pages are written. -/
def filled : List (Option Text) → UInt8 → List Nat → Text → List (Option Text)
  | pg, _, [], _ => pg
  | pg, k, p :: l, s => filled (pg.set p (some (page k s (l.headD 0)))) 0xb1 l (s.drop 506)
theorem filled_length : ∀ (l : List Nat) (pg : List (Option Text)) (k : UInt8) (s : Text), (filled pg k l s).length = pg.length
  | [], _, _, _ => rfl
  | p :: l, pg, k, s => by unfold filled; rw [filled_length l, List.length_set]
theorem getD_set' {pg : List (Option Text)} {p q : Nat} {o : Option Text} (hp : p < pg.length) : (pg.set p o).getD q none = if q = p then o else pg.getD q none := Rep.getD_set _ _ _ _ _ hp
theorem getD_ne {pg : List (Option Text)} {p q : Nat} {o : Option Text} (h : q ≠ p) : (pg.set p o).getD q none = pg.getD q none := by
  rw [List.getD_eq_getElem?_getD, List.getElem?_set_ne (fun e => h e.symm), ← List.getD_eq_getElem?_getD]
theorem filled_other : ∀ (l : List Nat) (pg : List (Option Text)) (k : UInt8) (s : Text) (q : Nat), q ∉ l → (filled pg k l s).getD q none = pg.getD q none
  | [], _, _, _, _, _ => rfl
  | p :: l, pg, k, s, q, h => by
    unfold filled
    rw [filled_other l _ _ _ q (fun e => h (List.mem_cons_of_mem _ e)), getD_ne (fun e => h (by rw [e]; exact List.mem_cons_self))]
theorem used_cons (x : Option Text) (pg : List (Option Text)) : used (x :: pg) = x.isSome.toNat + used pg := by
  unfold used
  cases x
  · rw [List.filter_cons, if_neg (by decide)]
    show _ = 0 + _
    omega
  · rw [List.filter_cons, if_pos (show (some _ : Option Text).isSome = true from rfl), List.length_cons]
    show _ = 1 + _
    omega
theorem used_set {pg : List (Option Text)} {p : Nat} {o : Option Text} (hp : p < pg.length) : used (pg.set p o) + (pg.getD p none).isSome.toNat = used pg + o.isSome.toNat := by
  induction pg generalizing p with
  | nil => cases hp
  | cons x pg ih =>
    cases p with
    | zero =>
      unfold used
      show ((o :: pg).filter Option.isSome).length + x.isSome.toNat = _
      cases o <;> cases x <;> simp [List.filter_cons]
    | succ p =>
      have := ih (p := p) (by simpa using hp)
      show used (x :: pg.set p o) + (pg.getD p none).isSome.toNat = _
      rw [used_cons, used_cons]
      omega
theorem used_same {pg : List (Option Text)} {p : Nat} {t : Text} (h : (pg.getD p none).isSome = true) : used (pg.set p (some t)) = used pg := by
  have := used_set (o := some t) (isSome_lt h)
  rw [h] at this
  simpa using this
theorem set_some {pg : List (Option Text)} {p q : Nat} {t : Text} (hp : p < pg.length) (h : (pg.getD q none).isSome = true) : ((pg.set p (some t)).getD q none).isSome = true := by
  rw [getD_set' hp]
  split
  · rfl
  · exact h
theorem filled_used : ∀ (l : List Nat) (pg : List (Option Text)) (k : UInt8) (s : Text), (∀ p ∈ l, (pg.getD p none).isSome = true) → used (filled pg k l s) = used pg
  | [], _, _, _, _ => rfl
  | p :: l, pg, k, s, h => by
    have hp := h p List.mem_cons_self
    unfold filled
    rw [filled_used l _ _ _ (fun q hq => set_some (isSome_lt hp) (h q (List.mem_cons_of_mem _ hq))), used_same hp]
theorem filled_chain : ∀ (l : List Nat) (pg : List (Option Text)) (k : UInt8) (s : Text), l.Nodup → (∀ p ∈ l, (pg.getD p none).isSome = true) → l.length = need s.length → Chain (filled pg k l s) k l s
  | [], _, _, s, _, _, hl => by have := need_pos s.length; rw [← hl] at this; exact absurd this (by decide)
  | [p], pg, k, s, hn, h, hl => by
    have hp := isSome_lt (h p List.mem_cons_self)
    have hs : s.length ≤ 506 := by
      by_cases h5 : s.length ≤ 506
      · exact h5
      · rw [need_step (by omega)] at hl
        have := need_pos (s.length - 506)
        simp only [List.length_cons, List.length_nil] at hl
        omega
    refine ⟨hs, ?_⟩
    show ((pg.set p _).getD p none) = _
    rw [getD_set' hp, if_pos rfl]
    rfl
  | p :: q :: l, pg, k, s, hn, h, hl => by
    have hp := h p List.mem_cons_self
    have hs : 506 < s.length := by
      by_cases h5 : s.length ≤ 506
      · rw [need_small h5] at hl; simp only [List.length_cons] at hl; omega
      · omega
    obtain ⟨hn1, hn2⟩ := List.nodup_cons.1 hn
    refine ⟨hs, ?_, filled_chain (q :: l) _ 0xb1 _ hn2 (fun x hx => set_some (isSome_lt hp) (h x (List.mem_cons_of_mem _ hx))) ?_⟩
    · unfold filled
      rw [filled_other _ _ _ _ _ hn1, getD_set' (isSome_lt hp), if_pos rfl]
      rfl
    · rw [List.length_drop]
      rw [need_step hs] at hl
      simp only [List.length_cons] at hl ⊢
      omega

/-! ### Pages are taken. -/
/-- From pg on the pages l were taken: pg'. -/
structure Took (pg : List (Option Text)) (l : List Nat) (pg' : List (Option Text)) : Prop where
  len : pg'.length = pg.length
  nodup : l.Nodup
  was : ∀ p ∈ l, pg.getD p none = none
  now : ∀ p ∈ l, (pg'.getD p none).isSome = true
  other : ∀ q, q ∉ l → pg'.getD q none = pg.getD q none
  used : used pg' = used pg + l.length
theorem Took.nil (pg : List (Option Text)) : Took pg [] pg := ⟨rfl, List.nodup_nil, fun _ h => (by cases h), fun _ h => (by cases h), fun _ _ => rfl, rfl⟩
theorem Took.snoc {pg pg' : List (Option Text)} {l : List Nat} (h : Took pg l pg') {p : Nat} (hp : firstFree pg' = some p) (t : Text) : Took pg (l ++ [p]) (pg'.set p (some t)) := by
  obtain ⟨h1, h2⟩ := firstFree_lt hp
  have hl : p ∉ l := fun hm => by have := h.now p hm; rw [h2] at this; cases this
  refine ⟨by rw [List.length_set, h.len], ?_, fun q hq => ?_, fun q hq => ?_, fun q hq => ?_, ?_⟩
  · rw [List.nodup_append]
    exact ⟨h.nodup, List.nodup_cons.2 ⟨by simp, List.nodup_nil⟩, fun a ha b hb e => hl (by rw [List.mem_singleton.1 hb] at e; exact e ▸ ha)⟩
  · rcases List.mem_append.1 hq with hq | hq
    · exact h.was q hq
    · rw [List.mem_singleton.1 hq, ← h.other p hl]; exact h2
  · rcases List.mem_append.1 hq with hq | hq
    · exact set_some h1 (h.now q hq)
    · rw [List.mem_singleton.1 hq, getD_set' h1, if_pos rfl]; rfl
  · rw [getD_ne (fun e => hq (List.mem_append_right _ (by rw [e]; exact List.mem_cons_self)))]
    exact h.other q fun e => hq (List.mem_append_left _ e)
  · have := used_set (o := some t) h1
    rw [h2, h.used] at this
    rw [List.length_append]
    simp at this
    show _ = _ + (l.length + 1)
    omega
theorem firstFree_of_used : ∀ {pg : List (Option Text)}, used pg < pg.length → ∃ p, firstFree pg = some p
  | [], h => absurd h (Nat.not_lt_zero _)
  | none :: pg, _ => ⟨0, rfl⟩
  | some t :: pg, h => by
    obtain ⟨p, hp⟩ := firstFree_of_used (pg := pg) (by
      rw [used_cons, List.length_cons] at h
      have : (some t : Option Text).isSome.toNat = 1 := rfl
      omega)
    exact ⟨p + 1, by show (firstFree pg).map (· + 1) = _; rw [hp]; rfl⟩
theorem firstFree_full {pg : List (Option Text)} (h : used pg = pg.length) : firstFree pg = none := by
  cases e : firstFree pg with
  | none => rfl
  | some p =>
    obtain ⟨h1, h2⟩ := firstFree_lt e
    have := used_set (o := some []) h1
    have h3 := used_le (pg.set p (some []))
    rw [List.length_set] at h3
    rw [h2] at this
    simp at this
    omega
/-- What Put leaves. -/
structure Placed (pg : List (Option Text)) (l : List Nat) (s : Text) (pg' : List (Option Text)) : Prop where
  len : pg'.length = pg.length
  nodup : l.Nodup
  was : ∀ p ∈ l, pg.getD p none = none
  chain : Chain pg' 0xb0 l s
  other : ∀ q, q ∉ l → pg'.getD q none = pg.getD q none
  used : used pg' = used pg + need s.length
theorem Took.placed {pg pg' : List (Option Text)} {l : List Nat} (h : Took pg l pg') {s : Text} (hl : l.length = need s.length) : Placed pg l s (filled pg' 0xb0 l s) :=
  ⟨by rw [filled_length, h.len], h.nodup, h.was, filled_chain l _ _ _ h.nodup h.now hl, fun q hq => by rw [filled_other _ _ _ _ _ hq]; exact h.other q hq, by rw [filled_used _ _ _ _ h.now, h.used, hl]⟩

/-! ### Pages are given back. -/
def dropped (pg : List (Option Text)) (l : List Nat) : List (Option Text) := l.foldl (fun pg p => pg.set p none) pg
theorem dropped_cons (pg : List (Option Text)) (p : Nat) (l : List Nat) : dropped pg (p :: l) = dropped (pg.set p none) l := rfl
theorem dropped_length : ∀ (l : List Nat) (pg : List (Option Text)), (dropped pg l).length = pg.length
  | [], _ => rfl
  | p :: l, pg => by rw [dropped_cons, dropped_length l, List.length_set]
theorem dropped_other : ∀ (l : List Nat) (pg : List (Option Text)) (q : Nat), q ∉ l → (dropped pg l).getD q none = pg.getD q none
  | [], _, _, _ => rfl
  | p :: l, pg, q, h => by rw [dropped_cons, dropped_other l _ q (fun e => h (List.mem_cons_of_mem _ e)), getD_ne (fun e => h (by rw [e]; exact List.mem_cons_self))]
theorem dropped_used : ∀ (l : List Nat) (pg : List (Option Text)), l.Nodup → (∀ p ∈ l, (pg.getD p none).isSome = true) → used (dropped pg l) + l.length = used pg
  | [], _, _, _ => rfl
  | p :: l, pg, hn, h => by
    obtain ⟨hn1, hn2⟩ := List.nodup_cons.1 hn
    have hp := h p List.mem_cons_self
    have h1 := used_set (o := none) (isSome_lt hp)
    have h2 := dropped_used l (pg.set p none) hn2 (fun q hq => by rw [getD_ne (fun e => hn1 (by rw [← e]; exact hq))]; exact h q (List.mem_cons_of_mem _ hq))
    rw [hp] at h1
    simp at h1
    rw [dropped_cons, List.length_cons]
    omega
theorem dropped_snoc (pg : List (Option Text)) (l : List Nat) (p : Nat) : dropped pg (l ++ [p]) = (dropped pg l).set p none := by
  unfold dropped
  rw [List.foldl_append]
  rfl

/-! ### Several blobs. -/
/-- The blobs B, each with its pages and its text, are all that is taken. -/
structure Blobs (pg : List (Option Text)) (B : List (List Nat × Text)) : Prop where
  each : ∀ b ∈ B, Chain pg 0xb0 b.1 b.2
  apart : (B.flatMap (·.1)).Nodup
  used : used pg = (B.flatMap (·.1)).length
theorem Blobs.nil {pg : List (Option Text)} (h : Rm.used pg = 0) : Blobs pg [] := ⟨fun b hb => (by cases hb), List.nodup_nil, h⟩
theorem Blobs.mem {pg : List (Option Text)} {B : List (List Nat × Text)} (h : Blobs pg B) {p : Nat} (hp : p ∈ B.flatMap (·.1)) : (pg.getD p none).isSome = true := by
  obtain ⟨b, hb, hp⟩ := List.mem_flatMap.1 hp
  exact (h.each b hb).taken p hp
theorem Blobs.put {pg pg' : List (Option Text)} {B : List (List Nat × Text)} (h : Blobs pg B) {l : List Nat} {s : Text} (hp : Placed pg l s pg') : Blobs pg' (B ++ [(l, s)]) := by
  have hx : ∀ p ∈ B.flatMap (·.1), p ∉ l := fun p h1 h2 => by have := h.mem h1; rw [hp.was p h2] at this; cases this
  refine ⟨fun b hb => ?_, ?_, ?_⟩
  · rcases List.mem_append.1 hb with hb | hb
    · exact (h.each b hb).same fun p hpm => hp.other p (hx p (List.mem_flatMap.2 ⟨b, hb, hpm⟩))
    · rw [List.mem_singleton.1 hb]; exact hp.chain
  · rw [List.flatMap_append, List.nodup_append]
    refine ⟨h.apart, by simpa using hp.nodup, fun a ha b hb e => hx a ha ?_⟩
    rw [e]; simpa using hb
  · rw [List.flatMap_append, List.length_append, hp.used, h.used, ← hp.chain.length]
    simp
theorem split_at {α : Type} {B : List α} {k : Nat} (h : k < B.length) : B = B.take k ++ B[k] :: B.drop (k + 1) := by
  rw [← List.drop_eq_getElem_cons h, List.take_append_drop]
theorem Blobs.drop {pg : List (Option Text)} {B : List (List Nat × Text)} (h : Blobs pg B) {k : Nat} (hk : k < B.length) : Blobs (dropped pg B[k].1) (B.take k ++ B.drop (k + 1)) := by
  have hB := split_at hk
  have hm : B[k] ∈ B := List.getElem_mem hk
  have hpk := h.each _ hm
  obtain ⟨x, hx⟩ : ∃ x, x = B[k] := ⟨_, rfl⟩
  rw [← hx] at hB hm hpk ⊢
  have ha := h.apart
  have hu := h.used
  obtain ⟨B1, hB1⟩ : ∃ B1, B1 = B.take k := ⟨_, rfl⟩
  obtain ⟨B2, hB2⟩ : ∃ B2, B2 = B.drop (k + 1) := ⟨_, rfl⟩
  rw [← hB1, ← hB2] at hB ⊢
  have he := h.each
  rw [hB] at ha hu he
  rw [List.flatMap_append, List.flatMap_cons] at ha hu
  rw [List.nodup_append, List.nodup_append] at ha
  obtain ⟨a1, ⟨a2, a3, a4⟩, a5⟩ := ha
  have hno : ∀ p ∈ B1.flatMap (·.1) ++ B2.flatMap (·.1), p ∉ x.1 := by
    intro p hp hpx
    rcases List.mem_append.1 hp with hp | hp
    · exact a5 p hp p (List.mem_append_left _ hpx) rfl
    · exact a4 p hpx p hp rfl
  refine ⟨fun b hb => ?_, ?_, ?_⟩
  · have hb' : b ∈ B1 ++ x :: B2 := by
      rcases List.mem_append.1 hb with hb | hb
      · exact List.mem_append_left _ hb
      · exact List.mem_append_right _ (List.mem_cons_of_mem _ hb)
    refine (he b hb').same fun p hp => dropped_other _ _ _ (hno p ?_)
    rw [← List.flatMap_append]
    exact List.mem_flatMap.2 ⟨b, hb, hp⟩
  · rw [List.flatMap_append, List.nodup_append]
    exact ⟨a1, a3, fun a ha b hb => a5 a ha b (List.mem_append_right _ hb)⟩
  · have := dropped_used x.1 pg a2 hpk.taken
    rw [List.flatMap_append, List.length_append]
    rw [List.length_append, List.length_append] at hu
    omega
end Bl
end Go.Proofs.YtahnhhhhfioibaaGreatDoor

namespace Go.Proofs.YtahnhhhhfioibaaGreatDoor
open Go.RowKit Lib

namespace Bl
def pagesI (n : Int) : Int := if n ≤ 506 then 1 else (n - 1) / 506 + 1
theorem pagesI_nat (n : Nat) : pagesI n = (need n : Nat) := by
  unfold pagesI need
  by_cases h : n ≤ 506
  · rw [if_pos h, if_pos (by omega)]; rfl
  · rw [if_neg h, if_neg (by omega)]; omega
end Bl
theorem blobPages_any (w : World) (n : Int) (h1 : -9223372036854775808 ≤ n) (h2 : n ≤ 9223372036854775807) :
    Calls Tryz.prog 27 #[.int .i64 n] w fun e w' => e = .returned (.int .i64 (Bl.pagesI n)) ∧ w' = w := by
  by_cases h : n ≤ 506
  · have e : Bl.pagesI n = 1 := if_pos h
    rw [e]
    clear e
    go_enter Tryz.func27, Tryz.ntmps27
    go_wp2
    go_ret
    exact ⟨rfl, rfl⟩
  · obtain ⟨q, hq⟩ : ∃ q : Int, q = (n - 1) / 506 := ⟨_, rfl⟩
    have e : Bl.pagesI n = q + 1 := by rw [hq]; exact if_neg h
    have h0 : (n - 1).tdiv 506 = q := by rw [Int.tdiv_eq_ediv_of_nonneg (by omega), hq]
    have hq1 : q ≤ 9223372036854775806 := by omega
    have hq2 : 0 ≤ q := by omega
    rw [e]
    clear e hq
    go_enter Tryz.func27, Tryz.ntmps27
    go_wp2
    go_ret
    exact ⟨rfl, rfl⟩
theorem blobPages_nat (w : World) (n : Nat) (h : n ≤ 1000000000) :
    Calls Tryz.prog 27 #[.int .i64 n] w fun e w' => e = .returned (.int .i64 (Bl.need n : Nat)) ∧ w' = w := by
  rw [← Bl.pagesI_nat]
  exact blobPages_any w n (by omega) (by omega)
/-- The document's answer. -/
theorem ref8Pages_any (w : World) (n : Int) (h1 : -9223372036854775808 ≤ n) (h2 : n ≤ 1073741824) :
    Calls Tryz.prog 28 #[.int .i64 n] w fun e w' => e = .returned (.int .i64 (Bl.pagesI n)) ∧ w' = w := by
  obtain ⟨P, hP⟩ : ∃ P, P = Bl.pagesI n := ⟨_, rfl⟩
  rw [← hP]
  have HP := Lib.hid hP
  clear hP
  go_enter Tryz.func28, Tryz.ntmps28
  go_wp2
  go_loopw [3] (fun p wr => ∃ k : Nat, p = .int .i64 k ∧ 1 ≤ k ∧ (k = 1 ∨ 506 * ((k : Int) - 1) < n) ∧ wr = w) (fun p _ => (n - 506 * Go.RowKit.intOf p).toNat)
  case atStart => exact ⟨1, rfl, Nat.le_refl _, .inl rfl, rfl⟩
  case round =>
    obtain ⟨k, rfl, hk1, hk2, rfl⟩ := hrel
    have hk3 : (k : Int) ≤ 2200000 := by omega
    have hk0 : (1 : Int) ≤ k := by omega
    by_cases hgt : 506 * (k : Int) < n
    · obtain ⟨d, hd⟩ : ∃ d : Nat, (n - 506 * (k : Int)).tdiv 1012 = d := ⟨((n - 506 * (k : Int)).tdiv 1012).toNat, by rw [Int.tdiv_eq_ediv_of_nonneg (by omega)]; omega⟩
      have hd2 : 1012 * (d : Int) ≤ n - 506 * (k : Int) := by rw [← hd, Int.tdiv_eq_ediv_of_nonneg (by omega)]; omega
      have hd3 : (d : Int) ≤ 2200000 := by omega
      have HD := Lib.hid (And.intro hd2 hgt)
      clear hd2
      go_wp2
      go_roundw
      case rel => exact ⟨k + 1 + d, by go_num, by omega, .inr (by have := HD.out; omega), trivial⟩
      case measure => have := HD.out; simp [Go.RowKit.intOf]; omega
    · have hP : P = k := by
        rw [HP.out]
        unfold Bl.pagesI
        split <;> omega
      have HP2 := Lib.hid hP
      clear hP
      go_wp2
      go_ret
      exact ⟨by rw [HP2.out]; rfl, rfl⟩
theorem at_get8 (s : ByteArray) (k : Nat) (hk : k < s.size) : s.data.toList.getD k 0 = s[k] := by
  rw [List.getD_eq_getElem?_getD, List.getElem?_eq_getElem (by rw [Array.length_toList]; exact hk), Option.getD_some]
  rfl
theorem kindOf_any (w : World) (s : ByteArray) (hs : s.size = 512) :
    Calls Tryz.prog 92 #[.string s] w fun e w' => e = .returned (.int .u8 ((Bl.kindOf s.data.toList).toNat : Int)) ∧ w' = w := by
  have h0 : 0 < s.size := by omega
  have HA := Lib.hid (at_get8 s 0 h0)
  go_enter Tryz.func92, Tryz.ntmps92
  go_wp2
  go_ret
  exact ⟨by unfold Bl.kindOf; rw [HA.out]; rfl, rfl⟩
theorem i64_or_nat (a b : Nat) (h : a ||| b < 9223372036854775808) (ha : a < 18446744073709551616) (hb : b < 18446744073709551616) : bits .or .i64 (a : Int) (b : Int) = ((a ||| b : Nat) : Int) := by
  show IntKind.i64.wrap ((BitVec.ofInt 64 (a : Int) ||| BitVec.ofInt 64 (b : Int)).toNat : Int) = _
  rw [BitVec.toNat_or, ofInt_u64 a ha, ofInt_u64 b hb]
  generalize a ||| b = c at *
  have e : (c : Int) % 2 ^ 64 = c := Int.emod_eq_of_lt (by omega) (by omega)
  simp only [IntKind.wrap, IntKind.bits, IntKind.signed, e]
  rw [if_neg]
  simp
  omega
theorem wrap_nat (n : Nat) (h : n < 9223372036854775808) : IntKind.i64.wrap (n : Int) = (n : Int) := by
  have e : (n : Int) % 2 ^ 64 = n := Int.emod_eq_of_lt (by omega) (by omega)
  simp only [IntKind.wrap, IntKind.bits, IntKind.signed, e]
  rw [if_neg]
  simp
  omega
theorem or_up (a b n : Nat) (h : b < 2 ^ n) : a * 2 ^ n ||| b = a * 2 ^ n + b := by
  rw [show a * 2 ^ n = a <<< n from by rw [Nat.shiftLeft_eq], ← Nat.shiftLeft_add_eq_or_of_lt h]
theorem join_bytes (a b : UInt8) : bits .or .i64 (IntKind.i64.wrap (IntKind.i64.wrap (a.toNat : Int) * 256)) (IntKind.i64.wrap (b.toNat : Int)) = ((a.toNat * 256 + b.toNat : Nat) : Int) := by
  have ha := a.toNat_lt
  have hb := b.toNat_lt
  have e : a.toNat * 256 ||| b.toNat = a.toNat * 256 + b.toNat := or_up _ _ 8 hb
  rw [wrap_nat b.toNat (by omega), wrap_nat a.toNat (by omega), show (a.toNat : Int) * 256 = ((a.toNat * 256 : Nat) : Int) by omega, wrap_nat (a.toNat * 256) (by omega), i64_or_nat _ _ (by rw [e]; omega) (by omega) (by omega), e]
theorem join_bytes3 (c a b : UInt8) : bits .or .i64 (bits .or .i64 (IntKind.i64.wrap (IntKind.i64.wrap (c.toNat : Int) * 65536)) (IntKind.i64.wrap (IntKind.i64.wrap (a.toNat : Int) * 256))) (IntKind.i64.wrap (b.toNat : Int)) = ((c.toNat * 65536 + a.toNat * 256 + b.toNat : Nat) : Int) := by
  have hc := c.toNat_lt
  have ha := a.toNat_lt
  have hb := b.toNat_lt
  have e1 : c.toNat * 65536 ||| a.toNat * 256 = c.toNat * 65536 + a.toNat * 256 := or_up c.toNat (a.toNat * 256) 16 (by omega)
  have e2 : (c.toNat * 65536 + a.toNat * 256) ||| b.toNat = c.toNat * 65536 + a.toNat * 256 + b.toNat := by
    rw [show c.toNat * 65536 + a.toNat * 256 = (c.toNat * 256 + a.toNat) * 2 ^ 8 by omega]
    exact or_up _ _ 8 hb
  rw [wrap_nat b.toNat (by omega), wrap_nat a.toNat (by omega), wrap_nat c.toNat (by omega), show (a.toNat : Int) * 256 = ((a.toNat * 256 : Nat) : Int) by omega, show (c.toNat : Int) * 65536 = ((c.toNat * 65536 : Nat) : Int) by omega, wrap_nat (a.toNat * 256) (by omega), wrap_nat (c.toNat * 65536) (by omega), i64_or_nat _ _ (by rw [e1]; omega) (by omega) (by omega), e1, i64_or_nat _ _ (by rw [e2]; omega) (by omega) (by omega), e2]
set_option maxHeartbeats 1000000 in
theorem nextOf_any (w : World) (s : ByteArray) (hs : s.size = 512) :
    Calls Tryz.prog 94 #[.string s] w fun e w' => e = .returned (.int .i64 (Bl.nextOf s.data.toList : Nat)) ∧ ∃ n, w' = w.drewN n := by
  have h4 : 4 < s.size := by omega
  have h5 : 5 < s.size := by omega
  obtain ⟨N, hN⟩ : ∃ N, N = Bl.nextOf s.data.toList := ⟨_, rfl⟩
  have hA : N = s[4].toNat * 256 + s[5].toNat := by rw [hN]; unfold Bl.nextOf; rw [at_get8 s 4 h4, at_get8 s 5 h5]
  rw [← hN]
  have HJ := Lib.hid (show _ = (N : Int) from (join_bytes s[4] s[5]).trans (congrArg _ hA.symm))
  have HE := Lib.hid (show IntKind.i64.wrap (s[4].toNat : Int) = s[4].toNat ∧ IntKind.i64.wrap (s[5].toNat : Int) = s[5].toNat ∧ IntKind.i64.wrap ((s[4].toNat : Int) * 256) = (s[4].toNat : Int) * 256 from ⟨wrap_nat _ (by have := s[4].toNat_lt; omega), wrap_nat _ (by have := s[5].toNat_lt; omega), by
    have := wrap_nat (s[4].toNat * 256) (by have := s[4].toNat_lt; omega)
    rwa [show ((s[4].toNat * 256 : Nat) : Int) = (s[4].toNat : Int) * 256 by omega] at this⟩)
  clear hN hA
  go_enter Tryz.func94, Tryz.ntmps94
  go_wp2_with (refine wp_region_any (by kernel_rfl) ?_; refine Hid.out ?_)
  refine Lib.hid ?_
  try (change wpAny _ _ _ _ _ _ _ (World.drew _))
  refine wpAny_take (i := 0) (v := ?_) (by simp only [List.getElem?_toArray, List.getElem?_cons_zero]; exact rfl) (by kernel_rfl) (by kernel_rfl) (by kernel_rfl) (by exact fun _ _ _ h => h) (Or.inl ⟨by rfl, ?_⟩) ?_
  rotate_left
  · intro w; go_simp; try with_reducible rfl
  refine wpAny_take (i := 1) (v := ?_) (by simp only [List.getElem?_toArray, List.getElem?_cons_succ, List.getElem?_cons_zero]; exact rfl) (by kernel_rfl) (by kernel_rfl) (by kernel_rfl) (by exact fun _ _ _ h => h) (Or.inl ⟨by rfl, ?_⟩) ?_
  rotate_left
  · intro w; go_simp; try with_reducible rfl
  refine wpAny_take (i := 2) (v := ?_) (by simp only [List.getElem?_toArray, List.getElem?_cons_succ, List.getElem?_cons_zero]; exact rfl) (by kernel_rfl) (by kernel_rfl) (by kernel_rfl) (by exact fun _ _ _ h => h) (Or.inl ⟨by rfl, ?_⟩) ?_
  rotate_left
  · intro w; go_simp; try with_reducible rfl
  refine wpAny_take (i := 3) (v := ?_) (by simp only [List.getElem?_toArray, List.getElem?_cons_succ, List.getElem?_cons_zero]; exact rfl) (by kernel_rfl) (by kernel_rfl) (by kernel_rfl) (by exact fun _ _ _ h => h) (Or.inl ⟨by rfl, ?_⟩) ?_
  rotate_left
  · intro w; go_simp; try with_reducible rfl
  refine wpAny_take (i := 4) (v := ?_) (by simp only [List.getElem?_toArray, List.getElem?_cons_succ, List.getElem?_cons_zero]; exact rfl) (by kernel_rfl) (by kernel_rfl) (by kernel_rfl) (by exact fun _ _ _ h => h) (Or.inl ⟨by rfl, ?_⟩) ?_
  rotate_left
  · intro w; go_simp; try with_reducible rfl
  refine wpAny_take (i := 5) (v := ?_) (by simp only [List.getElem?_toArray, List.getElem?_cons_succ, List.getElem?_cons_zero]; exact rfl) (by kernel_rfl) (by kernel_rfl) (by kernel_rfl) (by exact fun _ _ _ h => h) (Or.inl ⟨by rfl, ?_⟩) ?_
  rotate_left
  · intro w; go_simp; try with_reducible rfl
  refine wpAny_take (i := 6) (v := ?_) (by simp only [List.getElem?_toArray, List.getElem?_cons_succ, List.getElem?_cons_zero]; exact rfl) (by kernel_rfl) (by kernel_rfl) (by kernel_rfl) (by exact fun _ _ _ h => h) (Or.inl ⟨by rfl, ?_⟩) ?_
  rotate_left
  · intro w; go_simp; try with_reducible rfl
  refine wpAny_take (i := 7) (v := ?_) (by simp only [List.getElem?_toArray, List.getElem?_cons_succ, List.getElem?_cons_zero]; exact rfl) (by kernel_rfl) (by kernel_rfl) (by kernel_rfl) (by exact fun _ _ _ h => h) (Or.inl ⟨by rfl, ?_⟩) ?_
  rotate_left
  · intro w; go_simp; try with_reducible rfl
  refine wpAny_take (i := 8) (v := ?_) (by simp only [List.getElem?_toArray, List.getElem?_cons_succ, List.getElem?_cons_zero]; exact rfl) (by kernel_rfl) (by kernel_rfl) (by kernel_rfl) (by exact fun _ _ _ h => h) (Or.inl ⟨by rfl, ?_⟩) ?_
  rotate_left
  · intro w; go_simp; try with_reducible rfl
  refine wpAny_done (by kernel_rfl) ?_ _
  simp only [HJ.out]
  simp only [HE.out.1, HE.out.2.1, HE.out.2.2]
  simp only [Act.put, List.setIfInBounds_toArray, List.set_cons_succ, List.set_cons_zero]
  go_wp2
  go_ret
  exact ⟨rfl, 1, rfl⟩
set_option maxHeartbeats 1000000 in
theorem leftOf_any (w : World) (s : ByteArray) (hs : s.size = 512) :
    Calls Tryz.prog 91 #[.string s] w fun e w' => e = .returned (.int .i64 (Bl.leftOf s.data.toList : Nat)) ∧ ∃ n, w' = w.drewN n := by
  have h1 : 1 < s.size := by omega
  have h2 : 2 < s.size := by omega
  have h3 : 3 < s.size := by omega
  obtain ⟨N, hN⟩ : ∃ N, N = Bl.leftOf s.data.toList := ⟨_, rfl⟩
  have hA : N = s[1].toNat * 65536 + s[2].toNat * 256 + s[3].toNat := by rw [hN]; unfold Bl.leftOf; rw [at_get8 s 1 h1, at_get8 s 2 h2, at_get8 s 3 h3]
  rw [← hN]
  have HJ := Lib.hid (show _ = (N : Int) from (join_bytes3 s[1] s[2] s[3]).trans (congrArg _ hA.symm))
  have HE := Lib.hid (show IntKind.i64.wrap (s[1].toNat : Int) = s[1].toNat ∧ IntKind.i64.wrap (s[2].toNat : Int) = s[2].toNat ∧ IntKind.i64.wrap (s[3].toNat : Int) = s[3].toNat ∧ IntKind.i64.wrap ((s[1].toNat : Int) * 65536) = (s[1].toNat : Int) * 65536 ∧ IntKind.i64.wrap ((s[2].toNat : Int) * 256) = (s[2].toNat : Int) * 256 from ⟨wrap_nat _ (by have := s[1].toNat_lt; omega), wrap_nat _ (by have := s[2].toNat_lt; omega), wrap_nat _ (by have := s[3].toNat_lt; omega), by
    have := wrap_nat (s[1].toNat * 65536) (by have := s[1].toNat_lt; omega)
    rwa [show ((s[1].toNat * 65536 : Nat) : Int) = (s[1].toNat : Int) * 65536 by omega] at this, by
    have := wrap_nat (s[2].toNat * 256) (by have := s[2].toNat_lt; omega)
    rwa [show ((s[2].toNat * 256 : Nat) : Int) = (s[2].toNat : Int) * 256 by omega] at this⟩)
  clear hN hA
  go_enter Tryz.func91, Tryz.ntmps91
  go_wp2_with (refine wp_region_any (by kernel_rfl) ?_; refine Hid.out ?_)
  refine Lib.hid ?_
  try (change wpAny _ _ _ _ _ _ _ (World.drew _))
  refine wpAny_take (i := 0) (v := ?_) (by simp only [List.getElem?_toArray, List.getElem?_cons_zero]; exact rfl) (by kernel_rfl) (by kernel_rfl) (by kernel_rfl) (by exact fun _ _ _ h => h) (Or.inl ⟨by rfl, ?_⟩) ?_
  rotate_left
  · intro w; go_simp; try with_reducible rfl
  refine wpAny_take (i := 1) (v := ?_) (by simp only [List.getElem?_toArray, List.getElem?_cons_succ, List.getElem?_cons_zero]; exact rfl) (by kernel_rfl) (by kernel_rfl) (by kernel_rfl) (by exact fun _ _ _ h => h) (Or.inl ⟨by rfl, ?_⟩) ?_
  rotate_left
  · intro w; go_simp; try with_reducible rfl
  refine wpAny_take (i := 2) (v := ?_) (by simp only [List.getElem?_toArray, List.getElem?_cons_succ, List.getElem?_cons_zero]; exact rfl) (by kernel_rfl) (by kernel_rfl) (by kernel_rfl) (by exact fun _ _ _ h => h) (Or.inl ⟨by rfl, ?_⟩) ?_
  rotate_left
  · intro w; go_simp; try with_reducible rfl
  refine wpAny_take (i := 3) (v := ?_) (by simp only [List.getElem?_toArray, List.getElem?_cons_succ, List.getElem?_cons_zero]; exact rfl) (by kernel_rfl) (by kernel_rfl) (by kernel_rfl) (by exact fun _ _ _ h => h) (Or.inl ⟨by rfl, ?_⟩) ?_
  rotate_left
  · intro w; go_simp; try with_reducible rfl
  refine wpAny_take (i := 4) (v := ?_) (by simp only [List.getElem?_toArray, List.getElem?_cons_succ, List.getElem?_cons_zero]; exact rfl) (by kernel_rfl) (by kernel_rfl) (by kernel_rfl) (by exact fun _ _ _ h => h) (Or.inl ⟨by rfl, ?_⟩) ?_
  rotate_left
  · intro w; go_simp; try with_reducible rfl
  refine wpAny_take (i := 5) (v := ?_) (by simp only [List.getElem?_toArray, List.getElem?_cons_succ, List.getElem?_cons_zero]; exact rfl) (by kernel_rfl) (by kernel_rfl) (by kernel_rfl) (by exact fun _ _ _ h => h) (Or.inl ⟨by rfl, ?_⟩) ?_
  rotate_left
  · intro w; go_simp; try with_reducible rfl
  refine wpAny_take (i := 6) (v := ?_) (by simp only [List.getElem?_toArray, List.getElem?_cons_succ, List.getElem?_cons_zero]; exact rfl) (by kernel_rfl) (by kernel_rfl) (by kernel_rfl) (by exact fun _ _ _ h => h) (Or.inl ⟨by rfl, ?_⟩) ?_
  rotate_left
  · intro w; go_simp; try with_reducible rfl
  refine wpAny_take (i := 7) (v := ?_) (by simp only [List.getElem?_toArray, List.getElem?_cons_succ, List.getElem?_cons_zero]; exact rfl) (by kernel_rfl) (by kernel_rfl) (by kernel_rfl) (by exact fun _ _ _ h => h) (Or.inl ⟨by rfl, ?_⟩) ?_
  rotate_left
  · intro w; go_simp; try with_reducible rfl
  refine wpAny_take (i := 8) (v := ?_) (by simp only [List.getElem?_toArray, List.getElem?_cons_succ, List.getElem?_cons_zero]; exact rfl) (by kernel_rfl) (by kernel_rfl) (by kernel_rfl) (by exact fun _ _ _ h => h) (Or.inl ⟨by rfl, ?_⟩) ?_
  rotate_left
  · intro w; go_simp; try with_reducible rfl
  refine wpAny_take (i := 9) (v := ?_) (by simp only [List.getElem?_toArray, List.getElem?_cons_succ, List.getElem?_cons_zero]; exact rfl) (by kernel_rfl) (by kernel_rfl) (by kernel_rfl) (by exact fun _ _ _ h => h) (Or.inl ⟨by rfl, ?_⟩) ?_
  rotate_left
  · intro w; go_simp; try with_reducible rfl
  refine wpAny_take (i := 10) (v := ?_) (by simp only [List.getElem?_toArray, List.getElem?_cons_succ, List.getElem?_cons_zero]; exact rfl) (by kernel_rfl) (by kernel_rfl) (by kernel_rfl) (by exact fun _ _ _ h => h) (Or.inl ⟨by rfl, ?_⟩) ?_
  rotate_left
  · intro w; go_simp; try with_reducible rfl
  refine wpAny_take (i := 11) (v := ?_) (by simp only [List.getElem?_toArray, List.getElem?_cons_succ, List.getElem?_cons_zero]; exact rfl) (by kernel_rfl) (by kernel_rfl) (by kernel_rfl) (by exact fun _ _ _ h => h) (Or.inl ⟨by rfl, ?_⟩) ?_
  rotate_left
  · intro w; go_simp; try with_reducible rfl
  refine wpAny_take (i := 12) (v := ?_) (by simp only [List.getElem?_toArray, List.getElem?_cons_succ, List.getElem?_cons_zero]; exact rfl) (by kernel_rfl) (by kernel_rfl) (by kernel_rfl) (by exact fun _ _ _ h => h) (Or.inl ⟨by rfl, ?_⟩) ?_
  rotate_left
  · intro w; go_simp; try with_reducible rfl
  refine wpAny_take (i := 13) (v := ?_) (by simp only [List.getElem?_toArray, List.getElem?_cons_succ, List.getElem?_cons_zero]; exact rfl) (by kernel_rfl) (by kernel_rfl) (by kernel_rfl) (by exact fun _ _ _ h => h) (Or.inl ⟨by rfl, ?_⟩) ?_
  rotate_left
  · intro w; go_simp; try with_reducible rfl
  refine wpAny_done (by kernel_rfl) ?_ _
  simp only [HJ.out]
  simp only [HE.out.1, HE.out.2.1, HE.out.2.2.1, HE.out.2.2.2.1, HE.out.2.2.2.2]
  simp only [Act.put, List.setIfInBounds_toArray, List.set_cons_succ, List.set_cons_zero]
  go_wp2
  go_ret
  exact ⟨rfl, 1, rfl⟩
theorem back_row (w : World) (g c : Nat) (l : List UInt8) (hb : Blk w g 5 (l.map bcell)) : (convert 110 9 (.slice (some ⟨g, 0, none⟩) l.length c)).run Tryz.prog w = .ok (.string (bs l)) w := by
  exact run_convert_bytes_back (P := Tryz.prog) w 110 9 5 ⟨g, 0, none⟩ c l (by kernel_rfl) (by kernel_rfl) (by kernel_rfl) (by
    intro j hj
    rw [show (⟨g, 0, none⟩ : Addr).add j = ⟨g, j, none⟩ by unfold Addr.add; split <;> simp_all]
    refine hb.cell ?_
    rw [List.getElem?_map, List.getElem?_eq_getElem hj]
    rfl)
set_option maxRecDepth 100000 in
set_option maxHeartbeats 1000000 in
theorem pageText_any (w : World) (k : UInt8) (s : ByteArray) (q : Nat) (hs : s.size ≤ 200000) (hq : q < 65536) :
    Calls Tryz.prog 89 #[.int .u8 (k.toNat : Int), .string s, .int .i64 q] w fun e w' => e = .returned (.string (bs (Bl.pageText k s.data.toList q))) ∧ Below w.heap.size w w' := by
  have hsI : (s.size : Int) ≤ 200000 := by omega
  have hqI : (q : Int) < 65536 := by omega
  have HM := Lib.hid (show bs (Bl.head k s.size q) ++ bs (s.data.toList.take 506) = bs (Bl.pageText k s.data.toList q) by
    rw [bs_append]
    unfold Bl.pageText
    rw [show s.data.toList.length = s.size from Array.length_toList])
  have hl : (bs (Bl.head k s.size q)).size = 6 := by rw [bs_size]; rfl
  have hl2 : 6 + (bs (s.data.toList.take 506)).size ≤ 9223372036854775807 := by rw [bs_size, List.length_take]; omega
  have HC : ∀ (W : World) (x : Int), x = (s.size : Int) / 256 % 256 → Blk W w.heap.size 5 [.int .u8 (k.toNat : Int), .int .u8 ((s.size : Int) / 65536), .int .u8 x, .int .u8 ((s.size : Int) % 256), .int .u8 ((q : Int) / 256), .int .u8 ((q : Int) % 256)] → (convert 110 9 (.slice (some ⟨w.heap.size, 0, none⟩) 6 6)).run Tryz.prog W = .ok (.string (bs (Bl.head k s.size q))) W := by
    intro W x hx hb
    subst hx
    refine back_row W w.heap.size 6 (Bl.head k s.size q) ?_
    have e : (Bl.head k s.size q).map bcell = [.int .u8 (k.toNat : Int), .int .u8 ((s.size : Int) / 65536), .int .u8 ((s.size : Int) / 256 % 256), .int .u8 ((s.size : Int) % 256), .int .u8 ((q : Int) / 256), .int .u8 ((q : Int) % 256)] := by
      unfold Bl.head bcell
      simp only [List.map_cons, List.map_nil, UInt8.toNat_ofNat']
      simp
      omega
    rw [e]
    exact hb
  have HCC := Lib.hid HC
  clear HC
  obtain ⟨hd, hhd⟩ : ∃ hd, hd = bs (Bl.head k s.size q) := ⟨_, rfl⟩
  obtain ⟨tl, htl⟩ : ∃ tl, tl = bs (s.data.toList.take 506) := ⟨_, rfl⟩
  obtain ⟨R, hR⟩ : ∃ R, R = bs (Bl.pageText k s.data.toList q) := ⟨_, rfl⟩
  rw [← hhd, ← htl, ← hR] at HM
  rw [← hhd] at hl HCC
  rw [← htl] at hl2
  have hl3 : ¬ 9223372036854775807 < 6 + tl.size := by omega
  rw [← hR]
  clear hR hhd
  by_cases h5 : 506 < s.size
  · have h5I : (506 : Int) < s.size := by omega
    have h5J : (506 : Int) ≤ s.size := by omega
    have he : s.extract 0 506 = tl := by rw [htl, ext_take]
    clear htl h5
    go_enter Tryz.func89, Tryz.ntmps89
    go_wp2_with (refine wp_region_any (by kernel_rfl) ?_; refine Hid.out ?_)
    refine Lib.hid ?_
    try (change wpAny _ _ _ _ _ _ _ (World.drew _))
    have hconv := HCC.out _ ((s.size : Int) / 256 % 256) rfl (show Blk (w.alloc (.cells #[.int .u8 (k.toNat : Int), .int .u8 ((s.size : Int) / 65536), .int .u8 ((s.size : Int) / 256 % 256), .int .u8 ((s.size : Int) % 256), .int .u8 ((q : Int) / 256), .int .u8 ((q : Int) % 256)] 5)).drew w.heap.size 5 _ from (Blk.new w _ _).drew)
    refine wpAny_take (i := 0) (v := ?_) (by simp only [List.getElem?_toArray, List.getElem?_cons_zero]; exact rfl) (by kernel_rfl) (by kernel_rfl) (by kernel_rfl) (by exact fun _ _ _ h => h) (Or.inl ⟨by rfl, ?_⟩) ?_
    rotate_left
    · intro w; go_simp; try with_reducible rfl
    refine wpAny_take (i := 2) (v := ?_) (by simp only [List.getElem?_toArray, List.getElem?_cons_succ, List.getElem?_cons_zero]; exact rfl) (by kernel_rfl) (by kernel_rfl) (by kernel_rfl) (by exact fun _ _ _ h => h) (Or.inl ⟨by rfl, ?_⟩) ?_
    rotate_left
    · intro w; go_simp; try with_reducible rfl
    refine wpAny_take (i := 3) (v := ?_) (by simp only [List.getElem?_toArray, List.getElem?_cons_succ, List.getElem?_cons_zero]; exact rfl) (by kernel_rfl) (by kernel_rfl) (by kernel_rfl) (by exact fun _ _ _ h => h) (Or.inl ⟨by rfl, ?_⟩) ?_
    rotate_left
    · intro w; go_simp; try with_reducible rfl
    refine wpAny_take (i := 4) (v := ?_) (by simp only [List.getElem?_toArray, List.getElem?_cons_succ, List.getElem?_cons_zero]; exact rfl) (by kernel_rfl) (by kernel_rfl) (by kernel_rfl) (by exact fun _ _ _ h => h) (Or.inl ⟨by rfl, ?_⟩) ?_
    rotate_left
    · intro w; go_simp; try with_reducible rfl
    refine wpAny_take (i := 5) (v := ?_) (by simp only [List.getElem?_toArray, List.getElem?_cons_succ, List.getElem?_cons_zero]; exact rfl) (by kernel_rfl) (by kernel_rfl) (by kernel_rfl) (by exact fun _ _ _ h => h) (Or.inl ⟨by rfl, ?_⟩) ?_
    rotate_left
    · intro w; go_simp; try with_reducible rfl
    simp only [Act.put, List.setIfInBounds_toArray, List.set_cons_succ, List.set_cons_zero]
    refine wpAny_ready (rs := [1]) (by kernel_rfl) (by simp) ?_
    refine AllReady.cons rfl (fun K hK => ?_) AllReady.nil
    go_simp
    refine hK _ _ ?_; clear hK K
    refine wpAny_take (i := 6) (v := ?_) (by simp only [List.getElem?_toArray, List.getElem?_cons_succ, List.getElem?_cons_zero]; exact rfl) (by kernel_rfl) (by kernel_rfl) (by kernel_rfl) (by exact fun _ _ _ h => h) (Or.inl ⟨by rfl, ?_⟩) ?_
    rotate_left
    · intro w; go_simp; try with_reducible rfl
    refine wpAny_take (i := 7) (v := ?_) (by simp only [List.getElem?_toArray, List.getElem?_cons_succ, List.getElem?_cons_zero]; exact rfl) (by kernel_rfl) (by kernel_rfl) (by kernel_rfl) (by exact fun _ _ _ h => h) (Or.inl ⟨by rfl, ?_⟩) ?_
    rotate_left
    · intro w; go_simp; try with_reducible rfl
    refine wpAny_done (by kernel_rfl) ?_ _
    go_wp2
    go_ret
    refine ⟨?_, (((Below.refl _ w).alloc (Nat.le_refl _) _).drew)⟩
    rw [← HM.out]
    rfl
  · have h5I : ¬ (506 : Int) < s.size := by omega
    have he : s.extract 0 s.size = tl := by rw [htl, ext_take, List.take_of_length_le (by rw [Array.length_toList]; exact Nat.le_refl _), List.take_of_length_le (by rw [Array.length_toList]; exact Nat.le_of_not_lt h5)]
    clear htl h5
    go_enter Tryz.func89, Tryz.ntmps89
    go_wp2_with (refine wp_region_any (by kernel_rfl) ?_; refine Hid.out ?_)
    refine Lib.hid ?_
    try (change wpAny _ _ _ _ _ _ _ (World.drew _))
    have h5K : ¬ (506 : Int) < s.size := by omega
    have h5L : (0 : Int) ≤ s.size := by omega
    have hconv := HCC.out _ ((s.size : Int) / 256) (by omega) (show Blk (w.alloc (.cells #[.int .u8 (k.toNat : Int), .int .u8 ((s.size : Int) / 65536), .int .u8 ((s.size : Int) / 256), .int .u8 ((s.size : Int) % 256), .int .u8 ((q : Int) / 256), .int .u8 ((q : Int) % 256)] 5)).drew w.heap.size 5 _ from (Blk.new w _ _).drew)
    refine wpAny_take (i := 0) (v := ?_) (by simp only [List.getElem?_toArray, List.getElem?_cons_zero]; exact rfl) (by kernel_rfl) (by kernel_rfl) (by kernel_rfl) (by exact fun _ _ _ h => h) (Or.inl ⟨by rfl, ?_⟩) ?_
    rotate_left
    · intro w; go_simp; try with_reducible rfl
    refine wpAny_take (i := 2) (v := ?_) (by simp only [List.getElem?_toArray, List.getElem?_cons_succ, List.getElem?_cons_zero]; exact rfl) (by kernel_rfl) (by kernel_rfl) (by kernel_rfl) (by exact fun _ _ _ h => h) (Or.inl ⟨by rfl, ?_⟩) ?_
    rotate_left
    · intro w; go_simp; try with_reducible rfl
    refine wpAny_take (i := 3) (v := ?_) (by simp only [List.getElem?_toArray, List.getElem?_cons_succ, List.getElem?_cons_zero]; exact rfl) (by kernel_rfl) (by kernel_rfl) (by kernel_rfl) (by exact fun _ _ _ h => h) (Or.inl ⟨by rfl, ?_⟩) ?_
    rotate_left
    · intro w; go_simp; try with_reducible rfl
    refine wpAny_take (i := 4) (v := ?_) (by simp only [List.getElem?_toArray, List.getElem?_cons_succ, List.getElem?_cons_zero]; exact rfl) (by kernel_rfl) (by kernel_rfl) (by kernel_rfl) (by exact fun _ _ _ h => h) (Or.inl ⟨by rfl, ?_⟩) ?_
    rotate_left
    · intro w; go_simp; try with_reducible rfl
    refine wpAny_take (i := 5) (v := ?_) (by simp only [List.getElem?_toArray, List.getElem?_cons_succ, List.getElem?_cons_zero]; exact rfl) (by kernel_rfl) (by kernel_rfl) (by kernel_rfl) (by exact fun _ _ _ h => h) (Or.inl ⟨by rfl, ?_⟩) ?_
    rotate_left
    · intro w; go_simp; try with_reducible rfl
    simp only [Act.put, List.setIfInBounds_toArray, List.set_cons_succ, List.set_cons_zero]
    refine wpAny_ready (rs := [1]) (by kernel_rfl) (by simp) ?_
    refine AllReady.cons rfl (fun K hK => ?_) AllReady.nil
    go_simp
    refine hK _ _ ?_; clear hK K
    refine wpAny_take (i := 6) (v := ?_) (by simp only [List.getElem?_toArray, List.getElem?_cons_succ, List.getElem?_cons_zero]; exact rfl) (by kernel_rfl) (by kernel_rfl) (by kernel_rfl) (by exact fun _ _ _ h => h) (Or.inl ⟨by rfl, ?_⟩) ?_
    rotate_left
    · intro w; go_simp; try with_reducible rfl
    refine wpAny_take (i := 7) (v := ?_) (by simp only [List.getElem?_toArray, List.getElem?_cons_succ, List.getElem?_cons_zero]; exact rfl) (by kernel_rfl) (by kernel_rfl) (by kernel_rfl) (by exact fun _ _ _ h => h) (Or.inl ⟨by rfl, ?_⟩) ?_
    rotate_left
    · intro w; go_simp; try with_reducible rfl
    refine wpAny_done (by kernel_rfl) ?_ _
    go_wp2
    go_ret
    refine ⟨?_, (((Below.refl _ w).alloc (Nat.le_refl _) _).drew)⟩
    rw [← HM.out]
    rfl
end Go.Proofs.YtahnhhhhfioibaaGreatDoor
