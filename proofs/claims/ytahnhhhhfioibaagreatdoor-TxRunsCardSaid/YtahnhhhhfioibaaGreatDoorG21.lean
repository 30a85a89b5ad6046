/- Elder texts, merged (21). -/
import Derived.Test.YtahnhhhhfioibaaGreatDoorG8
import Derived.Test.YtahnhhhhfioibaaGreatDoorG20
namespace Go.Proofs.YtahnhhhhfioibaaGreatDoor
open Go.RowKit Lib

def C2 (w0 : World) (R : Nat → Prop) (ring g N lb t1 t2 : Nat) (H : List Wl.Text) (p1 p2 : List (Nat × List UInt8)) (X : World) : Prop :=
  ∃ A T1 T2, Kept A ring X lb g N H ∧ TxP X T1 t1 lb p1 ∧ TxP X T2 t2 lb p2 ∧ (∀ k, T1 k → A k) ∧ (∀ k, T2 k → A k) ∧ (∀ k, T1 k → ¬ T2 k) ∧ (∀ k, k < w0.heap.size → A k) ∧ (∀ k, T1 k ∨ T2 k → w0.heap.size ≤ k) ∧ Below w0.heap.size w0 X ∧ ∀ k, R k → A k ∧ ¬ T1 k ∧ ¬ T2 k ∧ w0.heap.size ≤ k
section
variable {w0 X X' : World} {R R' S : Nat → Prop} {ring g N lb t1 t2 : Nat} {H H' : List Wl.Text} {p1 p1' p2 : List (Nat × List UInt8)} {A T T' T2 : Nat → Prop}
theorem C2.swap (h : C2 w0 R ring g N lb t1 t2 H p1 p2 X) : C2 w0 R ring g N lb t2 t1 H p2 p1 X := by
  obtain ⟨A, T1, T2, hk, x1, x2, a1, a2, hne, ho, hn, hb, hR⟩ := h
  exact ⟨A, T2, T1, hk, x2, x1, a2, a1, fun k h2 h1 => hne k h1 h2, ho, fun k hk => hn k hk.symm, hb, fun k hk => ⟨(hR k hk).1, (hR k hk).2.2.1, (hR k hk).2.1, (hR k hk).2.2.2⟩⟩
theorem C2.below (h : C2 w0 R ring g N lb t1 t2 H p1 p2 X) : Below w0.heap.size w0 X := by
  obtain ⟨A, T1, T2, hk, x1, x2, a1, a2, hne, ho, hn, hb, hR⟩ := h
  exact hb
theorem C2.lt (h : C2 w0 R ring g N lb t1 t2 H p1 p2 X) : ∀ k, R k → w0.heap.size ≤ k ∧ k < X.heap.size := by
  obtain ⟨A, T1, T2, ⟨F, s, hl, hv, hf, ha, hlA⟩, x1, x2, a1, a2, hne, ho, hn, hb, hR⟩ := h
  exact fun k hk => ⟨(hR k hk).2.2.2, hlA k (hR k hk).1⟩
/-- The law's own stores, and its new blocks. -/
theorem C2.turn (h : C2 w0 R ring g N lb t1 t2 H p1 p2 X) (hb : But S X X') (hS : ∀ k, k < X.heap.size → S k → R k) (hR' : ∀ k, R' k → R k ∨ (X.heap.size ≤ k ∧ k < X'.heap.size)) : C2 w0 R' ring g N lb t1 t2 H p1 p2 X' := by
  obtain ⟨A, T1, T2, ⟨F, s, hl, hv, hf, ha, hlA⟩, x1, x2, a1, a2, hne, ho, hn, hbl, hR⟩ := h
  have hb' : But R X X' := hb.mono hS
  refine ⟨fun k => A k ∨ (X.heap.size ≤ k ∧ k < X'.heap.size), T1, T2, ⟨F, s, hl.but hb' (fun k hk hn => ha k hk (hR k hn).1), hv, hf, fun x hx hn => ?_, fun x hx => hx.elim (fun h => Nat.lt_of_lt_of_le (hlA x h) hb.size) (fun h => h.2)⟩, x1.but hb' (fun k hk hn => (hR k hn).2.1 hk), x2.but hb' (fun k hk hn => (hR k hn).2.2.1 hk), fun k hk => .inl (a1 k hk), fun k hk => .inl (a2 k hk), hne, fun k hk => .inl (ho k hk), hn, hbl.trans (hb'.below hbl.size (fun k hk hn => by have := (hR k hn).2.2.2; omega)), fun k hk => ?_⟩
  · rcases hn with hn | hn
    · exact ha x hx hn
    · have := hl.lt x hx; omega
  · rcases hR' k hk with h | h
    · exact ⟨.inl (hR k h).1, (hR k h).2⟩
    · have := hbl.size
      exact ⟨.inr h, fun ht => by have := x1.lt k ht; omega, fun ht => by have := x2.lt k ht; omega, by omega⟩
theorem C2.still (h : C2 w0 R ring g N lb t1 t2 H p1 p2 X) (hb : Below X.heap.size X X') : C2 w0 R ring g N lb t1 t2 H p1 p2 X' :=
  h.turn (But.of_below hb (fun _ => False)) (fun _ _ h => h.elim) (fun _ hk => .inl hk)
theorem C2.some (h : C2 w0 R ring g N lb t1 t2 H p1 p2 X) (hR' : ∀ k, R' k → R k) : C2 w0 R' ring g N lb t1 t2 H p1 p2 X :=
  h.turn (But.refl (fun _ => False) X) (fun _ _ h => h.elim) (fun k hk => .inl (hR' k hk))
theorem c2_step (h1 : ∃ A, ∃ T1 T2 : Nat → Prop, T = T1 ∧ Kept A ring X lb g N H ∧ TxP X T2 t2 lb p2 ∧ (∀ k, T1 k → A k) ∧ (∀ k, T2 k → A k) ∧ (∀ k, T1 k → ¬ T2 k) ∧ (∀ k, k < w0.heap.size → A k) ∧ (∀ k, T1 k ∨ T2 k → w0.heap.size ≤ k) ∧ Below w0.heap.size w0 X ∧ ∀ k, R k → A k ∧ ¬ T1 k ∧ ¬ T2 k ∧ w0.heap.size ≤ k) (hM : Moved T X T' X') (hx : TxP X' T' t1 lb p1') :
    C2 w0 R ring g N lb t1 t2 H p1' p2 X' ∧ But (fun k => ¬ R k) X X' := by
  obtain ⟨A, T1, T2, rfl, hk, x2, a1, a2, hne, ho, hn, hb, hR⟩ := h1
  have hlt : ∀ k, A k → k < X.heap.size := by
    obtain ⟨F, s, hl, hv, hf, ha, hlA⟩ := hk
    exact hlA
  refine ⟨⟨fun k => A k ∨ T' k, T', T2, hk.moved a1 hM hx.lt, hx, x2.but hM.1 (fun k h2 h1 => hne k h1 h2), fun k hk => .inr hk, fun k hk => .inl (a2 k hk), fun k hk h2 => ?_, fun k hk => .inl (ho k hk), fun k hk => ?_, hb.trans (hM.1.below hb.size (fun k hk hn' => by have := hn k (.inl hn'); omega)), fun k hk => ⟨.inl (hR k hk).1, fun ht => ?_, (hR k hk).2.2.1, (hR k hk).2.2.2⟩⟩, hM.1.mono (fun k _ h1 hr => (hR k hr).2.1 h1)⟩
  · rcases hM.2 k hk with h | h
    · exact hne k h h2
    · have := x2.lt k h2; omega
  · rcases hk with hk | hk
    · rcases hM.2 k hk with h | h
      · exact hn k (.inl h)
      · exact Nat.le_trans hb.size h
    · exact hn k (.inr hk)
  · rcases hM.2 k ht with h | h
    · exact (hR k hk).2.1 h
    · have := hlt k (hR k hk).1; omega
theorem c2_begin (hk : Kept A ring X lb g N H) (_ : ∀ k, k < w0.heap.size → A k) (_ : Below w0.heap.size w0 X) :
    Calls Tryz.prog 10 #[ptr lb] X fun e X' => ∃ tb T, e = .returned (ptr tb) ∧ TxP X' T tb lb [] ∧ Kept (fun k => A k ∨ T k) ring X' lb g N H ∧ (∀ k, T k → X.heap.size ≤ k) ∧ Below X.heap.size X X' := by
  refine (begin_any5 X lb).mono ?_
  rintro e X' ⟨tb, T, rfl, hx, hT, hb'⟩
  refine ⟨tb, T, rfl, hx, ?_, hT, hb'⟩
  obtain ⟨F, s, hl, hv, hf, ha, hlA⟩ := hk
  refine ⟨F, s, hl.below hb', hv, hf, fun x hx hn => ?_, fun x hx' => hx'.elim (fun h => Nat.lt_of_lt_of_le (hlA x h) hb'.size) (hx.lt x)⟩
  rcases hn with hn | hn
  · exact ha x hx hn
  · have := hT x hn; have := hl.lt x hx; omega
/-- Both changes are begun. -/
theorem c2_begun {Ta Tb : Nat → Prop} {X1 : World} (h1 : ∀ k, k < w0.heap.size → A k) (_ : ∀ k, A k → k < X.heap.size) (hb : Below w0.heap.size w0 X) (ha : TxP X1 Ta t1 lb []) (hTa : ∀ k, Ta k → X.heap.size ≤ k) (hb1 : Below X.heap.size X X1) (hx : TxP X' Tb t2 lb []) (hk : Kept (fun k => (A k ∨ Ta k) ∨ Tb k) ring X' lb g N H) (hTb : ∀ k, Tb k → X1.heap.size ≤ k) (hb2 : Below X1.heap.size X1 X') : C2 w0 (fun _ => False) ring g N lb t1 t2 H [] [] X' := by
  refine ⟨_, Ta, Tb, hk, ha.below hb2, hx, fun k h => .inl (.inr h), fun k h => .inr h, fun k h1 h2 => ?_, fun k hk => .inl (.inl (h1 k hk)), fun k hk => ?_, hb.trans ((hb1.mono hb.size).trans (hb2.mono (Nat.le_trans hb.size hb1.size))), fun k hk => hk.elim⟩
  · have := ha.lt k h1; have := hTb k h2; omega
  · rcases hk with hk | hk
    · exact Nat.le_trans hb.size (hTa k hk)
    · exact Nat.le_trans hb.size (Nat.le_trans hb1.size (hTb k hk))
theorem c2_write (h : C2 w0 R ring g N lb t1 t2 H p1 p2 X) (i : Nat) (s : ByteArray) (hi : i < H.length) (hn : H.length ≤ 65536) (hs : s.size ≤ 512) (hp : p1.length ≤ 900000) :
    Calls Tryz.prog 13 #[ptr t1, .int .i64 i, .string s] X fun e X' => e = .returned (.int .i64 0) ∧ C2 w0 R ring g N lb t1 t2 H (p1 ++ [(i, s.data.toList)]) p2 X' ∧ But (fun k => ¬ R k) X X' := by
  obtain ⟨A, T1, T2, hk, x1, hr⟩ := h
  refine (txwrite_ok X T1 t1 lb H.length p1 i s x1 hk.awake hi hn hs hp).mono ?_
  rintro e X' ⟨rfl, T', hx', hM⟩
  exact ⟨rfl, c2_step ⟨A, T1, T2, rfl, hk, hr⟩ hM hx'⟩
theorem c2_write_no (h : C2 w0 R ring g N lb t1 t2 H p1 p2 X) (i : Int) (s : ByteArray) (c : Int) (hc : (c = 2 ∧ (i < 0 ∨ (H.length : Int) ≤ i)) ∨ (c = 5 ∧ 0 ≤ i ∧ i < H.length ∧ 512 < s.size)) :
    Calls Tryz.prog 13 #[ptr t1, .int .i64 i, .string s] X fun e X' => e = .returned (.int .i64 c) ∧ C2 w0 R ring g N lb t1 t2 H p1 p2 X' ∧ But (fun k => ¬ R k) X X' := by
  have h' := h
  obtain ⟨A, T1, T2, hk, x1, hr⟩ := h
  refine (txwrite_no X T1 t1 lb H.length p1 i s x1 hk.awake c hc).mono ?_
  rintro e X' ⟨rfl, rfl⟩
  exact ⟨rfl, h', But.refl _ _⟩
/-- What home i of a change holds, or that there is none. -/
theorem c2_read (h : C2 w0 R ring g N lb t1 t2 H p1 p2 X) (i : Int) (hn : H.length ≤ 65536) (hr : -9223372036854775808 ≤ i ∧ i ≤ 9223372036854775807) (hs : ∀ p ∈ p1, p.1 < H.length) :
    Calls Tryz.prog 14 #[ptr t1, .int .i64 i] X fun e X' => e = .returned (.tuple #[.string (bs (homeOf (Wl.along H (Tx.psI p1)) i).1), .int .i64 (homeOf (Wl.along H (Tx.psI p1)) i).2]) ∧ C2 w0 R ring g N lb t1 t2 H p1 p2 X' ∧ Below X.heap.size X X' := by
  have h' := h
  obtain ⟨A, T1, T2, hk, x1, _⟩ := h
  by_cases hi : 0 ≤ i ∧ i < H.length
  · obtain ⟨j, rfl⟩ : ∃ j : Nat, i = j := ⟨i.toNat, by omega⟩
    have hj : j < (Wl.along H (Tx.psI p1)).length := by rw [Wl.along_length]; omega
    refine (txread_any X T1 A t1 lb ring g N H p1 j x1 hk (by omega) hn).mono ?_
    rintro e X' ⟨rfl, hb⟩
    exact ⟨by rw [homeOf_at hj], h'.still hb, hb⟩
  · refine (txread_out X T1 A t1 lb ring g N H p1 i x1 hk (by omega) hr hs).mono ?_
    rintro e X' ⟨rfl, hb⟩
    refine ⟨?_, h'.still hb, hb⟩
    have : homeOf (Wl.along H (Tx.psI p1)) i = ([], 2) := by
      unfold homeOf
      rw [if_neg (by rw [Wl.along_length]; exact hi)]
    rw [this]
    rfl
theorem c2_mark (h : C2 w0 R ring g N lb t1 t2 H p1 p2 X) :
    Calls Tryz.prog 16 #[ptr t1] X fun e X' => e = .returned (.int .i64 p1.length) ∧ X' = X := by
  obtain ⟨A, T1, T2, hk, x1, _⟩ := h
  exact mark_any X T1 t1 lb p1 x1
theorem c2_touched (h : C2 w0 R ring g N lb t1 t2 H p1 p2 X) :
    Calls Tryz.prog 22 #[ptr t1] X fun e X' => e = .returned (.int .i64 (Tx.lasts p1).length) ∧ X' = X := by
  obtain ⟨A, T1, T2, hk, x1, _⟩ := h
  exact touched_any X T1 t1 lb p1 x1
theorem c2_homes (h : C2 w0 R ring g N lb t1 t2 H p1 p2 X) :
    Calls Tryz.prog 24 #[ptr t1] X fun e X' => e = .returned (.int .i64 H.length) ∧ X' = X := by
  obtain ⟨A, T1, T2, hk, x1, _⟩ := h
  exact txhomes_any X T1 t1 lb H.length p1 x1 hk.awake
theorem c2_back (h : C2 w0 R ring g N lb t1 t2 H p1 p2 X) (m : Int) (M : Nat) (hM : max m 0 = (M : Int)) (hp : p1.length ≤ 900000) :
    Calls Tryz.prog 17 #[ptr t1, .int .i64 m] X fun e X' => e = .returned (.tuple #[]) ∧ C2 w0 R ring g N lb t1 t2 H (p1.take M) p2 X' ∧ But (fun k => ¬ R k) X X' := by
  have h' := h
  obtain ⟨A, T1, T2, hk, x1, hr⟩ := h
  by_cases hl : M < p1.length
  · refine (back_any X T1 t1 lb p1 m M x1 hM hl hp).mono ?_
    rintro e X' ⟨rfl, T', hx', hMv⟩
    exact ⟨rfl, c2_step ⟨A, T1, T2, rfl, hk, hr⟩ hMv hx'⟩
  · refine (back_none X T1 t1 lb p1 m x1 (by omega)).mono ?_
    rintro e X' ⟨rfl, rfl⟩
    rw [List.take_of_length_le (by omega)]
    exact ⟨rfl, h', But.refl _ _⟩
theorem c2_drop (h : C2 w0 R ring g N lb t1 t2 H p1 p2 X) :
    Calls Tryz.prog 21 #[ptr t1] X fun e X' => e = .returned (.tuple #[]) ∧ C2 w0 R ring g N lb t1 t2 H [] p2 X' ∧ But (fun k => ¬ R k) X X' := by
  obtain ⟨A, T1, T2, hk, x1, hr⟩ := h
  refine (drop_any X T1 t1 lb p1 x1).mono ?_
  rintro e X' ⟨rfl, T', hx', hM⟩
  exact ⟨rfl, c2_step ⟨A, T1, T2, rfl, hk, hr⟩ hM hx'⟩
theorem c2_commit (h : C2 w0 R ring g N lb t1 t2 H p1 p2 X) (hN : N + 1 < 1000000) :
    Calls Tryz.prog 20 #[ptr t1] X fun e X' => e = .returned (.int .i64 (Wl.comm ring H (Tx.psI p1)).1) ∧ C2 w0 R ring g (N + 1) lb t1 t2 (Wl.comm ring H (Tx.psI p1)).2 (if (Wl.comm ring H (Tx.psI p1)).1 = 0 then [] else p1) p2 X' ∧ But (fun k => ¬ R k) X X' := by
  obtain ⟨A, T1, T2, hk, x1, x2, a1, a2, hne, ho, hn, hb, hR⟩ := h
  refine (txcommit_any X T1 A t1 lb ring g N H p1 x1 hk a1 hN).mono ?_
  rintro e X' ⟨rfl, T', w1, hx', hk1, ho1, hM⟩
  obtain ⟨h1, h2⟩ := c2_step (w0 := w0) (R := R) (t2 := t2) (p2 := p2) ⟨A, T1, T2, rfl, hk1, x2.but ho1 (fun k h2 hn => hn (a2 k h2)), a1, a2, hne, ho, hn, hb.trans (Off.below ho1 ho hb.size), hR⟩ hM hx'
  exact ⟨rfl, h1, (ho1.mono (fun k _ hn hr => hn (hR k hr).1)).trans h2 (fun k _ hr => hr)⟩
theorem c2_log (h : C2 w0 R ring g N lb t1 t2 H p1 p2 X) (i : Int) :
    Calls Tryz.prog 25 #[ptr lb, .int .i64 i] X fun e X' => e = .returned (.tuple #[.string (bs (homeOf H i).1), .int .i64 (homeOf H i).2]) ∧ C2 w0 R ring g N lb t1 t2 H p1 p2 X' ∧ Below X.heap.size X X' := by
  have h' := h
  obtain ⟨A, T1, T2, hk, _⟩ := h
  refine (kept_read hk i).mono ?_
  rintro e X' ⟨rfl, hb⟩
  exact ⟨rfl, h'.still hb, hb⟩
end
end Go.Proofs.YtahnhhhhfioibaaGreatDoor

namespace Go.Proofs.YtahnhhhhfioibaaGreatDoor
open Go.RowKit Lib

def upd {α : Type} (f : Nat → α) (k : Nat) (x : α) : Nat → α := fun j => if j = k then x else f j
theorem upd_here {α : Type} (f : Nat → α) (k : Nat) (x : α) : upd f k x k = x := if_pos rfl
theorem upd_there {α : Type} (f : Nat → α) {k j : Nat} (x : α) (h : j ≠ k) : upd f k x j = f j := if_neg h
abbrev OwnK (B : Nat) (w : World) (v : Value) (l : List Int) : Prop := Own (intElem .i64) 3 B w v l
/-- The boxes of the law: gb (the changes), gw (the reference's), gm (the marks); vh the homes; of change j: t j where it lies, p j its puts, q j the reference's row of these, h j the homes that the reference's change bears, m j the row of its marks M j. -/
structure TSd (w : World) (gd lb gb gw gm : Nat) (E : Nat → Prop) (B : Nat) (vh : Value) (H : List Wl.Text) (t : Nat → Nat) (p r : Nat → List (Nat × List UInt8)) (q h m : Nat → Value) (M : Nat → List Int) (R : Nat → Prop) (N : Nat) (X : World) : Prop where
  c : C2 w R 16 gd N lb (t 0) (t 1) H (p 0) (p 1) X
  bb : Blk X gb 33 [ptr (t 0), ptr (t 1)]
  bw : Blk X gw 39 [h 0, .int .i64 16, q 0, h 1, .int .i64 16, q 1]
  bm : Blk X gm 41 [m 0, m 1]
  oh : OwnS w.heap.size X vh H
  op : ∀ j, j < 2 → OwnP w.heap.size X (q j) (r j)
  om : ∀ j, j < 2 → OwnK w.heap.size X (m j) (M j)
  hs : ∀ j, j < 2 → ∃ a n c, h j = .slice a n c
  rb : R gb ∧ R gw ∧ R gm
  rh : ∀ x, vh.ownBlock = some x → R x
  rq : ∀ j x, j < 2 → (q j).ownBlock = some x → R x
  rm : ∀ j x, j < 2 → (m j).ownBlock = some x → R x
  mm : ∀ x, (m 0).ownBlock = some x → (m 1).ownBlock ≠ some x
  ins : ∀ j, j < 2 → ∀ x ∈ p j, x.1 < 20 ∧ x.2.length ≤ 512
  inr : ∀ j, j < 2 → (∀ x ∈ r j, x.1 < 20 ∧ x.2.length ≤ 512) ∧ (r j).length ≤ B
  hl : H.length = 20
  l1 : ∀ j, j < 2 → (p j).length ≤ B
  l2 : N ≤ B + 1
  l3 : ∀ j, j < 2 → (M j).length ≤ B
  he : ∀ x, E x → R x
def TS (w : World) (gd lb gb gw gm : Nat) (E : Nat → Prop) (B : Nat) (vh : Value) (H : List Wl.Text) (t : Nat → Nat) (p r : Nat → List (Nat × List UInt8)) (q h m : Nat → Value) (M : Nat → List Int) (X : World) : Prop := ∃ R N, TSd w gd lb gb gw gm E B vh H t p r q h m M R N X
section
variable {w X X' : World} {gd lb gb gw gm B : Nat} {E E' : Nat → Prop} {vh : Value} {H : List Wl.Text} {t : Nat → Nat} {p r : Nat → List (Nat × List UInt8)} {q h m : Nat → Value} {M : Nat → List Int} {R S : Nat → Prop} {N : Nat}
theorem TS.below (hh : TS w gd lb gb gw gm E B vh H t p r q h m M X) : Below w.heap.size w X := by
  obtain ⟨R, N, hh⟩ := hh
  exact hh.c.below
/-- A call that turns nothing of R: all but the two changes stays. -/
theorem TSd.call {p' : Nat → List (Nat × List UInt8)} {N' B' : Nat} (hh : TSd w gd lb gb gw gm E B vh H t p r q h m M R N X) (hc : C2 w R 16 gd N' lb (t 0) (t 1) H (p' 0) (p' 1) X') (hb : But (fun k => ¬ R k) X X') (hins : ∀ j, j < 2 → ∀ x ∈ p' j, x.1 < 20 ∧ x.2.length ≤ 512) (hB : B ≤ B') (hl1 : ∀ j, j < 2 → (p' j).length ≤ B') (hl2 : N' ≤ B' + 1) : TS w gd lb gb gw gm E B' vh H t p' r q h m M X' ∧ But (fun k => ¬ E k) X X' :=
  ⟨⟨R, N', hc, hh.bb.but hb (fun hn => hn hh.rb.1), hh.bw.but hb (fun hn => hn hh.rb.2.1), hh.bm.but hb (fun hn => hn hh.rb.2.2), Own.but hh.oh hb (fun k hk hn => hn (hh.rh k hk)), fun j hj => Own.but (hh.op j hj) hb (fun k hk hn => hn (hh.rq j k hj hk)), fun j hj => Own.but (hh.om j hj) hb (fun k hk hn => hn (hh.rm j k hj hk)), hh.hs, hh.rb, hh.rh, hh.rq, hh.rm, hh.mm, hins, fun j hj => ⟨(hh.inr j hj).1, Nat.le_trans (hh.inr j hj).2 hB⟩, hh.hl, hl1, hl2, fun j hj => Nat.le_trans (hh.l3 j hj) hB, hh.he⟩, hb.mono fun k _ hn he => hn (hh.he k he)⟩
/-- Blocks that are new are held from here on (or let go). -/
theorem TS.hold (hh : TS w gd lb gb gw gm E B vh H t p r q h m M X) (hb : Below X.heap.size X X') (hE : ∀ x, E' x → E x ∨ (X.heap.size ≤ x ∧ x < X'.heap.size)) : TS w gd lb gb gw gm E' B vh H t p r q h m M X' := by
  obtain ⟨R, N, hh⟩ := hh
  have hbf : But (fun _ => False) X X' := But.of_below hb _
  exact ⟨fun x => R x ∨ E' x, N, hh.c.turn hbf (fun _ _ h => h.elim) (fun k hk => hk.elim .inl (fun e => (hE k e).imp_left (hh.he k))), hh.bb.but hbf id, hh.bw.but hbf id, hh.bm.but hbf id, Own.but hh.oh hbf (fun _ _ h => h), fun j hj => Own.but (hh.op j hj) hbf (fun _ _ h => h), fun j hj => Own.but (hh.om j hj) hbf (fun _ _ h => h), hh.hs, ⟨.inl hh.rb.1, .inl hh.rb.2.1, .inl hh.rb.2.2⟩, fun x hx => .inl (hh.rh x hx), fun j x hj hx => .inl (hh.rq j x hj hx), fun j x hj hx => .inl (hh.rm j x hj hx), hh.mm, hh.ins, hh.inr, hh.hl, hh.l1, hh.l2, hh.l3, fun x hx => .inr hx⟩
theorem TS.still (hh : TS w gd lb gb gw gm E B vh H t p r q h m M X) (hb : Below X.heap.size X X') : TS w gd lb gb gw gm E B vh H t p r q h m M X' := hh.hold hb (fun _ h => .inl h)
theorem TS.less (hh : TS w gd lb gb gw gm E B vh H t p r q h m M X) (hE : ∀ x, E' x → E x) : TS w gd lb gb gw gm E' B vh H t p r q h m M X := hh.hold (Below.refl _ _) (fun x hx => .inl (hE x hx))
theorem TS.more (hh : TS w gd lb gb gw gm E B vh H t p r q h m M X) {B' : Nat} (hB : B ≤ B') : TS w gd lb gb gw gm E B' vh H t p r q h m M X := by
  obtain ⟨R, N, hh⟩ := hh
  exact ⟨R, N, { hh with inr := fun j hj => ⟨(hh.inr j hj).1, Nat.le_trans (hh.inr j hj).2 hB⟩, l1 := fun j hj => Nat.le_trans (hh.l1 j hj) hB, l2 := by have := hh.l2; omega, l3 := fun j hj => Nat.le_trans (hh.l3 j hj) hB }⟩
/-- The change k first. -/
theorem TSd.two (hh : TSd w gd lb gb gw gm E B vh H t p r q h m M R N X) {k : Nat} (hk : k < 2) : C2 w R 16 gd N lb (t k) (t (1 - k)) H (p k) (p (1 - k)) X := by
  rcases (show k = 0 ∨ k = 1 by omega) with rfl | rfl
  · exact hh.c
  · exact hh.c.swap
theorem two_back {k N' : Nat} (hk : k < 2) {p' : List (Nat × List UInt8)} (hc : C2 w R 16 gd N' lb (t k) (t (1 - k)) H p' (p (1 - k)) X) : C2 w R 16 gd N' lb (t 0) (t 1) H (upd p k p' 0) (upd p k p' 1) X := by
  rcases (show k = 0 ∨ k = 1 by omega) with rfl | rfl
  · exact hc
  · exact hc.swap
theorem ts_read (hh : TS w gd lb gb gw gm E B vh H t p r q h m M X) {k : Nat} (hk : k < 2) (i : Int) (hr : -9223372036854775808 ≤ i ∧ i ≤ 9223372036854775807) :
    Calls Tryz.prog 14 #[ptr (t k), .int .i64 i] X fun e X' => e = .returned (.tuple #[.string (bs (homeOf (Wl.along H (Tx.psI (p k))) i).1), .int .i64 (homeOf (Wl.along H (Tx.psI (p k))) i).2]) ∧ TS w gd lb gb gw gm E B vh H t p r q h m M X' ∧ Below X.heap.size X X' := by
  have h' := hh
  obtain ⟨R, N, hh⟩ := hh
  refine (c2_read (hh.two hk) i (by rw [hh.hl]; decide) hr (fun x hx => by rw [hh.hl]; exact (hh.ins k hk x hx).1)).mono ?_
  rintro e X' ⟨rfl, _, hb⟩
  exact ⟨rfl, h'.still hb, hb⟩
theorem ts_mark (hh : TS w gd lb gb gw gm E B vh H t p r q h m M X) {k : Nat} (hk : k < 2) :
    Calls Tryz.prog 16 #[ptr (t k)] X fun e X' => e = .returned (.int .i64 (p k).length) ∧ X' = X := by
  obtain ⟨R, N, hh⟩ := hh
  exact c2_mark (hh.two hk)
theorem ts_touched (hh : TS w gd lb gb gw gm E B vh H t p r q h m M X) {k : Nat} (hk : k < 2) :
    Calls Tryz.prog 22 #[ptr (t k)] X fun e X' => e = .returned (.int .i64 (Tx.lasts (p k)).length) ∧ X' = X := by
  obtain ⟨R, N, hh⟩ := hh
  exact c2_touched (hh.two hk)
theorem ts_homes (hh : TS w gd lb gb gw gm E B vh H t p r q h m M X) {k : Nat} (hk : k < 2) :
    Calls Tryz.prog 24 #[ptr (t k)] X fun e X' => e = .returned (.int .i64 20) ∧ X' = X := by
  obtain ⟨R, N, hh⟩ := hh
  have := c2_homes (hh.two hk)
  rwa [hh.hl] at this
theorem ts_log (hh : TS w gd lb gb gw gm E B vh H t p r q h m M X) (i : Int) :
    Calls Tryz.prog 25 #[ptr lb, .int .i64 i] X fun e X' => e = .returned (.tuple #[.string (bs (homeOf H i).1), .int .i64 (homeOf H i).2]) ∧ TS w gd lb gb gw gm E B vh H t p r q h m M X' ∧ Below X.heap.size X X' := by
  have h' := hh
  obtain ⟨R, N, hh⟩ := hh
  refine (c2_log hh.c i).mono ?_
  rintro e X' ⟨rfl, _, hb⟩
  exact ⟨rfl, h'.still hb, hb⟩
/-- The cells of the reference's change k. -/
theorem TS.want (hh : TS w gd lb gb gw gm E B vh H t p r q h m M X) {k : Nat} (hk : k < 2) : X.cell? ⟨gw, 3 * k, none⟩ = some (h k) ∧ X.cell? ⟨gw, 3 * k + 1, none⟩ = some (.int .i64 16) ∧ X.cell? ⟨gw, 3 * k + 2, none⟩ = some (q k) ∧ ∀ j, X.frozen? ⟨gw, j, none⟩ = false := by
  obtain ⟨R, N, hh⟩ := hh
  rcases (show k = 0 ∨ k = 1 by omega) with rfl | rfl
  · exact ⟨hh.bw.cell (j := 0) rfl, hh.bw.cell (j := 1) rfl, hh.bw.cell (j := 2) rfl, fun j => hh.bw.frozen j⟩
  · exact ⟨hh.bw.cell (j := 3) rfl, hh.bw.cell (j := 4) rfl, hh.bw.cell (j := 5) rfl, fun j => hh.bw.frozen j⟩
theorem TS.cells (hh : TS w gd lb gb gw gm E B vh H t p r q h m M X) {k : Nat} (hk : k < 2) : X.cell? ⟨gb, k, none⟩ = some (ptr (t k)) ∧ X.cell? ⟨gm, k, none⟩ = some (m k) ∧ X.frozen? ⟨gm, k, none⟩ = false := by
  obtain ⟨R, N, hh⟩ := hh
  rcases (show k = 0 ∨ k = 1 by omega) with rfl | rfl
  · exact ⟨hh.bb.cell (j := 0) rfl, hh.bm.cell (j := 0) rfl, hh.bm.frozen _⟩
  · exact ⟨hh.bb.cell (j := 1) rfl, hh.bm.cell (j := 1) rfl, hh.bm.frozen _⟩
/-- A store of the law's own into the reference's box: what it is from then on. -/
theorem TSd.turnW {h' q' : Nat → Value} {r' : Nat → List (Nat × List UInt8)} (hh : TSd w gd lb gb gw gm E B vh H t p r q h m M R N X) (hb : But (fun x => x = gw) X X') (hbw : Blk X' gw 39 [h' 0, .int .i64 16, q' 0, h' 1, .int .i64 16, q' 1]) (hop : ∀ j, j < 2 → OwnP w.heap.size X (q' j) (r' j)) (hs' : ∀ j, j < 2 → ∃ a n c, h' j = .slice a n c) (hrq : ∀ j x, j < 2 → (q' j).ownBlock = some x → R x) (hinr : ∀ j, j < 2 → (∀ x ∈ r' j, x.1 < 20 ∧ x.2.length ≤ 512) ∧ (r' j).length ≤ B) : TS w gd lb gb gw gm E B vh H t p r' q' h' m M X' := by
  have nb : gb ≠ gw := fun e => by
    have h1 := hh.bb
    rw [e] at h1
    have := h1.symm.trans hh.bw
    injection this with this
    injection this with _ this
    exact absurd this (by decide)
  have nm : gm ≠ gw := fun e => by
    have h1 := hh.bm
    rw [e] at h1
    have := h1.symm.trans hh.bw
    injection this with this
    injection this with _ this
    exact absurd this (by decide)
  exact ⟨R, N, hh.c.turn hb (fun k _ e => e ▸ hh.rb.2.1) (fun k hk => .inl hk), hh.bb.but hb nb, hbw, hh.bm.but hb nm, Own.but hh.oh hb (fun k hk e => Own.ne_blk hh.oh hh.bw (by decide) (e ▸ hk)), fun j hj => Own.but (hop j hj) hb (fun k hk e => Own.ne_blk (hop j hj) hh.bw (by decide) (e ▸ hk)), fun j hj => Own.but (hh.om j hj) hb (fun k hk e => Own.ne_blk (hh.om j hj) hh.bw (by decide) (e ▸ hk)), hs', hh.rb, hh.rh, hrq, hh.rm, hh.mm, hh.ins, hinr, hh.hl, hh.l1, hh.l2, hh.l3, hh.he⟩
/-- want[k].Homes = homes. -/
theorem TS.home (hh : TS w gd lb gb gw gm E B vh H t p r q h m M X) {k : Nat} (hk : k < 2) (hv : ∃ a n c, vh = .slice a n c) : TS w gd lb gb gw gm E B vh H t p r q (upd h k vh) m M (X.setCell ⟨gw, 3 * k, none⟩ vh) := by
  obtain ⟨R, N, hh⟩ := hh
  have hb : But (fun x => x = gw) X (X.setCell ⟨gw, 3 * k, none⟩ vh) := (But.refl (fun x => x = gw) X).setCell ⟨gw, 3 * k, none⟩ vh (fun _ => rfl)
  have hset := hh.bw.set (3 * k) vh
  refine hh.turnW hb ?_ hh.op (fun j hj => ?_) hh.rq hh.inr
  · rcases (show k = 0 ∨ k = 1 by omega) with rfl | rfl
    · exact hset
    · exact hset
  · by_cases e : j = k
    · rw [e, upd_here]; exact hv
    · rw [upd_there _ _ e]; exact hh.hs j hj
end
end Go.Proofs.YtahnhhhhfioibaaGreatDoor

namespace Go.Proofs.YtahnhhhhfioibaaGreatDoor
open Go.RowKit Lib

theorem upd_all {α : Type} {f : Nat → α} {k : Nat} {x : α} {P : α → Prop} (hx : P x) (hf : ∀ j, j < 2 → P (f j)) : ∀ j, j < 2 → P (upd f k x j) := fun j hj => by
  unfold upd
  split
  · exact hx
  · exact hf j hj
theorem upd_self {α : Type} (f : Nat → α) (k : Nat) : upd f k (f k) = f := funext fun j => by
  unfold upd
  split <;> simp_all
section
variable {w X X' : World} {gd lb gb gw gm B : Nat} {E : Nat → Prop} {vh : Value} {H : List Wl.Text} {t : Nat → Nat} {p r : Nat → List (Nat × List UInt8)} {q h m : Nat → Value} {M : Nat → List Int} {R : Nat → Prop} {N : Nat}
theorem TSd.comm {p' : Nat → List (Nat × List UInt8)} {N' B' : Nat} {vh' : Value} {H' : List Wl.Text} (hh : TSd w gd lb gb gw gm E B vh H t p r q h m M R N X) (hc : C2 w R 16 gd N' lb (t 0) (t 1) H' (p' 0) (p' 1) X') (hb : But (fun k => ¬ R k) X X') (hins : ∀ j, j < 2 → ∀ x ∈ p' j, x.1 < 20 ∧ x.2.length ≤ 512) (hB : B ≤ B') (hl1 : ∀ j, j < 2 → (p' j).length ≤ B') (hl2 : N' ≤ B' + 1) (ho : OwnS w.heap.size X vh' H') (hr : ∀ x, vh'.ownBlock = some x → R x) (hl : H'.length = 20) : TS w gd lb gb gw gm E B' vh' H' t p' r q h m M X' ∧ But (fun k => ¬ E k) X X' :=
  ⟨⟨R, N', hc, hh.bb.but hb (fun hn => hn hh.rb.1), hh.bw.but hb (fun hn => hn hh.rb.2.1), hh.bm.but hb (fun hn => hn hh.rb.2.2), Own.but ho hb (fun k hk hn => hn (hr k hk)), fun j hj => Own.but (hh.op j hj) hb (fun k hk hn => hn (hh.rq j k hj hk)), fun j hj => Own.but (hh.om j hj) hb (fun k hk hn => hn (hh.rm j k hj hk)), hh.hs, hh.rb, hr, hh.rq, hh.rm, hh.mm, hins, fun j hj => ⟨(hh.inr j hj).1, Nat.le_trans (hh.inr j hj).2 hB⟩, hl, hl1, hl2, fun j hj => Nat.le_trans (hh.l3 j hj) hB, hh.he⟩, hb.mono fun k _ hn he => hn (hh.he k he)⟩
theorem ts_write (hh : TS w gd lb gb gw gm E B vh H t p r q h m M X) {k : Nat} (hk : k < 2) (hB : B ≤ 900000) (i : Nat) (s : ByteArray) (hi : i < 20) (hs : s.size ≤ 512) :
    Calls Tryz.prog 13 #[ptr (t k), .int .i64 i, .string s] X fun e X' => e = .returned (.int .i64 0) ∧ TS w gd lb gb gw gm E (B + 1) vh H t (upd p k (p k ++ [(i, s.data.toList)])) r q h m M X' ∧ But (fun x => ¬ E x) X X' := by
  obtain ⟨R, N, hh⟩ := hh
  refine (c2_write (hh.two hk) i s (by rw [hh.hl]; exact hi) (by rw [hh.hl]; decide) hs (Nat.le_trans (hh.l1 k hk) hB)).mono ?_
  rintro e X' ⟨rfl, hc, hb⟩
  refine ⟨rfl, hh.call (two_back hk hc) hb (upd_all (P := fun (l : List (Nat × List UInt8)) => ∀ x ∈ l, x.1 < 20 ∧ x.2.length ≤ 512) (fun x hx => ?_) hh.ins) (Nat.le_succ B) (upd_all (P := fun (l : List (Nat × List UInt8)) => l.length ≤ B + 1) (by have := hh.l1 k hk; simp; omega) (fun j hj => Nat.le_succ_of_le (hh.l1 j hj))) (Nat.le_succ_of_le hh.l2)⟩
  rcases List.mem_append.1 hx with hx | hx
  · exact hh.ins k hk x hx
  · rw [List.mem_singleton.1 hx]
    exact ⟨hi, by simpa using hs⟩
theorem ts_write_no (hh : TS w gd lb gb gw gm E B vh H t p r q h m M X) {k : Nat} (hk : k < 2) (i : Int) (s : ByteArray) (c : Int) (hc : (c = 2 ∧ (i < 0 ∨ 20 ≤ i)) ∨ (c = 5 ∧ 0 ≤ i ∧ i < 20 ∧ 512 < s.size)) :
    Calls Tryz.prog 13 #[ptr (t k), .int .i64 i, .string s] X fun e X' => e = .returned (.int .i64 c) ∧ TS w gd lb gb gw gm E (B + 1) vh H t p r q h m M X' ∧ But (fun x => ¬ E x) X X' := by
  obtain ⟨R, N, hh⟩ := hh
  refine (c2_write_no (hh.two hk) i s c (by rw [hh.hl]; exact hc)).mono ?_
  rintro e X' ⟨rfl, hc, hb⟩
  have hc' := two_back hk hc
  rw [upd_self] at hc'
  exact ⟨rfl, hh.call hc' hb hh.ins (Nat.le_succ B) (fun j hj => Nat.le_succ_of_le (hh.l1 j hj)) (Nat.le_succ_of_le hh.l2)⟩
theorem ts_back (hh : TS w gd lb gb gw gm E B vh H t p r q h m M X) {k : Nat} (hk : k < 2) (hB : B ≤ 900000) (x : Int) (n : Nat) (hn : max x 0 = (n : Int)) :
    Calls Tryz.prog 17 #[ptr (t k), .int .i64 x] X fun e X' => e = .returned (.tuple #[]) ∧ TS w gd lb gb gw gm E (B + 1) vh H t (upd p k ((p k).take n)) r q h m M X' ∧ But (fun x => ¬ E x) X X' := by
  obtain ⟨R, N, hh⟩ := hh
  refine (c2_back (hh.two hk) x n hn (Nat.le_trans (hh.l1 k hk) hB)).mono ?_
  rintro e X' ⟨rfl, hc, hb⟩
  exact ⟨rfl, hh.call (two_back hk hc) hb (upd_all (P := fun (l : List (Nat × List UInt8)) => ∀ x ∈ l, x.1 < 20 ∧ x.2.length ≤ 512) (fun y hy => hh.ins k hk y (List.mem_of_mem_take hy)) hh.ins) (Nat.le_succ B) (upd_all (P := fun (l : List (Nat × List UInt8)) => l.length ≤ B + 1) (by have := hh.l1 k hk; simp; omega) (fun j hj => Nat.le_succ_of_le (hh.l1 j hj))) (Nat.le_succ_of_le hh.l2)⟩
theorem ts_drop (hh : TS w gd lb gb gw gm E B vh H t p r q h m M X) {k : Nat} (hk : k < 2) :
    Calls Tryz.prog 21 #[ptr (t k)] X fun e X' => e = .returned (.tuple #[]) ∧ TS w gd lb gb gw gm E (B + 1) vh H t (upd p k []) r q h m M X' ∧ But (fun x => ¬ E x) X X' := by
  obtain ⟨R, N, hh⟩ := hh
  refine (c2_drop (hh.two hk)).mono ?_
  rintro e X' ⟨rfl, hc, hb⟩
  exact ⟨rfl, hh.call (two_back hk hc) hb (upd_all (P := fun (l : List (Nat × List UInt8)) => ∀ x ∈ l, x.1 < 20 ∧ x.2.length ≤ 512) (fun y hy => by cases hy) hh.ins) (Nat.le_succ B) (upd_all (P := fun (l : List (Nat × List UInt8)) => l.length ≤ B + 1) (by simp) (fun j hj => Nat.le_succ_of_le (hh.l1 j hj))) (Nat.le_succ_of_le hh.l2)⟩
theorem two_comm {k N' : Nat} {H' : List Wl.Text} (hk : k < 2) {p' : List (Nat × List UInt8)} (hc : C2 w R 16 gd N' lb (t k) (t (1 - k)) H' p' (p (1 - k)) X) : C2 w R 16 gd N' lb (t 0) (t 1) H' (upd p k p' 0) (upd p k p' 1) X := two_back hk hc
/-- Commit, where the reference's homes stand ready. -/
theorem ts_commit (hh : TS w gd lb gb gw gm E B vh H t p r q h m M X) {k : Nat} (hk : k < 2) (hB : B ≤ 900000) {vh' : Value} (h0 : (Wl.comm 16 H (Tx.psI (p k))).1 = 0) (ho : OwnS w.heap.size X vh' (Wl.comm 16 H (Tx.psI (p k))).2) (hr : ∀ x, vh'.ownBlock = some x → E x ∨ vh.ownBlock = some x) :
    Calls Tryz.prog 20 #[ptr (t k)] X fun e X' => e = .returned (.int .i64 0) ∧ TS w gd lb gb gw gm E (B + 1) vh' (Wl.comm 16 H (Tx.psI (p k))).2 t (upd p k []) r q h m M X' ∧ But (fun x => ¬ E x) X X' := by
  obtain ⟨R, N, hh⟩ := hh
  refine (c2_commit (hh.two hk) (by have := hh.l2; omega)).mono ?_
  rintro e X' ⟨rfl, hc, hb⟩
  rw [if_pos h0] at hc
  rw [h0]
  exact ⟨rfl, hh.comm (two_comm hk hc) hb (upd_all (P := fun (l : List (Nat × List UInt8)) => ∀ x ∈ l, x.1 < 20 ∧ x.2.length ≤ 512) (fun y hy => by cases hy) hh.ins) (Nat.le_succ B) (upd_all (P := fun (l : List (Nat × List UInt8)) => l.length ≤ B + 1) (by simp) (fun j hj => Nat.le_succ_of_le (hh.l1 j hj))) (by have := hh.l2; omega) ho (fun x hx => (hr x hx).elim (hh.he x) (hh.rh x)) (by rw [Wl.comm_length]; exact hh.hl)⟩
theorem ts_commit_no (hh : TS w gd lb gb gw gm E B vh H t p r q h m M X) {k : Nat} (hk : k < 2) (hB : B ≤ 900000) (h0 : (Wl.comm 16 H (Tx.psI (p k))).1 ≠ 0) :
    Calls Tryz.prog 20 #[ptr (t k)] X fun e X' => e = .returned (.int .i64 (Wl.comm 16 H (Tx.psI (p k))).1) ∧ TS w gd lb gb gw gm E (B + 1) vh H t p r q h m M X' ∧ But (fun x => ¬ E x) X X' := by
  obtain ⟨R, N, hh⟩ := hh
  refine (c2_commit (hh.two hk) (by have := hh.l2; omega)).mono ?_
  rintro e X' ⟨rfl, hc, hb⟩
  rw [if_neg h0, Wl.comm_no h0] at hc
  have hc' := two_back hk hc
  rw [upd_self] at hc'
  exact ⟨rfl, hh.call hc' hb hh.ins (Nat.le_succ B) (fun j hj => Nat.le_succ_of_le (hh.l1 j hj)) (by have := hh.l2; omega)⟩
/-- The reference's calls, of the change k with the homes as they are. -/
theorem ts_rwrite (hh : TS w gd lb gb gw gm E B vh H t p r q h m M X) {k : Nat} (hk : k < 2) (hB : B ≤ 900000) (i : Nat) (s : ByteArray) (hi : i < 20) (hs : s.size ≤ 512) :
    Calls Tryz.prog 12 #[ref6 vh 16 (q k), .int .i64 i, .string s] X fun e X' => ∃ vp, e = .returned (.tuple #[ref6 vh 16 vp, .int .i64 0]) ∧ OwnP w.heap.size X' vp (r k ++ [(i, s.data.toList)]) ∧ TS w gd lb gb gw gm (fun x => E x ∨ vp.ownBlock = some x) B vh H t p r q h m M X' ∧ Below X.heap.size X X' := by
  have h' := hh
  obtain ⟨R, N, hh⟩ := hh
  refine (refWrite_ok X vh (q k) 16 _ _ (r k) (hh.op k hk) H hh.oh i s (by rw [hh.hl]; exact hi) hs (Nat.le_trans (hh.inr k hk).2 hB) h'.below.size).mono ?_
  rintro e X' ⟨vp, rfl, ho, hb⟩
  exact ⟨vp, rfl, Own.mono ho h'.below.size, h'.hold hb (fun x hx => hx.imp_right fun e => ho.block x e), hb⟩
theorem ts_rwrite_no (hh : TS w gd lb gb gw gm E B vh H t p r q h m M X) {k : Nat} (hk : k < 2) (i : Int) (s : ByteArray) (c : Int) (hc : (c = 2 ∧ (i < 0 ∨ 20 ≤ i)) ∨ (c = 5 ∧ 0 ≤ i ∧ i < 20 ∧ 512 < s.size)) :
    Calls Tryz.prog 12 #[ref6 vh 16 (q k), .int .i64 i, .string s] X fun e X' => e = .returned (.tuple #[ref6 vh 16 (q k), .int .i64 c]) ∧ TS w gd lb gb gw gm E B vh H t p r q h m M X' ∧ Below X.heap.size X X' := by
  have h' := hh
  obtain ⟨R, N, hh⟩ := hh
  refine (refWrite_no X vh (q k) 16 _ _ (r k) (hh.op k hk) H hh.oh i s c (by rw [hh.hl]; exact hc)).mono ?_
  rintro e X' ⟨rfl, hb⟩
  exact ⟨rfl, h'.still hb, hb⟩
theorem ts_rread (hh : TS w gd lb gb gw gm E B vh H t p r q h m M X) {k : Nat} (hk : k < 2) (hB : B ≤ 900000) (i : Int) :
    Calls Tryz.prog 15 #[ref6 vh 16 (q k), .int .i64 i] X fun e X' => e = .returned (.tuple #[.string (bs (homeOf (Wl.along H (Tx.psI (r k))) i).1), .int .i64 (homeOf (Wl.along H (Tx.psI (r k))) i).2]) ∧ TS w gd lb gb gw gm E B vh H t p r q h m M X' ∧ Below X.heap.size X X' := by
  have h' := hh
  obtain ⟨R, N, hh⟩ := hh
  by_cases hi : 0 ≤ i ∧ i < H.length
  · obtain ⟨j, rfl⟩ : ∃ j : Nat, i = j := ⟨i.toNat, by omega⟩
    have hj : j < (Wl.along H (Tx.psI (r k))).length := by rw [Wl.along_length]; omega
    refine (refRead_ok X vh (q k) 16 _ _ (r k) (hh.op k hk) H hh.oh (fun x hx => by rw [hh.hl]; exact (hh.inr k hk).1 x hx) j (by omega) (Nat.le_trans (hh.inr k hk).2 hB)).mono ?_
    rintro e X' ⟨rfl, hb⟩
    exact ⟨by rw [homeOf_at hj]; simp [List.getD, hj], h'.still hb, hb⟩
  · refine (refRead_no X vh (q k) 16 _ H hh.oh i (by omega)).mono ?_
    rintro e X' ⟨rfl, hb⟩
    refine ⟨?_, h'.still hb, hb⟩
    have : homeOf (Wl.along H (Tx.psI (r k))) i = ([], 2) := by
      unfold homeOf
      rw [if_neg (by rw [Wl.along_length]; exact hi)]
    rw [this]
    rfl
theorem ts_rback (hh : TS w gd lb gb gw gm E B vh H t p r q h m M X) {k : Nat} (hk : k < 2) (x : Int) (n : Nat) (hn : max x 0 = (n : Int)) :
    Calls Tryz.prog 18 #[ref6 vh 16 (q k), .int .i64 x] X fun e X' => ∃ vp, e = .returned (ref6 vh 16 vp) ∧ OwnP w.heap.size X' vp ((r k).take n) ∧ vp.ownBlock = (q k).ownBlock ∧ TS w gd lb gb gw gm E B vh H t p r q h m M X' ∧ Below X.heap.size X X' := by
  have h' := hh
  obtain ⟨R, N, hh⟩ := hh
  by_cases hl : n < (r k).length
  · refine (refBack_some X vh (q k) 16 _ _ (r k) (hh.op k hk) H hh.oh x n hn hl).mono ?_
    rintro e X' ⟨vp, rfl, ho, he, hb⟩
    exact ⟨vp, rfl, ho, he, h'.still hb, hb⟩
  · refine (refBack_all X vh (q k) 16 _ _ (r k) (hh.op k hk) H hh.oh x n hn (by omega)).mono ?_
    rintro e X' ⟨rfl, hb⟩
    refine ⟨q k, rfl, ?_, rfl, h'.still hb, hb⟩
    rw [List.take_of_length_le (by omega)]
    exact Own.below (hh.op k hk) hb (Nat.le_refl _)
theorem ts_rtouched (hh : TS w gd lb gb gw gm E B vh H t p r q h m M X) {k : Nat} (hk : k < 2) (hB : B ≤ 900000) (v : Value) :
    Calls Tryz.prog 23 #[ref6 v 16 (q k)] X fun e X' => e = .returned (.int .i64 ((Tx.lasts (r k)).length : Nat)) ∧ TS w gd lb gb gw gm E B vh H t p r q h m M X' ∧ Below X.heap.size X X' := by
  have h' := hh
  obtain ⟨R, N, hh⟩ := hh
  refine (refTouched_any X v (q k) 16 _ (r k) (hh.op k hk) (Nat.le_trans (hh.inr k hk).2 hB)).mono ?_
  rintro e X' ⟨rfl, hb⟩
  exact ⟨rfl, h'.still hb, hb⟩
theorem ts_rcommit (hh : TS w gd lb gb gw gm E B vh H t p r q h m M X) {k : Nat} (hk : k < 2) :
    Calls Tryz.prog 19 #[ref6 vh 16 (q k)] X fun e X' =>
      ((Wl.comm 16 H (Tx.psI (r k))).1 = 0 → ∃ vh', e = .returned (.tuple #[ref6 vh' 16 (.slice none 0 0), .int .i64 0]) ∧ OwnS w.heap.size X' vh' (Wl.comm 16 H (Tx.psI (r k))).2 ∧ (∃ E' : Nat → Prop, (∀ x, E x → E' x) ∧ (∀ x, vh'.ownBlock = some x → E' x ∨ vh.ownBlock = some x) ∧ TS w gd lb gb gw gm E' B vh H t p r q h m M X')) ∧
      ((Wl.comm 16 H (Tx.psI (r k))).1 ≠ 0 → e = .returned (.tuple #[ref6 vh 16 (q k), .int .i64 (Wl.comm 16 H (Tx.psI (r k))).1]) ∧ TS w gd lb gb gw gm E B vh H t p r q h m M X') ∧ Below X.heap.size X X' := by
  have h' := hh
  obtain ⟨R, N, hh⟩ := hh
  refine (refCommit_any X vh (q k) 16 _ _ (r k) (hh.op k hk) H hh.oh (fun x hx => ⟨by have := ((hh.inr k hk).1 x hx).1; omega, ((hh.inr k hk).1 x hx).2⟩) (by rw [hh.hl]; decide) (by rw [hh.hl]; decide) h'.below.size).mono ?_
  rintro e X' ⟨h1, h2, hb⟩
  refine ⟨fun h0 => ?_, fun h0 => ⟨h2 h0, h'.still hb⟩, hb⟩
  obtain ⟨vh', rfl, ho, hon⟩ := h1 h0
  refine ⟨vh', rfl, ho, ?_⟩
  rcases hon with rfl | hon
  · exact ⟨E, fun _ hx => hx, fun _ hx => .inr hx, h'.still hb⟩
  · exact ⟨fun x => E x ∨ vh'.ownBlock = some x, fun _ hx => .inl hx, fun _ hx => .inl (.inr hx), h'.hold hb (fun x hx => hx.imp_right fun e => ⟨hon x e, (ho.block x e).2⟩)⟩
end
end Go.Proofs.YtahnhhhhfioibaaGreatDoor

namespace Go.Proofs.YtahnhhhhfioibaaGreatDoor
open Go.RowKit Lib

section
variable {w X X' : World} {gd lb gb gw gm B : Nat} {E : Nat → Prop} {vh : Value} {H : List Wl.Text} {t : Nat → Nat} {p r : Nat → List (Nat × List UInt8)} {q h m : Nat → Value} {M : Nat → List Int} {R : Nat → Prop} {N : Nat}
/-- want[k] = next. -/
theorem TS.store (hh : TS w gd lb gb gw gm E B vh H t p r q h m M X) {k : Nat} (hk : k < 2) {vp v : Value} {l : List (Nat × List UInt8)} (ho : OwnP w.heap.size X vp l) (hv : ∃ a n c, v = .slice a n c) (hr : ∀ x, vp.ownBlock = some x → E x ∨ (q k).ownBlock = some x) (hl : (∀ x ∈ l, x.1 < 20 ∧ x.2.length ≤ 512) ∧ l.length ≤ B) :
    TS w gd lb gb gw gm E B vh H t p (upd r k l) (upd q k vp) (upd h k v) m M (X.setRow gw (([h 0, .int .i64 16, q 0, h 1, .int .i64 16, q 1].take (3 * k)) ++ [v, .int .i64 16, vp] ++ ([h 0, .int .i64 16, q 0, h 1, .int .i64 16, q 1].drop (3 * k + 3))).toArray) := by
  obtain ⟨R, N, hh⟩ := hh
  have hb : But (fun x => x = gw) X (X.setRow gw (([h 0, .int .i64 16, q 0, h 1, .int .i64 16, q 1].take (3 * k)) ++ [v, .int .i64 16, vp] ++ ([h 0, .int .i64 16, q 0, h 1, .int .i64 16, q 1].drop (3 * k + 3))).toArray) := (But.refl (fun x => x = gw) X).setRow gw _ (fun _ => rfl)
  refine hh.turnW hb ?_ (fun j hj => ?_) (upd_all (P := fun (v : Value) => ∃ a n c, v = .slice a n c) hv hh.hs) (fun j x hj hx => ?_) (upd_all (P := fun (l : List (Nat × List UInt8)) => (∀ x ∈ l, x.1 < 20 ∧ x.2.length ≤ 512) ∧ l.length ≤ B) hl hh.inr)
  · have := setRow_heap X gw _ (([h 0, .int .i64 16, q 0, h 1, .int .i64 16, q 1].take (3 * k)) ++ [v, .int .i64 16, vp] ++ ([h 0, .int .i64 16, q 0, h 1, .int .i64 16, q 1].drop (3 * k + 3))).toArray _ (0, 0) hh.bw
    rcases (show k = 0 ∨ k = 1 by omega) with rfl | rfl
    · exact this
    · exact this
  · by_cases e : j = k
    · rw [e, upd_here, upd_here]; exact ho
    · rw [upd_there _ _ e, upd_there _ _ e]; exact hh.op j hj
  · by_cases e : j = k
    · rw [e, upd_here] at hx
      exact (hr x hx).elim (hh.he x) (hh.rq k x hk)
    · rw [upd_there _ _ e] at hx
      exact hh.rq j x hj hx
/-- want[k].Puts = nil. -/
theorem TS.nil (hh : TS w gd lb gb gw gm E B vh H t p r q h m M X) {k : Nat} (hk : k < 2) :
    TS w gd lb gb gw gm E B vh H t p (upd r k []) (upd q k (.slice none 0 0)) h m M (X.setCell ⟨gw, 3 * k + 2, none⟩ (.slice none 0 0)) := by
  obtain ⟨R, N, hh⟩ := hh
  have hb : But (fun x => x = gw) X (X.setCell ⟨gw, 3 * k + 2, none⟩ (.slice none 0 0)) := (But.refl (fun x => x = gw) X).setCell ⟨gw, 3 * k + 2, none⟩ _ (fun _ => rfl)
  have hset := hh.bw.set (3 * k + 2) (.slice none 0 0)
  refine hh.turnW hb ?_ (fun j hj => ?_) hh.hs (fun j x hj hx => ?_) (upd_all (P := fun (l : List (Nat × List UInt8)) => (∀ x ∈ l, x.1 < 20 ∧ x.2.length ≤ 512) ∧ l.length ≤ B) ⟨fun _ hx => (List.not_mem_nil hx).elim, Nat.zero_le _⟩ hh.inr)
  · rcases (show k = 0 ∨ k = 1 by omega) with rfl | rfl
    · exact hset
    · exact hset
  · by_cases e : j = k
    · rw [e, upd_here, upd_here]; exact Own.nil _ _ _ _
    · rw [upd_there _ _ e, upd_there _ _ e]; exact hh.op j hj
  · by_cases e : j = k
    · rw [e, upd_here] at hx
      simp [Value.ownBlock] at hx
    · rw [upd_there _ _ e] at hx
      exact hh.rq j x hj hx
/-- marks[k] = append(marks[k], n). -/
theorem TS.grow (hh : TS w gd lb gb gw gm E B vh H t p r q h m M X) {k : Nat} (hk : k < 2) {n : Int} {v : Value} (ho : OwnK w.heap.size X' v (M k ++ [n])) (hg : X.grownBy X' (m k).ownBlock) (hv : v.ownBlock = (m k).ownBlock ∨ ∀ x, v.ownBlock = some x → X.heap.size ≤ x) :
    TS w gd lb gb gw gm E (B + 1) vh H t p r q h (upd m k v) (upd M k (M k ++ [n])) (X'.setCell ⟨gm, k, none⟩ v) := by
  obtain ⟨R, N, hh⟩ := hh
  have hb1 : But (fun x => (m k).ownBlock = some x) X X' := ⟨hg.os, hg.tape, hg.output, hg.size, fun k hk hn => hg.block k hk (fun e => hn e.symm)⟩
  have hm := hh.om k hk
  have n1 : (m k).ownBlock ≠ some gm := Own.ne_blk hm hh.bm (by decide)
  have n2 : (m k).ownBlock ≠ some gb := Own.ne_blk hm hh.bb (by decide)
  have n3 : (m k).ownBlock ≠ some gw := Own.ne_blk hm hh.bw (by decide)
  have hm' := hh.bm.but hb1 (fun e => n1 e)
  have nbm : gb ≠ gm := fun e => by
    have h1 := hh.bb
    rw [e] at h1
    have := h1.symm.trans hh.bm
    injection this with this
    injection this with _ this
    exact absurd this (by decide)
  have nwm : gw ≠ gm := fun e => by
    have h1 := hh.bw
    rw [e] at h1
    have := h1.symm.trans hh.bm
    injection this with this
    injection this with _ this
    exact absurd this (by decide)
  have hb2 : But (fun x => x = gm) X' (X'.setCell ⟨gm, k, none⟩ v) := (But.refl (fun x => x = gm) X').setCell ⟨gm, k, none⟩ v (fun _ => rfl)
  have hb : But (fun x => (m k).ownBlock = some x ∨ x = gm) X (X'.setCell ⟨gm, k, none⟩ v) := (hb1.mono (fun _ _ e => .inl e)).trans hb2 (fun _ _ e => .inr e)
  have hvR : ∀ x, v.ownBlock = some x → R x ∨ X.heap.size ≤ x := fun x hx => hv.elim (fun e => .inl (hh.rm k x hk (e ▸ hx))) (fun f => .inr (f x hx))
  have hset := hm'.set k v
  refine ⟨fun x => R x ∨ (v.ownBlock = some x), N, hh.c.turn hb (fun x _ e => e.elim (hh.rm k x hk) (fun e => e ▸ hh.rb.2.2)) (fun x hx => hx.elim .inl (fun e => (hvR x e).imp_right (fun e1 => ⟨e1, ?_⟩))), hh.bb.but hb (fun e => e.elim (fun e => n2 e) (fun e => nbm e)), hh.bw.but hb (fun e => e.elim (fun e => n3 e) (fun e => nwm e)), ?_, Own.but hh.oh hb (fun x hx e => e.elim (fun e => Own.ne_own hh.oh hm (by decide) hx e) (fun e => Own.ne_blk hh.oh hh.bm (by decide) (e ▸ hx))), fun j hj => Own.but (hh.op j hj) hb (fun x hx e => e.elim (fun e => Own.ne_own (hh.op j hj) hm (by decide) hx e) (fun e => Own.ne_blk (hh.op j hj) hh.bm (by decide) (e ▸ hx))), fun j hj => ?_, hh.hs, ⟨.inl hh.rb.1, .inl hh.rb.2.1, .inl hh.rb.2.2⟩, fun x hx => .inl (hh.rh x hx), fun j x hj hx => .inl (hh.rq j x hj hx), fun j x hj hx => ?_, fun x h0 h1 => ?_, hh.ins, fun j hj => ⟨(hh.inr j hj).1, Nat.le_succ_of_le (hh.inr j hj).2⟩, hh.hl, fun j hj => Nat.le_succ_of_le (hh.l1 j hj), Nat.le_succ_of_le hh.l2, upd_all (P := fun (l : List Int) => l.length ≤ B + 1) (by have := hh.l3 k hk; simp; omega) (fun j hj => Nat.le_succ_of_le (hh.l3 j hj)), fun x hx => .inl (hh.he x hx)⟩
  · have := (ho.block x e).2
    simpa using this
  · rcases (show k = 0 ∨ k = 1 by omega) with rfl | rfl
    · exact hset
    · exact hset
  · by_cases e : j = k
    · rw [e, upd_here, upd_here]
      refine Own.but ho hb2 (fun x hx e => ?_)
      subst e
      rcases hv with e | f
      · exact n1 (e ▸ hx)
      · exact absurd (f _ hx) (Nat.not_le.2 hh.bm.lt)
    · rw [upd_there _ _ e, upd_there _ _ e]
      refine Own.but (hh.om j hj) hb (fun x hx e1 => e1.elim (fun e1 => ?_) (fun e1 => Own.ne_blk (hh.om j hj) hh.bm (by decide) (e1 ▸ hx)))
      rcases (show (k = 0 ∧ j = 1) ∨ (k = 1 ∧ j = 0) by omega) with ⟨rfl, rfl⟩ | ⟨rfl, rfl⟩
      · exact hh.mm x e1 hx
      · exact hh.mm x hx e1
  · by_cases e : j = k
    · rw [e, upd_here] at hx
      exact .inr hx
    · rw [upd_there _ _ e] at hx
      exact .inl (hh.rm j x hj hx)
  · have hlt : ∀ j, j < 2 → ∀ x, (m j).ownBlock = some x → x < X.heap.size := fun j hj x hx => ((hh.om j hj).block x hx).2
    rcases (show k = 0 ∨ k = 1 by omega) with rfl | rfl
    · rw [upd_here] at h0
      rw [upd_there _ _ (by decide)] at h1
      rcases hv with e | f
      · exact hh.mm x (e ▸ h0) h1
      · have := f x h0; have := hlt 1 (by decide) x h1; omega
    · rw [upd_there _ _ (by decide)] at h0
      rw [upd_here] at h1
      rcases hv with e | f
      · exact hh.mm x h0 (e ▸ h1)
      · have := f x h1; have := hlt 0 (by decide) x h0; omega
theorem TS.home0 (hh : TS w gd lb gb gw gm E B vh H t p r q h m M X) {j : Nat} (hj : j < 2) : ∃ a n c, h j = .slice a n c := by
  obtain ⟨R, N, hh⟩ := hh
  exact hh.hs j hj
theorem TS.boxes (hh : TS w gd lb gb gw gm E B vh H t p r q h m M X) : gb < X.heap.size ∧ gw < X.heap.size ∧ gm < X.heap.size := by
  obtain ⟨R, N, hh⟩ := hh
  exact ⟨hh.bb.lt, hh.bw.lt, hh.bm.lt⟩
theorem TS.qform (hh : TS w gd lb gb gw gm E B vh H t p r q h m M X) {j : Nat} (hj : j < 2) : ∃ a n c, q j = .slice a n c := by
  obtain ⟨R, N, hh⟩ := hh
  obtain ⟨a, c, h, _⟩ := Own.slice (hh.op j hj)
  exact ⟨a, _, c, h⟩
theorem TS.homeAt {a : Option Addr} {n c : Nat} (hh : TS w gd lb gb gw gm E B (.slice a n c) H t p r q h m M X) {j : Nat} (hj : j < 20) : ∃ gh, a = some ⟨gh, 0, none⟩ ∧ X.cell? ⟨gh, j, none⟩ = some (.string (bs (H.getD j []))) := by
  obtain ⟨R, N, hh⟩ := hh
  have hl := hh.hl
  obtain ⟨gh, cap, e, _, _⟩ := Own.form hh.oh (by rw [List.length_map]; omega)
  injection e with e1 _ _
  subst e1
  refine ⟨gh, rfl, ?_⟩
  rw [List.getD_eq_getElem?_getD, List.getElem?_eq_getElem (by omega)]
  exact OwnS.strAt hh.oh j (by omega)
theorem TS.hlen (hh : TS w gd lb gb gw gm E B vh H t p r q h m M X) : H.length = 20 := by
  obtain ⟨R, N, hh⟩ := hh
  exact hh.hl
theorem homeOf_lt {H : List Wl.Text} {j : Nat} (hj : j < H.length) : homeOf H (j : Nat) = (H.getD j [], 0) := by
  unfold homeOf
  rw [if_pos (by omega), Int.toNat_natCast]
/-- The state at first. -/
theorem TS.begun {w5 w6 : World} {ta tb : Nat} {c : Obj} (hc : C2 w (fun _ => False) 16 gd 1 lb ta tb H [] [] w5) (hH : H.length = 20) (hcs : c = .cells #[ptr ta, ptr tb] 33) (ho : OwnS (w5.alloc c).heap.size w6 vh H) (hb : Below (w5.alloc c).heap.size (w5.alloc c) w6) (hv : ∃ a n c, vh = .slice a n c) (h0 : t 0 = ta) (h1 : t 1 = tb) :
    TS w gd lb w5.heap.size w6.heap.size (w6.heap.size + 1) (fun _ => False) 0 vh H t (fun _ => []) (fun _ => []) (fun _ => .slice none 0 0) (fun _ => vh) (fun _ => .slice none 0 0) (fun _ => []) ((w6.alloc (.cells #[vh, .int .i64 16, .slice none 0 0, vh, .int .i64 16, .slice none 0 0] 39)).alloc (.cells #[.slice none 0 0, .slice none 0 0] 41)) := by
  subst h0 h1 hcs
  have hw := hc.below.size
  have h5 : (w5.alloc (.cells #[ptr (t 0), ptr (t 1)] 33)).heap.size = w5.heap.size + 1 := by simp
  have h6 := hb.size
  have bb := Blk.new w5 #[ptr (t 0), ptr (t 1)] 33
  have bb6 := Blk.below bb hb bb.lt
  have b2 : Below w6.heap.size w6 ((w6.alloc (.cells #[vh, .int .i64 16, .slice none 0 0, vh, .int .i64 16, .slice none 0 0] 39)).alloc (.cells #[.slice none 0 0, .slice none 0 0] 41)) := ((Below.refl _ w6).alloc (Nat.le_refl _) _).alloc (by simp) _
  have b5 : Below w5.heap.size w5 ((w6.alloc (.cells #[vh, .int .i64 16, .slice none 0 0, vh, .int .i64 16, .slice none 0 0] 39)).alloc (.cells #[.slice none 0 0, .slice none 0 0] 41)) := ((((Below.refl _ w5).alloc (Nat.le_refl _) _).trans (hb.mono (by simp)))).trans (b2.mono (by omega))
  have hbf : But (fun _ => False) w5 ((w6.alloc (.cells #[vh, .int .i64 16, .slice none 0 0, vh, .int .i64 16, .slice none 0 0] 39)).alloc (.cells #[.slice none 0 0, .slice none 0 0] 41)) := But.of_below b5 _
  have bw := (Blk.new w6 #[vh, .int .i64 16, .slice none 0 0, vh, .int .i64 16, .slice none 0 0] 39).alloc (.cells #[.slice none 0 0, .slice none 0 0] 41)
  have bm := Blk.new (w6.alloc (.cells #[vh, .int .i64 16, .slice none 0 0, vh, .int .i64 16, .slice none 0 0] 39)) #[.slice none 0 0, .slice none 0 0] 41
  rw [World.size_alloc] at bm
  have oh := Own.below ho b2 (Nat.le_refl _)
  refine ⟨fun x => w5.heap.size ≤ x ∧ x < w6.heap.size + 2, 1, hc.turn hbf (fun _ _ h => h.elim) (fun k hk => .inr ⟨hk.1, by simpa using hk.2⟩), Blk.below bb6 b2 bb6.lt, bw, bm, Own.mono oh (by omega), fun _ _ => Own.nil _ _ _ _, fun _ _ => Own.nil _ _ _ _, fun _ _ => hv, ⟨⟨Nat.le_refl _, by omega⟩, ⟨by omega, by omega⟩, ⟨by omega, by omega⟩⟩, fun x hx => ?_, fun _ x _ hx => by simp [Value.ownBlock] at hx, fun _ x _ hx => by simp [Value.ownBlock] at hx, fun x hx => by simp [Value.ownBlock] at hx, fun _ _ _ hx => (List.not_mem_nil hx).elim, fun _ _ => ⟨fun _ hx => (List.not_mem_nil hx).elim, Nat.le_refl _⟩, hH, fun _ _ => Nat.le_refl _, Nat.le_refl _, fun _ _ => Nat.le_refl _, fun _ hx => hx.elim⟩
  have := ho.block x hx
  omega
end
end Go.Proofs.YtahnhhhhfioibaaGreatDoor

namespace Go.Proofs.YtahnhhhhfioibaaGreatDoor
open Go.RowKit Lib

abbrev T6T : TypeId := 38
/-- What a Write answers, and the puts behind it. -/
def W6 (l : List (Nat × List UInt8)) (i : Int) (s : ByteArray) (c : Int) (L : List (Nat × List UInt8)) : Prop :=
  (c = 0 ∧ 0 ≤ i ∧ i < 20 ∧ s.size ≤ 512 ∧ L = l ++ [(i.toNat, s.data.toList)]) ∨ (((c = 2 ∧ (i < 0 ∨ 20 ≤ i)) ∨ (c = 5 ∧ 0 ≤ i ∧ i < 20 ∧ 512 < s.size)) ∧ L = l)
theorem w6_any (l : List (Nat × List UInt8)) (i : Int) (s : ByteArray) : ∃ c L, W6 l i s c L := by
  by_cases h : i < 0 ∨ 20 ≤ i
  · exact ⟨2, l, .inr ⟨.inl ⟨rfl, h⟩, rfl⟩⟩
  · by_cases hs : s.size ≤ 512
    · exact ⟨0, _, .inl ⟨rfl, by omega, by omega, hs, rfl⟩⟩
    · exact ⟨5, l, .inr ⟨.inr ⟨rfl, by omega, by omega, by omega⟩, rfl⟩⟩
theorem W6.fits {l L : List (Nat × List UInt8)} {i c : Int} {s : ByteArray} {B : Nat} (h : W6 l i s c L) (hl : (∀ x ∈ l, x.1 < 20 ∧ x.2.length ≤ 512) ∧ l.length ≤ B) : (∀ x ∈ L, x.1 < 20 ∧ x.2.length ≤ 512) ∧ L.length ≤ B + 1 := by
  rcases h with ⟨_, h0, h1, h2, rfl⟩ | ⟨_, rfl⟩
  · refine ⟨fun x hx => ?_, by rw [List.length_append]; have := hl.2; show _ + 1 ≤ _; omega⟩
    rcases List.mem_append.1 hx with hx | hx
    · exact hl.1 x hx
    · rw [List.mem_singleton.1 hx]
      exact ⟨by show i.toNat < 20; omega, by show s.data.toList.length ≤ 512; rw [Array.length_toList]; exact h2⟩
  · exact ⟨hl.1, Nat.le_succ_of_le hl.2⟩
section
variable {w X X' : World} {gd lb gb gw gm B : Nat} {E : Nat → Prop} {vh : Value} {H : List Wl.Text} {t : Nat → Nat} {p r : Nat → List (Nat × List UInt8)} {q h m : Nat → Value} {M : Nat → List Int} {R : Nat → Prop} {N : Nat}
theorem TS.inr (hh : TS w gd lb gb gw gm E B vh H t p r q h m M X) {k : Nat} (hk : k < 2) : (∀ x ∈ r k, x.1 < 20 ∧ x.2.length ≤ 512) ∧ (r k).length ≤ B := by
  obtain ⟨R, N, hh⟩ := hh
  exact hh.inr k hk
theorem TS.qlen (hh : TS w gd lb gb gw gm E B vh H t p r q h m M X) {j : Nat} (hj : j < 2) : ∃ a c, q j = .slice a (r j).length c := by
  obtain ⟨R, N, hh⟩ := hh
  obtain ⟨a, c, h, _⟩ := Own.slice (hh.op j hj)
  exact ⟨a, c, h⟩
theorem TS.mlen (hh : TS w gd lb gb gw gm E B vh H t p r q h m M X) {j : Nat} (hj : j < 2) : ∃ a c, m j = .slice a (M j).length c ∧ (M j).length ≤ c ∧ ((M j).length = 0 ∨ ∃ g, a = some ⟨g, 0, none⟩ ∧ ∀ i (hi : i < (M j).length), X.cell? ⟨g, i, none⟩ = some (.int .i64 (M j)[i])) := by
  obtain ⟨R, N, hh⟩ := hh
  by_cases h0 : (M j).length = 0
  · obtain ⟨a, c, h, hc⟩ := Own.slice (hh.om j hj)
    exact ⟨a, c, h, hc, .inl h0⟩
  · obtain ⟨g, cap, h, _, _, hc⟩ := Own.form (hh.om j hj) (by omega)
    refine ⟨_, cap, h, hc, .inr ⟨g, rfl, fun i hi => ?_⟩⟩
    have ho := hh.om j hj
    rw [h] at ho
    have := Own.lies ho i (.int .i64 (M j)[i]) (by rw [show (intElem .i64).cells (M j) = (M j).map (fun s => Value.int .i64 s) from oneElem_cells _ _ _, List.getElem?_map, List.getElem?_eq_getElem hi]; rfl)
    rwa [Nat.zero_add] at this
theorem TS.om (hh : TS w gd lb gb gw gm E B vh H t p r q h m M X) {j : Nat} (hj : j < 2) : OwnK w.heap.size X (m j) (M j) ∧ (M j).length ≤ B := by
  obtain ⟨R, N, hh⟩ := hh
  exact ⟨hh.om j hj, hh.l3 j hj⟩
theorem TS.grow_cell (hh : TS w gd lb gb gw gm E B vh H t p r q h m M X) {k : Nat} (hk : k < 2) (hg : X.grownBy X' (m k).ownBlock) : X'.cell? ⟨gm, k, none⟩ = some (m k) ∧ X'.frozen? ⟨gm, k, none⟩ = false := by
  obtain ⟨R, N, hh⟩ := hh
  have hne : (m k).ownBlock ≠ some gm := Own.ne_blk (hh.om k hk) hh.bm (by decide)
  have hb : Blk X' gm 41 [m 0, m 1] := (hg.block gm hh.bm.lt (fun e => hne e.symm)).trans hh.bm
  refine ⟨?_, hb.frozen k⟩
  rcases (show k = 0 ∨ k = 1 by omega) with rfl | rfl
  · exact hb.cell (j := 0) rfl
  · exact hb.cell (j := 1) rfl
theorem intST6 : SliceT Tryz.prog 40 3 (intElem .i64).size := SliceT.of (size := 1) (bytes := 8) (z := .int .i64 0) Tryz.underlying40 (by kernel_rfl) rfl (by decide)
theorem lies_int6 (w : World) (n : Int) : Lies (intElem .i64) (w.alloc (.cells #[.int .i64 n] 3)) w.heap.size 0 [n] :=
  Lies.of_blk (Blk.new w #[.int .i64 n] 3) rfl
theorem TS.bw (hh : TS w gd lb gb gw gm E B vh H t p r q h m M X) : Blk X gw 39 [h 0, .int .i64 16, q 0, h 1, .int .i64 16, q 1] := by
  obtain ⟨R, N, hh⟩ := hh
  exact hh.bw
theorem ts_w (hh : TS w gd lb gb gw gm E B vh H t p r q h m M X) {k : Nat} (hk : k < 2) (hB : B ≤ 900000) {i c : Int} {s : ByteArray} {L : List (Nat × List UInt8)} (hc : W6 (p k) i s c L) :
    Calls Tryz.prog 13 #[ptr (t k), .int .i64 i, .string s] X fun e X' => e = .returned (.int .i64 c) ∧ TS w gd lb gb gw gm E (B + 1) vh H t (upd p k L) r q h m M X' ∧ But (fun x => ¬ E x) X X' := by
  rcases hc with ⟨rfl, h0, h1, h2, rfl⟩ | ⟨hc, rfl⟩
  · obtain ⟨j, rfl⟩ : ∃ j : Nat, i = j := ⟨i.toNat, by omega⟩
    rw [Int.toNat_natCast]
    exact ts_write hh hk hB j s (by omega) h2
  · have := ts_write_no hh hk i s c hc
    rwa [upd_self]
/-- What the reference's Write leaves. -/
def RW (w : World) (vh : Value) (qk : Value) (lk : List (Nat × List UInt8)) (c : Int) (L : List (Nat × List UInt8)) (X : World) (e : Ending) (X' : World) : Prop :=
  ∃ vp, e = .returned (.tuple #[ref6 vh 16 vp, .int .i64 c]) ∧ OwnP w.heap.size X' vp L ∧ ((∀ x, vp.ownBlock = some x → X.heap.size ≤ x) ∨ vp = qk ∧ L = lk) ∧ Below X.heap.size X X'
theorem ts_rw (hh : TS w gd lb gb gw gm E B vh H t p r q h m M X) {k : Nat} (hk : k < 2) (hB : B ≤ 900000) {i c : Int} {s : ByteArray} {L : List (Nat × List UInt8)} (hc : W6 (r k) i s c L) :
    Calls Tryz.prog 12 #[ref6 vh 16 (q k), .int .i64 i, .string s] X fun e X' => RW w vh (q k) (r k) c L X e X' := by
  have h' := hh
  obtain ⟨R, N, hh⟩ := hh
  rcases hc with ⟨rfl, h0, h1, h2, rfl⟩ | ⟨hc, rfl⟩
  · obtain ⟨j, rfl⟩ : ∃ j : Nat, i = j := ⟨i.toNat, by omega⟩
    rw [Int.toNat_natCast]
    refine (refWrite_ok X vh (q k) 16 _ _ (r k) (hh.op k hk) H hh.oh j s (by rw [hh.hl]; omega) h2 (Nat.le_trans (hh.inr k hk).2 hB) h'.below.size).mono ?_
    rintro e X' ⟨vp, rfl, ho, hb⟩
    exact ⟨vp, rfl, Own.mono ho h'.below.size, .inl fun x hx => (ho.block x hx).1, hb⟩
  · refine (refWrite_no X vh (q k) 16 _ _ (r k) (hh.op k hk) H hh.oh i s c (by rw [hh.hl]; exact hc)).mono ?_
    rintro e X' ⟨rfl, hb⟩
    exact ⟨q k, rfl, Own.below (hh.op k hk) hb (Nat.le_refl _), .inr ⟨rfl, rfl⟩, hb⟩
/-- Behind the reference's new change: it stands in block gx. -/
structure New6 (w : World) (gd lb gb gw gm : Nat) (E : Nat → Prop) (B : Nat) (vh : Value) (H : List Wl.Text) (t : Nat → Nat) (p r : Nat → List (Nat × List UInt8)) (q h m : Nat → Value) (M : Nat → List Int) (k : Nat) (vh' vp : Value) (L : List (Nat × List UInt8)) (gx act : Nat) (at_ : TypeId) (ac : List Value) (X : World) : Prop where
  ts : TS w gd lb gb gw gm E B vh H t p r q h m M X
  op : OwnP w.heap.size X vp L
  ob : (∀ x, vp.ownBlock = some x → E x) ∨ vp = q k ∧ L = r k
  bx : Blk X gx T6T [vh', .int .i64 16, vp]
  ex : E gx
  ba : Blk X act at_ ac
  ea : E act
theorem new6_mk (hh : TS w gd lb gb gw gm E B vh H t p r q h m M X) {k : Nat} {vh' vp : Value} {L : List (Nat × List UInt8)} {gx act : Nat} {at_ : TypeId} {ac : List Value} (hb : Below X.heap.size X X') (ho : OwnP w.heap.size X' vp L) (hv : (∀ x, vp.ownBlock = some x → X.heap.size ≤ x) ∨ vp = q k ∧ L = r k) (hx : Blk X' gx T6T [vh', .int .i64 16, vp]) (hgx : X.heap.size ≤ gx) (ha : Blk X act at_ ac) (he : E act) :
    ∃ E', New6 w gd lb gb gw gm E' B vh H t p r q h m M k vh' vp L gx act at_ ac X' := by
  refine ⟨fun x => E x ∨ x = gx ∨ (vp.ownBlock = some x ∧ X.heap.size ≤ x), hh.hold hb (fun x hx' => ?_), ho, hv.imp_left (fun h x hx' => .inr (.inr ⟨hx', h x hx'⟩)), hx, .inr (.inl rfl), Blk.below ha hb ha.lt, .inl he⟩
  rcases hx' with h1 | rfl | ⟨h1, h2⟩
  · exact .inl h1
  · exact .inr ⟨hgx, hx.lt⟩
  · exact .inr ⟨h2, (ho.block x h1).2⟩
theorem New6.but {k : Nat} {vh' vp : Value} {L : List (Nat × List UInt8)} {gx act B' : Nat} {at_ : TypeId} {ac : List Value} {p' : Nat → List (Nat × List UInt8)} (hk : k < 2) (hn : New6 w gd lb gb gw gm E B vh H t p r q h m M k vh' vp L gx act at_ ac X) (ht : TS w gd lb gb gw gm E B' vh H t p' r q h m M X') (hb : But (fun x => ¬ E x) X X') : New6 w gd lb gb gw gm E B' vh H t p' r q h m M k vh' vp L gx act at_ ac X' := by
  refine ⟨ht, ?_, hn.ob, hn.bx.but hb (fun h => h hn.ex), hn.ex, hn.ba.but hb (fun h => h hn.ea), hn.ea⟩
  rcases hn.ob with h1 | ⟨h1, h2⟩
  · exact Own.but hn.op hb (fun x hx hnx => hnx (h1 x hx))
  · rw [h1, h2]
    obtain ⟨R, N, ht⟩ := ht
    exact ht.op k hk
/-- The reference's new change behind its call, in a block laid behind the call or ahead of it. -/
theorem new6_store {W W1 : World} {k : Nat} {vh' vp : Value} {L : List (Nat × List UInt8)} {gx act : Nat} {at_ : TypeId} {ac : List Value} {old : List Value} (hh : TS w gd lb gb gw gm E B vh H t p r q h m M X) (hb : Below X.heap.size X W) (ho : OwnP w.heap.size W vp L) (hv : (∀ x, vp.ownBlock = some x → X.heap.size ≤ x) ∨ vp = q k ∧ L = r k) (hx : Blk W gx T6T old) (hgx : X.heap.size ≤ gx) (ha : Blk X act at_ ac) (he : E act) (hW : W1 = W.setRow gx #[vh', .int .i64 16, vp]) :
    ∃ E', New6 w gd lb gb gw gm E' B vh H t p r q h m M k vh' vp L gx act at_ ac W1 := by
  subst hW
  refine new6_mk hh (below_setRow hb hgx _) ?_ hv (setRow_heap W gx _ _ _ (0, 0) hx) hgx ha he
  exact Own.but ho ((But.refl (fun k => k = gx) W).setRow gx _ (fun _ => rfl)) (fun x hx2 e => Own.ne_blk ho hx (by decide) (e ▸ hx2))
theorem New6.old {k : Nat} {vh' vp : Value} {L : List (Nat × List UInt8)} {gx act : Nat} {at_ : TypeId} {ac : List Value} (hn : New6 w gd lb gb gw gm E B vh H t p r q h m M k vh' vp L gx act at_ ac X) : ∀ x, vp.ownBlock = some x → E x ∨ (q k).ownBlock = some x := fun x hx =>
  hn.ob.elim (fun h => .inl (h x hx)) (fun h => .inr (h.1 ▸ hx))
end
end Go.Proofs.YtahnhhhhfioibaaGreatDoor
