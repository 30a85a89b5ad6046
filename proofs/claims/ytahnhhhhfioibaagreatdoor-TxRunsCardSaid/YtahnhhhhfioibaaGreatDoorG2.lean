/- Elder texts, merged (2). -/
import Derived.RangeFuncBox
import Derived.RangeFuncLeaves
import Derived.Shelf.Abstract
import Derived.OwnWalkIn
import Derived.TacticsInMore
import Derived.LoopNIn
import Derived.LoopIn
import Derived.Maps.AppendAt
import Derived.Test.YtahnhhhhfioibaaGreatDoorG1
import Derived.Lib.Hide
namespace Go.Proofs.YtahnhhhhfioibaaGreatDoor
open Go.RowKit Go.Shelf

attribute [local go_sem] Oper.semAt_some

/-- Both boxes lie as they lay. -/
def Two (p q : Nat) (A B : World) : Prop := B.heap[p]? = A.heap[p]? ∧ B.heap[q]? = A.heap[q]?
theorem Two.trans {p q : Nat} {A B C : World} (h : Two p q A B) (k : Two p q B C) : Two p q A C := ⟨k.1.trans h.1, k.2.trans h.2⟩
theorem Two.cell1 {p q : Nat} {A B : World} (h : Two p q A B) {u : Value} (hc : A.cell? ⟨p, 0, none⟩ = some u) : B.cell? ⟨p, 0, none⟩ = some u := by
  rw [World.cell?_of_block (w := A) h.1]; exact hc
theorem Two.cell2 {p q : Nat} {A B : World} (h : Two p q A B) {u : Value} (hc : A.cell? ⟨q, 0, none⟩ = some u) : B.cell? ⟨q, 0, none⟩ = some u := by
  rw [World.cell?_of_block (w := A) h.2]; exact hc
theorem Two.but {p q : Nat} {S : Nat → Prop} {A B : World} (h : But S A B) (hp : p < A.heap.size) (hq : q < A.heap.size) (np : ¬ S p) (nq : ¬ S q) : Two p q A B := ⟨h.block p hp np, h.block q hq nq⟩
/-- Piece k of a row of L bytes that lies in block g. -/
def piece (g L k : Nat) : Value := .slice (some ⟨g, 511 * k, none⟩) (Nat.min 511 (L - 511 * k)) (Nat.min 511 (L - 511 * k))

theorem slice3 (w : World) (g j m L cap : Nat) (hm : 0 < m) (hc : j + m ≤ cap) :
    (Instr.sliceAt 110 (.slice (some ⟨g, 0, none⟩) L cap) (some (.int .i64 j)) (some (.int .i64 ((j : Int) + m))) (some (.int .i64 ((j : Int) + m)))).run Tryz.prog w = .ok (.slice (some ⟨g, j, none⟩) m m) w := by
  have h2 : (j : Int) ≤ j + m := by omega
  have h3 : (j : Int) + m ≤ cap := by omega
  simp [go_sem, h2, h3]
  omega
set_option maxRecDepth 100000 in
set_option maxHeartbeats 2000000 in
theorem chunk1_in (F : Fence) (n : Nat) (hf : F.fn 146) (hro : F.round = none) (hn : 1 ≤ n) (l p q g cap L : Nat) (hL : L ≤ 800000000) (hcap : L ≤ cap) (J Jx : List Nat → World → Prop)
    (hJ : ∀ s W, J s W → J s W.drew)
    (hY : ∀ pre x W, J pre W → pre.length < (L + 510) / 511 → YieldAt F (n - 1) Tryz.prog l #[piece g L x] W fun e W' =>
      (e = .returned (.bool true) ∧ J (pre ++ [x]) W' ∧ Two p q W W') ∨ (e = .returned (.bool false) ∧ Jx (pre ++ [x]) W'))
    (W : World) (h1 : W.cell? ⟨p, 0, none⟩ = some (.slice (some ⟨g, 0, none⟩) L cap)) (h2 : W.cell? ⟨q, 0, none⟩ = some (.int .i64 511)) (h0 : J [] W) :
    CallsIn F n Tryz.prog 146 #[.func (.yield l) #[] #[], .pointer (some ⟨p, 0, none⟩), .pointer (some ⟨q, 0, none⟩)] W fun e W' => (∃ v, e = .returned v) ∧
      ((∃ ys, ys = List.range ((L + 510) / 511) ∧ J ys W') ∨ (∃ pre, True ∧ Jx pre W')) := by
  refine callsIn_of_wp Tryz.func146 rfl hf ?_ hro
  simp only [Tryz.ntmps146, List.size_toArray, List.length_cons, List.length_nil, Nat.reduceAdd, Nat.reduceSub, Array.replicate_succ, Array.replicate_zero, List.push_toArray, List.append_toArray, List.nil_append, List.cons_append]
  gi_wp2
  gi_loopw [4] (fun i wr => ∃ k j : Nat, Hid (k ≤ (L + 510) / 511 ∧ j = 511 * k) ∧ i = .int .i64 (j : Int) ∧ J (List.range k) wr ∧ Hid (Two p q W wr))
    (fun i _ => 900000000 - (Go.RowKit.intOf i).toNat)
  case atStart => exact ⟨0, 0, Lib.hid ⟨Nat.zero_le _, rfl⟩, rfl, h0, Lib.hid ⟨rfl, rfl⟩⟩
  case round =>
    obtain ⟨k, j, hk, rfl, hJs, hT⟩ := hrel
    have c1 := hT.out.cell1 h1
    have c2 := hT.out.cell2 h2
    by_cases hlt : j < L
    · have hI : (j : Int) < L := by omega
      have hI2 : (j : Int) ≤ L := by omega
      have hle : j ≤ L := by omega
      have hne : ¬ cap = j := by omega
      obtain ⟨m, hm⟩ : ∃ m, m = Nat.min 511 (L - j) := ⟨_, rfl⟩
      have HE := Lib.hid (show (if ((L - j : Nat) : Int) < 511 then ((L - j : Nat) : Int) else 511) = (m : Int) by
        rw [hm]
        show _ = ((min 511 (L - j) : Nat) : Int)
        split <;> omega)
      have hM := Lib.hid (show m ≤ 511 ∧ j + m ≤ L ∧ (m = 511 ∨ j + m = L) by
        rw [hm]; show min 511 (L - j) ≤ 511 ∧ j + min 511 (L - j) ≤ L ∧ (min 511 (L - j) = 511 ∨ j + min 511 (L - j) = L); omega)
      obtain ⟨fn, tmps, assign, body, hy, hR⟩ := hY _ k wr.drew (hJ _ _ hJs) (by rw [List.length_range]; have := hk.out; omega)
      unfold piece at hy
      rw [← hk.out.2, ← hm] at hy
      clear hm
      gi_wp2
      gi_region
      all_goals rw [HE.out]
      all_goals clear HE
      all_goals have hmI : (j : Int) + m ≤ 900000000 := by have := hM.out; omega
      all_goals have hsl := slice3 wr.drew g j m L cap (by have := hM.out; omega) (by have := hM.out; omega)
      all_goals gi_wp2
      all_goals (
        refine hR.mono ?_
        rintro e W3 (⟨rfl, hJ3, hk3⟩ | ⟨rfl, hJx3⟩)
        · have hjI : (j : Int) + 511 ≤ 900000000 := by omega
          have d2 := hk3.cell2 (show wr.drew.cell? _ = _ from c2)
          gi_wp2
          go_roundw
          case rel => exact ⟨k + 1, j + 511, Lib.hid (by have := hk.out; omega), by go_num, by rw [List.range_succ]; exact hJ3, Lib.hid (hT.out.trans (Two.trans (B := wr.drew) ⟨rfl, rfl⟩ hk3))⟩
          case measure => simp [Go.RowKit.intOf]; omega
        · gi_wp2
          refine bodyPost_ret (results_none rfl _ _ _) rfl ?_
          exact ⟨⟨_, rfl⟩, .inr ⟨_, trivial, hJx3⟩⟩)
    · have hI : ¬ (j : Int) < L := by omega
      obtain rfl : k = (L + 510) / 511 := by have := hk.out; omega
      gi_wp2
      go_end0
      exact ⟨⟨_, rfl⟩, .inl hJs⟩

set_option maxRecDepth 100000 in
set_option maxHeartbeats 1000000 in
/-- slices.Chunk(row, 511): two boxes; the function value captures them. -/
theorem chunk_in (F : Fence) (n : Nat) (hf : F.fn 135) (hro : F.round = none) (a : Option Addr) (L cap : Nat) (w : World) :
    CallsIn F n Tryz.prog 135 #[.slice a L cap, .int .i64 511] w fun e w' =>
      e = .returned (.func (.func 146) #[] #[.pointer (some ⟨w.heap.size, 0, none⟩), .pointer (some ⟨w.heap.size + 1, 0, none⟩)]) ∧
      w' = (w.alloc (.cells #[.slice a L cap] 110)).alloc (.cells #[.int .i64 511] 3) := by
  refine callsIn_of_wp Tryz.func135 rfl hf ?_ hro
  simp only [Tryz.ntmps135, List.size_toArray, List.length_cons, List.length_nil, Nat.reduceAdd, Nat.reduceSub, Array.replicate_succ, Array.replicate_zero, List.push_toArray, List.append_toArray, List.nil_append, List.cons_append]
  gi_wp2
  go_ret
  exact ⟨rfl, by simp⟩
theorem chunk_stops (F : Fence) (n : Nat) (hf : F.fn 146) (hro : F.round = none) (hn : 1 ≤ n) (p q g cap L : Nat) (hL : L ≤ 800000000) (hcap : L ≤ cap) (w : World) (hp : p < w.heap.size) (hq : q < w.heap.size)
    (h1 : w.cell? ⟨p, 0, none⟩ = some (.slice (some ⟨g, 0, none⟩) L cap)) (h2 : w.cell? ⟨q, 0, none⟩ = some (.int .i64 511)) :
    SeqStopsK F n Tryz.prog 146 #[.pointer (some ⟨p, 0, none⟩), .pointer (some ⟨q, 0, none⟩)] (fun x : Nat => #[piece g L x]) (Two p q) (fun ys => ys = List.range ((L + 510) / 511)) (fun _ => True) ((L + 510) / 511) w := fun l J Jx W hW hJ _ hY h0 =>
  chunk1_in F n hf hro hn l p q g cap L hL hcap J Jx (fun s V hs => hJ s V V.drew none hs ⟨rfl, rfl, rfl, Nat.le_refl _, fun _ _ _ => rfl⟩ (fun _ e => by cases e)) hY W ((hW.cell (p := ⟨p, 0, none⟩) hp).trans h1) ((hW.cell (p := ⟨q, 0, none⟩) hq).trans h2) h0
end Go.Proofs.YtahnhhhhfioibaaGreatDoor
