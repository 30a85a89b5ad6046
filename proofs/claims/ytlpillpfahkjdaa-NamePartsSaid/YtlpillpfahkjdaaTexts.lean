/- Texts, rows of texts, noughts made (no function of the program is named here). -/
import Derived.Test.YtlpillpfahkjdaaKit
import Derived.Deep.QuietTactic
import Derived.Laws.Tables
import Derived.Laws.IdiomStrings
import Derived.Laws.MakeOwn
import Derived.Lib.AppendStr
namespace Go.Proofs.Ytlpillpfahkjdaa
open Go.RowKit

section
variable {α : Type} {K : Elem α} {P : Program} {E T : TypeId} {B : Nat} {w : World} {v : Value} {l : List α}
theorem wpList_app_own (ST : SliceT P T E K.size) {ops : Array Oper} {rest : List Oper} {o : Oper} {a : Act} {Q : Exit → Act → World → Prop} (hgd : o.guard = none) (s x : Operand)
    (ho : o.op = .call { callee := .builtin .append, args := #[s, x], argTypes := #[T, T] })
    (hs : a.eval s = v) (hown : Own K E B w v l) (hB : B ≤ w.heap.size)
    (vx : Value) (Bx : Nat) (ms : List α) (hx : a.eval x = vx) (hownx : Own K E Bx w vx ms) (hlen : l.length + ms.length ≤ 1000000000)
    (h : ∀ v' w', Own K E B w' v' (l ++ ms) → w.grownBy w' v.ownBlock → wpList P ops Q rest (a.put o.dst v') w') : wpList P ops Q (o :: rest) a w :=
  wpList_plain hgd fun _ hK => wp_app_own ST s x ho hs hown hB vx Bx ms hx hownx hlen fun v' w' h1 h2 => hK _ _ (h v' w' h1 h2)
end

theorem But.setRow {S : Nat → Prop} {a w : World} (h : But S a w) (g : Nat) (cs : Array Value) (hp : g < a.heap.size → S g) : But S a (w.setRow g cs) :=
  h.trans (T := fun k => k = g) ⟨rfl, rfl, rfl, by simp, fun k _ hn => setRow_other _ _ _ _ hn⟩ fun i hi e => by subst e; exact hp hi
def bcell (b : UInt8) : Value := .int .u8 (b.toNat : Int)
theorem below_drawn (w : World) (m : Nat) : Below w.heap.size w (w.drewN m) := ⟨rfl, rfl, rfl, Nat.le_refl _, fun _ _ => rfl⟩
def boolOf : Value → Nat | .bool true => 0 | _ => 1
/-- A text of these bytes. -/
def bs (l : List UInt8) : ByteArray := ⟨l.toArray⟩
theorem bs_size (l : List UInt8) : (bs l).size = l.length := by unfold bs; simp [ByteArray.size]
theorem bs_append (l m : List UInt8) : bs l ++ bs m = bs (l ++ m) := by
  apply ByteArray.ext
  apply Array.ext'
  simp [bs]
theorem bs_data (s : ByteArray) : bs s.data.toList = s := rfl
theorem bs_list (l : List UInt8) : (bs l).data.toList = l := rfl
theorem bs_toList (a : List UInt8) : (bs a).toList = a := by
  rw [ByteArray.toList_eq]; rfl
theorem ext_drop (t : ByteArray) (n : Nat) : (t.extract n t.size).data.toList = t.data.toList.drop n := by
  simp_all [Array.toList_extract, List.take_of_length_le, List.length_drop, Array.length_toList]
theorem ext_take (t : ByteArray) (n : Nat) : t.extract 0 n = bs (t.data.toList.take n) := by
  apply ByteArray.ext
  apply Array.ext'
  rw [ByteArray.data_extract, Array.toList_extract, List.extract_eq_take_drop]
  rfl
theorem bs_start (x y : List UInt8) : (bs (x ++ y)).extract 0 (bs x).size = bs x := by
  rw [ext_take, bs_size, bs_list, List.take_left]
theorem flatten_take_succ (C : List (List UInt8)) (k : Nat) (hk : k < C.length) : (C.take (k + 1)).flatten = (C.take k).flatten ++ C[k] := by
  rw [List.take_succ_eq_append_getElem hk, List.flatten_append, List.flatten_singleton]
theorem flatten_take_le (C : List (List UInt8)) (k : Nat) : (C.take k).flatten.length ≤ C.flatten.length := by
  grind [List.take_append_drop, List.flatten_append, List.length_append]
theorem flatten_take_succ' (C : List (List UInt8)) (k : Nat) (hk : k < C.length) : ((C.take (k + 1)).flatten).length = ((C.take k).flatten).length + C[k].length := by
  rw [flatten_take_succ C k hk, List.length_append]
theorem stringST : SliceT Try.prog 35 9 strElem.size := SliceT.of (size := 1) (bytes := 16) (z := .string .empty) Try.underlying35 (by kernel_rfl) rfl (by decide)
/-- v is a row of the call's own, of these texts. -/
abbrev OwnS (B : Nat) (w : World) (v : Value) (l : List (List UInt8)) : Prop := Own strElem 9 B w v (l.map bs)
theorem OwnS.butOwn {B : Nat} {w w' : World} {v : Value} {l : List (List UInt8)} {g : Nat} (h : OwnS B w v l) (hb : But (· = g) w w') (hg : g < B) : OwnS B w' v l :=
  h.but hb (fun g' hg' e => by have := (h.block g' hg').1; omega)
theorem OwnS.below' {B B' : Nat} {w w' : World} {v : Value} {l : List (List UInt8)} (h : OwnS B w v l) (hb : Below B' w w') (hB : w.heap.size ≤ B') : OwnS B w' v l := Own.below h hb hB
theorem lies_new (w : World) (x : ByteArray) : Lies strElem (w.alloc (.cells #[.string x] 9)) w.heap.size 0 [x] :=
  Lies.of_blk (Blk.new w #[.string x] 9) rfl
/-- v reads as the texts l. -/
def Reads (w : World) (v : Value) (l : List (List UInt8)) : Prop :=
  ∃ (a : Option Addr) (cap : Nat), v = .slice a l.length cap ∧ l.length ≤ cap ∧ ∀ i (hi : i < l.length), ∃ g o, a = some ⟨g, o, none⟩ ∧ g < w.heap.size ∧ ∀ j (hj : j < l.length), w.cell? ⟨g, o + j, none⟩ = some (.string (bs l[j]))
theorem OwnS.reads {B : Nat} {w : World} {v : Value} {l : List (List UInt8)} (h : OwnS B w v l) : Reads w v l := by
  obtain ⟨a, cap, e, hc⟩ := Own.slice h
  rw [List.length_map] at e hc
  refine ⟨a, cap, e, hc, fun i hi => ?_⟩
  obtain ⟨g, cap', e', hB, hg, _⟩ := Own.form h (by rw [List.length_map]; omega)
  rw [List.length_map] at e'
  rw [e] at e'
  injection e' with e1 _ e3
  subst e1 e3 e
  refine ⟨g, 0, rfl, hg, fun j hj => ?_⟩
  have hl := Own.lies (show Own strElem 9 B w (.slice (some ⟨g, 0, none⟩) l.length cap) (l.map bs) from h)
  refine hl j _ ?_
  rw [show strElem.cells (l.map bs) = (l.map bs).map (fun s => Value.string s) from oneElem_cells _ _ _]
  simp [hj]
theorem Reads.below {w w' : World} {v : Value} {l : List (List UInt8)} (h : Reads w v l) (hb : Below w.heap.size w w') : Reads w' v l := by
  obtain ⟨a, cap, e, hc, hi⟩ := h
  refine ⟨a, cap, e, hc, fun i hil => ?_⟩
  obtain ⟨g, o, e1, e2, e3⟩ := hi i hil
  exact ⟨g, o, e1, Nat.lt_of_lt_of_le e2 hb.size, fun j hj => (hb.cell (p := ⟨g, o + j, none⟩) e2).trans (e3 j hj)⟩
theorem Reads.cellAt {w : World} {v : Value} {l : List (List UInt8)} (h : Reads w v l) {k : Nat} (hk : k < l.length) :
    ∃ g o cap, v = .slice (some ⟨g, o, none⟩) l.length cap ∧ l.length ≤ cap ∧ g < w.heap.size ∧ ∀ j (hj : j < l.length), w.cell? ⟨g, o + j, none⟩ = some (.string (bs l[j])) := by
  obtain ⟨a, cap, e, hc, hi⟩ := h
  obtain ⟨g, o, rfl, hg, hx⟩ := hi k hk
  exact ⟨g, o, cap, e, hc, hg, hx⟩
/-- l[:k]. -/
theorem Reads.upto {w : World} {g o n cap : Nat} {l : List (List UInt8)} (k : Nat) (hn : n = l.length) (hk : k ≤ n) (hc : n ≤ cap) (hg : g < w.heap.size)
    (hx : ∀ j (hj : j < l.length), w.cell? ⟨g, o + j, none⟩ = some (.string (bs l[j]))) : Reads w (.slice (some ⟨g, o, none⟩) k cap) (l.take k) := by
  subst hn
  refine ⟨_, cap, by rw [List.length_take, Nat.min_eq_left hk], by rw [List.length_take]; omega, fun i _ => ⟨g, o, rfl, hg, fun j hj => ?_⟩⟩
  rw [List.getElem_take]
  exact hx j (by rw [List.length_take] at hj; omega)
theorem info_of {P : Program} {E : TypeId} {size bytes : Nat} {z : Value} (hi : (P.info? E).map (fun i => (i.zero, i.size, i.bytes)) = some (some z, size, bytes)) :
    ∃ i, P.info? E = some i ∧ i.zero = some z ∧ i.size = size ∧ i.bytes = bytes := by
  cases h : P.info? E with
  | none => rw [h] at hi; cases hi
  | some i =>
    rw [h] at hi
    simp only [Option.map_some, Option.some.injEq, Prod.mk.injEq] at hi
    exact ⟨i, rfl, hi.1, hi.2.1, hi.2.2⟩
theorem made_one (v : Value) (n : Nat) : madeCells #[v] n = (List.replicate n v).toArray := by
  apply Array.ext
  · simp [madeCells]
  · intro k h1 h2
    simp [madeCells, Nat.mod_one]
/-- make([]byte, n): so many noughts. -/
theorem make_zeros (w : World) (n : Nat) (hn : n ≤ 1000000) : (Instr.makeSlice 51 (.int .i64 n) (.int .i64 n)).run Try.prog w = .ok (.slice (some ⟨w.heap.size, 0, none⟩) n n) (w.alloc (.cells (List.replicate n (.int .u8 0)).toArray 5)) := by
  obtain ⟨i, hi, hz, hs, hb⟩ := info_of (P := Try.prog) (E := 5) (size := 1) (bytes := 1) (z := .int .u8 0) (by kernel_rfl)
  have := run_make (P := Try.prog) w 51 5 i (.int .u8 0) Try.underlying51 hi hz .i64 .i64 n n (by omega) (by omega) (by rw [hb]; omega) (by omega)
  rw [this, hs, Int.toNat_natCast, Nat.mul_one, show (Value.int IntKind.u8 0).cells = #[.int .u8 0] from rfl, made_one]
/-- string of them. -/
theorem zeros_back (w : World) (n c : Nat) : (convert 51 9 (.slice (some ⟨w.heap.size, 0, none⟩) n c)).run Try.prog (w.alloc (.cells (List.replicate n (.int .u8 0)).toArray 5)) = .ok (.string (bs (List.replicate n 0))) (w.alloc (.cells (List.replicate n (.int .u8 0)).toArray 5)) := by
  have hblk := Blk.new w (List.replicate n (.int .u8 0)).toArray 5
  have := run_convert_bytes_back (P := Try.prog) (w.alloc (.cells (List.replicate n (.int .u8 0)).toArray 5)) 51 9 5 ⟨w.heap.size, 0, none⟩ c (List.replicate n 0) (by kernel_rfl) (by kernel_rfl) (by kernel_rfl) (by
    intro j hj
    rw [show (⟨w.heap.size, 0, none⟩ : Addr).add j = ⟨w.heap.size, j, none⟩ by unfold Addr.add; split <;> simp_all]
    refine hblk.cell ?_
    rw [List.length_replicate] at hj
    rw [List.getElem?_replicate, if_pos hj, List.getElem_replicate]
    rfl)
  rw [List.length_replicate] at this
  exact this
end Go.Proofs.Ytlpillpfahkjdaa
