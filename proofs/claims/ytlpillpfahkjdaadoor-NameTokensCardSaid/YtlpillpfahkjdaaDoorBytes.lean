/- Slices of bytes that a call makes: what they own, as a list of bytes. -/
import Derived.Test.YtlpillpfahkjdaaDoorChecked
import Derived.Test.YtlpillpfahkjdaaDoorHexMath
import Derived.WalkKit
import Derived.WalkSpells
import Derived.WalkLawsBesides
import Derived.Deep.AppendLies
import Derived.Deep.RegionLaw
import Derived.Lib.AppendStr
namespace Go.Proofs.YtlpillpfahkjdaaDoor
open Go.RowKit

/-- A slice's length. -/
def lenOf : Value → Nat | .slice _ n _ => n | _ => 0
theorem ret_int {k : IntKind} {a b : Int} (h : a = b) : Ending.returned (.int k a) = .returned (.int k b) := by rw [h]
theorem ret_eq {a b : Value} (h : a = b) : Ending.returned a = .returned b := by rw [h]
theorem ret_str {a b : ByteArray} (h : a = b) : Ending.returned (.string a) = .returned (.string b) := by rw [h]
theorem info_u8B : (Tryd.prog.info? 5).map (fun i => (i.zero, i.size, i.bytes)) = some (some (.int .u8 0), 1, 1) := by kernel_rfl

/-- v holds the bytes l, in memory of the call's own (from block B on). -/
def OwnB (B : Nat) (w : World) (v : Value) (l : List UInt8) : Prop := w.ownsRow B 5 1 v l.length (Hx.bc l)

theorem OwnB.alloc {B : Nat} {w : World} {v : Value} {l : List UInt8} (h : OwnB B w v l) (o : Obj) : OwnB B (w.alloc o) v l := World.ownsRow.alloc h o
theorem OwnB.drew {B : Nat} {w : World} {v : Value} {l : List UInt8} (h : OwnB B w v l) : OwnB B w.drew v l := World.ownsRow.drew h
theorem OwnB.nil (B : Nat) (w : World) : OwnB B w (.slice none 0 0) [] := World.ownsRow_nil w B _ 1

/-- The two cells of a new block. -/
theorem news_two (w : World) (x y : UInt8) (a b : Int) (t : TypeId) (ha : a = x.toNat) (hb : b = y.toNat) : ∀ j u, (Hx.bc [x, y])[j]? = some u → (w.alloc (.cells #[.int .u8 a, .int .u8 b] t)).drew.cell? ((⟨w.heap.size, 0, none⟩ : Addr).add j) = some u := by
  subst ha hb
  exact World.news_of_block (w := (w.alloc (.cells #[.int .u8 x.toNat, .int .u8 y.toNat] t)).drew) (cs := #[.int .u8 x.toNat, .int .u8 y.toNat]) (t := t) (fr := (0, 0)) (heap_alloc_new w _)
theorem news_one (w : World) (x : UInt8) (a : Int) (t : TypeId) (ha : a = x.toNat) : ∀ j u, (Hx.bc [x])[j]? = some u → (w.alloc (.cells #[.int .u8 a] t)).cell? ((⟨w.heap.size, 0, none⟩ : Addr).add j) = some u := by
  subst ha
  exact World.news_of_block (w := (w.alloc (.cells #[.int .u8 x.toNat] t))) (cs := #[.int .u8 x.toNat]) (t := t) (fr := (0, 0)) (heap_alloc_new w _)

theorem bc_one (l : List UInt8) : ∀ u ∈ Hx.bc l, u.oneCell' = true := by
  intro u hu
  simp only [Hx.bc, List.mem_map] at hu
  obtain ⟨c, _, rfl⟩ := hu
  rfl

/-- append of bytes, as one operation. -/
theorem wp_appB {o : Oper} {a : Act} {w : World} {K : Act → World → Prop} {Q : Exit → Act → World → Prop} (s x : Operand)
    (ho : o.op = .call { callee := .builtin .append, args := #[s, x], argTypes := #[47, 47] })
    (B : Nat) (w0 : World) (v : Value) (l : List UInt8) (hs : a.eval s = v) (hown : OwnB B w v l) (hb : Below B w0 w) (hB : B ≤ w.heap.size)
    (ad : Addr) (m c : Nat) (ms : List UInt8) (hx : a.eval x = .slice (some ad) m c) (hm : ms.length = m) (hnews : ∀ j u, (Hx.bc ms)[j]? = some u → w.cell? (ad.add j) = some u)
    (hlen : l.length + m ≤ 1000000000000)
    (h : ∀ v' w', OwnB B w' v' (l ++ ms) → Below B w0 w' → K (a.put o.dst v') w') : o.wp Tryd.prog a w K Q := by
  obtain ⟨i0, hi, hz0, hz1, hz2⟩ := info_parts info_u8B
  refine wp_append_own w s x 47 ho B 5 i0 (.int .u8 0) 1 1 Tryd.underlying47 hi hz0 hz1 hz2 rfl (by decide) v l.length (Hx.bc l) hs hown ad m c (Hx.bc ms) hx (by rw [Hx.bc_length]; omega) hnews (bc_one _) (by unfold maxLen; omega) (by omega) hB ?_
  intro v' w' hown' hgrow _
  refine h v' w' ?_ (hb.grown hgrow hB fun k hk => (hown.lt k hk).1)
  unfold OwnB
  rw [List.length_append, Hx.bc_append, hm]
  exact hown'

theorem step_app {ops : Array Oper} {o : Oper} {a : Act} {w : World} {K : Act → World → Prop} {Q : Exit → Act → World → Prop} {E : Prop} (hgd : o.guard = none) (s x : Operand)
    (ho : o.op = .call { callee := .builtin .append, args := #[s, x], argTypes := #[47, 47] })
    (B : Nat) (w0 : World) (v : Value) (l : List UInt8) (hs : a.eval s = v) (hown : OwnB B w v l) (hb : Below B w0 w) (hB : B ≤ w.heap.size)
    (ad : Addr) (m c : Nat) (ms : List UInt8) (hx : a.eval x = .slice (some ad) m c) (hm : ms.length = m) (hnews : ∀ j u, (Hx.bc ms)[j]? = some u → w.cell? (ad.add j) = some u)
    (hlen : l.length + m ≤ 1000000000000)
    (h : ∀ v' w', OwnB B w' v' (l ++ ms) → Below B w0 w' → K (a.put o.dst v') w') :
    if Region.wanted o (yielded ops a.tmps) = true then Oper.wp Tryd.prog o a w K Q else E := by
  have hw : Region.wanted o (yielded ops a.tmps) = true := by simp [Region.wanted, hgd]
  rw [if_pos hw]
  exact wp_appB s x ho B w0 v l hs hown hb hB ad m c ms hx hm hnews hlen h

theorem wpList_appB {ops : Array Oper} {rest : List Oper} {o : Oper} {a : Act} {w : World} {Q : Exit → Act → World → Prop} (hgd : o.guard = none) (s x : Operand)
    (ho : o.op = .call { callee := .builtin .append, args := #[s, x], argTypes := #[47, 47] })
    (B : Nat) (w0 : World) (v : Value) (l : List UInt8) (hs : a.eval s = v) (hown : OwnB B w v l) (hb : Below B w0 w) (hB : B ≤ w.heap.size)
    (ad : Addr) (m c : Nat) (ms : List UInt8) (hx : a.eval x = .slice (some ad) m c) (hm : ms.length = m) (hnews : ∀ j u, (Hx.bc ms)[j]? = some u → w.cell? (ad.add j) = some u)
    (hlen : l.length + m ≤ 1000000000000)
    (h : ∀ v' w', OwnB B w' v' (l ++ ms) → Below B w0 w' → wpList Tryd.prog ops Q rest (a.put o.dst v') w') : wpList Tryd.prog ops Q (o :: rest) a w :=
  wpList_plain hgd fun _ hK => wp_appB s x ho B w0 v l hs hown hb hB ad m c ms hx hm hnews hlen fun v' w' h1 h2 => hK _ _ (h v' w' h1 h2)

/-- append of a string's bytes. -/
theorem wpList_appStr {ops : Array Oper} {rest : List Oper} {o : Oper} {a : Act} {w : World} {Q : Exit → Act → World → Prop} (hgd : o.guard = none) (s x : Operand)
    (ho : o.op = .call { callee := .builtin .append, args := #[s, x], argTypes := #[47, 9] })
    (B : Nat) (w0 : World) (v : Value) (l : List UInt8) (hs : a.eval s = v) (hown : OwnB B w v l) (hb : Below B w0 w) (hB : B ≤ w.heap.size)
    (r : ByteArray) (hx : a.eval x = .string r) (hlen : l.length + r.size ≤ 1000000000000)
    (h : ∀ v' w', OwnB B w' v' (l ++ r.data.toList) → Below B w0 w' → wpList Tryd.prog ops Q rest (a.put o.dst v') w') : wpList Tryd.prog ops Q (o :: rest) a w := by
  obtain ⟨i0, hi, hz0, hz1, hz2⟩ := info_parts info_u8B
  refine Lib.wpList_append_own_string _ hgd s x 47 9 ho B 5 i0 Tryd.underlying47 Tryd.underlying9 hi hz0 hz1 hz2 v l.length (Hx.bc l) hs hown r hx (by unfold maxLen; omega) (by omega) hB ?_
  intro v' w' hown' hgrow _
  refine h v' w' ?_ (hb.grown hgrow hB fun k hk => (hown.lt k hk).1)
  have e : r.data.toList.length = r.size := Array.length_toList
  unfold OwnB
  rw [List.length_append, e, Hx.bc_append]
  exact hown'

/-- What a value looks like that holds at least one byte. -/
theorem OwnB.form {B : Nat} {w : World} {v : Value} {l : List UInt8} (h : OwnB B w v l) (hn : 0 < l.length) : ∃ g cap, v = .slice (some ⟨g, 0, none⟩) l.length cap := by
  obtain ⟨g, cap, hv, _⟩ := World.ownsRow.form h hn
  exact ⟨g, cap, hv⟩

theorem OwnB.len {B : Nat} {w : World} {v : Value} {l : List UInt8} (h : OwnB B w v l) : lenOf v = l.length := by
  rcases h.2 with ⟨rfl, h0⟩ | ⟨g, cap, cur, rfl, _⟩
  · exact h0.symm
  · rfl
/-- The four cells of a new block. -/
theorem news_four (w : World) (x y z u : UInt8) (a b c d : Int) (t : TypeId) (ha : a = x.toNat) (hb : b = y.toNat) (hc : c = z.toNat) (hd : d = u.toNat) :
    ∀ j u', (Hx.bc [x, y, z, u])[j]? = some u' → (w.alloc (.cells #[.int .u8 a, .int .u8 b, .int .u8 c, .int .u8 d] t)).cell? ((⟨w.heap.size, 0, none⟩ : Addr).add j) = some u' := by
  subst ha hb hc hd
  exact World.news_of_block (w := (w.alloc (.cells #[.int .u8 x.toNat, .int .u8 y.toNat, .int .u8 z.toNat, .int .u8 u.toNat] t))) (cs := #[.int .u8 x.toNat, .int .u8 y.toNat, .int .u8 z.toNat, .int .u8 u.toNat]) (t := t) (fr := (0, 0)) (heap_alloc_new w _)

/-- make([]byte, 0, n). -/
theorem wpList_mk {ops : Array Oper} {rest : List Oper} {o : Oper} {a : Act} {w : World} {Q : Exit → Act → World → Prop} (hgd : o.guard = none) (s x : Operand)
    (ho : o.op = .makeSlice 47 s x) (B : Nat) (w0 : World) (C : Int) (c : Nat) (hs : a.eval s = .int .i64 0) (hx : a.eval x = .int .i64 C) (hC : C = c) (hc : c ≤ 1000000000000) (hb : Below B w0 w) (hB : B ≤ w.heap.size)
    (h : ∀ v' w', OwnB B w' v' [] → Below B w0 w' → wpList Tryd.prog ops Q rest (a.put o.dst v') w') : wpList Tryd.prog ops Q (o :: rest) a w := by
  obtain ⟨i0, hi, hz0, hz1, hz2⟩ := info_parts info_u8B
  refine wpList_make_own _ hgd s x 47 ho B 5 i0 (.int .u8 0) 1 Tryd.underlying47 hi hz0 hz1 _ _ _ c hs hx hC (by rw [hz2]; omega) (by unfold maxLen; omega) hB ?_
  intro w' hown hgrow
  exact h _ w' hown (hb.grown hgrow hB fun k hk => by cases hk)

/-- string(b). -/
theorem run_str {B : Nat} {w : World} {v : Value} {l : List UInt8} (h : OwnB B w v l) : (convert 47 9 v).run Tryd.prog w = .ok (.string ⟨l.toArray⟩) w := by
  rcases h.2 with ⟨rfl, h0⟩ | ⟨g, cap, cur, rfl, hg, hh, hn, hc, hs, ht⟩
  · obtain rfl : l = [] := List.eq_nil_of_length_eq_zero h0
    rw [run_convert_bytes_nil w _ 5 Tryd.underlying47 Tryd.underlying5 0 0 _ Tryd.underlying9]
    rfl
  · refine run_convert_bytes_back w _ _ 5 _ cap l Tryd.underlying47 Tryd.underlying5 Tryd.underlying9 fun j hj => ?_
    have hu : (Hx.bc l)[j]? = some (.int .u8 (l[j].toNat : Int)) := by simp [Hx.bc, hj]
    exact World.ownsRow.cells h (g := g) rfl j _ hu
/-- string([]byte{x}). -/
theorem run_str_one (w : World) (x : UInt8) (a : Int) (ha : a = x.toNat) :
    (convert 47 9 (.slice (some ⟨w.heap.size, 0, none⟩) 1 1)).run Tryd.prog (w.alloc (.cells #[.int .u8 a] 5)) = .ok (.string ⟨#[x]⟩) (w.alloc (.cells #[.int .u8 a] 5)) :=
  run_convert_bytes_back _ _ _ 5 _ 1 [x] Tryd.underlying47 Tryd.underlying5 Tryd.underlying9 fun j hj => by
    have hu : (Hx.bc [x])[j]? = some (.int .u8 ([x][j].toNat : Int)) := by
      obtain rfl : j = 0 := by simp at hj; omega
      rfl
    exact news_one w x a _ ha j _ hu
end Go.Proofs.YtlpillpfahkjdaaDoor
