/- Variables of contents: stores, loads, slices of them. -/
import Derived.Test.YthkblabpiajbhaaDoorLog
import Derived.Laws.Tables
import Derived.Laws.Rows
namespace Go.Proofs.YthkblabpiajbhaaDoor
open Go.RowKit Lib

abbrev CT : TypeId := 65
def zeros : List UInt8 := List.replicate 512 0
theorem zeros_len : zeros.length = 512 := List.length_replicate
theorem info_CT : (Tryd.prog.info? CT).map (·.size) = some 512 := by kernel_rfl
theorem zero_CT (w : World) : (zeroValue CT).run Tryd.prog w = .ok (ctext zeros) w := by kernel_rfl
theorem ctext_one (l : List UInt8) : (l.map bcell).toArray.all (·.oneCell') = true := by
  rw [Array.all_eq_true_iff_forall_mem]
  intro v hv
  simp only [List.mem_toArray, List.mem_map] at hv
  obtain ⟨b, _, rfl⟩ := hv
  rfl
def CBlk (w : World) (g : Nat) (l : List UInt8) : Prop := Blk w g CT (l.map bcell) ∧ l.length = 512
theorem CBlk.but {S : Nat → Prop} {w w' : World} {g : Nat} {l : List UInt8} (h : CBlk w g l) (hb : But S w w') (hn : ¬ S g) : CBlk w' g l := ⟨h.1.but hb hn, h.2⟩
theorem CBlk.lt {w : World} {g : Nat} {l : List UInt8} (h : CBlk w g l) : g < w.heap.size := h.1.lt
theorem World.grownBy_but {w w' : World} {g : Nat} (h : But (fun k => k = g) w w') : w.grownBy w' (some g) := ⟨h.os, h.tape, h.output, h.size, fun k hk hn => h.block k hk (fun e => hn (by rw [e]))⟩
theorem Below.but {B : Nat} {S : Nat → Prop} {w w' w'' : World} (h : Below B w w') (hb : But S w' w'') (hB : B ≤ w'.heap.size) (hS : ∀ k, k < B → ¬ S k) : Below B w w'' := h.trans (hb.below hB hS)
theorem wpList_storeC {ops : Array Oper} {rest : List Oper} {o : Oper} {a : Act} {w : World} {Q : Exit → Act → World → Prop} (hgd : o.guard = none) (x y : Operand) (ho : o.op = .store CT x y)
    (g : Nat) (c old : List UInt8) (hx : a.eval x = .pointer (some ⟨g, 0, none⟩)) (hy : a.eval y = ctext c) (hc : c.length = 512) (hb : CBlk w g old)
    (h : ∀ w', CBlk w' g c → But (fun k => k = g) w w' → wpList Tryd.prog ops Q rest (a.put o.dst undef) w') : wpList Tryd.prog ops Q (o :: rest) a w := by
  refine wpList_store_row hgd CT x y ho g (c.map bcell).toArray hx hy CT (old.map bcell).toArray hb.1 (by rw [info_CT]; simp [hc]) (by simp [hb.2, hc]) (ctext_one c) ?_
  exact h _ ⟨setRow_heap w g _ _ _ _ hb.1, hc⟩ ((But.refl _ w).setRow g _ (fun _ => rfl))
theorem wpList_loadC {ops : Array Oper} {rest : List Oper} {o : Oper} {a : Act} {w : World} {Q : Exit → Act → World → Prop} (hgd : o.guard = none) (x : Operand) (ho : o.op = .load CT x)
    (g : Nat) (c : List UInt8) (hx : a.eval x = .pointer (some ⟨g, 0, none⟩)) (hb : CBlk w g c)
    (h : wpList Tryd.prog ops Q rest (a.put o.dst (ctext c)) w) : wpList Tryd.prog ops Q (o :: rest) a w :=
  wpList_load_row hgd CT x ho g hx CT (c.map bcell).toArray (0, 0) _ hb.1 Tryd.underlying65 rfl (by rw [info_CT]; simp [hb.2]) h
theorem slice_CT (w : World) (c : Nat) : (Instr.sliceAt CT (.pointer (some ⟨c, 0, none⟩)) none none none).run Tryd.prog w = .ok (.slice (some ⟨c, 0, none⟩) 512 512) w := by
  have e1 : Tryd.prog.arrayLen CT = 512 := by kernel_rfl
  have e2 : Tryd.prog.elem CT = 5 := by kernel_rfl
  have e3 := run_sliceAt_array_all (P := Tryd.prog) w CT ⟨c, 0, none⟩ (by rw [e1, e2]; kernel_rfl)
  rw [e3, e1, e2]
  show ((sizeOf 5).run Tryd.prog w).andThen _ = _
  rw [Tryd.sizeOf5]
  simp [go_sem, Addr.add]
theorem CBlk.back {w : World} {c : Nat} {t : List UInt8} (hb : CBlk w c t) : (convert 22 9 (.slice (some ⟨c, 0, none⟩) 512 512)).run Tryd.prog w = .ok (.string (bs t)) w := by
  have := run_convert_bytes_back (P := Tryd.prog) w 22 9 5 ⟨c, 0, none⟩ 512 t (by kernel_rfl) (by kernel_rfl) (by kernel_rfl) (by
    intro i hi
    rw [addr_add0]
    refine hb.1.cell ?_
    rw [List.getElem?_map, List.getElem?_eq_getElem hi]
    rfl)
  rw [hb.2] at this
  exact this
theorem CBlk.new (w : World) (Z : Array Value) (hZ : Z = (zeros.map bcell).toArray) : CBlk (w.alloc (.cells Z CT)) w.heap.size zeros := by
  subst hZ
  exact ⟨Blk.new w _ _, zeros_len⟩
theorem underMap : Tryd.prog.underlying 52 = some (.map KInt CT) := Tryd.underlying52
theorem underInt : Tryd.prog.underlying KInt = some (.int .i64) := Tryd.underlying3
theorem CMap.look_some {w : World} {b : Nat} {m : Wl.Grp} (h : CMap w b m) {k : Nat} (hk : k ≤ 1000000) {t : List UInt8} (hl : Wl.look k m = some t) : (Instr.lookup 52 (.map (some b)) (.int .i64 k) true).run Tryd.prog w = .ok (.tuple #[ctext t, .bool true]) w ∧ t.length = 512 :=
  IMap.look_some (M := contentE) h underInt underMap (zero_CT w) zeros_len hk hl
theorem CMap.look_none {w : World} {b : Nat} {m : Wl.Grp} (h : CMap w b m) {k : Nat} (hk : k ≤ 1000000) (hl : Wl.look k m = none) : (Instr.lookup 52 (.map (some b)) (.int .i64 k) true).run Tryd.prog w = .ok (.tuple #[ctext zeros, .bool false]) w :=
  IMap.look_none (M := contentE) h underInt underMap (zero_CT w) zeros_len hk hl
theorem CMap.at {w : World} {b : Nat} {m : Wl.Grp} (h : CMap w b m) {k : Nat} (hk : k ≤ 1000000) {t : List UInt8} (hl : Wl.look k m = some t) : (Instr.lookup 52 (.map (some b)) (.int .i64 k) false).run Tryd.prog w = .ok (ctext t) w ∧ t.length = 512 :=
  IMap.at (M := contentE) h underInt underMap (zero_CT w) zeros_len hk hl
theorem wpList_lenC {ops : Array Oper} {rest : List Oper} {o : Oper} {a : Act} {w : World} {Q : Exit → Act → World → Prop} (hgd : o.guard = none) (x : Operand) (ho : o.op = Op.call { callee := Callee.builtin Builtin.len, args := #[x], argTypes := #[52] })
    (b : Nat) (m : Wl.Grp) (hx : a.eval x = .map (some b)) (hb : CMap w b m) (h : wpList Tryd.prog ops Q rest (a.put o.dst (.int .i64 m.length)) w) : wpList Tryd.prog ops Q (o :: rest) a w := by
  refine wpList_len_own _ hgd x 52 ho KInt CT underMap contentE.R b m.length (dat m) hx hb.1 ?_
  rw [dat_size]; exact h
end Go.Proofs.YthkblabpiajbhaaDoor
