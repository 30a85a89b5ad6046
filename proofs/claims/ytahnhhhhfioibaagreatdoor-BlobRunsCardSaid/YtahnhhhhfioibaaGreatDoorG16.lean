/- Elder texts, merged (16). -/
import Derived.Shelf.Strings.BuilderK
import Derived.Test.YtahnhhhhfioibaaGreatDoorChecked
import Derived.Test.YtahnhhhhfioibaaGreatDoorG1
import Derived.Lib.Hide
import Derived.Test.YtahnhhhhfioibaaGreatDoorG15
import Derived.Test.YtahnhhhhfioibaaGreatDoorG11
namespace Go.Proofs.YtahnhhhhfioibaaGreatDoor
open Go.Shelf Go.RowKit
def stringRen : Go.Shelf.Ren := ⟨fun | 169 => 96 | n => n, fun | 70 => 134 | 9 => 9 | 0 => 0 | 72 => 136 | 37 => 110 | 127 => 155 | 3 => 3 | 5 => 5 | n => n, fun | n => n⟩
theorem stringLays : Go.Proofs.Lays.n169 Tryz.prog stringRen := {
  mixed := by kernel_rfl
  f169 := Tryz.func96.trans (congrArg some (by kernel_rfl))
  t0 := Tryz.underlying0
  a0 := Tryz.isAgg0
  z0 := Tryz.sizeOf0
  v0 := Tryz.zeroValue0
  t3 := Tryz.underlying3
  a3 := Tryz.isAgg3
  z3 := Tryz.sizeOf3
  v3 := Tryz.zeroValue3
  t9 := Tryz.underlying9
  a9 := Tryz.isAgg9
  z9 := Tryz.sizeOf9
  v9 := Tryz.zeroValue9
  t37 := Tryz.underlying110
  a37 := Tryz.isAgg110
  z37 := Tryz.sizeOf110
  v37 := Tryz.zeroValue110
  t70 := Tryz.underlying134
  a70 := Tryz.isAgg134
  z70 := Tryz.sizeOf134
  v70 := Tryz.zeroValue134
  t72 := Tryz.underlying136
  a72 := Tryz.isAgg136
  z72 := Tryz.sizeOf136
  v72 := Tryz.zeroValue136
  t127 := Tryz.underlying155
  a127 := Tryz.isAgg155
  z127 := Tryz.sizeOf155
  v127 := Tryz.zeroValue155 }
theorem stringExtra : Builder.Extra Tryz.prog stringRen := {
  sizeBuilder := by kernel_rfl
  liesBuilder := by kernel_rfl
  t5 := Tryz.underlying5
  a5 := Tryz.isAgg5
  z5 := Tryz.sizeOf5
  v5 := Tryz.zeroValue5
  infoByte := by kernel_rfl
  cellsByte := by kernel_rfl
  sizeByte := by kernel_rfl
  neB5 := by decide }
theorem builder_String (B b : Nat) (l : List UInt8) (w : World) (h : Lib.IsBuilderF 136 5 B b (Lib.byteCells l) w) (hBw : B ≤ w.heap.size) :
    Calls Tryz.prog 96 #[.pointer (some ⟨b, 0, none⟩)] w fun e w' => e = .returned (.string ⟨l.toArray⟩) ∧ (Lib.IsBuilderF 136 5 B b (Lib.byteCells l) w' ∧ Below B w w' ∧ Lib.OthersKept 5 (some b) w w') := Any.Builder_String_any_k stringLays stringExtra B b l w h hBw
end Go.Proofs.YtahnhhhhfioibaaGreatDoor

namespace Go.Proofs.YtahnhhhhfioibaaGreatDoor
open Go.RowKit Lib

/-- Block b is a builder that holds l. -/
abbrev Bd (B : Nat) (w : World) (b : Nat) (l : List UInt8) : Prop := Lib.IsBuilderF 136 5 B b (Lib.byteCells l) w
abbrev Oth (b : Nat) (w w' : World) : Prop := Lib.OthersKept 5 (some b) w w'
theorem builder_info : ∃ j, Tryz.prog.info? 136 = some j ∧ j.size = 2 :=
  Option.map_eq_some_iff.1 (show (Tryz.prog.info? 136).map (·.size) = some 2 by kernel_rfl)
set_option maxRecDepth 100000 in
theorem copyCheck_used (b : Nat) (w : World) (h0 : w.cell? ⟨b, 0, none⟩ = some (ptr b)) :
    Calls Tryz.prog 121 #[ptr b] w fun e w' => e = .returned (.tuple #[]) ∧ w' = w := by
  obtain ⟨j, hj, hjs⟩ := builder_info
  unfold ptr at *
  go_enter Tryz.func121, Tryz.ntmps121
  go_wp2
  rw [Lib.run_neq_ptr_same w _ Tryz.underlying134 hj]
  go_wp2
  refine bodyPost_end (results_none rfl _ _ _) rfl ?_
  exact ⟨rfl, rfl⟩
set_option maxRecDepth 100000 in
theorem copyCheck_fresh (b : Nat) (w : World) (h0 : w.cell? ⟨b, 0, none⟩ = some (.pointer none)) (hsh : w.shape? b = some (136, 2)) (hfz : w.frozen? ⟨b, 0, none⟩ = false) :
    Calls Tryz.prog 121 #[ptr b] w fun e w' => e = .returned (.tuple #[]) ∧ w' = w.setCell ⟨b, 0, none⟩ (ptr b) := by
  obtain ⟨j, hj, hjs⟩ := builder_info
  unfold ptr at *
  go_enter Tryz.func121, Tryz.ntmps121
  go_wp2
  rw [Lib.run_to_unsafe w ⟨b, 0, none⟩ Tryz.underlying134 Tryz.underlying177 hj (by rw [hjs]; decide) hsh (Nat.zero_lt_succ 1)]
  simp only [Result.andThen]
  rw [Oper.upon_value]
  go_wp2
  rw [run_callFunc_extern Tryz.func137 (by kernel_rfl) (by kernel_rfl) (by kernel_rfl) (e := Extern.AbiNoEscape.same) (by kernel_rfl), Lib.run_noEscape]
  simp only [Result.andThen]
  rw [Oper.upon_value]
  go_wp2
  rw [Lib.run_from_unsafe w ⟨b, 0, none⟩ Tryz.underlying177 Tryz.underlying134 hj hsh (by kernel_rfl)]
  simp only [Result.andThen]
  rw [Oper.upon_value]
  go_wp2
  refine bodyPost_end (results_none rfl _ _ _) rfl ?_
  exact ⟨rfl, rfl⟩
theorem copyCheck_any {B b : Nat} {l : List UInt8} {w : World} (h : Bd B w b l) :
    Calls Tryz.prog 121 #[ptr b] w fun e w' => e = .returned (.tuple #[]) ∧ Lib.BuilderAtF 136 5 B b (ptr b) (Lib.byteCells l) w' ∧ Below B w w' ∧ Oth b w w' := by
  rcases h with h | h
  · refine (copyCheck_fresh b w h.cell0 h.shape h.frozen0).mono ?_
    rintro e w' ⟨rfl, rfl⟩
    exact ⟨rfl, h.used _, (Below.refl B w).setCell (p := ⟨b, 0, none⟩) h.1 _, (Lib.OthersKept.refl _ _ w).setCell ⟨b, 0, none⟩ rfl _⟩
  · refine (copyCheck_used b w h.cell0).mono ?_
    rintro e w' ⟨rfl, rfl⟩
    exact ⟨rfl, h, Below.refl B _, Lib.OthersKept.refl _ _ _⟩
set_option maxHeartbeats 1000000 in
set_option maxRecDepth 100000 in
theorem writeString_any {B b : Nat} {l : List UInt8} {w : World} (h : Bd B w b l) (s : ByteArray) (hs : l.length + s.size ≤ 1000000) (hB : B ≤ w.heap.size) :
    Calls Tryz.prog 93 #[ptr b, .string s] w fun e w' => e = .returned (.tuple #[.int .i64 s.size, .nilIface]) ∧ Bd B w' b (l ++ s.data.toList) ∧ Below B w w' ∧ Oth b w w' := by
  obtain ⟨i0, hi, hz0, hz1, hz2⟩ := info_of (P := Tryz.prog) (E := 5) (size := 1) (bytes := 1) (z := .int .u8 0) (by kernel_rfl)
  have HC := Lib.hid (copyCheck_any h)
  have HS := Lib.hid (And.intro hs hB)
  have hsI : (s.size : Int) ≤ 1000000 := by omega
  clear h hs hB
  unfold ptr at *
  go_enter Tryz.func93, Tryz.ntmps93
  go_wp2_with fail
  refine HC.out.mono ?_
  rintro e w1 ⟨rfl, ⟨hBb, v, hbk, hown, hne⟩, hb1, hk1⟩
  have c0 : w1.cell? ⟨b, 0, none⟩ = some (.pointer (some ⟨b, 0, none⟩)) := by rw [Lib.cell_of_heap hbk]; rfl
  have c1 : w1.cell? ⟨b, 1, none⟩ = some v := by rw [Lib.cell_of_heap hbk]; rfl
  have hll : (Lib.byteCells l).length = l.length := Lib.byteCells_length _
  go_wp2_with (at_builtin; refine Lib.wpList_append_own_stringF _ rfl _ _ 110 9 rfl B 5 i0 Tryz.underlying110 Tryz.underlying9 hi hz0 hz1 hz2 _ _ _ rfl hown s rfl ?c3 ?c4 ?c5 ?_)
  case c3 => have := HS.out.1; unfold maxLen; omega
  case c4 => have := HS.out.1; omega
  case c5 => have := HS.out.2; have := hb1.size; omega
  intro v' w2 hown' hgrow _
  have hlt : b < w1.heap.size := (Array.getElem?_eq_some_iff.1 hbk).1
  have hb2 : w2.heap[b]? = some (.cells #[.pointer (some ⟨b, 0, none⟩), v] 136 (0, 0)) := by
    rw [hgrow.block b hlt (fun e => hne e.symm)]
    exact hbk
  have d1 : w2.cell? ⟨b, 1, none⟩ = some v := by rw [Lib.cell_of_heap hb2]; rfl
  have f1 : w2.frozen? ⟨b, 1, none⟩ = false := Lib.frozen_of_heap hb2 1
  obtain ⟨ao, n', cap, rfl⟩ : ∃ ao n' cap, v' = .slice ao n' cap := by
    rcases hown'.2 with ⟨hv, _⟩ | ⟨g, cap, cur, fz, hv, _⟩
    · exact ⟨_, _, _, hv⟩
    · exact ⟨_, _, _, hv⟩
  have HE := Lib.hid (show Bd B (w2.setCell ⟨b, 1, none⟩ (.slice ao n' cap)) b (l ++ s.data.toList) ∧ Below B w (w2.setCell ⟨b, 1, none⟩ (.slice ao n' cap)) ∧ Oth b w (w2.setCell ⟨b, 1, none⟩ (.slice ao n' cap)) by
    refine ⟨.inr ?_, ?_, ?_⟩
    · refine Lib.BuilderAtF.put hBb hb2 ?_ (by decide)
      have e : Lib.byteCells (l ++ s.data.toList) = Lib.byteCells l ++ Lib.strCells s := List.map_append
      have el : (Lib.byteCells l ++ Lib.strCells s).length = (Lib.byteCells l).length + s.size := by
        rw [List.length_append]
        congr 1
        show (List.map _ s.data.toList).length = _
        rw [List.length_map]
        exact Array.length_toList
      rw [e, el, hll]
      exact hown'
    · exact (hb1.trans ⟨hgrow.os, hgrow.tape, hgrow.output, hgrow.size, fun k hk => hgrow.block k (by have := HS.out.2; have := hb1.size; omega) (fun e => by have := (hown.lt k e.symm).1; omega)⟩).setCell (p := ⟨b, 1, none⟩) hBb _
    · exact (hk1.grown hgrow (Lib.ownsRowF_kind hown)).setCell ⟨b, 1, none⟩ rfl _)
  clear hown' hgrow hown hk1 hb1
  go_wp2
  go_ret2
  exact ⟨rfl, HE.out⟩
end Go.Proofs.YtahnhhhhfioibaaGreatDoor

namespace Go.Proofs.YtahnhhhhfioibaaGreatDoor
open Go.RowKit Lib

/-! ### Rows of pages. -/
def pgElem : Elem Nat := oneElem (fun n => .int .i64 (n : Int)) (fun _ => rfl)
abbrev OwnPg (B : Nat) (w : World) (v : Value) (l : List Nat) : Prop := Own pgElem 3 B w v l
theorem pgST : SliceT Tryz.prog 40 3 pgElem.size := SliceT.of (size := 1) (bytes := 8) (z := .int .i64 0) Tryz.underlying40 (by kernel_rfl) rfl (by decide)
theorem pg_cells (l : List Nat) : pgElem.cells l = l.map fun n : Nat => Value.int .i64 (n : Int) := oneElem_cells _ _ l
theorem make_pgs (w : World) (n : Nat) (hn : n ≤ 1000000) : (Instr.makeSlice 40 (.int .i64 n) (.int .i64 n)).run Tryz.prog w = .ok (.slice (some ⟨w.heap.size, 0, none⟩) n n) (w.alloc (.cells (List.replicate n (.int .i64 0)).toArray 3)) := by
  obtain ⟨i, hi, hz, hs, hb⟩ := info_of (P := Tryz.prog) (E := 3) (size := 1) (bytes := 8) (z := .int .i64 0) (by kernel_rfl)
  have := run_make (P := Tryz.prog) w 40 3 i (.int .i64 0) Tryz.underlying40 hi hz .i64 .i64 n n (by omega) (by omega) (by rw [hb]; omega) (by omega)
  rw [this, hs, Int.toNat_natCast, Nat.mul_one, show (Value.int IntKind.i64 0).cells = #[.int .i64 0] from rfl, made_one]
theorem OwnPg.of_blk {B : Nat} {w : World} {r n : Nat} {l : List Nat} (hb : Blk w r 3 (l.map fun n : Nat => Value.int .i64 (n : Int))) (hn : l.length = n) (hm : n ≤ 1000000) (hB : B ≤ r) : OwnPg B w (.slice (some ⟨r, 0, none⟩) n n) l := by
  have e := pg_cells l
  refine ⟨by rw [e, List.length_map]; exact (Nat.mul_one _).symm, .inr ⟨r, n, _, by rw [hn], hB, hb, by omega, by unfold maxLen; omega, ?_, ?_⟩⟩
  · rw [List.size_toArray, List.length_map, hn]; exact (Nat.mul_one _).symm
  · rw [e]
    exact List.take_of_length_le (by rw [List.length_map]; exact Nat.le_of_eq (Nat.mul_one _).symm)
theorem OwnPg.cellAt {B : Nat} {w : World} {l : List Nat} {g n cap : Nat} (h : OwnPg B w (.slice (some ⟨g, 0, none⟩) n cap) l) {k : Nat} (hk : k < l.length) : w.cell? ⟨g, k, none⟩ = some (.int .i64 (l[k] : Nat)) := by
  have := Own.lies h k (.int .i64 (l[k] : Nat)) (by rw [pg_cells, List.getElem?_map, List.getElem?_eq_getElem hk]; rfl)
  rwa [Nat.zero_add] at this
theorem OwnPg.set {B : Nat} {w : World} {l : List Nat} {g n cap : Nat} (h : OwnPg B w (.slice (some ⟨g, 0, none⟩) n cap) l) (k x : Nat) : OwnPg B (w.setCell ⟨g, k, none⟩ (.int .i64 (x : Int))) (.slice (some ⟨g, 0, none⟩) n cap) (l.set k x) :=
  Own.store (f := fun n : Nat => .int .i64 (n : Int)) (hf := fun _ => rfl) h k x

/-! ### Rooms. -/
/-- As Did, with up to m puts more. -/
def DidN (m : Nat) (R : Nat → Prop) (ring g N lb tb rb : Nat) (H : List Wl.Text) (ps : List (Nat × List UInt8)) (pg : List (Option Wl.Text)) (rt : List Nat) (X X' : World) : Prop :=
  ∃ ps', ps'.length ≤ ps.length + m ∧ RmI R ring g N lb tb rb H ps' pg rt X' ∧ But (fun k => ¬ R k) X X'
/-- What take leaves. -/
def TakenTo (n : Nat) (R : Nat → Prop) (ring g N lb tb rb : Nat) (H : List Wl.Text) (ps : List (Nat × List UInt8)) (pg : List (Option Wl.Text)) (rt : List Nat) (X : World) (e : Ending) (X' : World) : Prop :=
  ∃ v l pg', e = .returned (.tuple #[v, .int .i64 0]) ∧ OwnPg X.heap.size X' v l ∧ l.length = n ∧ Bl.Took pg l pg' ∧ DidN (2 * n) (fun k => R k ∨ v.ownBlock = some k) ring g N lb tb rb H ps pg' rt X' X' ∧ But (fun k => ¬ R k) X X' ∧ ∀ k, v.ownBlock = some k → X.heap.size ≤ k
namespace Bl
def refused (pg : List (Option Wl.Text)) (n : Nat) : Int := if 131072 < n then 5 else if pg.length < Rm.used pg + need n then 4 else 0
theorem alloc_some {pg : List (Option Wl.Text)} {p : Nat} (h : Rm.firstFree pg = some p) : Rm.alloc pg = (((p : Nat) : Int), 0) ∧ Rm.alloced pg = pg.set p (some (Dk.full [])) := by
  unfold Rm.alloc Rm.alloced
  rw [h]
  exact ⟨rfl, rfl⟩
theorem row_set (l : List Nat) (n p : Nat) (h : l.length < n) : (l ++ List.replicate (n - l.length) 0).set l.length p = (l ++ [p]) ++ List.replicate (n - (l.length + 1)) 0 := by
  rw [List.set_append_right _ _ (Nat.le_refl _), Nat.sub_self]
  obtain ⟨m, hm⟩ : ∃ m, n - l.length = m + 1 := ⟨n - l.length - 1, by omega⟩
  rw [hm, show n - (l.length + 1) = m by omega, List.replicate_succ, List.set_cons_zero, List.append_assoc]
  rfl
theorem wrote_ok {pg : List (Option Wl.Text)} {p : Nat} {t : Wl.Text} (h : (pg.getD p none).isSome = true) (ht : t.length ≤ 512) : Rm.wrote pg p t.length = 0 ∧ Rm.written pg p t = pg.set p (some (Dk.full t)) := by
  have hr : Rm.refuse pg p = 0 := by
    unfold Rm.refuse
    rw [if_pos (by have := isSome_lt h; omega), Int.toNat_natCast, h]
    rfl
  have hw : Rm.wrote pg p t.length = 0 := by unfold Rm.wrote; rw [hr, if_pos rfl, if_neg (by omega)]
  refine ⟨hw, ?_⟩
  unfold Rm.written
  rw [hw, if_pos rfl, Int.toNat_natCast]
theorem drop_cons {l : List Nat} {j : Nat} (h : j < l.length) : l.drop j = l[j] :: l.drop (j + 1) := List.drop_eq_getElem_cons h
end Bl
section
variable {X X' : World} {R R' S : Nat → Prop} {ring g N lb tb rb : Nat} {H H' : List Wl.Text} {ps ps' : List (Nat × List UInt8)} {pg pg' : List (Option Wl.Text)} {rt rt' : List Nat}
set_option maxRecDepth 100000 in
theorem blob_refusal (h : RmI R ring g N lb tb rb H ps pg rt X) (s : ByteArray) (hs : s.size ≤ 1000000) :
    Calls Tryz.prog 59 #[ptr rb, .string s] X fun e X' => e = .returned (.int .i64 (Bl.refused pg s.size)) ∧ Below X.heap.size X X' := by
  have HI := Lib.hid h
  have hsI : (s.size : Int) ≤ 1000000 := by omega
  have hu := Rm.used_le pg
  have hf := h.rep.few
  have hfI : (pg.length : Int) ≤ 4096 := by omega
  have huI : (Rm.used pg : Int) ≤ pg.length := by omega
  have hsn : s.size ≤ 1000000000 := by omega
  obtain ⟨E, hE⟩ : ∃ E, E = Bl.refused pg s.size := ⟨_, rfl⟩
  rw [← hE]
  have HE := Lib.hid hE
  clear h hE
  go_enter Tryz.func59, Tryz.ntmps59
  unfold ptr
  go_wp2_with fail
  refine (room_Used HI.out).mono ?_
  rintro e X1 ⟨rfl, hb1⟩
  have H1 := Lib.hid (HI.out.still hb1)
  by_cases h5 : 131072 < s.size
  · have h5I : (131072 : Int) < s.size := by omega
    have e : Bl.refused pg s.size = 5 := if_pos h5
    have HE2 := Lib.hid (HE.out.trans e)
    clear e h5
    go_wp2
    go_ret
    exact ⟨by rw [HE2.out]; rfl, hb1⟩
  · have h5I : ¬ (131072 : Int) < s.size := by omega
    have e : Bl.refused pg s.size = if pg.length < Rm.used pg + Bl.need s.size then 4 else 0 := if_neg h5
    have hn := Bl.need_le (n := s.size) (by omega)
    have HE2 := Lib.hid (HE.out.trans e)
    clear e h5
    have HP := Lib.hid (blobPages_nat X1 s.size hsn)
    generalize Bl.need s.size = n at *
    have hnI : (n : Int) ≤ 260 := by omega
    go_wp2_with fail
    refine HP.out.mono ?_
    rintro e X2 ⟨rfl, rfl⟩
    go_wp2_with fail
    refine (room_pages H1.out).mono ?_
    rintro e X3 ⟨rfl, rfl⟩
    by_cases h4 : pg.length < Rm.used pg + n
    · have h4I : (pg.length : Int) - Rm.used pg < n := by omega
      have HE3 := Lib.hid (HE2.out.trans (if_pos h4))
      clear h4
      go_wp2
      go_ret
      exact ⟨by rw [HE3.out]; rfl, hb1⟩
    · have h4I : ¬ (pg.length : Int) - Rm.used pg < n := by omega
      have HE3 := Lib.hid (HE2.out.trans (if_neg h4))
      clear h4
      go_wp2
      go_ret
      exact ⟨by rw [HE3.out]; rfl, hb1⟩
set_option maxRecDepth 100000 in
set_option maxHeartbeats 1000000 in
theorem blob_take (h : RmI R ring g N lb tb rb H ps pg rt X) (n : Nat) (hn : Rm.used pg + n ≤ pg.length) (hq : ps.length ≤ 700000) :
    Calls Tryz.prog 60 #[ptr rb, .int .i64 n] X fun e X' => TakenTo n R ring g N lb tb rb H ps pg rt X e X' := by
  have hf := h.rep.few
  have hnI : (n : Int) ≤ 4096 := by omega
  have hmk := make_pgs X n (by omega)
  obtain ⟨Y, hY⟩ : ∃ Y, Y = X.alloc (.cells (List.replicate n (.int .i64 0)).toArray 3) := ⟨_, rfl⟩
  obtain ⟨r, hr⟩ : ∃ r, r = X.heap.size := ⟨_, rfl⟩
  rw [← hY, ← hr] at hmk
  have HN := Lib.hid (And.intro hn hq)
  have hYs : Y.heap.size = r + 1 := by rw [hY, World.size_alloc, hr]
  have hbY : Below X.heap.size X Y := by rw [hY]; exact (Below.refl _ X).alloc (Nat.le_refl _) _
  have HI := Lib.hid (show RmI (fun k => R k ∨ k = r) ring g N lb tb rb H ps pg rt Y ∧ OwnPg r Y (.slice (some ⟨r, 0, none⟩) n n) (List.replicate n 0) ∧ But (fun k => ¬ R k) X Y ∧ rb ≠ r by
    refine ⟨h.turn (But.of_below hbY (fun _ => False)) (fun _ _ h => h.elim) (fun h => h) (fun k hk => hk.imp_right fun e => by rw [e, hYs, hr]; omega) (.inl h.rr), OwnPg.of_blk ?_ List.length_replicate (by omega) (Nat.le_refl _), But.of_below hbY _, ?_⟩
    · rw [hY, hr, List.map_replicate]; exact Blk.new X _ _
    · have := h.blk.lt; omega)
  have HR := Lib.hid hr
  clear h hn hq hf hbY hYs hY hr
  go_enter Tryz.func60, Tryz.ntmps60
  unfold ptr
  go_wp2
  go_loopw [14] (fun i wr => ∃ j : Nat, j ≤ n ∧ i = .int .i64 j ∧ ∃ l qg qs, Hid (l.length = j ∧ Bl.Took pg l qg ∧ qs.length ≤ ps.length + 2 * j) ∧ Hid (RmI (fun k => R k ∨ k = r) ring g N lb tb rb H qs qg rt wr) ∧ Hid (OwnPg r wr (.slice (some ⟨r, 0, none⟩) n n) (l ++ List.replicate (n - j) 0)) ∧ Hid (But (fun k => ¬ R k) X wr)) (fun i _ => n - (Go.RowKit.intOf i).toNat)
  case atStart => exact ⟨0, Nat.zero_le _, rfl, [], pg, ps, Lib.hid ⟨rfl, Bl.Took.nil pg, by omega⟩, Lib.hid HI.out.1, Lib.hid HI.out.2.1, Lib.hid HI.out.2.2.1⟩
  case round =>
    obtain ⟨j, hj, rfl, l, qg, qs, hL, hS, hO, hB⟩ := hrel
    by_cases hlt : j < n
    · have hI : (j : Int) < n := by omega
      obtain ⟨p, hp⟩ := Bl.firstFree_of_used (pg := qg) (by have := hL.out.2.1.used; have := hL.out.2.1.len; have := HN.out.1; have := hL.out.1; omega)
      have HP := Lib.hid (And.intro hp hlt)
      obtain ⟨e1, e2⟩ := Bl.alloc_some hp
      have HE := Lib.hid (And.intro e1 e2)
      clear hp hlt e1 e2 hj
      go_wp2_with fail
      refine (room_Alloc hS.out (by have := HN.out.2; have := hL.out.2.2; have := HP.out.2; omega)).mono ?_
      rintro e w1 ⟨rfl, qs1, hl1, h1, hb1⟩
      rw [HE.out.2] at h1
      rw [HE.out.1]
      have HO1 := Lib.hid (show OwnPg r w1 (.slice (some ⟨r, 0, none⟩) n n) (l ++ List.replicate (n - j) 0) from Own.but hO.out hb1 (fun x hx hn => hn (.inr (by injection hx with hx; exact hx.symm))))
      have hcell := OwnPg.cellAt HO1.out (k := j) (by rw [List.length_append, List.length_replicate]; have := HP.out.2; have := hL.out.1; omega)
      have hfr := Own.frozen HO1.out j
      obtain ⟨W, hW⟩ : ∃ W, W = w1.setCell ⟨r, j, none⟩ (.int .i64 (p : Int)) := ⟨_, rfl⟩
      have HW := Lib.hid (show RmI (fun k => R k ∨ k = r) ring g N lb tb rb H qs1 (qg.set p (some (Dk.full []))) rt W ∧ OwnPg r W (.slice (some ⟨r, 0, none⟩) n n) ((l ++ [p]) ++ List.replicate (n - (j + 1)) 0) ∧ But (fun k => ¬ R k) X W by
        have hbw : But (fun k => k = r) w1 (w1.setCell ⟨r, j, none⟩ (.int .i64 (p : Int))) := (But.refl (fun k => k = r) w1).setCell ⟨r, j, none⟩ _ (fun _ => rfl)
        rw [hW]
        refine ⟨h1.turn hbw (fun k _ e => .inr e) (fun e => HI.out.2.2.2 e) (fun k hk => .inl hk) h1.rr, ?_, ?_⟩
        · have := OwnPg.set HO1.out j p
          have hlj := hL.out.1
          subst hlj
          rwa [Bl.row_set l n p HP.out.2] at this
        · refine (hB.out.trans hb1 (fun k _ hn hr => hn (.inl hr))).trans hbw (fun k hk e hr => ?_)
          have := HR.out
          omega)
      have HWW := Lib.hid hW
      have HL := Lib.hid (show (l ++ [p]).length = j + 1 ∧ Bl.Took pg (l ++ [p]) (qg.set p (some (Dk.full []))) ∧ qs1.length ≤ ps.length + 2 * (j + 1) from ⟨by rw [List.length_append, hL.out.1]; rfl, hL.out.2.1.snoc HP.out.1 _, by have := hL.out.2.2; omega⟩)
      clear h1 hb1 hW hl1
      go_wp2
      rw [← HWW.out]
      go_roundw
      case rel => exact ⟨j + 1, HP.out.2, by go_num, l ++ [p], _, qs1, HL, Lib.hid HW.out.1, Lib.hid HW.out.2.1, Lib.hid HW.out.2.2⟩
      case measure => have := HP.out.2; simp [Go.RowKit.intOf]; omega
    · have hI : ¬ (j : Int) < n := by omega
      have hjn : n - j = 0 := by omega
      have HJ := Lib.hid (show j = n by omega)
      have HO := Lib.hid (show OwnPg X.heap.size wr (.slice (some ⟨r, 0, none⟩) n n) l by
        have := hO.out
        rw [hjn, List.replicate_zero, List.append_nil] at this
        rw [← HR.out]; exact this)
      clear hlt hj hjn
      go_wp2
      go_ret2
      exact ⟨_, l, qg, rfl, HO.out, hL.out.1.trans HJ.out, hL.out.2.1, ⟨qs, by have := hL.out.2.2; have := HJ.out; omega, hS.out.less (fun k hk => hk.imp_right fun e => by injection e with e; exact e.symm) (.inl (hS.out.rr.elim id fun e => absurd e HI.out.2.2.2)), But.refl _ _⟩, hB.out, fun k hk => by have e : some r = some k := hk; injection e with e; have := HR.out; omega⟩
set_option maxRecDepth 100000 in
set_option maxHeartbeats 2000000 in
theorem blob_fill (h : RmI R ring g N lb tb rb H ps pg rt X) {v : Value} {l : List Nat} {B : Nat} (ho : OwnPg B X v l) (hv : ∀ x, v.ownBlock = some x → R x) (s : ByteArray) (hs : s.size ≤ 140000) (hl : 1 ≤ l.length) (hl2 : l.length ≤ 4096) (hin : ∀ p ∈ l, (pg.getD p none).isSome = true) (hq : ps.length + 2 * l.length ≤ 700000) :
    Calls Tryz.prog 61 #[ptr rb, v, .string s] X fun e X' => e = .returned (.int .i64 0) ∧ DidN (2 * l.length) R ring g N lb tb rb H ps (Bl.filled pg 0xb0 l s.data.toList) rt X X' := by
  obtain ⟨gv, cap, rfl, hgv, hgs, hcap⟩ := Own.form ho hl
  have hlI : (l.length : Int) ≤ 4096 := by omega
  obtain ⟨F, hF⟩ : ∃ F, F = Bl.filled pg 0xb0 l s.data.toList := ⟨_, rfl⟩
  rw [← hF]
  have HF := Lib.hid hF
  have HO := Lib.hid ho
  have HI := Lib.hid h
  have HV := Lib.hid (hv gv rfl)
  have HQ := Lib.hid (And.intro hq (And.intro hs hin))
  clear hF ho h hv hq hs hin hcap
  have h176 : ((0xb0 : UInt8).toNat : Int) = 176 := rfl
  have h177 : ((0xb1 : UInt8).toNat : Int) = 177 := rfl
  go_enter Tryz.func61, Tryz.ntmps61
  unfold ptr
  go_wp2
  rw [← h176]
  go_loopw [2, 7, 14] (fun sv kv i wr => ∃ j : Nat, j ≤ l.length ∧ i = .int .i64 j ∧ ∃ (t : ByteArray) (k : UInt8) (qg : List (Option Wl.Text)) (qs : List (Nat × List UInt8)), sv = .string t ∧ kv = .int .u8 (k.toNat : Int) ∧ Hid (t.size ≤ 140000 ∧ qs.length ≤ ps.length + 2 * j ∧ Bl.filled qg k (l.drop j) t.data.toList = F ∧ ∀ p ∈ l.drop j, (qg.getD p none).isSome = true) ∧ Hid (RmI R ring g N lb tb rb H qs qg rt wr) ∧ Hid (But (fun k => ¬ R k) X wr)) (fun _ _ i _ => l.length - (Go.RowKit.intOf i).toNat)
  case atStart => exact ⟨0, Nat.zero_le _, rfl, s, 0xb0, pg, ps, rfl, rfl, Lib.hid ⟨HQ.out.2.1, by omega, HF.out.symm, fun p hp => HQ.out.2.2 p hp⟩, Lib.hid HI.out, Lib.hid (But.refl _ _)⟩
  case round =>
    obtain ⟨j, hj, rfl, t, k, qg, qs, rfl, rfl, hL, hS, hB⟩ := hrel
    by_cases hlt : j < l.length
    · have hI : (j : Int) < l.length := by omega
      have ho2 := Own.but HO.out hB.out (fun x hx hn => hn (by injection hx with hx; exact hx ▸ HV.out))
      have hcell := OwnPg.cellAt ho2 hlt
      have hdr := Bl.drop_cons hlt
      obtain ⟨p, hp⟩ : ∃ p, p = l[j] := ⟨_, rfl⟩
      rw [← hp] at hcell hdr
      have hLL := hL.out
      rw [hdr] at hLL
      have HP := Lib.hid (show j < l.length ∧ qs.length ≤ 700000 ∧ qs.length ≤ ps.length + 2 * j ∧ (qg.getD p none).isSome = true from ⟨hlt, by have := HQ.out.1; omega, hLL.2.1, hLL.2.2.2 p List.mem_cons_self⟩)
      have hrest : ∀ x ∈ l.drop (j + 1), (qg.getD x none).isSome = true := fun x hx => hLL.2.2.2 x (List.mem_cons_of_mem _ hx)
      have hts : t.size ≤ 140000 := hLL.1
      have htI : (t.size : Int) ≤ 140000 := by omega
      by_cases hlt2 : j + 1 < l.length
      · have hI2 : (j : Int) + 1 < l.length := by omega
        have hcell2 := OwnPg.cellAt ho2 hlt2
        obtain ⟨q, hq⟩ : ∃ q, q = l[j + 1] := ⟨_, rfl⟩
        rw [← hq] at hcell2
        have hqh : q = (l.drop (j + 1)).headD 0 := by rw [Bl.drop_cons hlt2, hq]; rfl
        have hq2 : q = (l.drop (j + 1)).headD 0 ∧ q < 65536 ∧ t.size ≤ 200000 := ⟨hqh, by
          have h1 := Bl.isSome_lt (hrest q (by rw [Bl.drop_cons hlt2, hq]; exact List.mem_cons_self))
          have := hS.out.rep.few
          omega, by omega⟩
        have hT : Bl.filled (qg.set p (some (Bl.page k t.data.toList q))) 0xb1 (l.drop (j + 1)) (t.data.toList.drop 506) = F ∧ ∀ x ∈ l.drop (j + 1), (qg.getD x none).isSome = true := ⟨by rw [hqh]; exact hLL.2.2.1, hrest⟩
        clear ho2 hp hq hqh hLL hrest hlt hlt2 hdr hj hts hL
        have HQ := Lib.hid hq2
        have HT := Lib.hid hT
        clear hq2 hT
        go_wp2_with fail
        refine (pageText_any wr k t q HQ.out.2.2 HQ.out.2.1).mono ?_
        rintro e w1 ⟨rfl, hb1⟩
        have H1 := Lib.hid (And.intro (hS.out.still hb1) (hB.out.trans (But.of_below hb1 (fun k => ¬ R k)) (fun _ _ h => h)))
        clear hb1
        go_wp2_with fail
        refine (room_Write H1.out.1 p (bs (Bl.pageText k t.data.toList q)) (by have := HP.out; omega)).mono ?_
        rintro e w2 ⟨rfl, qs2, hl2, h2, hb2⟩
        rw [bs_list, (Bl.wrote_ok HP.out.2.2.2 (by rw [Bl.pageText_length]; omega)).2] at h2
        rw [bs_size, (Bl.wrote_ok HP.out.2.2.2 (by rw [Bl.pageText_length]; omega)).1]
        have H2 := Lib.hid (show RmI R ring g N lb tb rb H qs2 (qg.set p (some (Bl.page k t.data.toList q))) rt w2 ∧ qs2.length ≤ ps.length + 2 * (j + 1) ∧ But (fun k => ¬ R k) X w2 from ⟨h2, by have := HP.out; omega, H1.out.2.trans hb2 (fun _ _ h => h)⟩)
        clear h2 hb2 hl2
        by_cases h5 : 506 < t.size
        · have h5I : (506 : Int) < t.size := by omega
          have h5J : (506 : Int) ≤ t.size := by omega
          have hmn : min (t.size : Int) 506 = 506 := by omega
          obtain ⟨u, hu⟩ : ∃ u, t.extract 506 t.size = u := ⟨_, rfl⟩
          have HU := Lib.hid (show u.data.toList = t.data.toList.drop 506 ∧ u.size ≤ 140000 by
            rw [← hu]
            exact ⟨ext_drop _ _, by rw [ByteArray.size_extract]; have := HQ.out; omega⟩)
          clear h5
          go_wp2_with (refine wp_region_any (by kernel_rfl) ?_; refine Hid.out ?_)
          refine Lib.hid ?_
          try (change wpAny _ _ _ _ _ _ _ (World.drew _))
          refine wpAny_take (i := 0) (v := ?_) (by simp only [List.getElem?_toArray, List.getElem?_cons_zero]; exact rfl) (by kernel_rfl) (by kernel_rfl) (by kernel_rfl) (by exact fun _ _ _ h => h) (Or.inl ⟨by rfl, ?_⟩) ?_
          rotate_left
          · intro w; go_simp; try with_reducible rfl
          refine wpAny_take (i := 1) (v := ?_) (by simp only [List.getElem?_toArray, List.getElem?_cons_succ, List.getElem?_cons_zero]; exact rfl) (by kernel_rfl) (by kernel_rfl) (by kernel_rfl) (by exact fun _ _ _ h => h) (Or.inl ⟨by rfl, ?_⟩) ?_
          rotate_left
          · intro w; go_simp; try with_reducible rfl
          refine wpAny_take (i := 2) (v := ?_) (by simp only [List.getElem?_toArray, List.getElem?_cons_succ, List.getElem?_cons_zero]; exact rfl) (by kernel_rfl) (by kernel_rfl) (by kernel_rfl) (by exact fun _ _ _ h => h) (Or.inl ⟨by rfl, ?_⟩) ?_
          rotate_left
          · intro w; go_simp; try with_reducible rfl
          refine wpAny_take (i := 3) (v := ?_) (by simp only [List.getElem?_toArray, List.getElem?_cons_succ, List.getElem?_cons_zero]; exact rfl) (by kernel_rfl) (by kernel_rfl) (by kernel_rfl) (by exact fun _ _ _ h => h) (Or.inl ⟨by rfl, ?_⟩) ?_
          rotate_left
          · intro w; go_simp; try with_reducible rfl
          refine wpAny_take (i := 4) (v := ?_) (by simp only [List.getElem?_toArray, List.getElem?_cons_succ, List.getElem?_cons_zero]; exact rfl) (by kernel_rfl) (by kernel_rfl) (by kernel_rfl) (by exact fun _ _ _ h => h) (Or.inl ⟨by rfl, ?_⟩) ?_
          rotate_left
          · intro w; go_simp; try with_reducible rfl
          refine wpAny_take (i := 5) (v := ?_) (by simp only [List.getElem?_toArray, List.getElem?_cons_succ, List.getElem?_cons_zero]; exact rfl) (by kernel_rfl) (by kernel_rfl) (by kernel_rfl) (by exact fun _ _ _ h => h) (Or.inl ⟨by rfl, ?_⟩) ?_
          rotate_left
          · intro w; go_simp; try with_reducible rfl
          refine wpAny_take (i := 6) (v := ?_) (by simp only [List.getElem?_toArray, List.getElem?_cons_succ, List.getElem?_cons_zero]; exact rfl) (by kernel_rfl) (by kernel_rfl) (by kernel_rfl) (by exact fun _ _ _ h => h) (Or.inl ⟨by rfl, ?_⟩) ?_
          rotate_left
          · intro w; go_simp; try with_reducible rfl
          simp only [Act.put, List.setIfInBounds_toArray, List.set_cons_succ, List.set_cons_zero]
          refine wpAny_done (by kernel_rfl) ?_ _
          go_wp2
          go_roundw
          case rel =>
            refine ⟨j + 1, HP.out.1, by go_num, u, 0xb1, _, qs2, rfl, rfl, Lib.hid ⟨HU.out.2, H2.out.2.1, ?_, ?_⟩, Lib.hid (H2.out.1.still (Below.refl _ _).drew), Lib.hid H2.out.2.2.drew⟩
            · rw [HU.out.1]; exact HT.out.1
            · exact fun x hx => Bl.set_some (Bl.isSome_lt HP.out.2.2.2) (HT.out.2 x hx)
          case measure => have := HP.out.1; simp [Go.RowKit.intOf]; omega
        · have h5I : ¬ (506 : Int) < t.size := by omega
          have HU := Lib.hid (show ByteArray.empty.data.toList = t.data.toList.drop 506 ∧ ByteArray.empty.size ≤ 140000 from ⟨(List.drop_eq_nil_of_le (by rw [Array.length_toList]; exact Nat.le_of_not_lt h5)).symm, by decide⟩)
          obtain ⟨u, hu⟩ : ∃ u, u = ByteArray.empty := ⟨_, rfl⟩
          rw [← hu] at HU
          have HUU := Lib.hid hu
          clear h5 hu
          go_wp2_with (refine wp_region_any (by kernel_rfl) ?_; refine Hid.out ?_)
          refine Lib.hid ?_
          try (change wpAny _ _ _ _ _ _ _ (World.drew _))
          have h5K : ¬ (506 : Int) < t.size := by omega
          have h5L : (0 : Int) ≤ t.size := by omega
          have hmn : min (t.size : Int) 506 = t.size := by omega
          refine wpAny_take (i := 0) (v := ?_) (by simp only [List.getElem?_toArray, List.getElem?_cons_zero]; exact rfl) (by kernel_rfl) (by kernel_rfl) (by kernel_rfl) (by exact fun _ _ _ h => h) (Or.inl ⟨by rfl, ?_⟩) ?_
          rotate_left
          · intro w; go_simp; try with_reducible rfl
          refine wpAny_take (i := 1) (v := ?_) (by simp only [List.getElem?_toArray, List.getElem?_cons_succ, List.getElem?_cons_zero]; exact rfl) (by kernel_rfl) (by kernel_rfl) (by kernel_rfl) (by exact fun _ _ _ h => h) (Or.inl ⟨by rfl, ?_⟩) ?_
          rotate_left
          · intro w; go_simp; try with_reducible rfl
          refine wpAny_take (i := 2) (v := ?_) (by simp only [List.getElem?_toArray, List.getElem?_cons_succ, List.getElem?_cons_zero]; exact rfl) (by kernel_rfl) (by kernel_rfl) (by kernel_rfl) (by exact fun _ _ _ h => h) (Or.inl ⟨by rfl, ?_⟩) ?_
          rotate_left
          · intro w; go_simp; try with_reducible rfl
          refine wpAny_take (i := 3) (v := ?_) (by simp only [List.getElem?_toArray, List.getElem?_cons_succ, List.getElem?_cons_zero]; exact rfl) (by kernel_rfl) (by kernel_rfl) (by kernel_rfl) (by exact fun _ _ _ h => h) (Or.inl ⟨by rfl, ?_⟩) ?_
          rotate_left
          · intro w; go_simp; try with_reducible rfl
          refine wpAny_take (i := 4) (v := ?_) (by simp only [List.getElem?_toArray, List.getElem?_cons_succ, List.getElem?_cons_zero]; exact rfl) (by kernel_rfl) (by kernel_rfl) (by kernel_rfl) (by exact fun _ _ _ h => h) (Or.inl ⟨by rfl, ?_⟩) ?_
          rotate_left
          · intro w; go_simp; try with_reducible rfl
          refine wpAny_take (i := 5) (v := ?_) (by simp only [List.getElem?_toArray, List.getElem?_cons_succ, List.getElem?_cons_zero]; exact rfl) (by kernel_rfl) (by kernel_rfl) (by kernel_rfl) (by exact fun _ _ _ h => h) (Or.inl ⟨by rfl, ?_⟩) ?_
          rotate_left
          · intro w; go_simp; try with_reducible rfl
          refine wpAny_take (i := 6) (v := ?_) (by simp only [List.getElem?_toArray, List.getElem?_cons_succ, List.getElem?_cons_zero]; exact rfl) (by kernel_rfl) (by kernel_rfl) (by kernel_rfl) (by exact fun _ _ _ h => h) (Or.inl ⟨by rfl, ?_⟩) ?_
          rotate_left
          · intro w; go_simp; try with_reducible rfl
          simp only [Act.put, List.setIfInBounds_toArray, List.set_cons_succ, List.set_cons_zero]
          rw [← HUU.out]
          refine wpAny_done (by kernel_rfl) ?_ _
          go_wp2
          go_roundw
          case rel =>
            refine ⟨j + 1, HP.out.1, by go_num, u, 0xb1, _, qs2, rfl, rfl, Lib.hid ⟨HU.out.2, H2.out.2.1, ?_, ?_⟩, Lib.hid (H2.out.1.still (Below.refl _ _).drew), Lib.hid H2.out.2.2.drew⟩
            · rw [HU.out.1]; exact HT.out.1
            · exact fun x hx => Bl.set_some (Bl.isSome_lt HP.out.2.2.2) (HT.out.2 x hx)
          case measure => have := HP.out.1; simp [Go.RowKit.intOf]; omega
      · have hI2 : ¬ (j : Int) + 1 < l.length := by omega
        obtain ⟨q, hq0⟩ : ∃ q : Nat, q = 0 := ⟨_, rfl⟩
        have hqh : q = (l.drop (j + 1)).headD 0 := by rw [List.drop_eq_nil_of_le (by omega), hq0]; rfl
        have hq2 : q = (l.drop (j + 1)).headD 0 ∧ q < 65536 ∧ t.size ≤ 200000 := ⟨hqh, by omega, by omega⟩
        have hT : Bl.filled (qg.set p (some (Bl.page k t.data.toList q))) 0xb1 (l.drop (j + 1)) (t.data.toList.drop 506) = F ∧ ∀ x ∈ l.drop (j + 1), (qg.getD x none).isSome = true := ⟨by rw [hqh]; exact hLL.2.2.1, hrest⟩
        have hq00 : (0 : Int) = (q : Int) := by omega
        clear ho2 hp hqh hLL hrest hlt hlt2 hdr hj hts hL
        have HQ := Lib.hid hq2
        have HT := Lib.hid hT
        have HQ0 := Lib.hid hq00
        clear hq2 hT hq00 hq0
        go_wp2_with fail
        rw [HQ0.out]
        refine (pageText_any wr k t q HQ.out.2.2 HQ.out.2.1).mono ?_
        rintro e w1 ⟨rfl, hb1⟩
        have H1 := Lib.hid (And.intro (hS.out.still hb1) (hB.out.trans (But.of_below hb1 (fun k => ¬ R k)) (fun _ _ h => h)))
        clear hb1
        go_wp2_with fail
        refine (room_Write H1.out.1 p (bs (Bl.pageText k t.data.toList q)) (by have := HP.out; omega)).mono ?_
        rintro e w2 ⟨rfl, qs2, hl2, h2, hb2⟩
        rw [bs_list, (Bl.wrote_ok HP.out.2.2.2 (by rw [Bl.pageText_length]; omega)).2] at h2
        rw [bs_size, (Bl.wrote_ok HP.out.2.2.2 (by rw [Bl.pageText_length]; omega)).1]
        have H2 := Lib.hid (show RmI R ring g N lb tb rb H qs2 (qg.set p (some (Bl.page k t.data.toList q))) rt w2 ∧ qs2.length ≤ ps.length + 2 * (j + 1) ∧ But (fun k => ¬ R k) X w2 from ⟨h2, by have := HP.out; omega, H1.out.2.trans hb2 (fun _ _ h => h)⟩)
        clear h2 hb2 hl2
        by_cases h5 : 506 < t.size
        · have h5I : (506 : Int) < t.size := by omega
          have h5J : (506 : Int) ≤ t.size := by omega
          have hmn : min (t.size : Int) 506 = 506 := by omega
          obtain ⟨u, hu⟩ : ∃ u, t.extract 506 t.size = u := ⟨_, rfl⟩
          have HU := Lib.hid (show u.data.toList = t.data.toList.drop 506 ∧ u.size ≤ 140000 by
            rw [← hu]
            exact ⟨ext_drop _ _, by rw [ByteArray.size_extract]; have := HQ.out; omega⟩)
          clear h5
          go_wp2_with (refine wp_region_any (by kernel_rfl) ?_; refine Hid.out ?_)
          refine Lib.hid ?_
          try (change wpAny _ _ _ _ _ _ _ (World.drew _))
          refine wpAny_take (i := 0) (v := ?_) (by simp only [List.getElem?_toArray, List.getElem?_cons_zero]; exact rfl) (by kernel_rfl) (by kernel_rfl) (by kernel_rfl) (by exact fun _ _ _ h => h) (Or.inl ⟨by rfl, ?_⟩) ?_
          rotate_left
          · intro w; go_simp; try with_reducible rfl
          refine wpAny_take (i := 1) (v := ?_) (by simp only [List.getElem?_toArray, List.getElem?_cons_succ, List.getElem?_cons_zero]; exact rfl) (by kernel_rfl) (by kernel_rfl) (by kernel_rfl) (by exact fun _ _ _ h => h) (Or.inl ⟨by rfl, ?_⟩) ?_
          rotate_left
          · intro w; go_simp; try with_reducible rfl
          refine wpAny_take (i := 2) (v := ?_) (by simp only [List.getElem?_toArray, List.getElem?_cons_succ, List.getElem?_cons_zero]; exact rfl) (by kernel_rfl) (by kernel_rfl) (by kernel_rfl) (by exact fun _ _ _ h => h) (Or.inl ⟨by rfl, ?_⟩) ?_
          rotate_left
          · intro w; go_simp; try with_reducible rfl
          refine wpAny_take (i := 3) (v := ?_) (by simp only [List.getElem?_toArray, List.getElem?_cons_succ, List.getElem?_cons_zero]; exact rfl) (by kernel_rfl) (by kernel_rfl) (by kernel_rfl) (by exact fun _ _ _ h => h) (Or.inl ⟨by rfl, ?_⟩) ?_
          rotate_left
          · intro w; go_simp; try with_reducible rfl
          refine wpAny_take (i := 4) (v := ?_) (by simp only [List.getElem?_toArray, List.getElem?_cons_succ, List.getElem?_cons_zero]; exact rfl) (by kernel_rfl) (by kernel_rfl) (by kernel_rfl) (by exact fun _ _ _ h => h) (Or.inl ⟨by rfl, ?_⟩) ?_
          rotate_left
          · intro w; go_simp; try with_reducible rfl
          refine wpAny_take (i := 5) (v := ?_) (by simp only [List.getElem?_toArray, List.getElem?_cons_succ, List.getElem?_cons_zero]; exact rfl) (by kernel_rfl) (by kernel_rfl) (by kernel_rfl) (by exact fun _ _ _ h => h) (Or.inl ⟨by rfl, ?_⟩) ?_
          rotate_left
          · intro w; go_simp; try with_reducible rfl
          refine wpAny_take (i := 6) (v := ?_) (by simp only [List.getElem?_toArray, List.getElem?_cons_succ, List.getElem?_cons_zero]; exact rfl) (by kernel_rfl) (by kernel_rfl) (by kernel_rfl) (by exact fun _ _ _ h => h) (Or.inl ⟨by rfl, ?_⟩) ?_
          rotate_left
          · intro w; go_simp; try with_reducible rfl
          simp only [Act.put, List.setIfInBounds_toArray, List.set_cons_succ, List.set_cons_zero]
          refine wpAny_done (by kernel_rfl) ?_ _
          go_wp2
          go_roundw
          case rel =>
            refine ⟨j + 1, HP.out.1, by go_num, u, 0xb1, _, qs2, rfl, rfl, Lib.hid ⟨HU.out.2, H2.out.2.1, ?_, ?_⟩, Lib.hid (H2.out.1.still (Below.refl _ _).drew), Lib.hid H2.out.2.2.drew⟩
            · rw [HU.out.1]; exact HT.out.1
            · exact fun x hx => Bl.set_some (Bl.isSome_lt HP.out.2.2.2) (HT.out.2 x hx)
          case measure => have := HP.out.1; simp [Go.RowKit.intOf]; omega
        · have h5I : ¬ (506 : Int) < t.size := by omega
          have HU := Lib.hid (show ByteArray.empty.data.toList = t.data.toList.drop 506 ∧ ByteArray.empty.size ≤ 140000 from ⟨(List.drop_eq_nil_of_le (by rw [Array.length_toList]; exact Nat.le_of_not_lt h5)).symm, by decide⟩)
          obtain ⟨u, hu⟩ : ∃ u, u = ByteArray.empty := ⟨_, rfl⟩
          rw [← hu] at HU
          have HUU := Lib.hid hu
          clear h5 hu
          go_wp2_with (refine wp_region_any (by kernel_rfl) ?_; refine Hid.out ?_)
          refine Lib.hid ?_
          try (change wpAny _ _ _ _ _ _ _ (World.drew _))
          have h5K : ¬ (506 : Int) < t.size := by omega
          have h5L : (0 : Int) ≤ t.size := by omega
          have hmn : min (t.size : Int) 506 = t.size := by omega
          refine wpAny_take (i := 0) (v := ?_) (by simp only [List.getElem?_toArray, List.getElem?_cons_zero]; exact rfl) (by kernel_rfl) (by kernel_rfl) (by kernel_rfl) (by exact fun _ _ _ h => h) (Or.inl ⟨by rfl, ?_⟩) ?_
          rotate_left
          · intro w; go_simp; try with_reducible rfl
          refine wpAny_take (i := 1) (v := ?_) (by simp only [List.getElem?_toArray, List.getElem?_cons_succ, List.getElem?_cons_zero]; exact rfl) (by kernel_rfl) (by kernel_rfl) (by kernel_rfl) (by exact fun _ _ _ h => h) (Or.inl ⟨by rfl, ?_⟩) ?_
          rotate_left
          · intro w; go_simp; try with_reducible rfl
          refine wpAny_take (i := 2) (v := ?_) (by simp only [List.getElem?_toArray, List.getElem?_cons_succ, List.getElem?_cons_zero]; exact rfl) (by kernel_rfl) (by kernel_rfl) (by kernel_rfl) (by exact fun _ _ _ h => h) (Or.inl ⟨by rfl, ?_⟩) ?_
          rotate_left
          · intro w; go_simp; try with_reducible rfl
          refine wpAny_take (i := 3) (v := ?_) (by simp only [List.getElem?_toArray, List.getElem?_cons_succ, List.getElem?_cons_zero]; exact rfl) (by kernel_rfl) (by kernel_rfl) (by kernel_rfl) (by exact fun _ _ _ h => h) (Or.inl ⟨by rfl, ?_⟩) ?_
          rotate_left
          · intro w; go_simp; try with_reducible rfl
          refine wpAny_take (i := 4) (v := ?_) (by simp only [List.getElem?_toArray, List.getElem?_cons_succ, List.getElem?_cons_zero]; exact rfl) (by kernel_rfl) (by kernel_rfl) (by kernel_rfl) (by exact fun _ _ _ h => h) (Or.inl ⟨by rfl, ?_⟩) ?_
          rotate_left
          · intro w; go_simp; try with_reducible rfl
          refine wpAny_take (i := 5) (v := ?_) (by simp only [List.getElem?_toArray, List.getElem?_cons_succ, List.getElem?_cons_zero]; exact rfl) (by kernel_rfl) (by kernel_rfl) (by kernel_rfl) (by exact fun _ _ _ h => h) (Or.inl ⟨by rfl, ?_⟩) ?_
          rotate_left
          · intro w; go_simp; try with_reducible rfl
          refine wpAny_take (i := 6) (v := ?_) (by simp only [List.getElem?_toArray, List.getElem?_cons_succ, List.getElem?_cons_zero]; exact rfl) (by kernel_rfl) (by kernel_rfl) (by kernel_rfl) (by exact fun _ _ _ h => h) (Or.inl ⟨by rfl, ?_⟩) ?_
          rotate_left
          · intro w; go_simp; try with_reducible rfl
          simp only [Act.put, List.setIfInBounds_toArray, List.set_cons_succ, List.set_cons_zero]
          rw [← HUU.out]
          refine wpAny_done (by kernel_rfl) ?_ _
          go_wp2
          go_roundw
          case rel =>
            refine ⟨j + 1, HP.out.1, by go_num, u, 0xb1, _, qs2, rfl, rfl, Lib.hid ⟨HU.out.2, H2.out.2.1, ?_, ?_⟩, Lib.hid (H2.out.1.still (Below.refl _ _).drew), Lib.hid H2.out.2.2.drew⟩
            · rw [HU.out.1]; exact HT.out.1
            · exact fun x hx => Bl.set_some (Bl.isSome_lt HP.out.2.2.2) (HT.out.2 x hx)
          case measure => have := HP.out.1; simp [Go.RowKit.intOf]; omega
    · have hI : ¬ (j : Int) < l.length := by omega
      have hj2 : j = l.length := by omega
      have hFF : qg = F := by
        have := hL.out.2.2.1
        rw [hj2, List.drop_length] at this
        exact this
      have HE := Lib.hid (show DidN (2 * l.length) R ring g N lb tb rb H ps F rt X wr from ⟨qs, by have := hL.out.2.1; omega, by rw [← hFF]; exact hS.out, hB.out⟩)
      clear hlt hj hj2 hFF
      go_wp2
      go_ret
      exact ⟨rfl, HE.out⟩
/-- What Put leaves. -/
def PutTo (s : ByteArray) (R : Nat → Prop) (ring g N lb tb rb : Nat) (H : List Wl.Text) (ps : List (Nat × List UInt8)) (pg : List (Option Wl.Text)) (rt : List Nat) (X : World) (e : Ending) (X' : World) : Prop :=
  ∃ l pg', e = .returned (.tuple #[.int .i64 (l.headD 0 : Nat), .int .i64 0]) ∧ Bl.Placed pg l s.data.toList pg' ∧ DidN (4 * Bl.need s.size) R ring g N lb tb rb H ps pg' rt X X'
set_option maxRecDepth 100000 in
theorem blob_Put (h : RmI R ring g N lb tb rb H ps pg rt X) (s : ByteArray) (hr : Bl.refused pg s.size = 0) (hq : ps.length ≤ 500000) :
    Calls Tryz.prog 33 #[ptr rb, .string s] X fun e X' => PutTo s R ring g N lb tb rb H ps pg rt X e X' := by
  have hs : s.size ≤ 131072 := by
    unfold Bl.refused at hr
    by_cases hs : 131072 < s.size
    · rw [if_pos hs] at hr; cases hr
    · omega
  have hn : Rm.used pg + Bl.need s.size ≤ pg.length := by
    unfold Bl.refused at hr
    rw [if_neg (by omega)] at hr
    by_cases hn : pg.length < Rm.used pg + Bl.need s.size
    · rw [if_pos hn] at hr; cases hr
    · omega
  have hC := blob_refusal h s (by omega)
  rw [hr] at hC
  have HC := Lib.hid hC
  have HI := Lib.hid h
  have HN := Lib.hid (show Rm.used pg + Bl.need s.size ≤ pg.length ∧ ps.length ≤ 500000 ∧ s.size ≤ 131072 ∧ Bl.need s.size ≤ 260 ∧ 1 ≤ Bl.need s.size from ⟨hn, hq, hs, Bl.need_le (by omega), Bl.need_pos _⟩)
  have hsI : (s.size : Int) ≤ 131072 := by omega
  clear h hC hr hn hs hq
  go_enter Tryz.func33, Tryz.ntmps33
  unfold ptr
  go_wp2_with fail
  refine HC.out.mono ?_
  rintro e X1 ⟨rfl, hb1⟩
  have H1 := Lib.hid (And.intro (HI.out.still hb1) hb1)
  clear hb1
  go_wp2_with fail
  refine (blobPages_nat X1 s.size (by have := HN.out; omega)).mono ?_
  rintro e X2 ⟨rfl, rfl⟩
  go_wp2_with fail
  refine (blob_take H1.out.1 (Bl.need s.size) HN.out.1 (by have := HN.out; omega)).mono ?_
  rintro e X3 ⟨v, l, qg, rfl, ho, hl, ht, ⟨qs, hql, h3, -⟩, hb3, hvn⟩
  obtain ⟨gv, cap, rfl, hgv, hgs, hcap⟩ := Own.form ho (by rw [hl]; exact HN.out.2.2.2.2)
  have hb13 := (But.of_below H1.out.2 (fun k => ¬ R k)).trans hb3 (fun _ _ h => h)
  have H3 := Lib.hid (And.intro h3 (And.intro hb13 (And.intro ho (And.intro hl (And.intro ht hql)))))
  have hlI : (0 : Int) < l.length := by have := HN.out; omega
  clear h3 hb13 hb3 ho hl ht hql hvn hcap
  go_wp2_with fail
  refine (blob_fill H3.out.1 H3.out.2.2.1 (fun x hx => .inr hx) s (by have := HN.out; omega) (by have := HN.out; have := H3.out.2.2.2.1; omega) (by have := HN.out; have := H3.out.2.2.2.1; omega) H3.out.2.2.2.2.1.now (by have := HN.out; have := H3.out.2.2.2.1; have := H3.out.2.2.2.2.2; omega)).mono ?_
  rintro e X4 ⟨rfl, ps4, hl4, h4, hb4⟩
  have ho4 := Own.but H3.out.2.2.1 hb4 (fun x hx hn => hn (.inr hx))
  have hcell := OwnPg.cellAt ho4 (k := 0) (by omega)
  have HE := Lib.hid (show PutTo s R ring g N lb tb rb H ps pg rt X (.returned (.tuple #[.int .i64 (l.headD 0 : Nat), .int .i64 0])) X4 by
    refine ⟨l, _, rfl, H3.out.2.2.2.2.1.placed (by rw [H3.out.2.2.2.1, show s.data.toList.length = s.size from Array.length_toList]), ps4, ?_, h4.less (fun k hk => .inl hk) HI.out.rr, H3.out.2.1.trans hb4 (fun k _ hn hr => hn (.inl hr))⟩
    have := H3.out.2.2.2.1
    have := H3.out.2.2.2.2.2
    omega)
  have hhd : l[0]'(by omega) = l.headD 0 := by cases l with
    | nil => simp at hlI
    | cons a l => rfl
  rw [hhd] at hcell
  generalize l.headD 0 = p at *
  clear h4 hb4 ho4 hl4 hhd
  go_wp2
  go_ret2
  exact HE.out
theorem blob_Put_no (h : RmI R ring g N lb tb rb H ps pg rt X) (s : ByteArray) (hr : Bl.refused pg s.size ≠ 0) (hs : s.size ≤ 1000000) :
    Calls Tryz.prog 33 #[ptr rb, .string s] X fun e X' => e = .returned (.tuple #[.int .i64 0, .int .i64 (Bl.refused pg s.size)]) ∧ Below X.heap.size X X' := by
  have HC := Lib.hid (blob_refusal h s hs)
  generalize Bl.refused pg s.size = E at *
  clear h
  go_enter Tryz.func33, Tryz.ntmps33
  unfold ptr
  go_wp2_with fail
  refine HC.out.mono ?_
  rintro e X1 ⟨rfl, hb1⟩
  go_wp2
  go_ret2
  exact ⟨rfl, hb1⟩
end
end Go.Proofs.YtahnhhhhfioibaaGreatDoor
