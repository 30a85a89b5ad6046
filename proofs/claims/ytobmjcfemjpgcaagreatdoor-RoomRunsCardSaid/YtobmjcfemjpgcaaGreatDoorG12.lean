/- Elder texts, merged (12). -/
import Derived.Test.YtobmjcfemjpgcaaGreatDoorG11
namespace Go.Proofs.YtobmjcfemjpgcaaGreatDoor
open Go.RowKit Lib

set_option maxRecDepth 100000 in
set_option maxHeartbeats 4000000 in
theorem refPages_any (w : World) (n : Int) (hr : -9223372036854775808 ≤ n ∧ n ≤ 9223372036854775807) :
    Calls Tryz.prog 45 #[.int .i64 n] w fun e w' => e = .returned (.int .i64 (Rm.pages n : Nat)) ∧ w' = w := by
  obtain ⟨M, hM⟩ : ∃ M, M = min n 1048576 := ⟨_, rfl⟩
  have HI := Lib.hid (show Rm.IsPages M (Rm.pages n) by rw [hM]; exact Rm.pages_is n)
  have hb : M ≤ 1048576 := by omega
  have HM := Lib.hid hM
  clear hM
  go_enter Tryz.func45, Tryz.ntmps45
  go_wp2
  rw [← HM.out]
  go_loop [3] (fun p => ∃ k : Nat, p = .int .i64 k ∧ (k = 0 ∨ (Rm.cost k : Int) ≤ M)) (fun p => 1048577 - (intOf p).toNat)
  case atStart => exact ⟨0, rfl, .inl rfl⟩
  case round =>
    obtain ⟨k, rfl, hk⟩ := hrel
    have hkI : (k : Int) ≤ 1048576 := by unfold Rm.cost at hk; omega
    have hd : ((k : Int) + 1 + 4095).tdiv 4096 = ((k + 1 + 4095) / 4096 : Nat) := by rw [Int.tdiv_eq_ediv_of_nonneg (by omega)]; omega
    obtain ⟨q, hq⟩ : ∃ q, q = (k + 1 + 4095) / 4096 := ⟨_, rfl⟩
    have hqI : (q : Int) ≤ 300 := by omega
    rw [← hq] at hd
    have HC := Lib.hid (show Rm.cost (k + 1) = 1 + (k + 1) + q by unfold Rm.cost; rw [hq])
    have HK := Lib.hid hk
    clear hq hk
    by_cases hle : 1 + (k : Int) + 1 + q ≤ M
    · have HLe := Lib.hid hle
      go_wp2
      clear hd hqI hle
      go_loop [4] (fun s => ∃ j : Nat, s = .int .i64 j ∧ 1 ≤ j ∧ (Rm.cost (k + j) : Int) ≤ M) (fun s => 1048577 - (intOf s).toNat)
      case atStart => exact ⟨1, rfl, Nat.le_refl _, by have := HC.out; have := HLe.out; omega⟩
      case round =>
        obtain ⟨j, rfl, hj1, hj⟩ := hrel
        have hjI : (k : Int) + j ≤ 1048576 := by unfold Rm.cost at hj; omega
        have hj0 : (1 : Int) ≤ j := by omega
        have hd : ((k : Int) + 2 * j + 4095).tdiv 4096 = ((k + 2 * j + 4095) / 4096 : Nat) := by rw [Int.tdiv_eq_ediv_of_nonneg (by omega)]; omega
        obtain ⟨u, hu⟩ : ∃ u, u = (k + 2 * j + 4095) / 4096 := ⟨_, rfl⟩
        have huI : (u : Int) ≤ 600 := by omega
        rw [← hu] at hd
        have HC2 := Lib.hid (show Rm.cost (k + 2 * j) = 1 + (k + 2 * j) + u by unfold Rm.cost; rw [hu])
        have HJ := Lib.hid (And.intro hj1 hj)
        clear hu hj1 hj
        by_cases hle : 1 + (k : Int) + 2 * j + u ≤ M
        · have HL2 := Lib.hid hle
          go_wp2
          go_round
          case rel => exact ⟨2 * j, by go_num, by have := HJ.out; omega, by have := HC2.out; have := HL2.out; omega⟩
          case measure => have := HJ.out; simp [intOf]; omega
        · go_wp2
          go_round
          case rel => exact ⟨k + j, by go_num, .inr HJ.out.2⟩
          case measure => have := HJ.out; simp [intOf]; omega
    · have HE := Lib.hid (show Rm.pages n = k from Rm.isPages_one HI.out ⟨HK.out, by have := HC.out; omega⟩)
      go_wp2
      go_ret
      exact ⟨by rw [HE.out]; rfl, rfl⟩
end Go.Proofs.YtobmjcfemjpgcaaGreatDoor

namespace Go.Proofs.YtobmjcfemjpgcaaGreatDoor
open Go.RowKit Lib

def pageElem : Elem (Option Wl.Text) := ⟨fun o => [.bool o.isSome, .string (bs (o.getD []))], 2, by decide, fun _ => rfl, by
  intro a u hu
  simp only [List.mem_cons, List.not_mem_nil, or_false] at hu
  rcases hu with rfl | rfl <;> rfl⟩
def u64Elem : Elem Nat := oneElem (fun n => .int .u64 n) (fun _ => rfl)
theorem pageST : SliceT Tryz.prog 80 120 pageElem.size := SliceT.of (size := 2) (bytes := 24) (z := .agg #[.bool false, .string .empty]) Tryz.underlying80 (by kernel_rfl) rfl (by decide)
theorem u64ST : SliceT Tryz.prog 81 65 u64Elem.size := SliceT.of (size := 1) (bytes := 8) (z := .int .u64 0) Tryz.underlying81 (by kernel_rfl) rfl (by decide)
abbrev OwnPg (B : Nat) (w : World) (v : Value) (l : List (Option Wl.Text)) : Prop := Own pageElem 120 B w v l
abbrev OwnW (B : Nat) (w : World) (v : Value) (l : List Nat) : Prop := Own u64Elem 65 B w v l
theorem OwnPg.at {B : Nat} {w : World} {o n co : Nat} {ws : List (Option Wl.Text)} (h : OwnPg B w (.slice (some ⟨o, 0, none⟩) n co) ws) (k : Nat) (hk : k < ws.length) :
    w.cell? ⟨o, k * 2, none⟩ = some (.bool (ws[k]).isSome) ∧ w.cell? ⟨o, k * 2 + 1, none⟩ = some (.string (bs ((ws[k]).getD []))) := by
  have h0 := (Own.lies h).at k 0 (by decide) hk _ rfl
  have h1 := (Own.lies h).at k 1 (by decide) hk _ rfl
  rw [Nat.zero_add] at h0 h1
  exact ⟨h0, h1⟩
/-- In block q there is the reference's room; all its blocks are of F. -/
structure R7 (w : World) (F : Nat → Prop) (q : Nat) (va vr : Value) (pg : List (Option Wl.Text)) (rt : List Nat) : Prop where
  blk : Blk w q 83 [va, vr]
  op : OwnPg 0 w va pg
  on : OwnW 0 w vr rt
  fq : F q
  fp : ∀ k, va.ownBlock = some k → F k
  fn : ∀ k, vr.ownBlock = some k → F k
  lt : ∀ k, F k → k < w.heap.size
  pos : 1 ≤ pg.length
  few : pg.length ≤ 4096
section
variable {w w1 : World} {F S : Nat → Prop} {q : Nat} {va vr : Value} {pg : List (Option Wl.Text)} {rt : List Nat}
theorem R7.but (h : R7 w F q va vr pg rt) (hb : But S w w1) (hn : ∀ k, F k → ¬ S k) : R7 w1 F q va vr pg rt :=
  ⟨h.blk.but hb (hn q h.fq), Own.but h.op hb (fun k hk => hn k (h.fp k hk)), Own.but h.on hb (fun k hk => hn k (h.fn k hk)), h.fq, h.fp, h.fn, fun k hk => Nat.lt_of_lt_of_le (h.lt k hk) hb.size, h.pos, h.few⟩
theorem R7.still (h : R7 w F q va vr pg rt) (hb : Below w.heap.size w w1) : R7 w1 F q va vr pg rt := h.but (But.of_below hb (fun _ => False)) (fun _ _ h => h)
theorem R7.c0 (h : R7 w F q va vr pg rt) : w.cell? ⟨q, 0, none⟩ = some va := h.blk.cell rfl
theorem R7.c1 (h : R7 w F q va vr pg rt) : w.cell? ⟨q, 1, none⟩ = some vr := h.blk.cell rfl
theorem R7.form (h : R7 w F q va vr pg rt) : ∃ a ca, va = .slice (some ⟨a, 0, none⟩) pg.length ca ∧ a < w.heap.size ∧ pg.length ≤ ca := by
  obtain ⟨a, ca, e, _, h2, h3⟩ := Own.form h.op (by have := h.pos; omega)
  exact ⟨a, ca, e, h2, h3⟩
theorem ref7_at (h : R7 w F q va vr pg rt) (i : Int) :
    Calls Tryz.prog 72 #[ptr q, .int .i64 i] w fun e w' => e = .returned (.int .i64 (Rm.refuse pg i)) ∧ w' = w := by
  have c0 := h.c0
  obtain ⟨a, ca, rfl, _, _⟩ := h.form
  rcases Rm.at_any pg i with ⟨ho, hr, hg, hh, hn⟩ | ⟨p, rfl, hp, hs, hr, hg, hh, hn⟩ | ⟨p, t, rfl, hp, hs, hr, hg, hh, hn⟩
  · rw [hr]
    clear hr hg hh hn h
    by_cases h1 : i < 0
    · go_enter Tryz.func72, Tryz.ntmps72
      unfold ptr
      go_wp2
      go_ret
      exact ⟨rfl, rfl⟩
    · have h2 : (pg.length : Int) ≤ i := ho.resolve_left h1
      go_enter Tryz.func72, Tryz.ntmps72
      unfold ptr
      go_wp2
      go_ret
      exact ⟨rfl, rfl⟩
  · rw [hr]
    have e1 := (OwnPg.at h.op p hp).1
    rw [show (pg[p]).isSome = false by rw [List.getD_eq_getElem?_getD, List.getElem?_eq_getElem hp, Option.getD_some] at hs; rw [hs]; rfl] at e1
    have h1 : ¬ (p : Int) < 0 := by omega
    have h2 : (p : Int) < pg.length := by omega
    clear hr hg hh hn h hs hp
    go_enter Tryz.func72, Tryz.ntmps72
    unfold ptr
    go_wp2
    go_ret
    exact ⟨rfl, rfl⟩
  · rw [hr]
    have e1 := (OwnPg.at h.op p hp).1
    rw [show (pg[p]).isSome = true by rw [List.getD_eq_getElem?_getD, List.getElem?_eq_getElem hp, Option.getD_some] at hs; rw [hs]; rfl] at e1
    have h1 : ¬ (p : Int) < 0 := by omega
    have h2 : (p : Int) < pg.length := by omega
    clear hr hg hh hn h hs hp
    go_enter Tryz.func72, Tryz.ntmps72
    unfold ptr
    go_wp2
    go_ret
    exact ⟨rfl, rfl⟩
theorem ref7_has (h : R7 w F q va vr pg rt) (i : Int) :
    Calls Tryz.prog 40 #[ptr q, .int .i64 i] w fun e w' => e = .returned (.tuple #[.bool (Rm.has pg i), .int .i64 (Rm.hasNo pg i)]) ∧ w' = w := by
  have c0 := h.c0
  obtain ⟨a, ca, rfl, _, _⟩ := h.form
  rcases Rm.at_any pg i with ⟨ho, hr, hg, hh, hn⟩ | ⟨p, rfl, hp, hs, hr, hg, hh, hn⟩ | ⟨p, t, rfl, hp, hs, hr, hg, hh, hn⟩
  · rw [hh, hn]
    clear hr hg hh hn h
    by_cases h1 : i < 0
    · go_enter Tryz.func40, Tryz.ntmps40
      unfold ptr
      go_wp2
      go_ret2
      exact ⟨rfl, rfl⟩
    · have h2 : (pg.length : Int) ≤ i := ho.resolve_left h1
      go_enter Tryz.func40, Tryz.ntmps40
      unfold ptr
      go_wp2
      go_ret2
      exact ⟨rfl, rfl⟩
  · rw [hh, hn]
    have e1 := (OwnPg.at h.op p hp).1
    rw [show (pg[p]).isSome = false by rw [List.getD_eq_getElem?_getD, List.getElem?_eq_getElem hp, Option.getD_some] at hs; rw [hs]; rfl] at e1
    have h1 : ¬ (p : Int) < 0 := by omega
    have h2 : (p : Int) < pg.length := by omega
    clear hr hg hh hn h hs hp
    go_enter Tryz.func40, Tryz.ntmps40
    unfold ptr
    go_wp2
    go_ret2
    exact ⟨rfl, rfl⟩
  · rw [hh, hn]
    have e1 := (OwnPg.at h.op p hp).1
    rw [show (pg[p]).isSome = true by rw [List.getD_eq_getElem?_getD, List.getElem?_eq_getElem hp, Option.getD_some] at hs; rw [hs]; rfl] at e1
    have h1 : ¬ (p : Int) < 0 := by omega
    have h2 : (p : Int) < pg.length := by omega
    clear hr hg hh hn h hs hp
    go_enter Tryz.func40, Tryz.ntmps40
    unfold ptr
    go_wp2
    go_ret2
    exact ⟨rfl, rfl⟩
theorem ref7_read (h : R7 w F q va vr pg rt) (i : Int) :
    Calls Tryz.prog 38 #[ptr q, .int .i64 i] w fun e w' => e = .returned (.tuple #[.string (bs (Rm.got pg i)), .int .i64 (Rm.refuse pg i)]) ∧ w' = w := by
  have c0 := h.c0
  have HC := Lib.hid (ref7_at h i)
  obtain ⟨a, ca, rfl, _, _⟩ := h.form
  rcases Rm.at_any pg i with ⟨ho, hr, hg, hh, hn⟩ | ⟨p, rfl, hp, hs, hr, hg, hh, hn⟩ | ⟨p, t, rfl, hp, hs, hr, hg, hh, hn⟩
  · rw [hg, hr]
    have HR := Lib.hid hr
    clear hr hg hh hn h ho
    go_enter Tryz.func38, Tryz.ntmps38
    unfold ptr
    go_wp2_with fail
    refine HC.out.mono ?_
    rintro e w1 ⟨rfl, rfl⟩
    rw [HR.out]
    go_wp2
    go_ret2
    exact ⟨rfl, rfl⟩
  · rw [hg, hr]
    have HR := Lib.hid hr
    clear hr hg hh hn h hp hs
    go_enter Tryz.func38, Tryz.ntmps38
    unfold ptr
    go_wp2_with fail
    refine HC.out.mono ?_
    rintro e w1 ⟨rfl, rfl⟩
    rw [HR.out]
    go_wp2
    go_ret2
    exact ⟨rfl, rfl⟩
  · rw [hg, hr]
    have HR := Lib.hid hr
    have e1 := (OwnPg.at h.op p hp).2
    rw [show (pg[p]).getD [] = t by rw [List.getD_eq_getElem?_getD, List.getElem?_eq_getElem hp, Option.getD_some] at hs; rw [hs]; rfl] at e1
    have h1 : ¬ (p : Int) < 0 := by omega
    have h2 : (p : Int) < pg.length := by omega
    clear hr hg hh hn h hp hs
    go_enter Tryz.func38, Tryz.ntmps38
    unfold ptr
    go_wp2_with fail
    refine HC.out.mono ?_
    rintro e w1 ⟨rfl, rfl⟩
    rw [HR.out]
    go_wp2
    go_ret2
    exact ⟨rfl, rfl⟩
theorem used_take {pg : List (Option Wl.Text)} {k : Nat} (hk : k < pg.length) : Rm.used (pg.take (k + 1)) = Rm.used (pg.take k) + (pg[k]).isSome.toNat := by
  unfold Rm.used
  rw [List.take_succ_eq_append_getElem hk, List.filter_append, List.length_append, List.filter_cons, List.filter_nil]
  cases (pg[k]).isSome <;> rfl
set_option maxHeartbeats 1000000 in
theorem ref7_used (h : R7 w F q va vr pg rt) :
    Calls Tryz.prog 80 #[ptr q] w fun e w' => e = .returned (.int .i64 (Rm.used pg : Nat)) ∧ w' = w := by
  have c0 := h.c0
  have HO := Lib.hid h.op
  have HF := Lib.hid h.few
  have hfI : (pg.length : Int) ≤ 4096 := by have := h.few; omega
  obtain ⟨a, ca, rfl, _, _⟩ := h.form
  clear h
  go_enter Tryz.func80, Tryz.ntmps80
  unfold ptr
  go_wp2
  go_loop [3, 4] (fun c i => ∃ k : Nat, k ≤ pg.length ∧ i = .int .i64 k ∧ c = .int .i64 (Rm.used (pg.take k) : Nat)) (fun _ i => pg.length - (intOf i).toNat)
  case atStart => exact ⟨0, Nat.zero_le _, rfl, rfl⟩
  case round =>
    obtain ⟨k, hk, rfl, rfl⟩ := hrel
    by_cases hlt : k < pg.length
    · have hI : (k : Int) < pg.length := by omega
      have hst := Lib.hid (used_take hlt)
      have hu := Rm.used_le (pg.take k)
      rw [List.length_take] at hu
      have huI : (Rm.used (pg.take k) : Int) ≤ 4096 := by omega
      have e1 := (OwnPg.at HO.out k hlt).1
      have HL := Lib.hid hlt
      generalize Rm.used (pg.take k) = u at *
      obtain ⟨b, hb⟩ : ∃ b, b = (pg[k]'hlt).isSome := ⟨_, rfl⟩
      rw [← hb] at e1 hst
      clear hu hb hlt hk
      cases b with
      | true =>
        go_wp2
        go_round
        case rel => exact ⟨k + 1, HL.out, by go_num, by rw [hst.out]; go_num⟩
        case measure => have := HL.out; simp [intOf]; omega
      | false =>
        go_wp2
        go_round
        case rel => exact ⟨k + 1, HL.out, by go_num, by rw [hst.out]; rfl⟩
        case measure => have := HL.out; simp [intOf]; omega
    · obtain rfl : k = pg.length := by omega
      rw [List.take_length]
      go_wp2
      go_ret
      exact ⟨rfl, rfl⟩
end
end Go.Proofs.YtobmjcfemjpgcaaGreatDoor

namespace Go.Proofs.YtobmjcfemjpgcaaGreatDoor
open Go.RowKit Lib

theorem page_cells (x : Option Wl.Text) : ∀ (l : List (Option Wl.Text)) (p : Nat), pageElem.cells (l.set p x) = ((pageElem.cells l).set (p * 2) (.bool x.isSome)).set (p * 2 + 1) (.string (bs (x.getD [])))
  | [], p => by simp [pageElem, Elem.cells]
  | a :: l, 0 => by simp [pageElem, Elem.cells]
  | a :: l, p + 1 => by
    have ih := page_cells x l p
    rw [List.set_cons_succ, Elem.cells_cons, ih, Elem.cells_cons]
    show [_, _] ++ _ = (([_, _] ++ _).set _ _).set _ _
    rw [show (p + 1) * 2 = p * 2 + 1 + 1 by omega]
    rfl
theorem OwnPg.get {B : Nat} {w : World} {o n co : Nat} {ws : List (Option Wl.Text)} (h : OwnPg B w (.slice (some ⟨o, 0, none⟩) n co) ws) (k : Nat) (hk : k < ws.length) :
    w.cell? ⟨o, k * 2, none⟩ = some (.bool (ws.getD k none).isSome) ∧ w.cell? ⟨o, k * 2 + 1, none⟩ = some (.string (bs ((ws.getD k none).getD []))) := by
  rw [List.getD_eq_getElem?_getD, List.getElem?_eq_getElem hk, Option.getD_some]
  exact OwnPg.at h k hk
section
variable {w w1 : World} {F S : Nat → Prop} {q : Nat} {va vr : Value} {pg : List (Option Wl.Text)} {rt : List Nat}
theorem OwnPg.store {B : Nat} {a n ca : Nat} (h : OwnPg B w (.slice (some ⟨a, 0, none⟩) n ca) pg) (p : Nat) (x : Option Wl.Text) :
    OwnPg B ((w.setCell ⟨a, p * 2, none⟩ (.bool x.isSome)).setCell ⟨a, p * 2 + 1, none⟩ (.string (bs (x.getD [])))) (.slice (some ⟨a, 0, none⟩) n ca) (pg.set p x) := by
  have hn : n = pg.length := by
    rcases h.2 with ⟨e, _⟩ | ⟨g', cap', cur, e, _⟩
    · cases e
    · injection e
  subst hn
  have h1 := (World.ownsRow.stored (World.ownsRow.stored h (p * 2) (.bool x.isSome)).1 (p * 2 + 1) (.string (bs (x.getD [])))).1
  unfold OwnPg Own
  rw [List.length_set, page_cells]
  exact h1
/-- A page is stored. -/
theorem R7.store {a n ca : Nat} (h : R7 w F q (.slice (some ⟨a, 0, none⟩) n ca) vr pg rt) (p : Nat) (x : Option Wl.Text) :
    R7 ((w.setCell ⟨a, p * 2, none⟩ (.bool x.isSome)).setCell ⟨a, p * 2 + 1, none⟩ (.string (bs (x.getD [])))) F q (.slice (some ⟨a, 0, none⟩) n ca) vr (pg.set p x) rt ∧ But F w ((w.setCell ⟨a, p * 2, none⟩ (.bool x.isSome)).setCell ⟨a, p * 2 + 1, none⟩ (.string (bs (x.getD [])))) := by
  have hb : But (fun k => k = a) w ((w.setCell ⟨a, p * 2, none⟩ (.bool x.isSome)).setCell ⟨a, p * 2 + 1, none⟩ (.string (bs (x.getD [])))) := ((But.refl (fun k => k = a) w).setCell ⟨a, p * 2, none⟩ _ (fun _ => rfl)).setCell ⟨a, p * 2 + 1, none⟩ _ (fun _ => rfl)
  have hqa : q ≠ a := fun e => Own.ne_blk h.op h.blk (by decide) (by rw [e]; rfl)
  have hra : ∀ k, vr.ownBlock = some k → k ≠ a := fun k hk e => Own.ne_own h.op h.on (by decide) (k := a) rfl (by rw [hk, e])
  exact ⟨⟨h.blk.but hb hqa, OwnPg.store h.op p x, Own.but h.on hb hra, h.fq, h.fp, h.fn, fun k hk => Nat.lt_of_lt_of_le (h.lt k hk) hb.size, by rw [List.length_set]; exact h.pos, by rw [List.length_set]; exact h.few⟩, hb.mono fun k _ e => e ▸ h.fp a rfl⟩
def R7Did (w : World) (F : Nat → Prop) (q : Nat) (va vr : Value) (pg : List (Option Wl.Text)) (rt : List Nat) (w' : World) : Prop := R7 w' F q va vr pg rt ∧ But F w w'
set_option maxRecDepth 100000 in
set_option maxHeartbeats 1000000 in
theorem ref7_free (h : R7 w F q va vr pg rt) (i : Int) :
    Calls Tryz.prog 34 #[ptr q, .int .i64 i] w fun e w' => e = .returned (.int .i64 (Rm.refuse pg i)) ∧ R7Did w F q va vr (Rm.freed pg i) rt w' := by
  have HC := Lib.hid (ref7_at h i)
  by_cases hr : Rm.refuse pg i = 0
  · rcases Rm.at_any pg i with ⟨ho, hr', _, _, _⟩ | ⟨_, _, _, _, hr', _, _, _⟩ | ⟨p, t, rfl, hp, hs, hr', _, _, _⟩
    · rw [hr'] at hr; cases hr
    · rw [hr'] at hr; cases hr
    · have hf : Rm.freed pg p = pg.set p none := by unfold Rm.freed; rw [if_pos hr, Int.toNat_natCast]
      rw [hf, hr]
      have c0 := h.c0
      obtain ⟨a, ca, rfl, _, _⟩ := h.form
      have e1 := (OwnPg.get h.op p hp).1
      have e2 := (OwnPg.get h.op p hp).2
      have f1 := Own.frozen h.op (p * 2)
      have f2 := Own.frozen h.op (p * 2 + 1)
      have HS := Lib.hid (h.store p none)
      have HR := Lib.hid hr
      have h1 : ¬ (p : Int) < 0 := by omega
      have h2 : (p : Int) < pg.length := by omega
      clear h hr hr' hf hp
      rw [hs] at e1 e2
      clear hs
      go_enter Tryz.func34, Tryz.ntmps34
      unfold ptr
      go_wp2_with fail
      refine HC.out.mono ?_
      rintro e w1 ⟨rfl, rfl⟩
      rw [HR.out]
      go_wp2
      go_ret
      exact ⟨rfl, HS.out⟩
  · have hf : Rm.freed pg i = pg := by unfold Rm.freed; rw [if_neg hr]
    rw [hf]
    have HI := Lib.hid h
    obtain ⟨z, hz⟩ : ∃ z, z = Rm.refuse pg i := ⟨_, rfl⟩
    rw [← hz] at hr HC ⊢
    clear h hf hz
    go_enter Tryz.func34, Tryz.ntmps34
    unfold ptr
    go_wp2_with fail
    refine HC.out.mono ?_
    rintro e w1 ⟨rfl, rfl⟩
    go_wp2
    go_ret
    exact ⟨rfl, HI.out, But.refl _ _⟩
set_option maxRecDepth 100000 in
set_option maxHeartbeats 2000000 in
theorem ref7_alloc (h : R7 w F q va vr pg rt) :
    Calls Tryz.prog 32 #[ptr q] w fun e w' => e = .returned (.tuple #[.int .i64 (Rm.alloc pg).1, .int .i64 (Rm.alloc pg).2]) ∧ R7Did w F q va vr (Rm.alloced pg) rt w' := by
  have c0 := h.c0
  have HI := Lib.hid h
  have HD := Lib.hid (show R7 w.drew F q va vr pg rt from h.but ((But.refl (fun _ => False) w).drew) (fun _ _ h => h))
  have hfI : (pg.length : Int) ≤ 4096 := by have := h.few; omega
  obtain ⟨a, ca, rfl, _, _⟩ := h.form
  clear h
  go_enter Tryz.func32, Tryz.ntmps32
  unfold ptr
  go_wp2
  go_loop [4] (fun i => ∃ k : Nat, k ≤ pg.length ∧ i = .int .i64 k ∧ Hid (∀ x, x < k → (pg.getD x none).isSome = true)) (fun i => pg.length - (intOf i).toNat)
  case atStart => exact ⟨0, Nat.zero_le _, rfl, Lib.hid fun x hx => by omega⟩
  case round =>
    obtain ⟨k, hk, rfl, hA⟩ := hrel
    by_cases hlt : k < pg.length
    · have hI : (k : Int) < pg.length := by omega
      have HL := Lib.hid hlt
      have e1 := (OwnPg.get HI.out.op k hlt).1
      cases hg : pg.getD k none with
      | some t =>
        rw [hg] at e1
        have HG := Lib.hid hg
        rw [show (some t : Option Wl.Text).isSome = true from rfl] at e1
        clear hlt hk hg
        go_wp2
        go_round
        case rel =>
          refine ⟨k + 1, HL.out, by go_num, Lib.hid fun x hx => ?_⟩
          by_cases e : x = k
          · rw [e, HG.out]; rfl
          · exact hA.out x (by omega)
        case measure => have := HL.out; simp [intOf]; omega
      | none =>
        rw [hg] at e1
        rw [show (none : Option Wl.Text).isSome = false from rfl] at e1
        have hff : Rm.firstFree pg = some k := Rm.firstFree_some hA.out hlt hg
        have HE := Lib.hid (show Rm.alloc pg = (((k : Nat) : Int), 0) ∧ Rm.alloced pg = pg.set k (some (Dk.full [])) by
          unfold Rm.alloc Rm.alloced
          rw [hff]
          exact ⟨rfl, rfl⟩)
        clear hlt hk hg hff
        go_wp2_with (refine wp_region_any (by kernel_rfl) ?_; refine Hid.out ?_)
        refine Lib.hid ?_
        try (change wpAny _ _ _ _ _ _ _ (World.drew _))
        refine wpAny_take (i := 0) (v := ?_) (by simp only [List.getElem?_toArray, List.getElem?_cons_zero]; exact rfl) (by kernel_rfl) (by kernel_rfl) (by kernel_rfl) (by exact fun _ _ _ h => h) (Or.inl ⟨by rfl, ?_⟩) ?_
        rotate_left
        · intro w; go_simp; try with_reducible rfl
        refine wpAny_take (i := 1) (v := ?_) (by simp only [List.getElem?_toArray, List.getElem?_cons_succ, List.getElem?_cons_zero]; exact rfl) (by kernel_rfl) (by kernel_rfl) (by kernel_rfl) (by exact fun _ _ _ h => h) (Or.inl ⟨by rfl, ?_⟩) ?_
        rotate_left
        · intro w; go_simp; try with_reducible rfl
        refine wpAny_take (i := 2) (v := ?_) (by simp only [List.getElem?_toArray, List.getElem?_cons_succ, List.getElem?_cons_zero]; exact rfl) (by kernel_rfl) (by kernel_rfl) (by kernel_rfl) (by exact fun _ _ _ h => h) (Or.inl ⟨by rfl, ?_⟩) ?_
        rotate_left
        · intro w; go_simp; try with_reducible rfl
        refine wpAny_take (i := 4) (v := ?_) (by simp only [List.getElem?_toArray, List.getElem?_cons_succ, List.getElem?_cons_zero]; exact rfl) (by kernel_rfl) (by kernel_rfl) (by kernel_rfl) (by exact fun _ _ _ h => h) (Or.inl ⟨by rfl, ?_⟩) ?_
        rotate_left
        · intro w; go_simp; try with_reducible rfl
        simp only [Act.put, List.setIfInBounds_toArray, List.set_cons_succ, List.set_cons_zero]
        refine wpAny_ready (rs := [3, 5]) (by kernel_rfl) (by simp) ?_
        refine AllReady.cons rfl (fun K hK => ?_) (AllReady.cons rfl (fun K hK => ?_) AllReady.nil)
        · go_simp
          refine hK _ _ ?_; clear hK K
          refine wpAny_ready (rs := [5]) (by kernel_rfl) (by simp) ?_
          refine AllReady.cons rfl (fun K hK => ?_) AllReady.nil
          go_simp
          refine (full_any ⟨#[]⟩ _ (by decide)).mono ?_
          rintro e w5 ⟨rfl, hb5⟩
          have H5 := Lib.hid (HD.out.still hb5)
          have HB5 := Lib.hid (hb5)
          have c05 := H5.out.c0
          clear hb5
          refine hK _ _ ?_; clear hK K
          refine wpAny_take (i := 6) (v := ?_) (by simp only [List.getElem?_toArray, List.getElem?_cons_succ, List.getElem?_cons_zero]; exact rfl) (by kernel_rfl) (by kernel_rfl) (by kernel_rfl) (by exact fun _ _ _ h => h) (Or.inl ⟨by rfl, ?_⟩) ?_
          rotate_left
          · intro w; go_simp; try with_reducible rfl
          have e15 := (OwnPg.get H5.out.op k HL.out).1
          have e25 := (OwnPg.get H5.out.op k HL.out).2
          have f15 := Own.frozen H5.out.op (k * 2)
          have f25 := Own.frozen H5.out.op (k * 2 + 1)
          have HS := Lib.hid (H5.out.store k (some (Dk.full [])))
          generalize pg.getD k none = y at e15 e25
          refine wpAny_ready (rs := [7]) (by kernel_rfl) (by simp) ?_
          refine AllReady.cons rfl (fun K hK => ?_) AllReady.nil
          go_simp
          refine hK _ _ ?_; clear hK K
          refine wpAny_ready (rs := [8]) (by kernel_rfl) (by simp) ?_
          refine AllReady.cons rfl (fun K hK => ?_) AllReady.nil
          go_simp
          refine hK _ _ ?_; clear hK K
          refine wpAny_done (by kernel_rfl) ?_ _
          go_wp2
          go_ret2
          rw [HE.out.1, HE.out.2]
          refine ⟨rfl, HS.out.1, ?_⟩
          exact ((But.refl F w).drew.trans (But.of_below HB5.out F) (fun _ _ h => h)).trans HS.out.2 (fun _ _ h => h)
        · go_simp
          refine (full_any ⟨#[]⟩ _ (by decide)).mono ?_
          rintro e w5 ⟨rfl, hb5⟩
          have H5 := Lib.hid (HD.out.still hb5)
          have HB5 := Lib.hid (hb5)
          have c05 := H5.out.c0
          clear hb5
          refine hK _ _ ?_; clear hK K
          refine wpAny_take (i := 6) (v := ?_) (by simp only [List.getElem?_toArray, List.getElem?_cons_succ, List.getElem?_cons_zero]; exact rfl) (by kernel_rfl) (by kernel_rfl) (by kernel_rfl) (by exact fun _ _ _ h => h) (Or.inl ⟨by rfl, ?_⟩) ?_
          rotate_left
          · intro w; go_simp; try with_reducible rfl
          refine wpAny_ready (rs := [3]) (by kernel_rfl) (by simp) ?_
          refine AllReady.cons rfl (fun K hK => ?_) AllReady.nil
          go_simp
          refine hK _ _ ?_; clear hK K
          have e15 := (OwnPg.get H5.out.op k HL.out).1
          have e25 := (OwnPg.get H5.out.op k HL.out).2
          have f15 := Own.frozen H5.out.op (k * 2)
          have f25 := Own.frozen H5.out.op (k * 2 + 1)
          have HS := Lib.hid (H5.out.store k (some (Dk.full [])))
          generalize pg.getD k none = y at e15 e25
          refine wpAny_ready (rs := [7]) (by kernel_rfl) (by simp) ?_
          refine AllReady.cons rfl (fun K hK => ?_) AllReady.nil
          go_simp
          refine hK _ _ ?_; clear hK K
          refine wpAny_ready (rs := [8]) (by kernel_rfl) (by simp) ?_
          refine AllReady.cons rfl (fun K hK => ?_) AllReady.nil
          go_simp
          refine hK _ _ ?_; clear hK K
          refine wpAny_done (by kernel_rfl) ?_ _
          go_wp2
          go_ret2
          rw [HE.out.1, HE.out.2]
          refine ⟨rfl, HS.out.1, ?_⟩
          exact ((But.refl F w).drew.trans (But.of_below HB5.out F) (fun _ _ h => h)).trans HS.out.2 (fun _ _ h => h)
    · have hke : k = pg.length := by omega
      have hI : ¬ (k : Int) < pg.length := by omega
      have hff : Rm.firstFree pg = none := Rm.firstFree_none fun x hx => hA.out x (by omega)
      have HE := Lib.hid (show Rm.alloc pg = (0, 4) ∧ Rm.alloced pg = pg by
        unfold Rm.alloc Rm.alloced
        rw [hff]
        exact ⟨rfl, rfl⟩)
      clear hff hlt hk
      subst hke
      go_wp2
      go_ret2
      rw [HE.out.1, HE.out.2]
      exact ⟨rfl, HI.out, But.refl _ _⟩
set_option maxRecDepth 100000 in
set_option maxHeartbeats 2000000 in
theorem ref7_write (h : R7 w F q va vr pg rt) (i : Int) (s : ByteArray) (hs6 : s.size ≤ 600) :
    Calls Tryz.prog 36 #[ptr q, .int .i64 i, .string s] w fun e w' => e = .returned (.int .i64 (Rm.wrote pg i s.size)) ∧ R7Did w F q va vr (Rm.written pg i s.data.toList) rt w' := by
  have HC := Lib.hid (ref7_at h i)
  have hsz : s.data.toList.length = s.size := Array.length_toList
  have c0 := h.c0
  obtain ⟨a, ca, rfl, _, _⟩ := h.form
  by_cases hr : Rm.refuse pg i = 0
  · rcases Rm.at_any pg i with ⟨ho, hr', _, _, _⟩ | ⟨_, _, _, _, hr', _, _, _⟩ | ⟨p, t, rfl, hp, hs, hr', _, _, _⟩
    · rw [hr'] at hr; cases hr
    · rw [hr'] at hr; cases hr
    · have HR := Lib.hid hr
      have h1 : ¬ (p : Int) < 0 := by omega
      have h2 : (p : Int) < pg.length := by omega
      by_cases hz : s.size ≤ 512
      · have hw : Rm.wrote pg p s.size = 0 := by unfold Rm.wrote; rw [if_pos hr, if_neg (by omega)]
        have ha : Rm.written pg p s.data.toList = pg.set p (some (Dk.full s.data.toList)) := by unfold Rm.written; rw [hsz, hw, if_pos rfl, Int.toNat_natCast]
        rw [ha, hw]
        have HZ := Lib.hid (show s.size ≤ 1000 by omega)
        have hzI : ¬ (512 : Int) < s.size := by omega
        have HL := Lib.hid hp
        have HD := Lib.hid (show R7 w.drew F q _ vr pg rt from h.but ((But.refl (fun _ => False) w).drew) (fun _ _ h => h))
        clear h hr hr' hs hp hw ha hz hsz hs6
        go_enter Tryz.func36, Tryz.ntmps36
        unfold ptr
        go_wp2_with fail
        refine HC.out.mono ?_
        rintro e w1 ⟨rfl, rfl⟩
        rw [HR.out]
        go_wp2_with (refine wp_region_any (by kernel_rfl) ?_; refine Hid.out ?_)
        refine Lib.hid ?_
        try (change wpAny _ _ _ _ _ _ _ (World.drew _))
        refine wpAny_take (i := 0) (v := ?_) (by simp only [List.getElem?_toArray, List.getElem?_cons_zero]; exact rfl) (by kernel_rfl) (by kernel_rfl) (by kernel_rfl) (by exact fun _ _ _ h => h) (Or.inl ⟨by rfl, ?_⟩) ?_
        rotate_left
        · intro w; go_simp; try with_reducible rfl
        refine wpAny_take (i := 1) (v := ?_) (by simp only [List.getElem?_toArray, List.getElem?_cons_succ, List.getElem?_cons_zero]; exact rfl) (by kernel_rfl) (by kernel_rfl) (by kernel_rfl) (by exact fun _ _ _ h => h) (Or.inl ⟨by rfl, ?_⟩) ?_
        rotate_left
        · intro w; go_simp; try with_reducible rfl
        refine wpAny_take (i := 2) (v := ?_) (by simp only [List.getElem?_toArray, List.getElem?_cons_succ, List.getElem?_cons_zero]; exact rfl) (by kernel_rfl) (by kernel_rfl) (by kernel_rfl) (by exact fun _ _ _ h => h) (Or.inl ⟨by rfl, ?_⟩) ?_
        rotate_left
        · intro w; go_simp; try with_reducible rfl
        refine wpAny_take (i := 4) (v := ?_) (by simp only [List.getElem?_toArray, List.getElem?_cons_succ, List.getElem?_cons_zero]; exact rfl) (by kernel_rfl) (by kernel_rfl) (by kernel_rfl) (by exact fun _ _ _ h => h) (Or.inl ⟨by rfl, ?_⟩) ?_
        rotate_left
        · intro w; go_simp; try with_reducible rfl
        refine wpAny_take (i := 5) (v := ?_) (by simp only [List.getElem?_toArray, List.getElem?_cons_succ, List.getElem?_cons_zero]; exact rfl) (by kernel_rfl) (by kernel_rfl) (by kernel_rfl) (by exact fun _ _ _ h => h) (Or.inl ⟨by rfl, ?_⟩) ?_
        rotate_left
        · intro w; go_simp; try with_reducible rfl
        simp only [Act.put, List.setIfInBounds_toArray, List.set_cons_succ, List.set_cons_zero]
        refine wpAny_ready (rs := [3, 6]) (by kernel_rfl) (by simp) ?_
        refine AllReady.cons rfl (fun K hK => ?_) (AllReady.cons rfl (fun K hK => ?_) AllReady.nil)
        · go_simp
          refine hK _ _ ?_; clear hK K
          refine wpAny_ready (rs := [6]) (by kernel_rfl) (by simp) ?_
          refine AllReady.cons rfl (fun K hK => ?_) AllReady.nil
          go_simp
          refine (full_any s _ HZ.out).mono ?_
          rintro e w5 ⟨rfl, hb5⟩
          have H5 := Lib.hid (HD.out.still hb5)
          have HB5 := Lib.hid (hb5)
          have c05 := H5.out.c0
          clear hb5
          refine hK _ _ ?_; clear hK K
          refine wpAny_take (i := 7) (v := ?_) (by simp only [List.getElem?_toArray, List.getElem?_cons_succ, List.getElem?_cons_zero]; exact rfl) (by kernel_rfl) (by kernel_rfl) (by kernel_rfl) (by exact fun _ _ _ h => h) (Or.inl ⟨by rfl, ?_⟩) ?_
          rotate_left
          · intro w; go_simp; try with_reducible rfl
          have e15 := (OwnPg.get H5.out.op p HL.out).1
          have e25 := (OwnPg.get H5.out.op p HL.out).2
          have f15 := Own.frozen H5.out.op (p * 2)
          have f25 := Own.frozen H5.out.op (p * 2 + 1)
          have HS := Lib.hid (H5.out.store p (some (Dk.full s.data.toList)))
          generalize pg.getD p none = y at e15 e25
          refine wpAny_ready (rs := [8]) (by kernel_rfl) (by simp) ?_
          refine AllReady.cons rfl (fun K hK => ?_) AllReady.nil
          go_simp
          refine hK _ _ ?_; clear hK K
          refine wpAny_ready (rs := [9]) (by kernel_rfl) (by simp) ?_
          refine AllReady.cons rfl (fun K hK => ?_) AllReady.nil
          go_simp
          refine hK _ _ ?_; clear hK K
          refine wpAny_done (by kernel_rfl) ?_ _
          go_wp2
          go_ret
          refine ⟨rfl, HS.out.1, ?_⟩
          exact ((But.refl F w1).drew.trans (But.of_below HB5.out F) (fun _ _ h => h)).trans HS.out.2 (fun _ _ h => h)
        · go_simp
          refine (full_any s _ HZ.out).mono ?_
          rintro e w5 ⟨rfl, hb5⟩
          have H5 := Lib.hid (HD.out.still hb5)
          have HB5 := Lib.hid (hb5)
          have c05 := H5.out.c0
          clear hb5
          refine hK _ _ ?_; clear hK K
          refine wpAny_take (i := 7) (v := ?_) (by simp only [List.getElem?_toArray, List.getElem?_cons_succ, List.getElem?_cons_zero]; exact rfl) (by kernel_rfl) (by kernel_rfl) (by kernel_rfl) (by exact fun _ _ _ h => h) (Or.inl ⟨by rfl, ?_⟩) ?_
          rotate_left
          · intro w; go_simp; try with_reducible rfl
          refine wpAny_ready (rs := [3]) (by kernel_rfl) (by simp) ?_
          refine AllReady.cons rfl (fun K hK => ?_) AllReady.nil
          go_simp
          refine hK _ _ ?_; clear hK K
          have e15 := (OwnPg.get H5.out.op p HL.out).1
          have e25 := (OwnPg.get H5.out.op p HL.out).2
          have f15 := Own.frozen H5.out.op (p * 2)
          have f25 := Own.frozen H5.out.op (p * 2 + 1)
          have HS := Lib.hid (H5.out.store p (some (Dk.full s.data.toList)))
          generalize pg.getD p none = y at e15 e25
          refine wpAny_ready (rs := [8]) (by kernel_rfl) (by simp) ?_
          refine AllReady.cons rfl (fun K hK => ?_) AllReady.nil
          go_simp
          refine hK _ _ ?_; clear hK K
          refine wpAny_ready (rs := [9]) (by kernel_rfl) (by simp) ?_
          refine AllReady.cons rfl (fun K hK => ?_) AllReady.nil
          go_simp
          refine hK _ _ ?_; clear hK K
          refine wpAny_done (by kernel_rfl) ?_ _
          go_wp2
          go_ret
          refine ⟨rfl, HS.out.1, ?_⟩
          exact ((But.refl F w1).drew.trans (But.of_below HB5.out F) (fun _ _ h => h)).trans HS.out.2 (fun _ _ h => h)
      · have hw : Rm.wrote pg p s.size = 5 := by unfold Rm.wrote; rw [if_pos hr, if_pos (by omega)]
        have ha : Rm.written pg p s.data.toList = pg := by unfold Rm.written; rw [hsz, hw, if_neg (by decide)]
        rw [ha, hw]
        have hzI : (512 : Int) < s.size := by omega
        have HI := Lib.hid h
        clear h hr hr' hs hp hw ha hz hsz hs6
        go_enter Tryz.func36, Tryz.ntmps36
        unfold ptr
        go_wp2_with fail
        refine HC.out.mono ?_
        rintro e w1 ⟨rfl, rfl⟩
        rw [HR.out]
        go_wp2
        go_ret
        exact ⟨rfl, HI.out, But.refl _ _⟩
  · have hw : ∀ n, Rm.wrote pg i n = Rm.refuse pg i := fun n => by unfold Rm.wrote; rw [if_neg hr]
    have ha : Rm.written pg i s.data.toList = pg := by unfold Rm.written; rw [hw, if_neg hr]
    rw [ha, hw]
    have HI := Lib.hid h
    obtain ⟨z, hz⟩ : ∃ z, z = Rm.refuse pg i := ⟨_, rfl⟩
    rw [← hz] at hr HC ⊢
    clear h ha hw hz hsz hs6
    go_enter Tryz.func36, Tryz.ntmps36
    unfold ptr
    go_wp2_with fail
    refine HC.out.mono ?_
    rintro e w1 ⟨rfl, rfl⟩
    go_wp2
    go_ret
    exact ⟨rfl, HI.out, But.refl _ _⟩
end
end Go.Proofs.YtobmjcfemjpgcaaGreatDoor
