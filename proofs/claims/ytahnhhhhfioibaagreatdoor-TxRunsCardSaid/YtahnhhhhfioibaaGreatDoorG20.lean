/- Elder texts, merged (20). -/
import Derived.Test.YtahnhhhhfioibaaGreatDoorG19
import Derived.Test.YtahnhhhhfioibaaGreatDoorG6
import Derived.Test.YtahnhhhhfioibaaGreatDoorG1
import Derived.Laws.CopyRow
import Derived.Laws.Rows
import Derived.Laws.Tables
namespace Go.Proofs.YtahnhhhhfioibaaGreatDoor
open Go.RowKit Lib

theorem along_step (H : List Wl.Text) (ps : List (Nat × List UInt8)) (k : Nat) (hk : k < ps.length) :
    Wl.along H (Tx.psI (ps.take (k + 1))) = (Wl.along H (Tx.psI (ps.take k))).set (ps[k]).1 (Dk.full (ps[k]).2) := by
  rw [List.take_succ_eq_append_getElem hk, Tx.psI, List.map_append]
  exact Wl.along_append _ _ _
theorem along_here (H : List Wl.Text) (ps : List (Nat × List UInt8)) (k i : Nat) (hk : k < ps.length) (hi : i < H.length) (e : (ps[k]).1 = i) :
    (Wl.along H (Tx.psI (ps.take (k + 1)))).getD i [] = Dk.full (ps[k]).2 := by
  rw [along_step H ps k hk, e, List.getD_eq_getElem?_getD, List.getElem?_set_self (by rw [Wl.along_length]; exact hi)]; rfl
theorem along_there (H : List Wl.Text) (ps : List (Nat × List UInt8)) (k i : Nat) (hk : k < ps.length) (e : (ps[k]).1 ≠ i) :
    (Wl.along H (Tx.psI (ps.take (k + 1)))).getD i [] = (Wl.along H (Tx.psI (ps.take k))).getD i [] := by
  rw [along_step H ps k hk, List.getD_eq_getElem?_getD, List.getElem?_set_ne e, ← List.getD_eq_getElem?_getD]
set_option maxRecDepth 100000 in
set_option maxHeartbeats 1000000 in
theorem refRead_ok (w : World) (vh vp : Value) (ring : Nat) (B B' : Nat) (ps : List (Nat × List UInt8)) (h : OwnP B w vp ps) (H : List Wl.Text) (hH : OwnS B' w vh H) (hs : ∀ p ∈ ps, p.1 < H.length ∧ p.2.length ≤ 512) (i : Nat) (hi : i < H.length) (hp : ps.length ≤ 900000) :
    Calls Tryz.prog 15 #[ref6 vh ring vp, .int .i64 i] w fun e w' =>
      e = .returned (.tuple #[.string (bs ((Wl.along H (Tx.psI ps)).getD i [])), .int .i64 0]) ∧ Below w.heap.size w w' := by
  obtain ⟨a, ca, hvp, _⟩ := Own.slice h
  obtain ⟨a', ca', hvh, _⟩ := Own.slice hH
  rw [List.length_map] at hvh
  subst hvp hvh
  unfold ref6
  have hi0 : ¬ (i : Int) < 0 := by omega
  have hi1 : ¬ (H.length : Int) ≤ i := by omega
  have hi2 : (i : Int) < H.length := by omega
  have HP := Lib.hid h
  have HH := Lib.hid hH
  obtain ⟨oh, ch, hvo, _⟩ := Own.form hH (by rw [List.length_map]; omega)
  rw [List.length_map] at hvo
  injection hvo with ea _ ec
  subst ea ec
  have ch0 := OwnS.strAt hH i hi
  clear h hH
  have h0 : H[i] = (Wl.along H (Tx.psI (ps.take 0))).getD i [] := by
    rw [List.take_zero]
    show _ = H.getD i []
    rw [List.getD_eq_getElem?_getD, List.getElem?_eq_getElem hi]; rfl
  have hend : (Wl.along H (Tx.psI ps)).getD i [] = (Wl.along H (Tx.psI (ps.take ps.length))).getD i [] := by rw [List.take_length]
  rw [hend]
  have HE := Lib.hid (And.intro (fun k (hk : k < ps.length) (e : (ps[k]).1 = i) => along_here H ps k i hk hi e) (fun k (hk : k < ps.length) (e : (ps[k]).1 ≠ i) => along_there H ps k i hk e))
  rw [h0] at ch0
  generalize hT : (fun k => (Wl.along H (Tx.psI (ps.take k))).getD i []) = T at *
  have hT' : ∀ k, (Wl.along H (Tx.psI (ps.take k))).getD i [] = T k := fun k => by rw [← hT]
  simp only [hT'] at HE ch0 ⊢
  clear hend hT hT' h0
  go_enter Tryz.func15, Tryz.ntmps15
  go_wp2
  have hb0 := Blk.new w #[.slice (some ⟨oh, 0, none⟩) H.length ca', .int .i64 ring, .slice a ps.length ca] T6
  have hbV := (Below.refl w.heap.size w).alloc (Nat.le_refl _) (.cells #[.slice (some ⟨oh, 0, none⟩) H.length ca', .int .i64 ring, .slice a ps.length ca] T6)
  obtain ⟨V, hV⟩ : ∃ V, V = w.alloc (.cells #[.slice (some ⟨oh, 0, none⟩) H.length ca', .int .i64 ring, .slice a ps.length ca] T6) := ⟨_, rfl⟩
  rw [← hV] at hb0 hbV ⊢
  have hPV := Own.below HP.out hbV (Nat.le_refl _)
  have HV := Lib.hid (And.intro hb0 (And.intro hbV hPV))
  clear hb0 hV hbV hPV ch0
  go_loopw [6, 7] (fun s j wr => ∃ k : Nat, k ≤ ps.length ∧ j = .int .i64 k ∧ s = .string (bs (T k)) ∧ Hid (Below V.heap.size V wr)) (fun _ j _ => ps.length - (Go.RowKit.intOf j).toNat)
  case atStart => exact ⟨0, Nat.zero_le _, rfl, rfl, Lib.hid (Below.refl _ _)⟩
  case round =>
    obtain ⟨k, hk, rfl, rfl, hD⟩ := hrel
    have c2 : wr.cell? ⟨w.heap.size, 2, none⟩ = some (.slice a ps.length ca) := Blk.cell (Blk.below HV.out.1 hD.out HV.out.1.lt) (j := 2) rfl
    by_cases hlt : k < ps.length
    · have hI : (k : Int) < ps.length := by omega
      obtain ⟨g, cg, hvg, _, hgl, _⟩ := Own.form HV.out.2.2 (by omega)
      injection hvg with ea _ ec
      subst ea ec
      have e1 := OwnP.at (Own.below HV.out.2.2 hD.out (Nat.le_refl _)) k hlt
      obtain ⟨x1, x2⟩ := e1
      by_cases hat : (ps[k]).1 = i
      · have hst := Lib.hid (HE.out.1 k hlt hat)
        have hsz := (hs _ (List.getElem_mem hlt)).2
        rw [hat] at x1
        generalize (ps[k]).2 = t at *
        go_wp2_with fail
        refine (full_any (bs t) _ (by show t.toArray.size ≤ 1000; simp; omega)).mono ?_
        rintro e w1 ⟨rfl, hb1⟩
        go_wp2
        go_roundw
        case rel => exact ⟨k + 1, hlt, by go_num, by rw [hst.out, bs_list], Lib.hid (hD.out.trans (hb1.mono hD.out.size))⟩
        case measure => simp [Go.RowKit.intOf]; omega
      · have hst := Lib.hid (HE.out.2 k hlt hat)
        have hatI : ¬ ((ps[k]).1 : Int) = i := by omega
        generalize (ps[k]).1 = q at *
        go_wp2
        go_roundw
        case rel => exact ⟨k + 1, hlt, by go_num, by rw [hst.out], hD⟩
        case measure => simp [Go.RowKit.intOf]; omega
    · have hI : ¬ (k : Int) < ps.length := by omega
      obtain rfl : k = ps.length := by omega
      go_wp2
      go_ret2
      exact ⟨rfl, HV.out.2.1.trans (hD.out.mono HV.out.2.1.size)⟩
set_option maxRecDepth 100000 in
set_option maxHeartbeats 1000000 in
theorem refRead_no (w : World) (vh vp : Value) (ring : Nat) (B' : Nat) (H : List Wl.Text) (hH : OwnS B' w vh H) (i : Int) (hi : i < 0 ∨ (H.length : Int) ≤ i) :
    Calls Tryz.prog 15 #[ref6 vh ring vp, .int .i64 i] w fun e w' =>
      e = .returned (.tuple #[.string ⟨#[]⟩, .int .i64 2]) ∧ Below w.heap.size w w' := by
  obtain ⟨a', ca', hvh, _⟩ := Own.slice hH
  rw [List.length_map] at hvh
  subst hvh
  unfold ref6
  have HBl := Lib.hid ((Below.refl _ w).alloc (Nat.le_refl _) (.cells #[.slice a' H.length ca', .int .i64 ring, vp] T6))
  clear hH
  go_enter Tryz.func15, Tryz.ntmps15
  by_cases h0 : i < 0
  · go_wp2
    go_ret2
    exact ⟨rfl, HBl.out⟩
  · have h1 : (H.length : Int) ≤ i := hi.resolve_left h0
    go_wp2
    go_ret2
    exact ⟨rfl, HBl.out⟩
end Go.Proofs.YtahnhhhhfioibaaGreatDoor

namespace Go.Proofs.YtahnhhhhfioibaaGreatDoor
open Go.RowKit Lib

theorem seen_step (ps : List (Nat × List UInt8)) (a q : Nat) (hq : q < ps.length) : (ps.take (q + 1)).any (fun p => p.1 == a) = ((ps.take q).any (fun p => p.1 == a) || (ps[q]).1 == a) := by
  rw [List.take_succ_eq_append_getElem hq, List.any_append, List.any_cons, List.any_nil, Bool.or_false]
theorem seen_look (ps : List (Nat × List UInt8)) (a : Nat) : (Wl.look a (Tx.lasts ps)).isSome = ps.any (fun p => p.1 == a) := by
  rcases Tx.lasts_look a ps with ⟨h1, h2⟩ | ⟨k, hk, h1, h2, _⟩
  · rw [h1, Option.isSome_none]
    refine (List.any_eq_false.2 fun p hp => ?_).symm
    simpa using h2 p hp
  · rw [h1, Option.isSome_some]
    exact (List.any_eq_true.2 ⟨ps[k], List.getElem_mem hk, by simpa using h2⟩).symm
theorem touched_step (ps : List (Nat × List UInt8)) (k : Nat) (hk : k < ps.length) :
    (Tx.lasts (ps.take (k + 1))).length = if (ps.take k).any (fun p => p.1 == (ps[k]).1) then (Tx.lasts (ps.take k)).length else (Tx.lasts (ps.take k)).length + 1 := by
  rw [List.take_succ_eq_append_getElem hk, Tx.lasts_snoc, Wl.ins_length _ _ (Tx.lasts_rising _), seen_look]
set_option maxRecDepth 100000 in
set_option maxHeartbeats 1000000 in
theorem refTouched_any (w : World) (vh vp : Value) (ring : Nat) (B : Nat) (ps : List (Nat × List UInt8)) (h : OwnP B w vp ps) (hp : ps.length ≤ 900000) :
    Calls Tryz.prog 23 #[ref6 vh ring vp] w fun e w' =>
      e = .returned (.int .i64 ((Tx.lasts ps).length : Nat)) ∧ Below w.heap.size w w' := by
  obtain ⟨a, ca, hvp, _⟩ := Own.slice h
  subst hvp
  unfold ref6
  have HP := Lib.hid h
  clear h
  go_enter Tryz.func23, Tryz.ntmps23
  go_wp2
  have hb0 := Blk.new w #[vh, .int .i64 ring, .slice a ps.length ca] T6
  have hbV := (Below.refl w.heap.size w).alloc (Nat.le_refl _) (.cells #[vh, .int .i64 ring, .slice a ps.length ca] T6)
  obtain ⟨V, hV⟩ : ∃ V, V = w.alloc (.cells #[vh, .int .i64 ring, .slice a ps.length ca] T6) := ⟨_, rfl⟩
  rw [← hV] at hb0 hbV ⊢
  have hPV := Own.below HP.out hbV (Nat.le_refl _)
  have HV := Lib.hid (And.intro hPV (And.intro hbV hb0))
  clear hb0 hV hbV hPV
  go_loopw [3, 4] (fun n j wr => ∃ k : Nat, k ≤ ps.length ∧ j = .int .i64 k ∧ n = .int .i64 ((Tx.lasts (ps.take k)).length : Nat) ∧ Hid (Below V.heap.size V wr)) (fun _ j _ => ps.length - (Go.RowKit.intOf j).toNat)
  case atStart => exact ⟨0, Nat.zero_le _, rfl, rfl, Lib.hid (Below.refl _ _)⟩
  case round =>
    obtain ⟨k, hk, rfl, rfl, hD⟩ := hrel
    have c2 : wr.cell? ⟨w.heap.size, 2, none⟩ = some (.slice a ps.length ca) := Blk.cell (Blk.below HV.out.2.2 hD.out HV.out.2.2.lt) (j := 2) rfl
    by_cases hlt : k < ps.length
    · have hI : (k : Int) < ps.length := by omega
      obtain ⟨g, cg, hvg, _, hgl, _⟩ := Own.form HV.out.1 (by omega)
      injection hvg with ea _ ec
      subst ea ec
      have x1 := (OwnP.at (Own.below HV.out.1 hD.out (Nat.le_refl _)) k hlt).1
      have hst := touched_step ps k hlt
      have hll := Tx.lasts_len (ps.take k)
      rw [List.length_take] at hll
      have HS := Lib.hid (And.intro hst hll)
      clear hst hll
      obtain ⟨z, hz⟩ : ∃ z, z = (ps[k]).1 := ⟨_, rfl⟩
      rw [← hz] at HS x1
      have HZ := Lib.hid hz
      go_wp2
      go_loopw [5, 6] (fun f j wq => ∃ q : Nat, q ≤ k ∧ j = .int .i64 q ∧ f = .bool (!(ps.take q).any (fun p => p.1 == z)) ∧ Hid (Below V.heap.size V wq)) (fun _ j _ => k - (Go.RowKit.intOf j).toNat)
      case atStart => exact ⟨0, Nat.zero_le _, rfl, rfl, hD⟩
      case round =>
        clear c2 x1 hD
        obtain ⟨q, hq, rfl, rfl, hD⟩ := hrel
        have c2 : wr.cell? ⟨w.heap.size, 2, none⟩ = some (.slice (some ⟨g, 0, none⟩) ps.length ca) := Blk.cell (Blk.below HV.out.2.2 hD.out HV.out.2.2.lt) (j := 2) rfl
        have x1 := (OwnP.at (Own.below HV.out.1 hD.out (Nat.le_refl _)) k hlt).1
        rw [← HZ.out] at x1
        by_cases hlt2 : q < k
        · have hI2 : (q : Int) < k := by omega
          have hI3 : (q : Int) < ps.length := by omega
          have y1 := (OwnP.at (Own.below HV.out.1 hD.out (Nat.le_refl _)) q (by omega)).1
          have hss := Lib.hid (seen_step ps z q (by omega))
          obtain ⟨y, hy⟩ : ∃ y, y = (ps[q]'(by omega)).1 := ⟨_, rfl⟩
          rw [← hy] at y1 hss
          clear hy hz
          by_cases e : y = z
          · subst e
            go_wp2
            go_region
            go_wp2
            go_roundw
            case rel => exact ⟨q + 1, hlt2, by go_num, by rw [hss.out]; simp, Lib.hid hD.out.drew⟩
            case measure => simp [Go.RowKit.intOf]; omega
          · have eI : ¬ (y : Int) = z := by omega
            go_wp2
            go_region
            go_wp2
            go_roundw
            case rel => exact ⟨q + 1, hlt2, by go_num, by rw [hss.out]; simp [e], Lib.hid hD.out.drew⟩
            case measure => simp [Go.RowKit.intOf]; omega
        · have hI2 : ¬ (q : Int) < k := by omega
          obtain rfl : q = k := by omega
          cases hb : (ps.take q).any (fun p => p.1 == z) with
          | true =>
            go_wp2
            go_roundw
            case rel => exact ⟨q + 1, hlt, by go_num, by rw [HS.out.1, hb]; simp, hD⟩
            case measure => simp [Go.RowKit.intOf]; omega
          | false =>
            have hll := HS.out.2
            go_wp2
            go_roundw
            case rel => exact ⟨q + 1, hlt, by go_num, by rw [HS.out.1, hb]; go_num, hD⟩
            case measure => simp [Go.RowKit.intOf]; omega
    · have hI : ¬ (k : Int) < ps.length := by omega
      obtain rfl : k = ps.length := by omega
      go_wp2
      go_ret
      exact ⟨by simp, HV.out.2.1.trans (hD.out.mono HV.out.2.1.size)⟩
end Go.Proofs.YtahnhhhhfioibaaGreatDoor

namespace Go.Proofs.YtahnhhhhfioibaaGreatDoor
set_option maxRecDepth 100000
open Go.ChangeShapes Go.WideShapes Go.ChangeAt Go.RowKit Lib

structure Act6 where
  what : Int
  at_ : Int
  n : Int
  text : ByteArray
  two : Bool
  raw : Bool
instance : Inhabited Act6 := ⟨⟨0, 0, 0, .empty, false, false⟩⟩
structure Act6.ok (x : Act6) : Prop where
  w1 : -9223372036854775808 ≤ x.what ∧ x.what ≤ 9223372036854775807
  a1 : -9223372036854775808 ≤ x.at_ ∧ x.at_ ≤ 9223372036854775807
  n1 : -9223372036854775808 ≤ x.n ∧ x.n ≤ 9223372036854775807
def Act6.cells (x : Act6) : List Value := [.int .i64 x.what, .int .i64 x.at_, .int .i64 x.n, .string x.text, .bool x.two, .bool x.raw]
/-- v reads as the acts l. -/
def RdX (w : World) (v : Value) (l : List Act6) : Prop :=
  ∃ (a : Option Addr) (cap : Nat), v = .slice a l.length cap ∧ l.length ≤ cap ∧ l.length ≤ 9223372036854775807 ∧ ∀ i (hi : i < l.length), l[i].ok ∧ ∃ g o, a = some ⟨g, o, none⟩ ∧ g < w.heap.size ∧
    ∀ j (hj : j < l.length) m, m < 6 → w.cell? ⟨g, o + (j * 6 + m), none⟩ = l[j].cells[m]?
theorem act6_in {H : Type} {enc : TypeId × Value → H} {W : World} {n : Nat} {cs : List Value} {y : DataW H × List MemPlace} (hcl : cs.length = 6)
    (h : DataW.trod enc Tryz.prog W 0 (fun _ => true) true n 43 cs = some y) : ∃ x : Act6, cs = x.cells ∧ x.ok := by
  obtain ⟨xs, k, _, _, _, hxl, hf⟩ := DataW.trod_struct Tryz.underlying43 h
  have ci : Tryz.prog.cellsOf 3 = 1 := by kernel_rfl
  have cs' : Tryz.prog.cellsOf 9 = 1 := by kernel_rfl
  have cb : Tryz.prog.cellsOf 4 = 1 := by kernel_rfl
  match xs, hxl, cs, hcl with
  | [y0, y1, y2, y3, y4, y5], _, [v0, v1, v2, v3, v4, v5], _ =>
    have g0 := hf 0 _ rfl
    have g1 := hf 1 _ rfl
    have g2 := hf 2 _ rfl
    have g3 := hf 3 _ rfl
    have g4 := hf 4 _ rfl
    have g5 := hf 5 _ rfl
    simp [ci, cs', cb] at g0 g1 g2 g3 g4 g5
    obtain ⟨m0, e0, _, hw0⟩ := DataW.trod_int Tryz.underlying3 g0
    obtain ⟨m1, e1, _, hw1⟩ := DataW.trod_int Tryz.underlying3 g1
    obtain ⟨m2, e2, _, hw2⟩ := DataW.trod_int Tryz.underlying3 g2
    obtain ⟨s, e3, _, _⟩ := DataW.trod_string Tryz.underlying9 g3
    obtain ⟨b4, e4, _⟩ := DataW.trod_bool Tryz.underlying4 g4
    obtain ⟨b5, e5, _⟩ := DataW.trod_bool Tryz.underlying4 g5
    injection e0 with e0 _
    injection e1 with e1 _
    injection e2 with e2 _
    injection e3 with e3 _
    injection e4 with e4 _
    injection e5 with e5 _
    subst e0 e1 e2 e3 e4 e5
    exact ⟨⟨m0, m1, m2, s, b4, b5⟩, rfl, ⟨int_wf hw0, int_wf hw1, int_wf hw2⟩⟩
theorem acts6_in {H : Type} {enc : TypeId × Value → H} {W : World} {base : Nat} {v : Value} {d : DataW H} {p : List MemPlace}
    (hval : Value.okWide Tryz.prog W .any base 22 v) (hd : DataW.Trod enc Tryz.prog W 0 (fun _ => true) true 22 v d p) : ∃ l, RdX W v l := by
  obtain ⟨a, n, cap, rfl⟩ := okWide_slice Tryz.underlying22 hval
  obtain ⟨f, hf⟩ := hd
  obtain ⟨l, a, cap, e, h1, h2, h3⟩ := row_in (W := W) (fun x : Act6 => x.cells) (fun x => x.ok) Tryz.underlying22 (c := 6) (by kernel_rfl) (by decide) (fun n cs y hl h => act6_in hl h) hf
  exact ⟨l, a, cap, e, h1, h2, h3⟩
theorem RdX.slice {w : World} {v : Value} {l : List Act6} (h : RdX w v l) : ∃ a cap, v = .slice a l.length cap := by
  obtain ⟨a, cap, rfl, _⟩ := h
  exact ⟨a, cap, rfl⟩
theorem RdX.at {w w' : World} {l : List Act6} {a : Option Addr} {n cap : Nat} (h : RdX w (.slice a n cap) l) (hb : Below w.heap.size w w') {k : Nat} (hk : k < l.length) :
    ∃ g o, a = some ⟨g, o, none⟩ ∧ (l[k]).ok ∧ w'.cell? ⟨g, o + k * 6, none⟩ = some (.int .i64 (l[k]).what) ∧ w'.cell? ⟨g, o + k * 6 + 1, none⟩ = some (.int .i64 (l[k]).at_) ∧ w'.cell? ⟨g, o + k * 6 + 2, none⟩ = some (.int .i64 (l[k]).n) ∧ w'.cell? ⟨g, o + k * 6 + 3, none⟩ = some (.string (l[k]).text) ∧ w'.cell? ⟨g, o + k * 6 + 4, none⟩ = some (.bool (l[k]).two) ∧ w'.cell? ⟨g, o + k * 6 + 5, none⟩ = some (.bool (l[k]).raw) := by
  obtain ⟨a', cap', e, _, _, hi⟩ := h
  injection e with e1 _ _
  subst e1
  obtain ⟨h0, g, o, rfl, h2, h3⟩ := hi k hk
  refine ⟨g, o, rfl, h0, ?_, ?_, ?_, ?_, ?_, ?_⟩
  · rw [hb.cell (p := ⟨g, o + k * 6, none⟩) h2]; exact h3 k hk 0 (by decide)
  · rw [hb.cell (p := ⟨g, o + k * 6 + 1, none⟩) h2, Nat.add_assoc]; exact h3 k hk 1 (by decide)
  · rw [hb.cell (p := ⟨g, o + k * 6 + 2, none⟩) h2, Nat.add_assoc]; exact h3 k hk 2 (by decide)
  · rw [hb.cell (p := ⟨g, o + k * 6 + 3, none⟩) h2, Nat.add_assoc]; exact h3 k hk 3 (by decide)
  · rw [hb.cell (p := ⟨g, o + k * 6 + 4, none⟩) h2, Nat.add_assoc]; exact h3 k hk 4 (by decide)
  · rw [hb.cell (p := ⟨g, o + k * 6 + 5, none⟩) h2, Nat.add_assoc]; exact h3 k hk 5 (by decide)
end Go.Proofs.YtahnhhhhfioibaaGreatDoor

namespace Go.Proofs.YtahnhhhhfioibaaGreatDoor
open Go.RowKit

section
variable {P : Program}
theorem add_part (g o j : Nat) : (⟨g, o, none⟩ : Addr).add j = ⟨g, o + j, none⟩ := by unfold Addr.add; split <;> simp_all
theorem run_loadVar_part (w : World) (g o : Nat) (ty : TypeId) (cs : List Value) (d : TypeDesc) (h : ∀ j v, cs[j]? = some v → w.cell? ⟨g, o + j, none⟩ = some v)
    (hu : P.underlying ty = some d) (hd : (match d with | .struct _ | .array _ _ => true | _ => false) = true) (hi : (P.info? ty).map (·.size) = some cs.length) :
    (loadVar ty ⟨g, o, none⟩).run P w = .ok (.agg cs.toArray) w := by
  have hl : (loadCells ⟨g, o, none⟩ cs.length).run P w = .ok cs.toArray w := run_loadCells_list (P := P) w ⟨g, o, none⟩ cs (fun j v hv => by rw [add_part]; exact h j v hv)
  cases hq : P.info? ty with
  | none => simp [hq] at hi
  | some i =>
    have hs : i.size = cs.length := by simpa [hq] using hi
    have hagg : (isAgg ty).run P w = .ok true w := by
      unfold isAgg
      rw [Sem.run_bind, run_underlying hu w]
      cases d <;> simp_all
    simp [loadVar, Sem.run_bind, hagg, sizeOf, typeInfo, hq, hs, hl]
theorem run_storeVar_part (w : World) (g o : Nat) (t ty : TypeId) (old cs : List Value) (hg : Blk w g t old) (hi : (P.info? ty).map (·.size) = some cs.length)
    (ho : o + cs.length ≤ old.length) (h1 : ∀ v ∈ cs, v.oneCell' = true) :
    (storeVar ty ⟨g, o, none⟩ (.agg cs.toArray)).run P w = .ok () (w.setRow g (old.take o ++ cs ++ old.drop (o + cs.length)).toArray) := by
  have := run_storeCells_at (P := P) g o t cs 0 old.toArray w hg (by simpa using ho) h1
  cases hq : P.info? ty with
  | none => simp [hq] at hi
  | some i =>
    have hs : cs.length = i.size := by simp [hq] at hi; omega
    simp [storeVar, sizeOf, typeInfo, hq, Value.cells, hs] at this ⊢
    exact this
theorem wp_load_part {o : Oper} {a : Act} {w : World} {K : Act → World → Prop} {Q : Exit → Act → World → Prop} (ty : TypeId) (x : Operand) (ho : o.op = .load ty x)
    (g p : Nat) (hx : a.eval x = .pointer (some ⟨g, p, none⟩)) (cs : List Value) (d : TypeDesc) (hc : ∀ j v, cs[j]? = some v → w.cell? ⟨g, p + j, none⟩ = some v)
    (hu : P.underlying ty = some d) (hd : (match d with | .struct _ | .array _ _ => true | _ => false) = true) (hi : (P.info? ty).map (·.size) = some cs.length)
    (h : K (a.put o.dst (.agg cs.toArray)) w) : o.wp P a w K Q := by
  unfold Oper.wp execOp
  simp only [ho, hx, Instr.loadAt, Instr.sureAddr, Sem.run_bind, Sem.run_pure, Result.andThen_ok, run_loadVar_part w g p ty cs d hc hu hd hi]
  exact h
theorem wpList_load_part {ops : Array Oper} {rest : List Oper} {o : Oper} {a : Act} {w : World} {Q : Exit → Act → World → Prop} (hgd : o.guard = none) (ty : TypeId) (x : Operand) (ho : o.op = .load ty x)
    (g p : Nat) (hx : a.eval x = .pointer (some ⟨g, p, none⟩)) (cs : List Value) (d : TypeDesc) (hc : ∀ j v, cs[j]? = some v → w.cell? ⟨g, p + j, none⟩ = some v)
    (hu : P.underlying ty = some d) (hd : (match d with | .struct _ | .array _ _ => true | _ => false) = true) (hi : (P.info? ty).map (·.size) = some cs.length)
    (h : wpList P ops Q rest (a.put o.dst (.agg cs.toArray)) w) : wpList P ops Q (o :: rest) a w :=
  wpList_plain hgd fun _ hK => wp_load_part ty x ho g p hx cs d hc hu hd hi (hK _ _ h)
theorem wp_store_part {o : Oper} {a : Act} {w : World} {K : Act → World → Prop} {Q : Exit → Act → World → Prop} (ty : TypeId) (x y : Operand) (ho : o.op = .store ty x y)
    (g p : Nat) (cs : List Value) (hx : a.eval x = .pointer (some ⟨g, p, none⟩)) (hy : a.eval y = .agg cs.toArray)
    (t : TypeId) (old : List Value) (hg : Blk w g t old) (hi : (P.info? ty).map (·.size) = some cs.length)
    (hold : p + cs.length ≤ old.length) (h1 : ∀ v ∈ cs, v.oneCell' = true)
    (h : K (a.put o.dst undef) (w.setRow g (old.take p ++ cs ++ old.drop (p + cs.length)).toArray)) : o.wp P a w K Q := by
  unfold Oper.wp execOp
  simp only [ho, hx, hy, Instr.storeAt, Instr.sureAddr, Sem.run_bind, Sem.run_pure, Result.andThen_ok, run_storeVar_part w g p t ty old cs hg hi hold h1]
  exact h
theorem wpList_store_part {ops : Array Oper} {rest : List Oper} {o : Oper} {a : Act} {w : World} {Q : Exit → Act → World → Prop} (hgd : o.guard = none) (ty : TypeId) (x y : Operand) (ho : o.op = .store ty x y)
    (g p : Nat) (cs : List Value) (hx : a.eval x = .pointer (some ⟨g, p, none⟩)) (hy : a.eval y = .agg cs.toArray)
    (t : TypeId) (old : List Value) (hg : Blk w g t old) (hi : (P.info? ty).map (·.size) = some cs.length)
    (hold : p + cs.length ≤ old.length) (h1 : ∀ v ∈ cs, v.oneCell' = true)
    (h : wpList P ops Q rest (a.put o.dst undef) (w.setRow g (old.take p ++ cs ++ old.drop (p + cs.length)).toArray)) : wpList P ops Q (o :: rest) a w :=
  wpList_plain hgd fun _ hK => wp_store_part ty x y ho g p cs hx hy t old hg hi hold h1 (hK _ _ h)
end
end Go.Proofs.YtahnhhhhfioibaaGreatDoor
