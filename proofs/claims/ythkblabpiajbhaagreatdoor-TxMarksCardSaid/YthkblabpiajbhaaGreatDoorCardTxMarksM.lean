/- TxMarks: for every two lists of puts the function of the statement returns true: back to a mark a change is as it was there, whatever was put since. Conditions: none beside those of the form; no walk reads the two tables that are laid. -/
import Derived.Test.YthkblabpiajbhaaGreatDoorG8
import Derived.Test.YthkblabpiajbhaaGreatDoorG6
namespace Go.Proofs.YthkblabpiajbhaaGreatDoor
open Go.RowKit Lib

/-- The puts that a change of 20 homes takes. -/
def okPut (p : PutD) : Bool := decide (0 ≤ p.1) && decide (p.1 < 20) && decide (p.2.size ≤ 512)
def okPs (l : List PutD) : List (Nat × List UInt8) := (l.filter okPut).map fun p => (p.1.toNat, p.2.data.toList)
theorem okPs_take (l : List PutD) (k : Nat) (hk : k < l.length) : okPs (l.take (k + 1)) = okPs (l.take k) ++ (if okPut l[k] then [(l[k].1.toNat, l[k].2.data.toList)] else []) := by
  unfold okPs
  rw [List.take_succ_eq_append_getElem hk, List.filter_append, List.map_append]
  congr 1
  by_cases h : okPut l[k] = true
  · rw [if_pos h, List.filter_cons, if_pos h]; rfl
  · rw [if_neg h, List.filter_cons, if_neg h]; rfl
theorem okPs_len (l : List PutD) : (okPs l).length ≤ l.length := by unfold okPs; rw [List.length_map]; exact List.length_filter_le _ _
abbrev boxZ (q : Nat) (tb : Nat) : Nat → Option Obj := fun x => if x = q then some (.cells #[.pointer (some ⟨tb, 0, none⟩)] 53) else none
section
variable {w0 X : World} {ring g N lb tb q : Nat} {H : List Wl.Text} {ps : List (Nat × List UInt8)} {V : Value} {L : List Wl.Text}
theorem box_cell (h : Chg w0 (boxZ q tb) ring g N lb tb H ps V L X) : X.cell? ⟨q, 0, none⟩ = some (.pointer (some ⟨tb, 0, none⟩)) :=
  (show Blk X q 53 [.pointer (some ⟨tb, 0, none⟩)] from Chg.holds h (if_pos rfl)).cell rfl
end
set_option maxRecDepth 100000 in
set_option maxHeartbeats 4000000 in
/-- The closure that puts a list. -/
theorem putAll_any (w0 X : World) (ring g N lb tb q : Nat) (H : List Wl.Text) (ps : List (Nat × List UInt8)) (V : Value) (L : List Wl.Text) (v : Value) (l : List PutD) (h : Chg w0 (boxZ q tb) ring g N lb tb H ps V L X) (hl : RdP w0 v l) (hH : H.length = 20) (hn : ps.length + l.length ≤ 900000) :
    Calls Tryz.prog 39 #[v, .pointer (some ⟨q, 0, none⟩)] X fun e X' => e = .returned (.bool true) ∧ Chg w0 (boxZ q tb) ring g N lb tb H (ps ++ okPs l) V L X' := by
  obtain ⟨al, cl, rfl, hcl, hml, hrl⟩ := hl
  have HR := Lib.hid hrl
  have H0 := Lib.hid h
  have HH := Lib.hid hH
  have HNn := Lib.hid hn
  clear hrl hcl h hH hn
  go_enter Tryz.func39, Tryz.ntmps39
  go_wp2
  go_loopw [9] (fun i wr => ∃ k : Nat, k ≤ l.length ∧ i = .int .i64 k ∧ Hid (Chg w0 (boxZ q tb) ring g N lb tb H (ps ++ okPs (l.take k)) V L wr)) (fun i _ => l.length - (Go.RowKit.intOf i).toNat)
  case atStart => exact ⟨0, Nat.zero_le _, rfl, Lib.hid (by simpa [okPs] using H0.out)⟩
  case round =>
    obtain ⟨k, hk, rfl, hS⟩ := hrel
    by_cases hlt : k < l.length
    · have hI : (k : Int) < l.length := by omega
      obtain ⟨⟨hi1, hi2⟩, gp, op, rfl, hgp, hxp⟩ := HR.out k hlt
      obtain ⟨cp0, cp1⟩ := hxp k hlt
      have d0 : wr.cell? ⟨gp, op + k * 2, none⟩ = some (.int .i64 l[k].1) := (hS.out.below.cell (p := ⟨gp, op + k * 2, none⟩) hgp).trans cp0
      have d1 : wr.cell? ⟨gp, op + k * 2 + 1, none⟩ = some (.string l[k].2) := (hS.out.below.cell (p := ⟨gp, op + k * 2 + 1, none⟩) hgp).trans cp1
      have HT := Lib.hid (okPs_take l k hlt)
      have HLt := Lib.hid hlt
      have HLe := Lib.hid (show (okPs (l.take k)).length ≤ k by have := okPs_len (l.take k); rw [List.length_take] at this; omega)
      clear hxp cp0 cp1 hk
      generalize l[k] = p at *
      obtain ⟨at_, text⟩ := p
      simp only at d0 d1 hi1 hi2
      obtain ⟨r, hr⟩ : ∃ r, wr.heap.size = r := ⟨_, rfl⟩
      have hqr : q < r := by
        have := (Array.getElem?_eq_some_iff.1 (Chg.holds hS.out (o := .cells #[.pointer (some ⟨tb, 0, none⟩)] 53) (if_pos rfl))).1
        omega
      obtain ⟨Y, hY⟩ : ∃ Y, Y = wr.alloc (.cells #[.int .i64 at_, .string text] 74) := ⟨_, rfl⟩
      have HY := Lib.hid (show Chg w0 (fun x => if x = r then some (.cells #[.int .i64 at_, .string text] 74) else boxZ q tb x) ring g N lb tb H (ps ++ okPs (l.take k)) V L Y by rw [hY]; exact Chg.held hS.out _ hr)
      have hZq : (if q = r then some (Obj.cells #[.int .i64 at_, .string text] 74) else boxZ q tb q) = some (.cells #[.pointer (some ⟨tb, 0, none⟩)] 53) := by rw [if_neg (by omega)]; exact if_pos rfl
      have y0 : Y.cell? ⟨q, 0, none⟩ = some (.pointer (some ⟨tb, 0, none⟩)) := (show Blk Y q 53 [.pointer (some ⟨tb, 0, none⟩)] from Chg.holds HY.out hZq).cell rfl
      have back : ∀ (W : World) (ps' : List (Nat × List UInt8)), Chg w0 (fun x => if x = r then some (.cells #[.int .i64 at_, .string text] 74) else boxZ q tb x) ring g N lb tb H ps' V L W → Blk W r 74 [.int .i64 at_, .string text] ∧ Chg w0 (boxZ q tb) ring g N lb tb H ps' V L W := fun W ps' hc =>
        ⟨Chg.holds hc (if_pos rfl), hc.less fun x o hz => by
          have hz' : (if x = q then some (Obj.cells #[.pointer (some ⟨tb, 0, none⟩)] 53) else none) = some o := hz
          by_cases e : x = q
          · show (if x = r then _ else boxZ q tb x) = _
            rw [if_neg (by omega)]; exact hz
          · rw [if_neg e] at hz'; cases hz'⟩
      have yw : wr.cell? ⟨q, 0, none⟩ = some (.pointer (some ⟨tb, 0, none⟩)) := box_cell hS.out
      have ya : (wr.alloc (.cells #[.int .i64 at_, .string text] 74)).cell? ⟨q, 0, none⟩ = some (.pointer (some ⟨tb, 0, none⟩)) := by rw [← hY]; exact y0
      have HBk := Lib.hid back
      clear hlt back hZq hqr
      by_cases hok : 0 ≤ at_ ∧ at_ < 20 ∧ text.size ≤ 512
      · obtain ⟨h1, h2, h3⟩ := hok
        obtain ⟨i, rfl⟩ : ∃ i : Nat, at_ = i := ⟨at_.toNat, by omega⟩
        have hT2 := HT.out
        rw [if_pos (by simp [okPut]; omega)] at hT2
        simp only [Int.toNat_natCast] at hT2
        have HT2 := Lib.hid hT2
        have h3I : (text.size : Int) ≤ 512 := by omega
        have HI := Lib.hid (show i < 20 ∧ text.size ≤ 512 by omega)
        clear hT2
        go_wp2_with fail
        try rw [← hY]
        refine (chg_write HY.out i text (by rw [HH.out]; exact HI.out.1) (by rw [HH.out]; decide) HI.out.2 (by have := HLe.out; have := HNn.out; have := HLt.out; rw [List.length_append]; omega)).mono ?_
        rintro e w6 ⟨rfl, h6⟩
        obtain ⟨hb6, h6'⟩ := HBk.out _ _ h6
        have H6 := Lib.hid (show Chg w0 (boxZ q tb) ring g N lb tb H (ps ++ okPs (l.take (k + 1))) V L w6 by rw [HT2.out, ← List.append_assoc]; exact h6')
        have b0 := hb6.cell (j := 0) rfl
        have b1 := hb6.cell (j := 1) rfl
        clear h6 h6' hb6 d0 d1 y0 yw ya hY
        go_wp2
        go_roundw
        case rel => exact ⟨k + 1, HLt.out, by go_num, H6⟩
        case measure => have := HLt.out; simp [Go.RowKit.intOf]; omega
      · have hT2 := HT.out
        rw [if_neg (by simp [okPut]; omega), List.append_nil] at hT2
        have HT2 := Lib.hid hT2
        clear hT2
        rcases (show at_ < 0 ∨ (0 ≤ at_ ∧ 20 ≤ at_) ∨ (0 ≤ at_ ∧ at_ < 20 ∧ 512 < text.size) by omega) with h1 | ⟨h1, h2⟩ | ⟨h1, h2, h3⟩
        · have hc : (2 : Int) = 2 ∧ (at_ < 0 ∨ (H.length : Int) ≤ at_) := ⟨rfl, .inl h1⟩
          have HC := Lib.hid hc
          have h1n : ¬ 0 ≤ at_ := by omega
          clear hok hc
          go_wp2_with fail
          try rw [← hY]
          refine (chg_write_no HY.out at_ text 2 (.inl ⟨rfl, HC.out.2⟩)).mono ?_
          rintro e w6 ⟨rfl, h6⟩
          obtain ⟨hb6, h6'⟩ := HBk.out _ _ h6
          have H6 := Lib.hid (show Chg w0 (boxZ q tb) ring g N lb tb H (ps ++ okPs (l.take (k + 1))) V L w6 by rw [HT2.out]; exact h6')
          have b0 := hb6.cell (j := 0) rfl
          have b1 := hb6.cell (j := 1) rfl
          clear h6 h6' hb6 d0 d1 y0 yw ya hY
          go_wp2
          go_roundw
          case rel => exact ⟨k + 1, HLt.out, by go_num, H6⟩
          case measure => have := HLt.out; simp [Go.RowKit.intOf]; omega
        · have hc : (2 : Int) = 2 ∧ (at_ < 0 ∨ (H.length : Int) ≤ at_) := ⟨rfl, .inr (by rw [HH.out]; omega)⟩
          have HC := Lib.hid hc
          have h2n : ¬ at_ < 20 := by omega
          clear hok hc
          go_wp2_with fail
          try rw [← hY]
          refine (chg_write_no HY.out at_ text 2 (.inl ⟨rfl, HC.out.2⟩)).mono ?_
          rintro e w6 ⟨rfl, h6⟩
          obtain ⟨hb6, h6'⟩ := HBk.out _ _ h6
          have H6 := Lib.hid (show Chg w0 (boxZ q tb) ring g N lb tb H (ps ++ okPs (l.take (k + 1))) V L w6 by rw [HT2.out]; exact h6')
          have b0 := hb6.cell (j := 0) rfl
          have b1 := hb6.cell (j := 1) rfl
          clear h6 h6' hb6 d0 d1 y0 yw ya hY
          go_wp2
          go_roundw
          case rel => exact ⟨k + 1, HLt.out, by go_num, H6⟩
          case measure => have := HLt.out; simp [Go.RowKit.intOf]; omega
        · have hc : (5 : Int) = 5 ∧ 0 ≤ at_ ∧ at_ < (H.length : Int) ∧ 512 < text.size := ⟨rfl, h1, by rw [HH.out]; omega, h3⟩
          have HC := Lib.hid hc
          have h3n : (text.size : Int) > 512 := by omega
          clear hok hc
          go_wp2_with fail
          try rw [← hY]
          refine (chg_write_no HY.out at_ text 5 (.inr ⟨rfl, HC.out.2⟩)).mono ?_
          rintro e w6 ⟨rfl, h6⟩
          obtain ⟨hb6, h6'⟩ := HBk.out _ _ h6
          have H6 := Lib.hid (show Chg w0 (boxZ q tb) ring g N lb tb H (ps ++ okPs (l.take (k + 1))) V L w6 by rw [HT2.out]; exact h6')
          have b0 := hb6.cell (j := 0) rfl
          have b1 := hb6.cell (j := 1) rfl
          clear h6 h6' hb6 d0 d1 y0 yw ya hY
          go_wp2
          go_roundw
          case rel => exact ⟨k + 1, HLt.out, by go_num, H6⟩
          case measure => have := HLt.out; simp [Go.RowKit.intOf]; omega
    · obtain rfl : k = l.length := by omega
      rw [List.take_length] at hS
      go_wp2
      go_ret
      exact ⟨rfl, hS.out⟩
set_option maxRecDepth 100000 in
set_option maxHeartbeats 4000000 in
theorem txMarks_any (w : World) (va vb : Value) (l m : List PutD) (hl : RdP w va l) (hm : RdP w vb m) :
    Calls Tryz.prog 8 #[va, vb] w fun e w' => e = .returned (.bool true) ∧ Below w.heap.size w w' := by
  have HLl := Lib.hid hl
  have HLm := Lib.hid hm
  obtain ⟨al, cl, rfl, _⟩ := hl
  obtain ⟨am, cm, rfl, _⟩ := hm
  go_enter Tryz.func8, Tryz.ntmps8
  go_wp2_with fail
  refine (awake6_any w).mono ?_
  rintro e w1 ⟨rfl, hb1⟩
  have H1 := Lib.hid hb1
  clear hb1
  by_cases hl20 : l.length ≤ 20
  · by_cases hm20 : m.length ≤ 20
    · have j1 : (l.length : Int) ≤ 20 := by omega
      have j2 : (m.length : Int) ≤ 20 := by omega
      have HLen := Lib.hid (And.intro hl20 hm20)
      clear hl20 hm20
      go_wp2_with fail
      refine (new_any 37 w1 (by decide) (by decide)).mono ?_
      rintro e w2 ⟨g, FD, rfl, hd2, hF2, hb2⟩
      have H2 := Lib.hid (And.intro hd2 (And.intro hF2 hb2))
      clear hd2 hF2 hb2 j1 j2
      go_wp2_with fail
      refine (kept_begun (A := fun x => x < w.heap.size) H2.out.1 (fun x hx hn => by have := H2.out.2.1 x hx; have := H1.out.size; omega) (fun x hx => by have := H1.out.size; have := H2.out.2.2.size; omega) (by decide) (by decide) (by decide) (by decide)).mono ?_
      rintro e w3 ⟨b, rfl, hk3, ho3⟩
      have H3 := Lib.hid (show Kept (fun x => x < w.heap.size) 16 w3 b g 1 (Wl.noughts 20) ∧ Below w.heap.size w w3 by
        have h12 : Below w.heap.size w w2 := H1.out.trans (H2.out.2.2.mono H1.out.size)
        exact ⟨hk3, h12.trans (Off.below ho3 (fun x hx => hx) h12.size)⟩)
      clear hk3 ho3
      obtain ⟨H, hH⟩ : ∃ H, H = Wl.noughts 20 := ⟨_, rfl⟩
      have HH := Lib.hid (show H.length = 20 by rw [hH]; simp [Wl.noughts])
      rw [← hH] at H3
      clear hH
      go_wp2_with fail
      refine (chg_begin H3.out.1 (fun k hk => hk) H3.out.2).mono ?_
      rintro e w4 ⟨tb, rfl, h4⟩
      obtain ⟨q, hq⟩ : ∃ q, w4.heap.size = q := ⟨_, rfl⟩
      have H4 := Lib.hid (show Chg w (boxZ q tb) 16 g 1 b tb H [] (.slice none 0 0) [] (w4.alloc (.cells #[.pointer (some ⟨tb, 0, none⟩)] 53)) from h4.held _ hq)
      clear h4
      unfold ptr
      go_wp2_with fail
      refine (putAll_any w _ 16 g 1 b tb q H [] _ [] _ l H4.out HLl.out HH.out (by have := HLen.out; simp; omega)).mono ?_
      rintro e w5 ⟨rfl, h5⟩
      rw [List.nil_append] at h5
      have H5 := Lib.hid h5
      clear h5 hq
      go_wp2
      obtain ⟨P1, hP1⟩ : ∃ P1, P1 = okPs l := ⟨_, rfl⟩
      have HPl := Lib.hid (show P1.length ≤ 20 by rw [hP1]; have := okPs_len l; have := HLen.out; omega)
      rw [← hP1] at H5
      clear hP1
      obtain ⟨K, hK⟩ : ∃ K, K = Wl.along H (Tx.psI P1) := ⟨_, rfl⟩
      have HK := Lib.hid (show Wl.along H (Tx.psI P1) = K ∧ K.length = 20 by rw [hK, Wl.along_length]; exact ⟨rfl, HH.out⟩)
      clear hK
      obtain ⟨W, hW⟩ : ∃ W, W = w5 := ⟨_, rfl⟩
      rw [← hW] at H5 ⊢
      clear hW
      go_loopw [11, 46] (fun u i wr => ∃ k : Nat, k ≤ 20 ∧ i = .int .i64 k ∧ Hid (OwnS W.heap.size wr u (K.take k)) ∧ Hid (Below W.heap.size W wr)) (fun _ i _ => 20 - (Go.RowKit.intOf i).toNat)
      case atStart => exact ⟨0, Nat.zero_le _, rfl, Lib.hid (Own.nil _ _ _ _), Lib.hid (Below.refl _ _)⟩
      case round =>
        obtain ⟨k, hk, rfl, hO, hB⟩ := hrel
        by_cases hlt : k < 20
        · have hI : (k : Int) < 20 := by omega
          have k0 : (0 : Int) ≤ k := by omega
          have hkK : k < K.length := by rw [HK.out.2]; exact hlt
          have HHm := Lib.hid (homeOf_at hkK)
          have HX := Lib.hid (show K.take (k + 1) = K.take k ++ [K[k]] from List.take_succ_eq_append_getElem hkK)
          generalize K[k] = x at *
          have HLt := Lib.hid hlt
          have HC := Lib.hid (H5.out.still hB.out)
          have y0 := box_cell HC.out
          clear hlt hkK hk
          go_wp2_with fail
          refine (chg_read HC.out k (by rw [HH.out]; exact HLt.out) (by rw [HH.out]; decide)).mono ?_
          rintro e w6 ⟨rfl, -, hb6⟩
          rw [HK.out.1, HHm.out]
          simp only
          have HB5 := Lib.hid (show Below W.heap.size W w6 ∧ OwnS W.heap.size w6 u11 (K.take k) from ⟨hB.out.trans (hb6.mono hB.out.size), hO.out.but (But.of_below hb6 (fun _ => False)) (fun _ _ h => h)⟩)
          clear hb6 y0
          go_wp2_with (at_builtin; refine wpList_app stringST rfl _ _ rfl rfl (HB5.out.2.alloc _) (by have := HB5.out.1.size; simp; omega) w6.heap.size 0 1 1 [bs x] rfl rfl (lies_new _ _) (by rw [List.length_map, List.length_take]; have := HLt.out; omega) ?_; intro u6 w7 ho6 hg6; have H6 := Lib.hid (And.intro ho6 hg6); clear ho6 hg6)
          go_roundw
          case rel =>
            obtain ⟨ho6, hg6⟩ := H6.out
            refine ⟨k + 1, HLt.out, by go_num, Lib.hid ?_, Lib.hid ?_⟩
            · rw [HX.out]
              unfold OwnS
              rw [List.map_append]
              exact ho6
            · exact (HB5.out.1.alloc HB5.out.1.size _).grown hg6 (by have := HB5.out.1.size; simp; omega) (fun j e => (Own.block HB5.out.2 j e).1)
          case measure => have := HLt.out; simp [Go.RowKit.intOf]; omega
        · have hk20 : k = 20 := by omega
          have hI : ¬ (k : Int) < 20 := by omega
          rw [hk20, List.take_of_length_le (by rw [HK.out.2]; exact Nat.le_refl _)] at hO
          obtain ⟨qr, cq, hu, hq1, hq2, _⟩ := Own.form hO.out (by rw [List.length_map, HK.out.2]; decide)
          rw [List.length_map, HK.out.2] at hu
          subst hu
          have H6 := Lib.hid (show Chg w (boxZ q tb) 16 g 1 b tb H P1 (.slice (some ⟨qr, 0, none⟩) 20 cq) K wr from Chg.row H5.out hB.out hO.out)
          have y0 := box_cell H6.out
          clear hO hB hk hlt hq1 hq2 hk20
          go_wp2
          go_quiet (first
            | (go_at_call 29; exact Calls.quiet_of_same (chg_mark (by first | exact H6.out | exact H6.out.still (below_drawn _ _))))
            | (go_at_call 35; exact Calls.quiet_of_same (chg_touched (by first | exact H6.out | exact H6.out.still (below_drawn _ _)))))
          go_wp2_with fail
          refine (putAll_any w _ 16 g 1 b tb q H P1 _ K _ m (by first | exact H6.out.still (below_drawn _ _) | exact H6.out) HLm.out HH.out (by have := HLen.out; have := HPl.out; omega)).mono ?_
          rintro e w7 ⟨rfl, h7⟩
          have H7 := Lib.hid h7
          have y1 := box_cell h7
          clear h7 y0
          go_wp2_with fail
          refine (chg_back H7.out P1.length (by have := okPs_len m; have := HLen.out; have := HPl.out; rw [List.length_append]; omega)).mono ?_
          rintro e w8 ⟨rfl, h8⟩
          rw [List.take_left] at h8
          have H8 := Lib.hid h8
          clear h8 y1
          go_wp2
          go_loopw [71] (fun i wr => ∃ k : Nat, k ≤ 20 ∧ i = .int .i64 k ∧ Hid (Chg w (boxZ q tb) 16 g 1 b tb H P1 (.slice (some ⟨qr, 0, none⟩) 20 cq) K wr)) (fun i _ => 20 - (Go.RowKit.intOf i).toNat)
          case atStart => exact ⟨0, Nat.zero_le _, rfl, H8⟩
          case round =>
            obtain ⟨j, hj, rfl, hS⟩ := hrel
            by_cases hlt : j < 20
            · have hI2 : (j : Int) < 20 := by omega
              have j0 : (0 : Int) ≤ j := by omega
              have hjK : j < K.length := by rw [HK.out.2]; exact hlt
              have HHm := Lib.hid (homeOf_at hjK)
              obtain ⟨x, hx⟩ : ∃ x, x = K[j] := ⟨_, rfl⟩
              rw [← hx] at HHm
              have HLt := Lib.hid hlt
              have HX := Lib.hid (show ∃ h : j < K.length, x = K[j]'h from ⟨hjK, hx⟩)
              have y2 := box_cell hS.out
              clear hlt hjK hj hx
              go_wp2_with fail
              refine (chg_read hS.out j (by rw [HH.out]; exact HLt.out) (by rw [HH.out]; decide)).mono ?_
              rintro e w9 ⟨rfl, h9, -⟩
              rw [HK.out.1, HHm.out]
              simp only
              have hcl : w9.cell? ⟨qr, j, none⟩ = some (.string (bs x)) := by
                obtain ⟨hj', e⟩ := HX.out
                rw [e]
                exact OwnS.strAt h9.own j hj'
              have H9 := Lib.hid h9
              clear h9 y2
              go_wp2
              go_roundw
              case rel => exact ⟨j + 1, HLt.out, by go_num, H9⟩
              case measure => have := HLt.out; simp [Go.RowKit.intOf]; omega
            · have hI2 : ¬ (j : Int) < 20 := by omega
              have y2 := box_cell hS.out
              go_wp2_with fail
              refine (chg_mark hS.out).mono ?_
              rintro e w9 ⟨rfl, rfl⟩
              go_wp2_with fail
              refine (chg_touched hS.out).mono ?_
              rintro e w10 ⟨rfl, rfl⟩
              go_wp2
              go_ret
              exact ⟨rfl, hS.out.below⟩
    · have j1 : (l.length : Int) ≤ 20 := by omega
      have j2 : (m.length : Int) > 20 := by omega
      go_wp2
      go_ret
      exact ⟨rfl, H1.out⟩
  · have j1 : (l.length : Int) > 20 := by omega
    go_wp2
    go_ret
    exact ⟨rfl, H1.out⟩
end Go.Proofs.YthkblabpiajbhaaGreatDoor

namespace Go.Proofs.YthkblabpiajbhaaGreatDoor
open Go.ChangeShapes Go.WideShapes Go.ChangeAt Go.RowKit
open Go.ChangeMaps (open_string shut_string)
namespace lawTxMarks
set_option maxRecDepth 100000
theorem contract (H : Type) (enc : TypeId × Value → H) (W : World) (base : Nat) (args : Array Value) (ds gs : List (DataW H)) (before : List MemPlace)
    (hval : ∀ (j : Nat) t v, Tryz.f8.params[j]? = some t → args[j]? = some v → Value.okWide Tryz.prog W .any base t v)
    (hW : DataW.Whole enc Tryz.prog Tryz.f8.params.toList Rows.txMarksSpec.vars false W args.toList ds gs before) :
    Calls Tryz.prog 8 args W fun e W' => ∃ v, e = .returned v ∧ Rows.txMarksSpec.post enc Tryz.prog Tryz.f8 false true false false W args v W' := by
  have hW' := hW
  obtain ⟨p, q, hA0, hV, rfl, hfz, hnd⟩ := hW
  have hA : DataW.TrodAll enc Tryz.prog W 0 (fun _ => true) true Tryz.f8.params.toList args.toList ds p := hA0
  have hAk := hA
  rw [Tryz.params8] at hA hval
  obtain ⟨v0, vs0, d0, ds0, p0, q0, hargs, rfl, rfl, h0, r0⟩ := trodAll_cons hA
  obtain ⟨v1, vs1, d1, ds1, p1, q1, rfl, rfl, rfl, h1, r1⟩ := trodAll_cons r0
  obtain ⟨rfl, rfl, rfl⟩ := trodAll_nil r1
  obtain rfl : args = #[v0, v1] := by cases args; simp_all
  obtain ⟨rfl, rfl⟩ := trodVars_none hV
  obtain ⟨l0, hr0⟩ := puts_in (hval 0 48 v0 rfl rfl) h0
  obtain ⟨l1, hr1⟩ := puts_in (hval 1 48 v1 rfl rfl) h1
  have lt := fun x hx => hW'.lt x hx
  clear hA0
  refine (txMarks_any W v0 v1 l0 l1 hr0 hr1).mono fun e W' ⟨he, hb⟩ => ?_
  subst he
  exact ⟨_, rfl, post_below (pv := []) hW' hb rfl (fun _ _ _ => trodAll_cons_mk (shut_bool Tryz.underlying4 _) trodAll_mk0) (fun sp hsp => trodAll_stays _ (by rw [Tryz.params8]; decide +kernel) hAk (fun x hx => hb.same (lt x (by simpa using hx))) (fun x hx => hsp x (by simpa using hx))) (fun _ _ => rfl)
    (ok_one (by kernel_rfl) rfl (okWide_bool_mk Tryz.underlying4 _))⟩
theorem laid_met (os : Os) : laidMet Tryz.prog Rows.txMarksRow.laid ((laidWorld os).forCall (fun _ _ => 0) ⟨#[], #[.slice none 0 0, .slice none 0 0], []⟩).memory :=
  laidMet_of_run' 8 (by kernel_rfl) (by kernel_rfl)
theorem reads (os : Os) {H : Type} (enc : TypeId × Value → H) : ∃ places, DataW.whole enc Tryz.prog ((laidWorld os).forCall (fun _ _ => 0) ⟨#[], #[.slice none 0 0, .slice none 0 0], []⟩).memory Tryz.f8.params.toList Rows.txMarksSpec.vars false #[Value.slice none 0 0, .slice none 0 0].toList 8 = some ([.nil, .nil], [], places) :=
  ⟨[], by kernel_rfl⟩
theorem lifted (os : Os) (started : os.Started) (H : Type) (enc : TypeId × Value → H) (F : Stop.Interp) :
    ReturnsInHanded {} Tryz.checked os 8 .any ((OpenSpec.ofChange Rows.txMarksSpec).preRow enc Tryz.prog Tryz.f8 Rows.txMarksRow.domain false Rows.txMarksRow.laid) (((OpenSpec.ofChange Rows.txMarksSpec).at F).post enc Tryz.prog Tryz.f8 false true false false) := by
  obtain ⟨places, hx⟩ := reads os enc
  refine returnsInHanded_of_row (C := Tryz.checked) (s := OpenSpec.ofChange Rows.txMarksSpec) own started (by kernel_rfl) Tryz.func8
    (witness_row_at (enc := enc) (C := Tryz.checked) false (laidWorld os) #[.slice none 0 0, .slice none 0 0] rfl (by kernel_rfl) (by kernel_rfl) (by kernel_rfl)
      (OpenSpec.preRow_of_cond 8 hx (by kernel_rfl) (fun k hk => by cases hk) (by kernel_rfl) (laid_met os))) ?_
  intro W base args ds gs before hval hW _ _ _ hL _ _
  exact contract H enc W base args ds gs before hval hW
theorem said : Rows.TxMarksSaid :=
  OpenClaim.holds_of_cond 8 Tryz.f8 rfl rfl rfl rfl rfl rfl rfl ⟨rfl, rfl, rfl, rfl, rfl⟩ rfl rfl rfl rfl rfl (by kernel_rfl) Tryz.func8 (by kernel_rfl)
    (of_decide_eq_true (by kernel_rfl)) (by unfold Func.isWrapper; first | (rw [if_pos (by decide +kernel)]; kernel_rfl) | (rw [if_neg (by decide +kernel)]; exact ⟨rfl, rfl⟩))
    (fun os started H enc _ F => by rw [OpenClaim.pre_eq_preRow]; exact lifted os started H enc F)
theorem plain (f : FuncId) (fn : Func) (hf : Tryz.pinned.checked.prog.funcNamed "cooperage/cooperagelaw06.TxMarks" = some f) (hfn : Tryz.pinned.checked.prog.funcs[f]? = some fn) :
    false = Tryz.pinned.checked.prog.looks [] ∧ ∀ (j : Nat) t, fn.params[j]? = some t → Tryz.pinned.checked.prog.wantsStandIn t = false := by
  obtain rfl : f = 8 := Option.some.inj ((show Tryz.prog.funcNamed "cooperage/cooperagelaw06.TxMarks" = some 8 by kernel_rfl).symm.trans hf) |>.symm
  obtain rfl : fn = Tryz.f8 := (Option.some.inj (Tryz.func8.symm.trans hfn)).symm
  refine ⟨by kernel_rfl, fun j t ht => ?_⟩
  rw [Tryz.params8] at ht
  have hm : t = 48 ∨ t = 48 := by simpa using Array.mem_of_getElem? ht
  rcases hm with rfl | rfl
  · exact (show Tryz.prog.wantsStandIn 48 = false by kernel_rfl)
  · exact (show Tryz.prog.wantsStandIn 48 = false by kernel_rfl)
theorem card : Rows.TxMarksCardSaid :=
  Claim7.holds_tied_plain_at .later [] _ _ _ _ said (fun _ h => by cases h) (by kernel_rfl) (fun _ h => by cases h) txMarks_row_tie rfl ⟨rfl, rfl⟩ (by kernel_rfl) rfl plain (by kernel_rfl)
end lawTxMarks
end Go.Proofs.YthkblabpiajbhaaGreatDoor
