/- RoomApart: for every list of acts and every number the function of the statement returns true: what is done to one page changes no other one, and no number. Conditions: none beside those of the form; no walk reads the two tables that are laid. -/
import Derived.Test.YtobmjcfemjpgcaaGreatDoorG11
import Derived.Test.YtobmjcfemjpgcaaGreatDoorG6
namespace Go.Proofs.YtobmjcfemjpgcaaGreatDoor
open Go.RowKit Lib

namespace Rm
theorem getD_other {l : List (Option Wl.Text)} {p q : Nat} {x : Option Wl.Text} (h : q ≠ p) : (l.set p x).getD q none = l.getD q none := by
  rw [List.getD_eq_getElem?_getD, List.getElem?_set_ne (fun e => h e.symm), ← List.getD_eq_getElem?_getD]
theorem alloced_keep {pg : List (Option Wl.Text)} {q : Nat} {t : Wl.Text} (h : pg.getD q none = some t) : (alloced pg).getD q none = some t := by
  unfold alloced
  rcases firstFree_cases pg with e | ⟨p, e, _, hs⟩
  · rw [e]; exact h
  · rw [e]
    show (pg.set p _).getD q none = _
    rw [getD_other (fun e => by rw [e, hs] at h; cases h)]; exact h
theorem freed_keep {pg : List (Option Wl.Text)} {q : Nat} {t : Wl.Text} {i : Int} (hi : i ≠ q) (h : pg.getD q none = some t) : (freed pg i).getD q none = some t := by
  unfold freed
  split
  · rename_i hr
    rcases at_any pg i with ⟨_, hr', _, _, _⟩ | ⟨_, _, _, _, hr', _, _, _⟩ | ⟨p, _, hp, _, _, _, _, _, _⟩
    · rw [hr'] at hr; cases hr
    · rw [hr'] at hr; cases hr
    · rw [getD_other (by omega)]; exact h
  · exact h
theorem written_is (pg : List (Option Wl.Text)) (i : Int) (s : Wl.Text) : written pg i s = pg ∨ ∃ p : Nat, i = p ∧ p < pg.length ∧ written pg i s = pg.set p (some (Dk.full s)) := by
  unfold written
  by_cases hw : wrote pg i s.length = 0
  · rw [if_pos hw]
    unfold wrote at hw
    rcases at_any pg i with ⟨_, hr', _, _, _⟩ | ⟨_, _, _, _, hr', _, _, _⟩ | ⟨p, _, rfl, hp, _, hr', _, _, _⟩
    · rw [hr'] at hw; simp at hw
    · rw [hr'] at hw; simp at hw
    · exact .inr ⟨p, rfl, hp, by rw [Int.toNat_natCast]⟩
  · rw [if_neg hw]; exact .inl rfl
theorem written_keep {pg : List (Option Wl.Text)} {q : Nat} {t s : Wl.Text} {i : Int} (hi : i ≠ q) (h : pg.getD q none = some t) : (written pg i s).getD q none = some t := by
  rcases written_is pg i s with e | ⟨p, rfl, _, e⟩
  · rw [e]; exact h
  · rw [e, getD_other (by omega)]; exact h
end Rm
/-- The room as RoomApart has it: the first page is its own. -/
def Apart7 (w : World) (R : Nat → Prop) (g b tb r : Nat) (rt : List Nat) (m : Nat) (X : World) : Prop :=
  ∃ ps pg, RmI R 200 g 1 b tb r (Wl.noughts 20) ps pg rt X ∧ ps.length ≤ 10 + 2 * m ∧ pg.getD 0 none = some (Dk.full [111, 119, 110]) ∧ Below w.heap.size w X
section
variable {w X X' : World} {R : Nat → Prop} {g b tb r m : Nat} {rt : List Nat}
theorem Apart7.still (h : Apart7 w R g b tb r rt m X) (hb : Below X.heap.size X X') : Apart7 w R g b tb r rt m X' := by
  obtain ⟨ps, pg, h1, h2, h3, h4⟩ := h
  exact ⟨ps, pg, h1.still hb, h2, h3, h4.trans (hb.mono h4.size)⟩
theorem Apart7.next (h : Apart7 w R g b tb r rt m X) : Apart7 w R g b tb r rt (m + 1) X := by
  obtain ⟨ps, pg, h1, h2, h3, h4⟩ := h
  exact ⟨ps, pg, h1, by omega, h3, h4⟩
theorem apart_did {ps : List (Nat × List UInt8)} {pg : List (Option Wl.Text)} (hR : ∀ k, k < w.heap.size → R k) (hb : Below w.heap.size w X) (hl : ps.length ≤ 10 + 2 * m) (h : Did R 200 g 1 b tb r (Wl.noughts 20) ps pg rt X X') (h0 : pg.getD 0 none = some (Dk.full [111, 119, 110])) : Apart7 w R g b tb r rt (m + 1) X' := by
  obtain ⟨ps', h1, h2, h3⟩ := h
  exact ⟨ps', pg, h2, by omega, h0, hb.trans (h3.below hb.size fun k hk hn => hn (hR k hk))⟩
theorem apart_alloc (h : Apart7 w R g b tb r rt m X) (hR : ∀ k, k < w.heap.size → R k) (hm : m ≤ 30) :
    Calls Tryz.prog 31 #[ptr r] X fun e X' => ∃ v : Value, e = .returned v ∧ Apart7 w R g b tb r rt (m + 1) X' := by
  obtain ⟨ps, pg, h1, h2, h3, h4⟩ := h
  refine (room_Alloc h1 (by omega)).mono ?_
  rintro e X' ⟨rfl, hd⟩
  exact ⟨_, rfl, apart_did hR h4 h2 hd (Rm.alloced_keep h3)⟩
theorem apart_free (h : Apart7 w R g b tb r rt m X) (hR : ∀ k, k < w.heap.size → R k) (hm : m ≤ 30) (i : Int) (hi : i ≠ 0) :
    Calls Tryz.prog 33 #[ptr r, .int .i64 i] X fun e X' => ∃ v : Value, e = .returned v ∧ Apart7 w R g b tb r rt (m + 1) X' := by
  obtain ⟨ps, pg, h1, h2, h3, h4⟩ := h
  refine (room_Free h1 i (by omega)).mono ?_
  rintro e X' ⟨rfl, hd⟩
  exact ⟨_, rfl, apart_did hR h4 h2 hd (Rm.freed_keep (by omega) h3)⟩
theorem apart_write (h : Apart7 w R g b tb r rt m X) (hR : ∀ k, k < w.heap.size → R k) (hm : m ≤ 30) (i : Int) (hi : i ≠ 0) (s : ByteArray) :
    Calls Tryz.prog 35 #[ptr r, .int .i64 i, .string s] X fun e X' => ∃ v : Value, e = .returned v ∧ Apart7 w R g b tb r rt (m + 1) X' := by
  obtain ⟨ps, pg, h1, h2, h3, h4⟩ := h
  refine (room_Write h1 i s (by omega)).mono ?_
  rintro e X' ⟨rfl, hd⟩
  exact ⟨_, rfl, apart_did hR h4 h2 hd (Rm.written_keep (by omega) h3)⟩
theorem apart_read (h : Apart7 w R g b tb r rt m X) :
    Calls Tryz.prog 37 #[ptr r, .int .i64 0] X fun e X' => e = .returned (.tuple #[.string (bs (Dk.full [111, 119, 110])), .int .i64 0]) ∧ Apart7 w R g b tb r rt m X' := by
  have h' := h
  obtain ⟨ps, pg, h1, h2, h3, h4⟩ := h
  refine (room_Read h1 0).mono ?_
  rintro e X' ⟨rfl, hb⟩
  have hp := h1.pos
  refine ⟨?_, h'.still hb⟩
  have e1 : Rm.got pg 0 = Dk.full [111, 119, 110] := by unfold Rm.got; rw [if_pos (by omega), show (0 : Int).toNat = 0 from rfl, h3]; rfl
  have e2 : Rm.refuse pg 0 = 0 := by unfold Rm.refuse; rw [if_pos (by omega), show (0 : Int).toNat = 0 from rfl, h3]; rfl
  rw [e1, e2]
theorem apart_root (h : Apart7 w R g b tb r rt m X) :
    Calls Tryz.prog 42 #[ptr r, .int .i64 3] X fun e X' => e = .returned (.tuple #[.int .u64 (rt.getD 3 0 : Nat), .int .i64 0]) ∧ Apart7 w R g b tb r rt m X' := by
  have h' := h
  obtain ⟨ps, pg, h1, h2, h3, h4⟩ := h
  refine (room_Root h1 3 (by decide)).mono ?_
  rintro e X' ⟨rfl, hb⟩
  exact ⟨rfl, h'.still hb⟩
end
set_option maxRecDepth 100000 in
set_option maxHeartbeats 4000000 in
theorem roomApart_any (w : World) (v : Value) (l : List Act7) (hl : RdV w v l) (n : Nat) (hn : n < 18446744073709551616) :
    Calls Tryz.prog 6 #[v, .int .u64 n] w fun e w' => e = .returned (.bool true) ∧ Below w.heap.size w w' := by
  have HL := Lib.hid hl
  have HN := Lib.hid hn
  obtain ⟨al, cl, rfl⟩ := hl.slice
  clear hl hn
  go_enter Tryz.func6, Tryz.ntmps6
  go_wp2_with fail
  refine (awake7_any w).mono ?_
  rintro e w1 ⟨rfl, hb1⟩
  have H1 := Lib.hid hb1
  clear hb1
  by_cases hl30 : l.length ≤ 30
  · have j1 : (l.length : Int) ≤ 30 := by omega
    have HLen := Lib.hid hl30
    clear hl30
    go_wp2_with fail
    refine (wide_any w1 20 (by decide) (by decide)).mono ?_
    rintro e w2 ⟨g, b, rfl, hk2, hb2⟩
    have H2 := Lib.hid (show Kept (fun x => x < w1.heap.size) 200 w2 b g 1 (Wl.noughts 20) ∧ Below w1.heap.size w1 w2 from And.intro hk2 hb2)
    clear hk2 hb2
    go_wp2_with fail
    refine (c1_begin H2.out.1).mono ?_
    rintro e w3 ⟨tb, rfl, h3, hb3⟩
    have H3 := Lib.hid (And.intro h3 (H1.out.trans ((H2.out.2.trans (hb3.mono H2.out.2.size)).mono H1.out.size)))
    clear h3 hb3
    go_wp2_with fail
    refine (room_Of w3 tb).mono ?_
    rintro e w4 ⟨rfl, rfl⟩
    obtain ⟨R, hR⟩ : ∃ R : Nat → Prop, R = fun k => k < w1.heap.size ∨ k = w3.heap.size := ⟨_, rfl⟩
    obtain ⟨r, hr⟩ : ∃ r, r = w3.heap.size := ⟨_, rfl⟩
    have H4 := Lib.hid (show RmI R 200 g 1 b tb r (Wl.noughts 20) [] (List.replicate (20 - 2) none) (List.replicate 16 0) (w3.alloc (.cells #[ptr tb] 118)) by rw [hR, hr]; exact room_begun H3.out.1 (by decide) (by decide))
    have HB4 := Lib.hid (show Below w.heap.size w (w3.alloc (.cells #[ptr tb] 118)) from H3.out.2.alloc H3.out.2.size _)
    have HR := Lib.hid (show ∀ k, k < w.heap.size → R k by rw [hR]; exact fun k hk => .inl (Nat.lt_of_lt_of_le hk H1.out.size))
    rw [← hr]
    obtain ⟨W, hW⟩ : ∃ W, W = w3.alloc (.cells #[ptr tb] 118) := ⟨_, rfl⟩
    rw [← hW] at H4 HB4 ⊢
    clear hR hr hW H3 H2
    have HST := Lib.hid (show ∀ (A B : World), Below w.heap.size w A → But (fun k => ¬ R k) A B → Below w.heap.size w B from fun A B h1 h2 => h1.trans (h2.below h1.size fun k hk hn => hn (HR.out k hk)))
    go_wp2_with fail
    refine (room_Alloc H4.out (by decide)).mono ?_
    rintro e w5 ⟨rfl, q5, hl5, h5, hb5⟩
    rw [show Rm.alloc (List.replicate (20 - 2) none) = (0, 0) from rfl]
    have H5 := Lib.hid h5
    have HB5 := Lib.hid (HST.out _ _ HB4.out hb5)
    have HL5 := Lib.hid (show q5.length ≤ 2 from hl5)
    clear h5 hb5 hl5
    obtain ⟨P1, hP1⟩ : ∃ P1, P1 = Rm.alloced (List.replicate (20 - 2) none) := ⟨_, rfl⟩
    have HP1 := Lib.hid (show Rm.wrote P1 0 3 = 0 ∧ (Rm.written P1 0 [111, 119, 110]).getD 0 none = some (Dk.full [111, 119, 110]) by rw [hP1]; exact ⟨rfl, rfl⟩)
    rw [← hP1] at H5
    clear hP1
    go_wp2_with fail
    refine (room_Write H5.out 0 ⟨#[111, 119, 110]⟩ (by have := HL5.out; omega)).mono ?_
    rintro e w6 ⟨rfl, q6, hl6, h6, hb6⟩
    rw [show (⟨#[111, 119, 110]⟩ : ByteArray).data.toList = [111, 119, 110] from rfl] at h6
    rw [show (⟨#[111, 119, 110]⟩ : ByteArray).size = 3 from rfl, HP1.out.1]
    have H6 := Lib.hid h6
    have HB6 := Lib.hid (HST.out _ _ HB5.out hb6)
    have HL6 := Lib.hid (show q6.length ≤ 4 by have := HL5.out; omega)
    clear h6 hb6 hl6
    go_wp2_with fail
    refine (room_SetRoot H6.out 3 n (by decide) HN.out (by have := HL6.out; omega)).mono ?_
    rintro e w7 ⟨rfl, q7, hl7, h7, hb7⟩
    have HRt := Lib.hid (show ((List.replicate 16 0).set 3 n).getD 3 0 = n from rfl)
    generalize (List.replicate 16 0).set 3 n = rt at *
    have HA7 := Lib.hid (show Apart7 w R g b tb r rt 0 w7 from ⟨q7, _, h7, by have := HL6.out; omega, HP1.out.2, HST.out _ _ HB6.out hb7⟩)
    clear h7 hb7 hl7 H4 H5 H6 HB4 HB5 HB6 HP1 HST HL5 HL6
    go_wp2
    go_loopw [49] (fun i wr => ∃ k : Nat, k ≤ l.length ∧ i = .int .i64 k ∧ Hid (Apart7 w R g b tb r rt k wr)) (fun i _ => l.length - (Go.RowKit.intOf i).toNat)
    case atStart => exact ⟨0, Nat.zero_le _, rfl, HA7⟩
    case round =>
      clear HA7
      obtain ⟨k, hk, rfl, hS⟩ := hrel
      by_cases hlt : k < l.length
      · have hI : (k : Int) < l.length := by omega
        obtain ⟨gp, op, rfl, hok, c0, c1, c2, c3⟩ := RdV.at HL.out (show Below w.heap.size w wr by obtain ⟨_, _, _, _, _, h⟩ := hS.out; exact h) hlt
        have HOk := Lib.hid hok
        have HLt := Lib.hid (show k < l.length ∧ k ≤ 30 by have := HLen.out; omega)
        clear hk hok
        generalize l[k] = x at *
        obtain ⟨what, at_, xn, text⟩ := x
        simp only at c0 c1 c2 c3 HOk
        obtain ⟨Y, hY⟩ : ∃ Y, Y = wr.alloc (.cells #[.int .i64 what, .int .i64 at_, .int .u64 xn, .string text] 67) := ⟨_, rfl⟩
        have HY := Lib.hid (show Apart7 w R g b tb r rt k Y by rw [hY]; exact hS.out.still ((Below.refl _ _).alloc (Nat.le_refl _) _))
        have HN2 := Lib.hid HY.out.next
        have HYY := Lib.hid hY
        clear hY hlt
        by_cases ht : text.size ≤ 600
        · have htI : (text.size : Int) ≤ 600 := by omega
          clear ht
          by_cases h0 : what = 0
          · subst h0
            go_wp2_with fail
            rw [← HYY.out]
            refine (apart_alloc HY.out HR.out HLt.out.2).mono ?_
            rintro e w8 ⟨v8, rfl, h8⟩
            have H8 := Lib.hid h8
            clear h8
            go_wp2
            go_roundw
            case rel => exact ⟨k + 1, HLt.out.1, by go_num, H8⟩
            case measure => have := HLt.out.1; simp [Go.RowKit.intOf]; omega
          · by_cases ha : at_ = 0
            · subst ha
              go_wp2
              rw [← HYY.out]
              go_roundw
              case rel => exact ⟨k + 1, HLt.out.1, by go_num, HN2⟩
              case measure => have := HLt.out.1; simp [Go.RowKit.intOf]; omega
            · by_cases h1 : what = 1
              · subst h1
                go_wp2_with fail
                rw [← HYY.out]
                refine (apart_free HY.out HR.out HLt.out.2 at_ ha).mono ?_
                rintro e w8 ⟨v8, rfl, h8⟩
                have H8 := Lib.hid h8
                clear h8
                go_wp2
                go_roundw
                case rel => exact ⟨k + 1, HLt.out.1, by go_num, H8⟩
                case measure => have := HLt.out.1; simp [Go.RowKit.intOf]; omega
              · by_cases h2 : what = 2
                · subst h2
                  go_wp2_with fail
                  rw [← HYY.out]
                  refine (apart_write HY.out HR.out HLt.out.2 at_ ha text).mono ?_
                  rintro e w8 ⟨v8, rfl, h8⟩
                  have H8 := Lib.hid h8
                  clear h8
                  go_wp2
                  go_roundw
                  case rel => exact ⟨k + 1, HLt.out.1, by go_num, H8⟩
                  case measure => have := HLt.out.1; simp [Go.RowKit.intOf]; omega
                · go_wp2
                  rw [← HYY.out]
                  go_roundw
                  case rel => exact ⟨k + 1, HLt.out.1, by go_num, HN2⟩
                  case measure => have := HLt.out.1; simp [Go.RowKit.intOf]; omega
        · have htI : (text.size : Int) > 600 := by omega
          clear ht
          go_wp2
          rw [← HYY.out]
          go_ret
          exact ⟨rfl, by obtain ⟨_, _, _, _, _, h⟩ := HY.out; exact h⟩
      · have hI : ¬ (k : Int) < l.length := by omega
        go_wp2_with fail
        refine (apart_read hS.out).mono ?_
        rintro e w8 ⟨rfl, h8⟩
        have H8 := Lib.hid h8
        clear h8
        go_wp2_with fail
        refine (apart_root H8.out).mono ?_
        rintro e w9 ⟨rfl, h9⟩
        have H9 := Lib.hid h9
        clear h9
        rw [HRt.out]
        have hs : (bs (Dk.full [111, 119, 110])).size = 512 := by rw [bs_size]; rfl
        have hx : (bs (Dk.full [111, 119, 110])).extract 0 4 = ⟨#[111, 119, 110, 0]⟩ := by rw [ext_take]; rfl
        go_wp2
        go_ret
        exact ⟨rfl, by obtain ⟨_, _, _, _, _, h⟩ := H9.out; exact h⟩
  · have j1 : (l.length : Int) > 30 := by omega
    go_wp2
    go_ret
    exact ⟨rfl, H1.out⟩
theorem roomApart_int (w : World) (v : Value) (l : List Act7) (hl : RdV w v l) (n : Int) (hn : 0 ≤ n ∧ n ≤ 18446744073709551615) :
    Calls Tryz.prog 6 #[v, .int .u64 n] w fun e w' => e = .returned (.bool true) ∧ Below w.heap.size w w' := by
  obtain ⟨m, rfl⟩ : ∃ m : Nat, n = m := ⟨n.toNat, by omega⟩
  exact roomApart_any w v l hl m (by omega)
end Go.Proofs.YtobmjcfemjpgcaaGreatDoor

namespace Go.Proofs.YtobmjcfemjpgcaaGreatDoor
open Go.ChangeShapes Go.WideShapes Go.ChangeAt Go.RowKit
open Go.ChangeMaps (open_string shut_string)
namespace lawRoomApart
set_option maxRecDepth 100000
theorem contract (H : Type) (enc : TypeId × Value → H) (W : World) (base : Nat) (args : Array Value) (ds gs : List (DataW H)) (before : List MemPlace)
    (hval : ∀ (j : Nat) t v, Tryz.f6.params[j]? = some t → args[j]? = some v → Value.okWide Tryz.prog W .any base t v)
    (hW : DataW.Whole enc Tryz.prog Tryz.f6.params.toList Rows.roomApartSpec.vars false W args.toList ds gs before) :
    Calls Tryz.prog 6 args W fun e W' => ∃ v, e = .returned v ∧ Rows.roomApartSpec.post enc Tryz.prog Tryz.f6 false true false false W args v W' := by
  have hW' := hW
  obtain ⟨p, q, hA0, hV, rfl, hfz, hnd⟩ := hW
  have hA : DataW.TrodAll enc Tryz.prog W 0 (fun _ => true) true Tryz.f6.params.toList args.toList ds p := hA0
  have hAk := hA
  rw [Tryz.params6] at hA hval
  obtain ⟨v0, vs0, d0, ds0, p0, q0, hargs, rfl, rfl, h0, r0⟩ := trodAll_cons hA
  obtain ⟨v1, vs1, d1, ds1, p1, q1, rfl, rfl, rfl, h1, r1⟩ := trodAll_cons r0
  obtain ⟨rfl, rfl, rfl⟩ := trodAll_nil r1
  obtain rfl : args = #[v0, v1] := by cases args; simp_all
  obtain ⟨rfl, rfl⟩ := trodVars_none hV
  obtain ⟨l0, hr0⟩ := acts7_in (hval 0 57 v0 rfl rfl) h0
  obtain ⟨x1, rfl, rfl, rfl, w1⟩ := open_int Tryz.underlying65 (hval 1 65 v1 rfl rfl) h1
  have lt := fun x hx => hW'.lt x hx
  clear hA0
  refine (roomApart_int W v0 l0 hr0 x1 (u64_wf w1)).mono fun e W' ⟨he, hb⟩ => ?_
  subst he
  exact ⟨_, rfl, post_below (pv := []) hW' hb rfl (fun _ _ _ => trodAll_cons_mk (shut_bool Tryz.underlying4 _) trodAll_mk0) (fun sp hsp => trodAll_stays _ (by rw [Tryz.params6]; decide +kernel) hAk (fun x hx => hb.same (lt x (by simpa using hx))) (fun x hx => hsp x (by simpa using hx))) (fun _ _ => rfl)
    (ok_one (by kernel_rfl) rfl (okWide_bool_mk Tryz.underlying4 _))⟩
theorem laid_met (os : Os) : laidMet Tryz.prog Rows.roomApartRow.laid ((laidWorld os).forCall (fun _ _ => 0) ⟨#[], #[.slice none 0 0, .int .u64 0], []⟩).memory :=
  laidMet_of_run' 8 (by kernel_rfl) (by kernel_rfl)
theorem reads (os : Os) {H : Type} (enc : TypeId × Value → H) : ∃ places, DataW.whole enc Tryz.prog ((laidWorld os).forCall (fun _ _ => 0) ⟨#[], #[.slice none 0 0, .int .u64 0], []⟩).memory Tryz.f6.params.toList Rows.roomApartSpec.vars false #[Value.slice none 0 0, .int .u64 0].toList 8 = some ([.nil, .lit (.int .u64 0)], [], places) :=
  ⟨[], by kernel_rfl⟩
theorem lifted (os : Os) (started : os.Started) (H : Type) (enc : TypeId × Value → H) (F : Stop.Interp) :
    ReturnsInHanded {} Tryz.checked os 6 .any ((OpenSpec.ofChange Rows.roomApartSpec).preRow enc Tryz.prog Tryz.f6 Rows.roomApartRow.domain false Rows.roomApartRow.laid) (((OpenSpec.ofChange Rows.roomApartSpec).at F).post enc Tryz.prog Tryz.f6 false true false false) := by
  obtain ⟨places, hx⟩ := reads os enc
  refine returnsInHanded_of_row (C := Tryz.checked) (s := OpenSpec.ofChange Rows.roomApartSpec) own started (by kernel_rfl) Tryz.func6
    (witness_row_at (enc := enc) (C := Tryz.checked) false (laidWorld os) #[.slice none 0 0, .int .u64 0] rfl (by kernel_rfl) (by kernel_rfl) (by kernel_rfl)
      (OpenSpec.preRow_of_cond 8 hx (by kernel_rfl) (fun k hk => by cases hk) (by kernel_rfl) (laid_met os))) ?_
  intro W base args ds gs before hval hW _ _ _ hL _ _
  exact contract H enc W base args ds gs before hval hW
theorem said : Rows.RoomApartSaid :=
  OpenClaim.holds_of_cond 6 Tryz.f6 rfl rfl rfl rfl rfl rfl rfl ⟨rfl, rfl, rfl, rfl, rfl⟩ rfl rfl rfl rfl rfl (by kernel_rfl) Tryz.func6 (by kernel_rfl)
    (of_decide_eq_true (by kernel_rfl)) (by unfold Func.isWrapper; first | (rw [if_pos (by decide +kernel)]; kernel_rfl) | (rw [if_neg (by decide +kernel)]; exact ⟨rfl, rfl⟩))
    (fun os started H enc _ F => by rw [OpenClaim.pre_eq_preRow]; exact lifted os started H enc F)
theorem plain (f : FuncId) (fn : Func) (hf : Tryz.pinned.checked.prog.funcNamed "cooperage/cooperagelaw07.RoomApart" = some f) (hfn : Tryz.pinned.checked.prog.funcs[f]? = some fn) :
    false = Tryz.pinned.checked.prog.looks [] ∧ ∀ (j : Nat) t, fn.params[j]? = some t → Tryz.pinned.checked.prog.wantsStandIn t = false := by
  obtain rfl : f = 6 := Option.some.inj ((show Tryz.prog.funcNamed "cooperage/cooperagelaw07.RoomApart" = some 6 by kernel_rfl).symm.trans hf) |>.symm
  obtain rfl : fn = Tryz.f6 := (Option.some.inj (Tryz.func6.symm.trans hfn)).symm
  refine ⟨by kernel_rfl, fun j t ht => ?_⟩
  rw [Tryz.params6] at ht
  have hm : t = 57 ∨ t = 65 := by simpa using Array.mem_of_getElem? ht
  rcases hm with rfl | rfl
  · exact (show Tryz.prog.wantsStandIn 57 = false by kernel_rfl)
  · exact (show Tryz.prog.wantsStandIn 65 = false by kernel_rfl)
theorem card : Rows.RoomApartCardSaid :=
  Claim7.holds_tied_plain_at .later [] _ _ _ _ said (fun _ h => by cases h) (by kernel_rfl) (fun _ h => by cases h) roomApart_row_tie rfl ⟨rfl, rfl⟩ (by kernel_rfl) rfl plain (by kernel_rfl)
end lawRoomApart
end Go.Proofs.YtobmjcfemjpgcaaGreatDoor
