/- TxLast: for every list of texts and every number of a home the function of the statement returns true: what a change reads is what it wrote last; dropped, it reads what is there. Conditions: none beside those of the form; no walk reads the two tables that are laid. -/
import Derived.Test.YthkblabpiajbhaaGreatDoorG8
import Derived.Test.YthkblabpiajbhaaGreatDoorG6
namespace Go.Proofs.YthkblabpiajbhaaGreatDoor
set_option maxRecDepth 100000
open Go.RowKit Go.ChangeShapes Go.WideShapes Go.ChangeAt Lib

theorem text_in {H : Type} {enc : TypeId × Value → H} {W : World} {n : Nat} {cs : List Value} {y : DataW H × List MemPlace} (hcl : cs.length = 1)
    (h : DataW.trod enc Tryz.prog W 0 (fun _ => true) true n 9 cs = some y) : ∃ x : ByteArray, cs = [.string x] ∧ True := by
  match cs, hcl with
  | [v], _ =>
    obtain ⟨s, e, _, _⟩ := DataW.trod_string Tryz.underlying9 h
    exact ⟨s, e, trivial⟩
theorem texts_in {H : Type} {enc : TypeId × Value → H} {W : World} {base : Nat} {v : Value} {d : DataW H} {p : List MemPlace}
    (hval : Value.okWide Tryz.prog W .any base 34 v) (hd : DataW.Trod enc Tryz.prog W 0 (fun _ => true) true 34 v d p) : ∃ l : List (List UInt8), Reads W v l := by
  obtain ⟨a, n, cap, rfl⟩ := okWide_slice Tryz.underlying34 hval
  obtain ⟨f, hf⟩ := hd
  obtain ⟨l, a, cap, e, h1, h2, h3⟩ := row_in (W := W) (fun x : ByteArray => [.string x]) (fun _ => True) Tryz.underlying34 (c := 1) (by kernel_rfl) (by decide) (fun n cs y hl h => text_in hl h) hf
  refine ⟨l.map (fun x => x.data.toList), a, cap, by rw [List.length_map]; exact e, by rw [List.length_map]; exact h1, fun i hi => ?_⟩
  obtain ⟨_, g, o, k2, k3, k4⟩ := h3 i (by simpa using hi)
  refine ⟨g, o, k2, k3, fun j hj => ?_⟩
  have := k4 j (by simpa using hj) 0 (by decide)
  rw [Nat.mul_one, Nat.add_zero] at this
  rw [List.getElem_map]
  exact this
/-- The change behind k texts. -/
def lastPs (a : Nat) (l : List (List UInt8)) : List (Nat × List UInt8) := l.map fun s => (a, s)
theorem lastPs_snoc (a : Nat) (l : List (List UInt8)) (s : List UInt8) : lastPs a (l ++ [s]) = lastPs a l ++ [(a, s)] := by unfold lastPs; rw [List.map_append]; rfl
theorem last_one (a : Nat) : ∀ ps : List (Nat × List UInt8), (∀ p ∈ ps, p.1 = a) → ps ≠ [] → (Tx.lasts ps).length = 1 :=
  Tx.snoc_ind (P := fun ps => (∀ p ∈ ps, p.1 = a) → ps ≠ [] → (Tx.lasts ps).length = 1) (fun _ h => absurd rfl h) fun ps p ih h _ => by
    have hp : p.1 = a := h p (List.mem_append_right _ List.mem_cons_self)
    have hps : ∀ q ∈ ps, q.1 = a := fun q hq => h q (List.mem_append_left _ hq)
    show (Tx.lasts (ps ++ [p])).length = 1
    rw [Tx.lasts_snoc, Wl.ins_length _ _ (Tx.lasts_rising ps)]
    by_cases h0 : ps = []
    · subst h0; rfl
    · rw [if_pos, ih hps h0]
      rcases Tx.lasts_look p.1 ps with ⟨_, h2⟩ | ⟨k, hk, h1, _⟩
      · cases ps with
        | nil => exact absurd rfl h0
        | cons q ps => exact absurd ((hps q List.mem_cons_self).trans hp.symm) (h2 q List.mem_cons_self)
      · rw [h1]; rfl
theorem last_read {H : List Wl.Text} {a : Nat} (ha : a < H.length) (l : List (List UInt8)) (s : List UInt8) : homeOf (Wl.along H (Tx.psI (lastPs a (l ++ [s])))) a = (Dk.full s, 0) := by
  rw [lastPs_snoc, Tx.psI, List.map_append, Wl.along_append]
  have hl : a < (Wl.along (Wl.along H ((lastPs a l).map fun p => ((p.1 : Int), p.2))) [((a : Int), s)]).length := by rw [Wl.along_length, Wl.along_length]; exact ha
  show homeOf (Wl.along (Wl.along H _) [((a : Int), s)]) a = _
  rw [homeOf_at hl]
  congr 1
  simp only [Wl.along_one, Int.toNat_natCast]
  rw [List.getElem_set_self]
set_option maxRecDepth 100000 in
set_option maxHeartbeats 4000000 in
theorem txLast_any (w : World) (v : Value) (at_ : Int) (l : List (List UInt8)) (hl : Reads w v l) :
    Calls Tryz.prog 7 #[v, .int .i64 at_] w fun e w' => e = .returned (.bool true) ∧ Below w.heap.size w w' := by
  obtain ⟨al, cl, rfl, hcl, hrl⟩ := hl
  have HR := Lib.hid hrl
  clear hrl hcl
  go_enter Tryz.func7, Tryz.ntmps7
  go_wp2_with fail
  refine (awake6_any w).mono ?_
  rintro e w1 ⟨rfl, hb1⟩
  have H1 := Lib.hid hb1
  clear hb1
  by_cases h30 : l.length ≤ 30
  · have j1 : (l.length : Int) ≤ 30 := by omega
    have H30 := Lib.hid h30
    by_cases ha0 : 0 ≤ at_
    · by_cases ha1 : at_ ≤ 19
      · obtain ⟨a, rfl⟩ : ∃ a : Nat, at_ = a := ⟨at_.toNat, by omega⟩
        have HA := Lib.hid (show a < 20 by omega)
        go_wp2_with fail
        refine (new_any 37 w1 (by decide) (by decide)).mono ?_
        rintro e w2 ⟨g, FD, rfl, hd2, hF2, hb2⟩
        have H2 := Lib.hid (And.intro hd2 (And.intro hF2 hb2))
        clear hd2 hF2 hb2
        go_wp2_with fail
        refine (kept_begun (A := fun x => x < w.heap.size) H2.out.1 (fun x hx hn => by have := H2.out.2.1 x hx; have := H1.out.size; omega) (fun x hx => by have := H1.out.size; have := H2.out.2.2.size; omega) (by decide) (by decide) (by decide) (by decide)).mono ?_
        rintro e w3 ⟨b, rfl, hk3, ho3⟩
        have H3 := Lib.hid (show Kept (fun x => x < w.heap.size) 16 w3 b g 1 (Wl.noughts 20) ∧ Below w.heap.size w w3 by
          have h12 : Below w.heap.size w w2 := H1.out.trans (H2.out.2.2.mono H1.out.size)
          exact ⟨hk3, h12.trans (Off.below ho3 (fun x hx => hx) h12.size)⟩)
        clear hk3 ho3
        obtain ⟨H, hH⟩ : ∃ H, H = Wl.noughts 20 := ⟨_, rfl⟩
        have HH := Lib.hid (show H.length = 20 by rw [hH]; simp [Wl.noughts])
        rw [← hH] at H3
        clear hH
        go_wp2_with fail
        refine (chg_begin H3.out.1 (fun k hk => hk) H3.out.2).mono ?_
        rintro e w4 ⟨tb, rfl, h4⟩
        have H4 := Lib.hid (show Chg w 16 g 1 b tb H (lastPs a (l.take 0)) (.slice none 0 0) [] w4 from h4)
        clear h4
        go_wp2_with fail
        refine (chg_read H4.out a (by rw [HH.out]; exact HA.out) (by rw [HH.out]; decide)).mono ?_
        rintro e w5 ⟨rfl, h5, -⟩
        have H5 := Lib.hid h5
        clear h5
        obtain ⟨was, hwas⟩ : ∃ was, was = bs (homeOf (Wl.along H (Tx.psI (lastPs a (l.take 0)))) a).1 := ⟨_, rfl⟩
        rw [← hwas]
        have HWs := Lib.hid (show bs (homeOf (Wl.along H (Tx.psI [])) a).1 = was from hwas.symm)
        clear hwas
        go_wp2
        go_loopw [50] (fun i wr => ∃ k : Nat, k ≤ l.length ∧ i = .int .i64 k ∧ Hid (Chg w 16 g 1 b tb H (lastPs a (l.take k)) (.slice none 0 0) [] wr)) (fun i _ => l.length - (Go.RowKit.intOf i).toNat)
        case atStart => exact ⟨0, Nat.zero_le _, rfl, H5⟩
        case round =>
          obtain ⟨k, hk, rfl, hS⟩ := hrel
          by_cases hlt : k < l.length
          · have hI : (k : Int) < l.length := by omega
            have k30 : (k : Int) ≤ 30 := by omega
            obtain ⟨ga, oa, rfl, hga, hxa⟩ := HR.out k hlt
            have hcl : wr.cell? ⟨ga, oa + k, none⟩ = some (.string (bs l[k])) := (hS.out.below.cell (p := ⟨ga, oa + k, none⟩) hga).trans (hxa k hlt)
            have HT := Lib.hid (show l.take (k + 1) = l.take k ++ [l[k]] from List.take_succ_eq_append_getElem hlt)
            have HLt := Lib.hid hlt
            clear hxa hk
            generalize l[k] = x at *
            have hbx : (bs x).size = x.length := bs_size x
            by_cases hx : (bs x).size ≤ 100
            · have hxI : ((bs x).size : Int) ≤ 100 := by omega
              have HX := Lib.hid hx
              have HL := Lib.hid (show (lastPs a (l.take k)).length = k by unfold lastPs; rw [List.length_map, List.length_take]; omega)
              have HSn := Lib.hid (show lastPs a (l.take (k + 1)) = lastPs a (l.take k) ++ [(a, x)] by rw [HT.out, lastPs_snoc])
              have HRd := Lib.hid (last_read (H := H) (a := a) (by rw [HH.out]; exact HA.out) (l.take k) x)
              have HOn := Lib.hid (last_one a (lastPs a (l.take (k + 1))) (fun p hp => by unfold lastPs at hp; obtain ⟨s, _, rfl⟩ := List.mem_map.1 hp; rfl) (by rw [HSn.out]; simp))
              clear hlt hbx hx
              obtain ⟨t, ht⟩ : ∃ t, t = bs x := ⟨_, rfl⟩
              rw [← ht] at hcl HX hxI
              have HTx := Lib.hid ht
              clear ht
              go_wp2_with fail
              refine (chg_write hS.out a t (by rw [HH.out]; exact HA.out) (by rw [HH.out]; decide) (by have := HX.out; omega) (by rw [HL.out]; have := H30.out; have := HLt.out; omega)).mono ?_
              rintro e w6 ⟨rfl, h6⟩
              rw [show t.data.toList = x by rw [HTx.out, bs_list], ← HSn.out] at h6
              have H6 := Lib.hid h6
              have HL1 := Lib.hid (show (lastPs a (l.take (k + 1))).length = k + 1 by rw [HSn.out, List.length_append, HL.out]; rfl)
              clear h6
              go_wp2_with fail
              refine (chg_mark H6.out).mono ?_
              rintro e w7 ⟨rfl, rfl⟩
              rw [HL1.out]
              go_wp2_with fail
              refine (chg_touched H6.out).mono ?_
              rintro e w8 ⟨rfl, rfl⟩
              rw [HOn.out]
              go_wp2_with fail
              refine (chg_read H6.out a (by rw [HH.out]; exact HA.out) (by rw [HH.out]; decide)).mono ?_
              rintro e w9 ⟨rfl, h9, -⟩
              have H9 := Lib.hid h9
              clear h9
              rw [HT.out, HRd.out]
              obtain ⟨S, hS2⟩ : ∃ S, S = bs (Dk.full x) := ⟨_, rfl⟩
              rw [← hS2]
              have HS2 := Lib.hid hS2
              clear hS2
              go_wp2_with fail
              refine (full_any t w9 (by have := HX.out; omega)).mono ?_
              rintro e w10 ⟨rfl, hb10⟩
              rw [show t.data.toList = x by rw [HTx.out, bs_list], ← HS2.out]
              have H10 := Lib.hid (H9.out.still hb10)
              clear hb10
              go_wp2
              go_roundw
              case rel => exact ⟨k + 1, HLt.out, by go_num, H10⟩
              case measure => have := HLt.out; simp [Go.RowKit.intOf]; omega
            · have hxI : ((bs x).size : Int) > 100 := by omega
              go_wp2
              go_ret
              exact ⟨rfl, hS.out.below⟩
          · go_wp2_with fail
            refine (chg_drop hS.out).mono ?_
            rintro e w6 ⟨rfl, h6⟩
            have H6 := Lib.hid h6
            clear h6
            go_wp2_with fail
            refine (chg_read H6.out a (by rw [HH.out]; exact HA.out) (by rw [HH.out]; decide)).mono ?_
            rintro e w7 ⟨rfl, h7, -⟩
            rw [HWs.out]
            have H7 := Lib.hid h7
            clear h7
            go_wp2_with fail
            refine (chg_mark H7.out).mono ?_
            rintro e w8 ⟨rfl, rfl⟩
            go_wp2_with fail
            refine (chg_touched H7.out).mono ?_
            rintro e w9 ⟨rfl, rfl⟩
            rw [show (Tx.lasts []).length = 0 from rfl]
            go_wp2
            go_ret
            exact ⟨rfl, H7.out.below⟩
      · have ha2 : at_ > 19 := by omega
        go_wp2
        go_ret
        exact ⟨rfl, H1.out⟩
    · have ha2 : at_ < 0 := by omega
      go_wp2
      go_ret
      exact ⟨rfl, H1.out⟩
  · have j1 : (l.length : Int) > 30 := by omega
    go_wp2
    go_ret
    exact ⟨rfl, H1.out⟩
end Go.Proofs.YthkblabpiajbhaaGreatDoor

namespace Go.Proofs.YthkblabpiajbhaaGreatDoor
open Go.ChangeShapes Go.WideShapes Go.ChangeAt Go.RowKit
open Go.ChangeMaps (open_string shut_string)
namespace lawTxLast
set_option maxRecDepth 100000
theorem contract (H : Type) (enc : TypeId × Value → H) (W : World) (base : Nat) (args : Array Value) (ds gs : List (DataW H)) (before : List MemPlace)
    (hval : ∀ (j : Nat) t v, Tryz.f7.params[j]? = some t → args[j]? = some v → Value.okWide Tryz.prog W .any base t v)
    (hW : DataW.Whole enc Tryz.prog Tryz.f7.params.toList Rows.txLastSpec.vars false W args.toList ds gs before) :
    Calls Tryz.prog 7 args W fun e W' => ∃ v, e = .returned v ∧ Rows.txLastSpec.post enc Tryz.prog Tryz.f7 false true false false W args v W' := by
  have hW' := hW
  obtain ⟨p, q, hA0, hV, rfl, hfz, hnd⟩ := hW
  have hA : DataW.TrodAll enc Tryz.prog W 0 (fun _ => true) true Tryz.f7.params.toList args.toList ds p := hA0
  have hAk := hA
  rw [Tryz.params7] at hA hval
  obtain ⟨v0, vs0, d0, ds0, p0, q0, hargs, rfl, rfl, h0, r0⟩ := trodAll_cons hA
  obtain ⟨v1, vs1, d1, ds1, p1, q1, rfl, rfl, rfl, h1, r1⟩ := trodAll_cons r0
  obtain ⟨rfl, rfl, rfl⟩ := trodAll_nil r1
  obtain rfl : args = #[v0, v1] := by cases args; simp_all
  obtain ⟨rfl, rfl⟩ := trodVars_none hV
  obtain ⟨l0, hr0⟩ := texts_in (hval 0 34 v0 rfl rfl) h0
  obtain ⟨x1, rfl, rfl, rfl, w1⟩ := open_int Tryz.underlying3 (hval 1 3 v1 rfl rfl) h1
  have lt := fun x hx => hW'.lt x hx
  clear hA0
  refine (txLast_any W v0 x1 l0 hr0).mono fun e W' ⟨he, hb⟩ => ?_
  subst he
  exact ⟨_, rfl, post_below (pv := []) hW' hb rfl (fun _ _ _ => trodAll_cons_mk (shut_bool Tryz.underlying4 _) trodAll_mk0) (fun sp hsp => trodAll_stays _ (by rw [Tryz.params7]; decide +kernel) hAk (fun x hx => hb.same (lt x (by simpa using hx))) (fun x hx => hsp x (by simpa using hx))) (fun _ _ => rfl)
    (ok_one (by kernel_rfl) rfl (okWide_bool_mk Tryz.underlying4 _))⟩
theorem laid_met (os : Os) : laidMet Tryz.prog Rows.txLastRow.laid ((laidWorld os).forCall (fun _ _ => 0) ⟨#[], #[.slice none 0 0, .int .i64 0], []⟩).memory :=
  laidMet_of_run' 8 (by kernel_rfl) (by kernel_rfl)
theorem reads (os : Os) {H : Type} (enc : TypeId × Value → H) : ∃ places, DataW.whole enc Tryz.prog ((laidWorld os).forCall (fun _ _ => 0) ⟨#[], #[.slice none 0 0, .int .i64 0], []⟩).memory Tryz.f7.params.toList Rows.txLastSpec.vars false #[Value.slice none 0 0, .int .i64 0].toList 8 = some ([.nil, .lit (.int .i64 0)], [], places) :=
  ⟨[], by kernel_rfl⟩
theorem lifted (os : Os) (started : os.Started) (H : Type) (enc : TypeId × Value → H) (F : Stop.Interp) :
    ReturnsInHanded {} Tryz.checked os 7 .any ((OpenSpec.ofChange Rows.txLastSpec).preRow enc Tryz.prog Tryz.f7 Rows.txLastRow.domain false Rows.txLastRow.laid) (((OpenSpec.ofChange Rows.txLastSpec).at F).post enc Tryz.prog Tryz.f7 false true false false) := by
  obtain ⟨places, hx⟩ := reads os enc
  refine returnsInHanded_of_row (C := Tryz.checked) (s := OpenSpec.ofChange Rows.txLastSpec) own started (by kernel_rfl) Tryz.func7
    (witness_row_at (enc := enc) (C := Tryz.checked) false (laidWorld os) #[.slice none 0 0, .int .i64 0] rfl (by kernel_rfl) (by kernel_rfl) (by kernel_rfl)
      (OpenSpec.preRow_of_cond 8 hx (by kernel_rfl) (fun k hk => by cases hk) (by kernel_rfl) (laid_met os))) ?_
  intro W base args ds gs before hval hW _ _ _ hL _ _
  exact contract H enc W base args ds gs before hval hW
theorem said : Rows.TxLastSaid :=
  OpenClaim.holds_of_cond 7 Tryz.f7 rfl rfl rfl rfl rfl rfl rfl ⟨rfl, rfl, rfl, rfl, rfl⟩ rfl rfl rfl rfl rfl (by kernel_rfl) Tryz.func7 (by kernel_rfl)
    (of_decide_eq_true (by kernel_rfl)) (by unfold Func.isWrapper; first | (rw [if_pos (by decide +kernel)]; kernel_rfl) | (rw [if_neg (by decide +kernel)]; exact ⟨rfl, rfl⟩))
    (fun os started H enc _ F => by rw [OpenClaim.pre_eq_preRow]; exact lifted os started H enc F)
theorem plain (f : FuncId) (fn : Func) (hf : Tryz.pinned.checked.prog.funcNamed "cooperage/cooperagelaw06.TxLast" = some f) (hfn : Tryz.pinned.checked.prog.funcs[f]? = some fn) :
    false = Tryz.pinned.checked.prog.looks [] ∧ ∀ (j : Nat) t, fn.params[j]? = some t → Tryz.pinned.checked.prog.wantsStandIn t = false := by
  obtain rfl : f = 7 := Option.some.inj ((show Tryz.prog.funcNamed "cooperage/cooperagelaw06.TxLast" = some 7 by kernel_rfl).symm.trans hf) |>.symm
  obtain rfl : fn = Tryz.f7 := (Option.some.inj (Tryz.func7.symm.trans hfn)).symm
  refine ⟨by kernel_rfl, fun j t ht => ?_⟩
  rw [Tryz.params7] at ht
  have hm : t = 34 ∨ t = 3 := by simpa using Array.mem_of_getElem? ht
  rcases hm with rfl | rfl
  · exact (show Tryz.prog.wantsStandIn 34 = false by kernel_rfl)
  · exact (show Tryz.prog.wantsStandIn 3 = false by kernel_rfl)
theorem card : Rows.TxLastCardSaid :=
  Claim7.holds_tied_plain_at .later [] _ _ _ _ said (fun _ h => by cases h) (by kernel_rfl) (fun _ h => by cases h) txLast_row_tie rfl ⟨rfl, rfl⟩ (by kernel_rfl) rfl plain (by kernel_rfl)
end lawTxLast
end Go.Proofs.YthkblabpiajbhaaGreatDoor
