/- The statement BlobBig of layer 8 holds for every number of bytes more or less: a text of more than 2^17 bytes is refused, and one of as many or fewer is put, got and dropped; no condition. -/
import Derived.Test.YtahnhhhhfioibaaGreatDoorG17
import Derived.Test.YtahnhhhhfioibaaGreatDoorG6
namespace Go.Proofs.YtahnhhhhfioibaaGreatDoor
open Go.RowKit Lib

theorem i8_wf {m : Int} (hw : (Lit.int .i8 m).wf = true) : (-128 : Int) ≤ m ∧ m ≤ 127 := by
  simp only [Lit.wf, Bool.and_eq_true, decide_eq_true_eq] at hw
  exact hw
set_option maxRecDepth 100000 in
set_option maxHeartbeats 4000000 in
theorem blobBig_any (w : World) (x : Int) (hx : -128 ≤ x ∧ x ≤ 127) :
    Calls Tryz.prog 6 #[.int .i8 x] w fun e w' => e = .returned (.bool true) ∧ Below w.heap.size w w' := by
  obtain ⟨hx1, hx2⟩ := hx
  obtain ⟨m, hm⟩ : ∃ m : Nat, (131072 : Int) + x = m := ⟨(131072 + x).toNat, by omega⟩
  go_enter Tryz.func6, Tryz.ntmps6
  go_wp2_with fail
  refine (awake8_any w).mono ?_
  rintro e w1 ⟨rfl, hb1⟩
  have H1 := Lib.hid hb1
  have HM := Lib.hid hm
  clear hb1 hm
  go_wp2_with fail
  refine (wide_any w1 270 (by decide) (by decide)).mono ?_
  rintro e w2 ⟨g, b, rfl, hk2, hb2⟩
  have H2 := Lib.hid (show Kept (fun x => x < w1.heap.size) 200 w2 b g 1 (Wl.noughts 270) ∧ Below w1.heap.size w1 w2 from And.intro hk2 hb2)
  clear hk2 hb2
  go_wp2_with fail
  refine (c1_begin H2.out.1).mono ?_
  rintro e w3 ⟨tb, rfl, h3, hb3⟩
  have H3 := Lib.hid (And.intro h3 (H1.out.trans ((H2.out.2.trans (hb3.mono H2.out.2.size)).mono H1.out.size)))
  clear h3 hb3
  go_wp2_with fail
  refine (room_Of w3 tb).mono ?_
  rintro e w4 ⟨rfl, rfl⟩
  obtain ⟨R, hR⟩ : ∃ R : Nat → Prop, R = fun k => k < w1.heap.size ∨ k = w3.heap.size := ⟨_, rfl⟩
  obtain ⟨r, hr⟩ : ∃ r, r = w3.heap.size := ⟨_, rfl⟩
  have HR := Lib.hid (show ∀ k, k < w.heap.size → R k by rw [hR]; exact fun k hk => .inl (Nat.lt_of_lt_of_le hk H1.out.size))
  obtain ⟨P0, hP0⟩ : ∃ P0 : List (Option Wl.Text), P0 = List.replicate (270 - 2) none := ⟨_, rfl⟩
  have HP0 := Lib.hid (show Rm.used P0 = 0 ∧ P0.length = 268 by rw [hP0]; exact ⟨Bl.used_new _, List.length_replicate⟩)
  have H4 := Lib.hid (show St8 w R g b tb r 270 (List.replicate 16 0) P0 0 (w3.alloc (.cells #[ptr tb] 112)) by rw [hR, hr, hP0]; exact st8_begun H3.out.1 H3.out.2 (by decide) (by decide))
  rw [← hr]
  generalize List.replicate 16 0 = rt at H4
  obtain ⟨W, hW⟩ : ∃ W, W = w3.alloc (.cells #[ptr tb] 112) := ⟨_, rfl⟩
  rw [← hW] at H4 ⊢
  clear hR hr hW H3 H2 hP0
  go_wp2_with fail
  rw [HM.out]
  refine (text8_any W m 1 (by have := HM.out; omega) (by decide)).mono ?_
  rintro e w5 ⟨s, rfl, hs, hb5⟩
  have H5 := Lib.hid (H4.out.still hb5)
  have HS := Lib.hid (show s.size = m ∧ s.size ≤ 131199 ∧ Bl.need s.size ≤ 260 from ⟨hs, by have := HM.out; omega, Bl.need_le (by have := HM.out; omega)⟩)
  clear hs hb5 H4
  by_cases hpos : 0 < x
  · have hr5 : Bl.refused P0 s.size = 5 := if_pos (by have := HM.out; have := HS.out; omega)
    have HR5 := Lib.hid hr5
    clear hr5
    go_wp2_with fail
    refine (st8_put_no H5.out s (by rw [HR5.out]; decide) (by have := HS.out; omega)).mono ?_
    rintro e w6 ⟨rfl, h6, -⟩
    rw [HR5.out]
    have H6 := Lib.hid h6
    clear h6
    go_wp2_with fail
    refine (st8_used H6.out).mono ?_
    rintro e w7 ⟨rfl, h7, -⟩
    rw [HP0.out.1]
    have H7 := Lib.hid h7.below
    clear h7
    go_wp2
    go_ret
    exact ⟨rfl, H7.out⟩
  · have HX := Lib.hid (show s.size ≤ 131072 by have := HM.out; have := HS.out; omega)
    go_wp2_with fail
    refine (st8_put H5.out HR.out (by decide) s (Bl.refused_ok HX.out (by rw [HP0.out.1, HP0.out.2]; have := HS.out; omega))).mono ?_
    rintro e w6 ⟨p, l0, P1, rfl, hp, h6, -⟩
    have H6 := Lib.hid (And.intro hp h6)
    clear hp h6
    have hu := H6.out.1.used
    rw [show s.data.toList.length = s.size from Array.length_toList, HP0.out.1, Nat.zero_add] at hu
    go_wp2_with fail
    refine (st8_used H6.out.2).mono ?_
    rintro e w7 ⟨rfl, h7, -⟩
    rw [hu]
    have H7 := Lib.hid h7
    clear h7 hu
    go_wp2_with fail
    refine (st8_get H7.out p l0 s H6.out.1.chain HX.out).mono ?_
    rintro e w8 ⟨rfl, h8, -⟩
    have H8 := Lib.hid h8
    have HRef := Lib.hid (ref8Pages_any w8 s.size (by omega) (by have := HS.out; omega))
    rw [Bl.pagesI_nat] at HRef
    generalize Bl.need s.size = N at *
    have hsI : (s.size : Int) ≤ 131199 := by have := HS.out; omega
    clear h8
    go_wp2_with fail
    refine HRef.out.mono ?_
    rintro e w9 ⟨rfl, rfl⟩
    go_wp2_with fail
    refine (st8_drop H8.out HR.out (by decide) p l0 s H6.out.1.chain HX.out H6.out.1.nodup).mono ?_
    rintro e w10 ⟨rfl, h10, -⟩
    have H10 := Lib.hid h10.below
    clear h10
    go_wp2
    go_ret
    exact ⟨rfl, H10.out⟩
end Go.Proofs.YtahnhhhhfioibaaGreatDoor

namespace Go.Proofs.YtahnhhhhfioibaaGreatDoor
open Go.ChangeShapes Go.WideShapes Go.ChangeAt Go.RowKit
open Go.ChangeMaps (open_string shut_string)
namespace lawBlobBig
set_option maxRecDepth 100000
theorem contract (H : Type) (enc : TypeId × Value → H) (W : World) (base : Nat) (args : Array Value) (ds gs : List (DataW H)) (before : List MemPlace)
    (hval : ∀ (j : Nat) t v, Tryz.f6.params[j]? = some t → args[j]? = some v → Value.okWide Tryz.prog W .any base t v)
    (hW : DataW.Whole enc Tryz.prog Tryz.f6.params.toList Rows.blobBigSpec.vars false W args.toList ds gs before) :
    Calls Tryz.prog 6 args W fun e W' => ∃ v, e = .returned v ∧ Rows.blobBigSpec.post enc Tryz.prog Tryz.f6 false true false false W args v W' := by
  have hW' := hW
  obtain ⟨p, q, hA0, hV, rfl, hfz, hnd⟩ := hW
  have hA : DataW.TrodAll enc Tryz.prog W 0 (fun _ => true) true Tryz.f6.params.toList args.toList ds p := hA0
  have hAk := hA
  rw [Tryz.params6] at hA hval
  obtain ⟨v0, vs0, d0, ds0, p0, q0, hargs, rfl, rfl, h0, r0⟩ := trodAll_cons hA
  obtain ⟨rfl, rfl, rfl⟩ := trodAll_nil r0
  obtain rfl : args = #[v0] := by cases args; simp_all
  obtain ⟨rfl, rfl⟩ := trodVars_none hV
  obtain ⟨x0, rfl, rfl, rfl, w0⟩ := open_int Tryz.underlying81 (hval 0 81 v0 rfl rfl) h0
  have lt := fun x hx => hW'.lt x hx
  clear hA0
  refine (blobBig_any W x0 (i8_wf w0)).mono fun e W' ⟨he, hb⟩ => ?_
  subst he
  exact ⟨_, rfl, post_below (pv := []) hW' hb rfl (fun _ _ _ => trodAll_cons_mk (shut_bool Tryz.underlying4 _) trodAll_mk0) (fun sp hsp => trodAll_stays _ (by rw [Tryz.params6]; decide +kernel) hAk (fun x hx => hb.same (lt x (by simp at hx))) (fun x hx => hsp x (by simp at hx))) (fun _ _ => rfl)
    (ok_one (by kernel_rfl) rfl (okWide_bool_mk Tryz.underlying4 _))⟩
theorem laid_met (os : Os) : laidMet Tryz.prog Rows.blobBigRow.laid ((laidWorld os).forCall (fun _ _ => 0) ⟨#[], #[.int .i8 0], []⟩).memory :=
  laidMet_of_run' 8 (by kernel_rfl) (by kernel_rfl)
theorem reads (os : Os) {H : Type} (enc : TypeId × Value → H) : ∃ places, DataW.whole enc Tryz.prog ((laidWorld os).forCall (fun _ _ => 0) ⟨#[], #[.int .i8 0], []⟩).memory Tryz.f6.params.toList Rows.blobBigSpec.vars false #[Value.int .i8 0].toList 8 = some ([.lit (.int .i8 0)], [], places) :=
  ⟨[], by kernel_rfl⟩
theorem lifted (os : Os) (started : os.Started) (H : Type) (enc : TypeId × Value → H) (F : Stop.Interp) :
    ReturnsInHanded {} Tryz.checked os 6 .any ((OpenSpec.ofChange Rows.blobBigSpec).preRow enc Tryz.prog Tryz.f6 Rows.blobBigRow.domain false Rows.blobBigRow.laid) (((OpenSpec.ofChange Rows.blobBigSpec).at F).post enc Tryz.prog Tryz.f6 false true false false) := by
  obtain ⟨places, hx⟩ := reads os enc
  refine returnsInHanded_of_row (C := Tryz.checked) (s := OpenSpec.ofChange Rows.blobBigSpec) own started (by kernel_rfl) Tryz.func6
    (witness_row_at (enc := enc) (C := Tryz.checked) false (laidWorld os) #[.int .i8 0] rfl (by kernel_rfl) (by kernel_rfl) (by kernel_rfl)
      (OpenSpec.preRow_of_cond 8 hx (by kernel_rfl) (fun k hk => by cases hk) (by kernel_rfl) (laid_met os))) ?_
  intro W base args ds gs before hval hW _ _ _ hL _ _
  exact contract H enc W base args ds gs before hval hW
theorem said : Rows.BlobBigSaid :=
  OpenClaim.holds_of_cond 6 Tryz.f6 rfl rfl rfl rfl rfl rfl rfl ⟨rfl, rfl, rfl, rfl, rfl⟩ rfl rfl rfl rfl rfl (by kernel_rfl) Tryz.func6 (by kernel_rfl)
    (of_decide_eq_true (by kernel_rfl)) (by unfold Func.isWrapper; first | (rw [if_pos (by decide +kernel)]; kernel_rfl) | (rw [if_neg (by decide +kernel)]; exact ⟨rfl, rfl⟩))
    (fun os started H enc _ F => by rw [OpenClaim.pre_eq_preRow]; exact lifted os started H enc F)
theorem plain (f : FuncId) (fn : Func) (hf : Tryz.pinned.checked.prog.funcNamed "cooperage/cooperagelaw08.BlobBig" = some f) (hfn : Tryz.pinned.checked.prog.funcs[f]? = some fn) :
    false = Tryz.pinned.checked.prog.looks [] ∧ ∀ (j : Nat) t, fn.params[j]? = some t → Tryz.pinned.checked.prog.wantsStandIn t = false := by
  obtain rfl : f = 6 := Option.some.inj ((show Tryz.prog.funcNamed "cooperage/cooperagelaw08.BlobBig" = some 6 by kernel_rfl).symm.trans hf) |>.symm
  obtain rfl : fn = Tryz.f6 := (Option.some.inj (Tryz.func6.symm.trans hfn)).symm
  refine ⟨by kernel_rfl, fun j t ht => ?_⟩
  rw [Tryz.params6] at ht
  have hm : t = 81 := by simpa using Array.mem_of_getElem? ht
  subst hm
  exact (show Tryz.prog.wantsStandIn 81 = false by kernel_rfl)
theorem card : Rows.BlobBigCardSaid :=
  Claim7.holds_tied_plain_at .later [] _ _ _ _ said (fun _ h => by cases h) (by kernel_rfl) (fun _ h => by cases h) blobBig_row_tie rfl ⟨rfl, rfl⟩ (by kernel_rfl) rfl plain (by kernel_rfl)
end lawBlobBig
end Go.Proofs.YtahnhhhhfioibaaGreatDoor
