/- RoomPages: for every number of homes the function of the statement returns true: how many pages so many homes have is the document's. Conditions: none beside those of the form; no walk reads the two tables that are laid. -/
import Derived.Test.YtobmjcfemjpgcaaGreatDoorG11
import Derived.Test.YtobmjcfemjpgcaaGreatDoorG6
namespace Go.Proofs.YtobmjcfemjpgcaaGreatDoor
open Go.RowKit Lib

set_option maxRecDepth 100000 in
set_option maxHeartbeats 4000000 in
theorem refPages_any (w : World) (n : Int) (hr : -9223372036854775808 ≤ n ∧ n ≤ 9223372036854775807) :
    Calls Tryz.prog 45 #[.int .i64 n] w fun e w' => e = .returned (.int .i64 (Rm.pages n : Nat)) ∧ w' = w := by
  obtain ⟨M, hM⟩ : ∃ M, M = min n 1048576 := ⟨_, rfl⟩
  have HI := Lib.hid (show Rm.IsPages M (Rm.pages n) by rw [hM]; exact Rm.pages_is n)
  have hb : M ≤ 1048576 := by omega
  have HM := Lib.hid hM
  clear hM
  go_enter Tryz.func45, Tryz.ntmps45
  go_wp2
  rw [← HM.out]
  go_loop [3] (fun p => ∃ k : Nat, p = .int .i64 k ∧ (k = 0 ∨ (Rm.cost k : Int) ≤ M)) (fun p => 1048577 - (intOf p).toNat)
  case atStart => exact ⟨0, rfl, .inl rfl⟩
  case round =>
    obtain ⟨k, rfl, hk⟩ := hrel
    have hkI : (k : Int) ≤ 1048576 := by unfold Rm.cost at hk; omega
    have hd : ((k : Int) + 1 + 4095).tdiv 4096 = ((k + 1 + 4095) / 4096 : Nat) := by rw [Int.tdiv_eq_ediv_of_nonneg (by omega)]; omega
    obtain ⟨q, hq⟩ : ∃ q, q = (k + 1 + 4095) / 4096 := ⟨_, rfl⟩
    have hqI : (q : Int) ≤ 300 := by omega
    rw [← hq] at hd
    have HC := Lib.hid (show Rm.cost (k + 1) = 1 + (k + 1) + q by unfold Rm.cost; rw [hq])
    have HK := Lib.hid hk
    clear hq hk
    by_cases hle : 1 + (k : Int) + 1 + q ≤ M
    · have HLe := Lib.hid hle
      go_wp2
      clear hd hqI hle
      go_loop [4] (fun s => ∃ j : Nat, s = .int .i64 j ∧ 1 ≤ j ∧ (Rm.cost (k + j) : Int) ≤ M) (fun s => 1048577 - (intOf s).toNat)
      case atStart => exact ⟨1, rfl, Nat.le_refl _, by have := HC.out; have := HLe.out; omega⟩
      case round =>
        obtain ⟨j, rfl, hj1, hj⟩ := hrel
        have hjI : (k : Int) + j ≤ 1048576 := by unfold Rm.cost at hj; omega
        have hj0 : (1 : Int) ≤ j := by omega
        have hd : ((k : Int) + 2 * j + 4095).tdiv 4096 = ((k + 2 * j + 4095) / 4096 : Nat) := by rw [Int.tdiv_eq_ediv_of_nonneg (by omega)]; omega
        obtain ⟨u, hu⟩ : ∃ u, u = (k + 2 * j + 4095) / 4096 := ⟨_, rfl⟩
        have huI : (u : Int) ≤ 600 := by omega
        rw [← hu] at hd
        have HC2 := Lib.hid (show Rm.cost (k + 2 * j) = 1 + (k + 2 * j) + u by unfold Rm.cost; rw [hu])
        have HJ := Lib.hid (And.intro hj1 hj)
        clear hu hj1 hj
        by_cases hle : 1 + (k : Int) + 2 * j + u ≤ M
        · have HL2 := Lib.hid hle
          go_wp2
          go_round
          case rel => exact ⟨2 * j, by go_num, by have := HJ.out; omega, by have := HC2.out; have := HL2.out; omega⟩
          case measure => have := HJ.out; simp [intOf]; omega
        · go_wp2
          go_round
          case rel => exact ⟨k + j, by go_num, .inr HJ.out.2⟩
          case measure => have := HJ.out; simp [intOf]; omega
    · have HE := Lib.hid (show Rm.pages n = k from Rm.isPages_one HI.out ⟨HK.out, by have := HC.out; omega⟩)
      go_wp2
      go_ret
      exact ⟨by rw [HE.out]; rfl, rfl⟩
end Go.Proofs.YtobmjcfemjpgcaaGreatDoor

namespace Go.Proofs.YtobmjcfemjpgcaaGreatDoor
open Go.RowKit Lib

set_option maxRecDepth 100000 in
set_option maxHeartbeats 4000000 in
theorem roomPages_any (w : World) (n : Int) (hr : -9223372036854775808 ≤ n ∧ n ≤ 9223372036854775807) :
    Calls Tryz.prog 5 #[.int .i64 n] w fun e w' => e = .returned (.bool true) ∧ Below w.heap.size w w' := by
  go_enter Tryz.func5, Tryz.ntmps5
  go_wp2_with fail
  refine (awake7_any w).mono ?_
  rintro e w1 ⟨rfl, hb1⟩
  have H1 := Lib.hid hb1
  clear hb1
  go_wp2_with fail
  refine (pages_any w1 n hr).mono ?_
  rintro e w2 ⟨rfl, rfl⟩
  have HI := Lib.hid (Rm.pages_is n)
  have hp := Rm.pages_le n
  have HR := Lib.hid (refPages_any w2 n hr)
  generalize Rm.pages n = p at *
  obtain ⟨M, hM⟩ : ∃ M, M = min n 1048576 := ⟨_, rfl⟩
  rw [← hM] at HI
  have HM := Lib.hid hM
  have hpI : (p : Int) ≤ 1048576 := by omega
  have hd1 : ((p : Int) + 4095).tdiv 4096 = ((p + 4095) / 4096 : Nat) := by rw [Int.tdiv_eq_ediv_of_nonneg (by omega)]; omega
  have hd2 : ((p : Int) + 1 + 4095).tdiv 4096 = ((p + 1 + 4095) / 4096 : Nat) := by rw [Int.tdiv_eq_ediv_of_nonneg (by omega)]; omega
  obtain ⟨q, hq⟩ : ∃ q, q = (p + 4095) / 4096 := ⟨_, rfl⟩
  obtain ⟨u, hu⟩ : ∃ u, u = (p + 1 + 4095) / 4096 := ⟨_, rfl⟩
  have hqI : (q : Int) ≤ 300 := by omega
  have huI : (u : Int) ≤ 300 := by omega
  rw [← hq] at hd1
  rw [← hu] at hd2
  have HC := Lib.hid (show (p = 0 ∨ 1 + (p : Int) + q ≤ M) ∧ M < 1 + (p : Int) + 1 + u by
    obtain ⟨h1, h2⟩ := HI.out
    unfold Rm.cost at h1 h2
    rw [← hq] at h1
    rw [← hu] at h2
    omega)
  clear hq hu hM hp
  go_wp2_with fail
  refine HR.out.mono ?_
  rintro e w3 ⟨rfl, rfl⟩
  by_cases hp0 : p = 0
  · subst hp0
    go_wp2
    go_ret
    exact ⟨rfl, H1.out⟩
  · have hle : 1 + (p : Int) + q ≤ min n 1048576 := by rw [← HM.out]; exact HC.out.1.resolve_left hp0
    have hgt : min n 1048576 < 1 + (p : Int) + 1 + u := by rw [← HM.out]; exact HC.out.2
    have hp0I : ¬ (p : Int) = 0 := by omega
    clear hp0
    go_wp2
    go_ret
    exact ⟨rfl, H1.out⟩
end Go.Proofs.YtobmjcfemjpgcaaGreatDoor

namespace Go.Proofs.YtobmjcfemjpgcaaGreatDoor
open Go.ChangeShapes Go.WideShapes Go.ChangeAt Go.RowKit
open Go.ChangeMaps (open_string shut_string)
namespace lawRoomPages
set_option maxRecDepth 100000
theorem contract (H : Type) (enc : TypeId × Value → H) (W : World) (base : Nat) (args : Array Value) (ds gs : List (DataW H)) (before : List MemPlace)
    (hval : ∀ (j : Nat) t v, Tryz.f5.params[j]? = some t → args[j]? = some v → Value.okWide Tryz.prog W .any base t v)
    (hW : DataW.Whole enc Tryz.prog Tryz.f5.params.toList Rows.roomPagesSpec.vars false W args.toList ds gs before) :
    Calls Tryz.prog 5 args W fun e W' => ∃ v, e = .returned v ∧ Rows.roomPagesSpec.post enc Tryz.prog Tryz.f5 false true false false W args v W' := by
  have hW' := hW
  obtain ⟨p, q, hA0, hV, rfl, hfz, hnd⟩ := hW
  have hA : DataW.TrodAll enc Tryz.prog W 0 (fun _ => true) true Tryz.f5.params.toList args.toList ds p := hA0
  have hAk := hA
  rw [Tryz.params5] at hA hval
  obtain ⟨v0, vs0, d0, ds0, p0, q0, hargs, rfl, rfl, h0, r0⟩ := trodAll_cons hA
  obtain ⟨rfl, rfl, rfl⟩ := trodAll_nil r0
  obtain rfl : args = #[v0] := by cases args; simp_all
  obtain ⟨rfl, rfl⟩ := trodVars_none hV
  obtain ⟨x0, rfl, rfl, rfl, w0⟩ := open_int Tryz.underlying3 (hval 0 3 v0 rfl rfl) h0
  have lt := fun x hx => hW'.lt x hx
  clear hA0
  refine (roomPages_any W x0 (int_wf w0)).mono fun e W' ⟨he, hb⟩ => ?_
  subst he
  exact ⟨_, rfl, post_below (pv := []) hW' hb rfl (fun _ _ _ => trodAll_cons_mk (shut_bool Tryz.underlying4 _) trodAll_mk0) (fun sp hsp => trodAll_stays _ (by rw [Tryz.params5]; decide +kernel) hAk (fun x hx => hb.same (lt x (by simp at hx))) (fun x hx => hsp x (by simp at hx))) (fun _ _ => rfl)
    (ok_one (by kernel_rfl) rfl (okWide_bool_mk Tryz.underlying4 _))⟩
theorem laid_met (os : Os) : laidMet Tryz.prog Rows.roomPagesRow.laid ((laidWorld os).forCall (fun _ _ => 0) ⟨#[], #[.int .i64 0], []⟩).memory :=
  laidMet_of_run' 8 (by kernel_rfl) (by kernel_rfl)
theorem reads (os : Os) {H : Type} (enc : TypeId × Value → H) : ∃ places, DataW.whole enc Tryz.prog ((laidWorld os).forCall (fun _ _ => 0) ⟨#[], #[.int .i64 0], []⟩).memory Tryz.f5.params.toList Rows.roomPagesSpec.vars false #[Value.int .i64 0].toList 8 = some ([.lit (.int .i64 0)], [], places) :=
  ⟨[], by kernel_rfl⟩
theorem lifted (os : Os) (started : os.Started) (H : Type) (enc : TypeId × Value → H) (F : Stop.Interp) :
    ReturnsInHanded {} Tryz.checked os 5 .any ((OpenSpec.ofChange Rows.roomPagesSpec).preRow enc Tryz.prog Tryz.f5 Rows.roomPagesRow.domain false Rows.roomPagesRow.laid) (((OpenSpec.ofChange Rows.roomPagesSpec).at F).post enc Tryz.prog Tryz.f5 false true false false) := by
  obtain ⟨places, hx⟩ := reads os enc
  refine returnsInHanded_of_row (C := Tryz.checked) (s := OpenSpec.ofChange Rows.roomPagesSpec) own started (by kernel_rfl) Tryz.func5
    (witness_row_at (enc := enc) (C := Tryz.checked) false (laidWorld os) #[.int .i64 0] rfl (by kernel_rfl) (by kernel_rfl) (by kernel_rfl)
      (OpenSpec.preRow_of_cond 8 hx (by kernel_rfl) (fun k hk => by cases hk) (by kernel_rfl) (laid_met os))) ?_
  intro W base args ds gs before hval hW _ _ _ hL _ _
  exact contract H enc W base args ds gs before hval hW
theorem said : Rows.RoomPagesSaid :=
  OpenClaim.holds_of_cond 5 Tryz.f5 rfl rfl rfl rfl rfl rfl rfl ⟨rfl, rfl, rfl, rfl, rfl⟩ rfl rfl rfl rfl rfl (by kernel_rfl) Tryz.func5 (by kernel_rfl)
    (of_decide_eq_true (by kernel_rfl)) (by unfold Func.isWrapper; first | (rw [if_pos (by decide +kernel)]; kernel_rfl) | (rw [if_neg (by decide +kernel)]; exact ⟨rfl, rfl⟩))
    (fun os started H enc _ F => by rw [OpenClaim.pre_eq_preRow]; exact lifted os started H enc F)
theorem plain (f : FuncId) (fn : Func) (hf : Tryz.pinned.checked.prog.funcNamed "cooperage/cooperagelaw07.RoomPages" = some f) (hfn : Tryz.pinned.checked.prog.funcs[f]? = some fn) :
    false = Tryz.pinned.checked.prog.looks [] ∧ ∀ (j : Nat) t, fn.params[j]? = some t → Tryz.pinned.checked.prog.wantsStandIn t = false := by
  obtain rfl : f = 5 := Option.some.inj ((show Tryz.prog.funcNamed "cooperage/cooperagelaw07.RoomPages" = some 5 by kernel_rfl).symm.trans hf) |>.symm
  obtain rfl : fn = Tryz.f5 := (Option.some.inj (Tryz.func5.symm.trans hfn)).symm
  refine ⟨by kernel_rfl, fun j t ht => ?_⟩
  rw [Tryz.params5] at ht
  have hm : t = 3 := by simpa using Array.mem_of_getElem? ht
  subst hm
  exact (show Tryz.prog.wantsStandIn 3 = false by kernel_rfl)
theorem card : Rows.RoomPagesCardSaid :=
  Claim7.holds_tied_plain_at .later [] _ _ _ _ said (fun _ h => by cases h) (by kernel_rfl) (fun _ h => by cases h) roomPages_row_tie rfl ⟨rfl, rfl⟩ (by kernel_rfl) rfl plain (by kernel_rfl)
end lawRoomPages
end Go.Proofs.YtobmjcfemjpgcaaGreatDoor
