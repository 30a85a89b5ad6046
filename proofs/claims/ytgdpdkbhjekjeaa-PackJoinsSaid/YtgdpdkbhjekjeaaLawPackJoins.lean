/- PackJoins holds: the law returns true, whatever the input, and its arguments read behind the call as they read before. No condition. -/
import Derived.Test.YtgdpdkbhjekjeaaStays
import Derived.Test.YtgdpdkbhjekjeaaPkLawJoins
import Derived.Test.YtgdpdkbhjekjeaaPkIn
namespace Go.Proofs.Ytgdpdkbhjekjeaa
open Go.ChangeShapes Go.WideShapes Go.ChangeAt Go.RowKit
open Go.ChangeMaps (open_string shut_string)
namespace lawPackJoins
set_option maxRecDepth 100000 in
theorem lifted (os : Os) (started : os.Started) (H : Type) (enc : TypeId × Value → H) :
    ReturnsInHanded {} Try.checked os 7 .any (Rows.packJoinsSpec.pre6 enc Try.prog Try.f7 Rows.packJoinsRow.domain false) (Rows.packJoinsSpec.post enc Try.prog Try.f7 false true false false) := by
  refine returnsInHanded_of_change_sized (C := Try.checked) own started (by kernel_rfl) Try.func7
    (ChangeSpec.witness6 (enc := enc) (C := Try.checked) false ⟨#[], #[.agg #[.string .empty, .string .empty], .slice none 0 0, .slice none 0 0], []⟩ 8 (by kernel_rfl) (by kernel_rfl) (by kernel_rfl) (by kernel_rfl)) ?_
  intro W base args ds gs before hval0 hW hcnd hwt _
  have hval : ∀ (j : Nat) t v, Try.f7.params[j]? = some t → args[j]? = some v → Value.okWide Try.prog W .any base t v := hval0
  have hW' := hW
  obtain ⟨p, q, hA0, hV, rfl, hfz, hnd⟩ := hW
  have hA : DataW.TrodAll enc Try.prog W 0 (fun _ => true) true Try.f7.params.toList args.toList ds p := hA0
  have hAk := hA
  rw [Try.params7] at hA hval
  obtain ⟨v0, vs0, d0, ds0, p0, q0, hargs, rfl, rfl, h0, r0⟩ := trodAll_cons hA
  obtain ⟨v1, vs1, d1, ds1, p1, q1, rfl, rfl, rfl, h1, r1⟩ := trodAll_cons r0
  obtain ⟨v2, vs2, d2, ds2, p2, q2, rfl, rfl, rfl, h2, r2⟩ := trodAll_cons r1
  obtain ⟨rfl, rfl, rfl⟩ := trodAll_nil r2
  obtain rfl : args = #[v0, v1, v2] := by cases args; simp_all
  obtain ⟨rfl, rfl⟩ := trodVars_none hV
  obtain ⟨x0, y0, rfl⟩ := pair_in (hval 0 34 v0 rfl rfl) h0
  obtain ⟨l1, hr1, hn1⟩ := fields_in (hval 1 22 v1 rfl rfl) h1
  obtain ⟨l2, hr2, hn2⟩ := fields_in (hval 2 22 v2 rfl rfl) h2
  have lt := fun x hx => hW'.lt x hx
  clear hA0 hval0
  refine (packJoins_any x0 y0 v1 v2 l1 l2 W (fields_form (hval 1 22 v1 rfl rfl) h1) (fields_form (hval 2 22 v2 rfl rfl) h2) hr1 hr2 hn1 hn2).mono fun e W' ⟨he, hb⟩ => ?_
  subst he
  exact ⟨_, rfl, post_below (pv := []) hW' hb rfl (fun _ _ _ => trodAll_cons_mk (shut_bool Try.underlying4 _) trodAll_mk0) (fun sp hsp => trodAll_stays _ (by rw [Try.params7]; decide +kernel) hAk (fun x hx => hb.same (lt x (by simpa using hx))) (fun x hx => hsp x (by simpa using hx))) (fun _ _ => rfl)
    (ok_one (by kernel_rfl) rfl (okWide_bool_mk Try.underlying4 _))⟩
end lawPackJoins

theorem packJoins_holds : Rows.PackJoinsSaid :=
  OpenClaim.holds_of_wide 7 Try.f7 rfl rfl rfl rfl rfl rfl rfl ⟨rfl, rfl, rfl, rfl, rfl⟩ rfl rfl rfl rfl rfl (by kernel_rfl) Try.func7 (by kernel_rfl)
    (of_decide_eq_true (by kernel_rfl)) (by unfold Func.isWrapper; first | (rw [if_pos (by decide +kernel)]; kernel_rfl) | (rw [if_neg (by decide +kernel)]; exact ⟨rfl, rfl⟩))
    (fun os started H enc _ => lawPackJoins.lifted os started H enc)
end Go.Proofs.Ytgdpdkbhjekjeaa
