/- A part of the law. -/
import Derived.Test.YtahnhhhhfioibaaGreatDoorG21
import Derived.Test.YtahnhhhhfioibaaGreatDoorG20
import Derived.Deep.RegionHeld3
import Derived.OrdersHeld
import Derived.Deep.CutBlock
import Derived.Deep.DeepCutAuto
import Derived.Test.YtahnhhhhfioibaaGreatDoorTxPartsM
namespace Go.Proofs.YtahnhhhhfioibaaGreatDoor
open Go.RowKit Lib
set_option maxRecDepth 100000 in
set_option maxHeartbeats 100000000 in
theorem tx_back_1 : tx_g7 := by
  intro w _ _ z1 _ _ _ _ z2 _ g _ _ b _ _ _ _ _ _ _ _ _ _ t _ _ gm gw gb wr _ _ _ _ _ _ _ _ _ _ _ _ _ _ _ _ _ _ _ _ _ _ _ _ _ _ _ _ _ _ _ _ _ _ _ _ _ _ _ _ _ _ _ _ _ _ _ _ _ _ _ _ _ _ _ _ _ _ _ _ _ _ _ _ _ _ _ _ _ _ _ _ _ _ _ _ _ _ _ _ _ _ _ _ _ _ _ _ _ _ _ _ _ _ _ _ _ _ _ _ _ _ _ _ _ _ _ _ _ _ _ _ _ _ _ _ _ _ _ _ _ _ _ _ _ _ _ _ _ _ _ _ _ _ _ _ _ _ _ _ _ _ _ _ _ _ _ _ _ _ _ _ _ _ _ _ _ _ _ _ _ _ _ _ _ _ _ _ _ _ _ _ _ _ _ _ _ _ _ _ _ _ _ _ _ _ _ _ _ _ _ _ _ _ _ _ _ _ _ _ _ _ _ _ _ _ _ _ _ _ _ k a c H' p q h m M _ _ _ _ _ HLt _ _ xn _ raw _ _ _ _ _ _ _ _ _ Z HH HHk HZ _ _ _ _ _ _ _ b0 b1 b2 b3 b5 _ _ _ _ _ _ HQk _ h1 h2 h3
  subst h3
  clear b0 b1 b3
  obtain ⟨am, cm, hmm, hcm, hor⟩ := HZ.out.1.mlen (j := 1) (by decide)
  obtain ⟨e0, e1, e2⟩ := HZ.out.1.cells (k := 1) (by decide)
  rw [hmm] at e1
  have hml := (HZ.out.1.om (j := 1) (by decide)).2
  have hmI : ((M 1).length : Int) ≤ 60 := by have := HLt.out; omega
  clear e0 e2 hmm hml
  by_cases hraw : raw = true
  · have HMM := Lib.hid (show ∃ nn : Nat, max xn 0 = (nn : Int) from ⟨(max xn 0).toNat, by omega⟩)
    obtain ⟨nn, hnn⟩ := HMM.out
    have HNN := Lib.hid hnn
    subst hraw
    clear hnn hor HMM
    go_wp2_with fail
    have HX := Lib.hid (show TS w g b gb gw gm (fun x => x = wr.heap.size) k (.slice a 20 c) H' t p p q HH m M Z from HZ.out.1)
    refine (ts_back HX.out (k := 1) (by decide) (by have := HLt.out; omega) _ nn HNN.out).mono ?_
    rintro e w8 ⟨rfl, h8, hb8⟩
    have H8 := Lib.hid h8
    obtain ⟨z0, z1, z2, -⟩ := h8.want (k := 1) (by decide)
    rw [HHk.out] at z0
    rw [HQk.out] at z2
    simp only [Nat.mul_one] at z0 z1 z2
    clear h8 hb8 e1 b2 b5
    go_wp2_with fail
    have hc := ts_rback H8.out (k := 1) (by decide) _ nn HNN.out
    rw [HQk.out] at hc
    refine hc.mono ?_
    clear hc z0 z1 z2
    rintro e w9 ⟨vp, rfl, ho9, he9, h9, hb9⟩
    have H9 := Lib.hid (And.intro h9 (And.intro ho9 he9))
    clear h9 hb9 ho9 he9
    obtain ⟨av, nv, cv, hvv⟩ : ∃ av nv cv, vp = .slice av nv cv := by
      obtain ⟨av, cv, e, _⟩ := Own.slice H9.out.2.1
      exact ⟨av, _, cv, e⟩
    subst hvv
    unfold ref6
    go_wp2_with (refine wpList_store_part rfl T6T (.tmp 188) (.tmp 187) rfl gw 3 [.slice a 20 c, .int .i64 16, .slice av nv cv] rfl rfl 39 _ H9.out.1.bw (show (Tryz.prog.info? T6T).map (·.size) = some 3 by kernel_rfl) (show 3 + 3 ≤ 6 by decide) (by simp [Value.oneCell']) ?_)
    have hfit : (∀ x ∈ (p 1).take nn, x.1 < 20 ∧ x.2.length ≤ 512) ∧ ((p 1).take nn).length ≤ k + 1 := by
      obtain ⟨f1, f2⟩ := HZ.out.1.inr (k := 1) (by decide)
      exact ⟨fun x hx => f1 x (List.mem_of_mem_take hx), by rw [List.length_take]; omega⟩
    have H11 := Lib.hid ((TS.store H9.out.1 (k := 1) (v := .slice a 20 c) (by decide) H9.out.2.1 ⟨_, _, _, rfl⟩ (fun x hx => .inr (by rw [HQk.out]; rw [H9.out.2.2] at hx; exact hx)) hfit).less (E' := fun _ => False) (fun _ h => h.elim))
    clear hfit
    go_wp2
    go_meet
    case rel => exact ⟨a, c, H', _, _, _, _, _, rfl, H11⟩
  · have hraw2 : raw = false := eq_false_of_ne_true hraw
    subst hraw2
    clear hraw
    by_cases hm0 : (M 1).length = 0
    · have hm0I : ¬ (0 : Int) < ((M 1).length : Nat) := by omega
      have HMM := Lib.hid (show ∃ nn : Nat, max xn 0 = (nn : Int) from ⟨(max xn 0).toNat, by omega⟩)
      obtain ⟨nn, hnn⟩ := HMM.out
      have HNN := Lib.hid hnn
      clear hnn hor HMM hm0
      go_wp2_with fail
      have HX := Lib.hid (show TS w g b gb gw gm (fun x => x = wr.heap.size) k (.slice a 20 c) H' t p p q HH m M Z from HZ.out.1)
      refine (ts_back HX.out (k := 1) (by decide) (by have := HLt.out; omega) _ nn HNN.out).mono ?_
      rintro e w8 ⟨rfl, h8, hb8⟩
      have H8 := Lib.hid h8
      obtain ⟨z0, z1, z2, -⟩ := h8.want (k := 1) (by decide)
      rw [HHk.out] at z0
      rw [HQk.out] at z2
      simp only [Nat.mul_one] at z0 z1 z2
      clear h8 hb8 e1 b2 b5
      go_wp2_with fail
      have hc := ts_rback H8.out (k := 1) (by decide) _ nn HNN.out
      rw [HQk.out] at hc
      refine hc.mono ?_
      clear hc z0 z1 z2
      rintro e w9 ⟨vp, rfl, ho9, he9, h9, hb9⟩
      have H9 := Lib.hid (And.intro h9 (And.intro ho9 he9))
      clear h9 hb9 ho9 he9
      obtain ⟨av, nv, cv, hvv⟩ : ∃ av nv cv, vp = .slice av nv cv := by
        obtain ⟨av, cv, e, _⟩ := Own.slice H9.out.2.1
        exact ⟨av, _, cv, e⟩
      subst hvv
      unfold ref6
      go_wp2_with (refine wpList_store_part rfl T6T (.tmp 188) (.tmp 187) rfl gw 3 [.slice a 20 c, .int .i64 16, .slice av nv cv] rfl rfl 39 _ H9.out.1.bw (show (Tryz.prog.info? T6T).map (·.size) = some 3 by kernel_rfl) (show 3 + 3 ≤ 6 by decide) (by simp [Value.oneCell']) ?_)
      have hfit : (∀ x ∈ (p 1).take nn, x.1 < 20 ∧ x.2.length ≤ 512) ∧ ((p 1).take nn).length ≤ k + 1 := by
        obtain ⟨f1, f2⟩ := HZ.out.1.inr (k := 1) (by decide)
        exact ⟨fun x hx => f1 x (List.mem_of_mem_take hx), by rw [List.length_take]; omega⟩
      have H11 := Lib.hid ((TS.store H9.out.1 (k := 1) (v := .slice a 20 c) (by decide) H9.out.2.1 ⟨_, _, _, rfl⟩ (fun x hx => .inr (by rw [HQk.out]; rw [H9.out.2.2] at hx; exact hx)) hfit).less (E' := fun _ => False) (fun _ h => h.elim))
      clear hfit
      go_wp2
      go_meet
      case rel => exact ⟨a, c, H', _, _, _, _, _, rfl, H11⟩
    · have hm0I : (0 : Int) < ((M 1).length : Nat) := by omega
      obtain ⟨gm2, ham, hel⟩ := hor.resolve_left hm0
      subst ham
      have hne0 : ¬ (((M 1).length : Nat) : Int) = 0 := by omega
      obtain ⟨y, hy⟩ : ∃ y, xn.tmod ((M 1).length : Nat) = y := ⟨_, rfl⟩
      have hy1 : -60 ≤ y ∧ y ≤ 60 ∧ -(((M 1).length : Nat) : Int) < y ∧ y < ((M 1).length : Nat) := by
        have h1 := Int.tmod_lt_of_pos xn hm0I
        have h2 := Int.lt_tmod_of_pos xn hm0I
        omega
      obtain ⟨kk, hk1, hk2⟩ : ∃ kk : Nat, (y + ((M 1).length : Nat)).tmod ((M 1).length : Nat) = kk ∧ kk < (M 1).length := by
        have e : (y + ((M 1).length : Nat)).tmod ((M 1).length : Nat) = (y + ((M 1).length : Nat)) % ((M 1).length : Nat) := Int.tmod_eq_emod_of_nonneg (by omega)
        have h1 := Int.emod_nonneg (y + ((M 1).length : Nat)) hne0
        have h2 := Int.emod_lt_of_pos (y + ((M 1).length : Nat)) hm0I
        exact ⟨((y + ((M 1).length : Nat)) % ((M 1).length : Nat)).toNat, by omega, by omega⟩
      obtain ⟨hy2, hy3, hy4, hy5⟩ := hy1
      have hel1 := hel kk hk2
      obtain ⟨mv, hmv⟩ : ∃ mv, mv = (M 1)[kk] := ⟨_, rfl⟩
      rw [← hmv] at hel1
      have HMM := Lib.hid (show ∃ nn : Nat, max mv 0 = (nn : Int) from ⟨(max mv 0).toNat, by omega⟩)
      obtain ⟨nn, hnn⟩ := HMM.out
      have HNN := Lib.hid hnn
      have hkI : (kk : Int) < ((M 1).length : Nat) := by omega
      have hcmI : (((M 1).length : Nat) : Int) ≤ cm := by omega
      clear hnn hor HMM hm0 hel hmv hk2
      generalize (M 1).length = ml at *
      go_wp2_with fail
      go_quiet (fail)
      rename_i nq
      obtain ⟨V, hV⟩ : ∃ V, V = Z.drewN nq := ⟨_, rfl⟩
      rw [← hV]
      have HX := Lib.hid (show TS w g b gb gw gm (fun x => x = wr.heap.size) k (.slice a 20 c) H' t p p q HH m M V by rw [hV]; exact HZ.out.1.still (below_drawn Z nq))
      clear hel1 hy hk1 hy2 hy3 hy4 hy5 hV
      go_wp2_with fail
      refine (ts_back HX.out (k := 1) (by decide) (by have := HLt.out; omega) _ nn HNN.out).mono ?_
      rintro e w8 ⟨rfl, h8, hb8⟩
      have H8 := Lib.hid h8
      obtain ⟨z0, z1, z2, -⟩ := h8.want (k := 1) (by decide)
      rw [HHk.out] at z0
      rw [HQk.out] at z2
      simp only [Nat.mul_one] at z0 z1 z2
      clear h8 hb8 e1 b2 b5
      go_wp2_with fail
      have hc := ts_rback H8.out (k := 1) (by decide) _ nn HNN.out
      rw [HQk.out] at hc
      refine hc.mono ?_
      clear hc z0 z1 z2
      rintro e w9 ⟨vp, rfl, ho9, he9, h9, hb9⟩
      have H9 := Lib.hid (And.intro h9 (And.intro ho9 he9))
      clear h9 hb9 ho9 he9
      obtain ⟨av, nv, cv, hvv⟩ : ∃ av nv cv, vp = .slice av nv cv := by
        obtain ⟨av, cv, e, _⟩ := Own.slice H9.out.2.1
        exact ⟨av, _, cv, e⟩
      subst hvv
      unfold ref6
      go_wp2_with (refine wpList_store_part rfl T6T (.tmp 188) (.tmp 187) rfl gw 3 [.slice a 20 c, .int .i64 16, .slice av nv cv] rfl rfl 39 _ H9.out.1.bw (show (Tryz.prog.info? T6T).map (·.size) = some 3 by kernel_rfl) (show 3 + 3 ≤ 6 by decide) (by simp [Value.oneCell']) ?_)
      have hfit : (∀ x ∈ (p 1).take nn, x.1 < 20 ∧ x.2.length ≤ 512) ∧ ((p 1).take nn).length ≤ k + 1 := by
        obtain ⟨f1, f2⟩ := HZ.out.1.inr (k := 1) (by decide)
        exact ⟨fun x hx => f1 x (List.mem_of_mem_take hx), by rw [List.length_take]; omega⟩
      have H11 := Lib.hid ((TS.store H9.out.1 (k := 1) (v := .slice a 20 c) (by decide) H9.out.2.1 ⟨_, _, _, rfl⟩ (fun x hx => .inr (by rw [HQk.out]; rw [H9.out.2.2] at hx; exact hx)) hfit).less (E' := fun _ => False) (fun _ h => h.elim))
      clear hfit
      go_wp2
      go_meet
      case rel => exact ⟨a, c, H', _, _, _, _, _, rfl, H11⟩
end Go.Proofs.YtahnhhhhfioibaaGreatDoor
