/- Walk of the statements' awake. -/
import Derived.Test.YtgdpdkbhjekjeaaPkFalls
namespace Go.Proofs.Ytgdpdkbhjekjeaa
open Go.RowKit Lib

theorem rdF_new (w : World) (l : List Pk.Fd) (hn : ∀ i (h : i < l.length), l[i].n < 2 ^ 64) : RdF (w.alloc (.cells (fdElem.cells l).toArray 46)) (.slice (some ⟨w.heap.size, 0, none⟩) l.length l.length) l := by
  have hL : Lies fdElem (w.alloc (.cells (fdElem.cells l).toArray 46)) w.heap.size 0 l := Lies.of_blk (Blk.new w (fdElem.cells l).toArray 46) rfl
  refine ⟨_, _, rfl, Nat.le_refl _, fun i hi => ⟨hn i hi, w.heap.size, 0, rfl, by simp, fun j hj => ⟨?_, ?_⟩⟩⟩
  · have := hL.at j 0 (by decide) hj (.int .u64 l[j].n) rfl
    simpa [fdElem] using this
  · have := hL.at j 1 (by decide) hj (.string (bs l[j].s)) rfl
    simpa [fdElem, Nat.add_assoc] using this
set_option maxHeartbeats 2000000 in
theorem pkawake_any (w : World) : Calls Try.prog 8 #[] w fun e w' => e = .returned (.bool true) ∧ Below w.heap.size w w' := by
  have HW1 := Lib.hid (fun W => write_any ⟨#[98, 116]⟩ (.slice (some ⟨W.heap.size, 0, none⟩) 2 2) [⟨7, []⟩, ⟨0, [97, 98]⟩] _ (by decide) (by decide) (rdF_new W [⟨7, []⟩, ⟨0, [97, 98]⟩] (by decide)) (by decide))
  have HR := Lib.hid (fun W => read_any ⟨#[98, 116]⟩ [7, 0, 2, 97, 98] W (by decide) (by decide))
  have HW2 := Lib.hid (fun W => write_any ⟨#[98]⟩ (.slice (some ⟨W.heap.size, 0, none⟩) 1 1) [⟨256, []⟩] _ (by decide) (by decide) (rdF_new W [⟨256, []⟩] (by decide)) (by decide))
  have e1 : Pk.write (⟨#[98, 116]⟩ : ByteArray).data.toList [⟨7, []⟩, ⟨0, [97, 98]⟩] = some [7, 0, 2, 97, 98] := by decide
  have e2 : Pk.read (⟨#[98, 116]⟩ : ByteArray).data.toList [7, 0, 2, 97, 98] = some [⟨7, []⟩, ⟨0, [97, 98]⟩] := by decide
  have e3 : Pk.write (⟨#[98]⟩ : ByteArray).data.toList [⟨256, []⟩] = none := by decide
  simp only [e1] at HW1
  simp only [e2] at HR
  simp only [e3] at HW2
  unfold wres at HW1 HW2
  simp only at HW1 HW2
  clear e1 e2 e3
  have q1 := bs_toList [7, 0, 2, 97, 98]
  have q2 := bs_toList [97, 98]
  go_enter Try.func8, Try.ntmps8
  go_wp2_with fail
  refine (HW1.out _).mono ?_
  rintro e w1 ⟨rfl, hb1⟩
  have HB1 := Lib.hid (((Below.refl _ w).alloc (Nat.le_refl _) _).trans (hb1.mono (by simp)))
  clear hb1
  go_wp2_with fail
  refine (HR.out _).mono ?_
  rintro e w2 ⟨⟨v2, rfl, ho2⟩, hb2⟩
  have HB2 := Lib.hid (HB1.out.trans (hb2.mono HB1.out.size))
  have HO2 := Lib.hid (And.intro ho2 (Nat.le_trans HB1.out.size (Nat.le_refl _)))
  clear hb2 ho2
  go_wp2_with fail
  refine (HW2.out _).mono ?_
  rintro e w3 ⟨rfl, hb3⟩
  have HB3 := Lib.hid ((HB2.out.alloc HB2.out.size _).trans (hb3.mono (by have := HB2.out.size; simp; omega)))
  have ho3 := (HO2.out.1.alloc _).below hb3 (Nat.le_refl _)
  obtain ⟨g, cap, hv, _, _, hcap⟩ := Own.form ho3 (by decide)
  have hl3 : Lies fdElem w3 g 0 _ := Own.lies (cap := cap) (n := 2) (by rw [show (2 : Nat) = ([⟨7, []⟩, ⟨0, [97, 98]⟩] : List Pk.Fd).length from rfl, ← hv]; exact ho3)
  have c1 : w3.cell? ⟨g, 3, none⟩ = some (.string (bs [97, 98])) := by
    have := hl3.at 1 1 (by decide) (by decide) (.string (bs [97, 98])) rfl
    simpa [fdElem] using this
  have hv' : v2 = .slice (some ⟨g, 0, none⟩) 2 cap := hv
  clear hb3 ho3 hl3 hv
  subst hv'
  go_wp2
  go_ret
  exact ⟨rfl, HB3.out⟩
end Go.Proofs.Ytgdpdkbhjekjeaa
