/- A part of the law. -/
import Derived.Test.YtahnhhhhfioibaaGreatDoorG18
import Derived.Deep.CutBlock
import Derived.Deep.DeepCutAuto
import Derived.Test.YtahnhhhhfioibaaGreatDoorBlPartsM
namespace Go.Proofs.YtahnhhhhfioibaaGreatDoor
open Go.RowKit Lib
set_option maxRecDepth 100000 in
set_option maxHeartbeats 100000000 in
theorem bl_raw_0 : bl_g2 := by
  intro _ _ _ _ z1 _ _ _ _ z2 _ _ _ _ _ _ _ _ _ _ _ _ _ _ _ _ _ _ _ _ _ _ _ _ _ _ _ _ _ _ _ _ _ _ _ _ _ _ _ _ _ _ _ _ _ _ _ _ _ _ _ _ _ _ _ _ _ _ _ _ _ _ _ _ _ _ _ _ _ _ _ _ _ _ _ _ _ _ _ _ _ _ _ _ _ _ _ _ _ _ _ _ _ _ _ _ _ _ _ _ _ _ _ _ _ _ _ _ _ _ _ _ _ _ _ _ _ _ _ _ _ _ _ _ _ _ _ _ _ _ _ _ _ _ _ _ _ _ _ _ _ _ _ _ _ _ _ _ _ _ _ _ _ _ _ _ _ _ _ _ _ _ _ _ _ _ _ _ _ _ _ _ _ _ _ _ _ _ _ _ _ _ _ _ _ _ _ _ _ _ _ _ _ _ _ _ _ _ _ _ _ _ _ _ _ _ _ _ _ _ _ _ _ _ _ _ _ _ _ _ _ _ _ _ _ _ _ _ _ _ _ _ _ _ _ _ _ _ _ _ _ _ _ _ _ _ _ _ _ _ _ _ _ _ _ _ _ _ _ _ _ k pg B _ _ _ _ _ _ _ an size _ HOk Y _ ga HY _ _ _ _ _ _ y0 y1 y2 y3 _ _ _ _ _ _ h2
  subst h2
  have hnr := HOk.out.n1
  obtain ⟨hn1, hn2⟩ := hnr
  have hB8 : ∀ X', Below Y.heap.size Y X' → X'.cell? ⟨ga, 1, none⟩ = some (.int .i64 an) := fun X' hb => (Blk.below HY.out.2 hb HY.out.2.lt).cell (j := 1) rfl
  have HB8 := Lib.hid hB8
  clear hB8
  rcases Rm.at_any pg an with ⟨ho, hr, hg, hh, hno⟩ | ⟨p, hi, hp, hs, hr, hg, hh, hno⟩ | ⟨p, t, hi, hp, hs, hr, hg, hh, hno⟩
  · have HR := Lib.hid (And.intro hr (And.intro hh hno))
    clear ho hr hg hh hno
    go_wp2_with fail
    refine (kt_has HY.out.1 an).mono ?_
    rintro e w6 ⟨rfl, h6, hb6⟩
    have H6 := Lib.hid (And.intro h6 hb6)
    have z1 := HB8.out w6 hb6
    rw [HR.out.2.1, HR.out.2.2]
    clear h6 hb6 y0 y1 y2 y3
    go_wp2_with fail
    refine (kt_get_no H6.out.1 an (by rw [HR.out.1]; decide)).mono ?_
    rintro e w7 ⟨rfl, h7, hb7⟩
    have H7 := Lib.hid (And.intro h7 (H6.out.2.trans (hb7.mono H6.out.2.size)))
    have z2 := HB8.out w7 H7.out.2
    rw [HR.out.1]
    clear h7 hb7 z1
    go_wp2_with fail
    refine (kt_drop_no H7.out.1 an (by rw [HR.out.1]; decide)).mono ?_
    rintro e w8 ⟨rfl, h8, -⟩
    rw [HR.out.1]
    have H8 := Lib.hid (h8.more (show 1040 * k ≤ 1040 * (k + 1) by omega))
    clear h8 z2
    go_wp2
    go_meet
    case rel => exact ⟨pg, B, rfl, H8⟩
  · have HR := Lib.hid (And.intro hr (And.intro hh hno))
    clear hi hp hs hr hg hh hno
    go_wp2_with fail
    refine (kt_has HY.out.1 an).mono ?_
    rintro e w6 ⟨rfl, h6, hb6⟩
    have H6 := Lib.hid (And.intro h6 hb6)
    have z1 := HB8.out w6 hb6
    rw [HR.out.2.1, HR.out.2.2]
    clear h6 hb6 y0 y1 y2 y3
    go_wp2_with fail
    refine (kt_get_no H6.out.1 an (by rw [HR.out.1]; decide)).mono ?_
    rintro e w7 ⟨rfl, h7, hb7⟩
    have H7 := Lib.hid (And.intro h7 (H6.out.2.trans (hb7.mono H6.out.2.size)))
    have z2 := HB8.out w7 H7.out.2
    rw [HR.out.1]
    clear h7 hb7 z1
    go_wp2_with fail
    refine (kt_drop_no H7.out.1 an (by rw [HR.out.1]; decide)).mono ?_
    rintro e w8 ⟨rfl, h8, -⟩
    rw [HR.out.1]
    have H8 := Lib.hid (h8.more (show 1040 * k ≤ 1040 * (k + 1) by omega))
    clear h8 z2
    go_wp2
    go_meet
    case rel => exact ⟨pg, B, rfl, H8⟩
  · have HR := Lib.hid (And.intro hh hno)
    clear hi hp hs hr hg hh hno
    go_wp2_with fail
    refine (kt_has HY.out.1 an).mono ?_
    rintro e w6 ⟨rfl, h6, -⟩
    rw [HR.out.1, HR.out.2]
    have H6 := Lib.hid (h6.more (show 1040 * k ≤ 1040 * (k + 1) by omega))
    clear h6
    go_wp2
    go_meet
    case rel => exact ⟨pg, B, rfl, H6⟩
end Go.Proofs.YtahnhhhhfioibaaGreatDoor
