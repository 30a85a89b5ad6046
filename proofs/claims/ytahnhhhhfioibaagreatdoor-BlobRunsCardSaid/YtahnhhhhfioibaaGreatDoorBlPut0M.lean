/- A part of the law. -/
import Derived.Test.YtahnhhhhfioibaaGreatDoorG18
import Derived.Deep.CutBlock
import Derived.Deep.DeepCutAuto
import Derived.Test.YtahnhhhhfioibaaGreatDoorBlPartsM
namespace Go.Proofs.YtahnhhhhfioibaaGreatDoor
open Go.RowKit Lib
set_option maxRecDepth 100000 in
set_option maxHeartbeats 100000000 in
theorem bl_put_0 : bl_g0 := by
  intro w _ _ _ _ _ _ m _ _ _ g b _ tb _ r _ rt _ N HN _ _ _ _ _ _ _ _ _ _ _ _ _ _ _ _ _ _ _ _ _ _ _ _ _ _ _ _ _ _ _ _ _ _ _ _ _ _ _ _ _ _ _ _ _ _ _ _ _ _ _ _ _ _ _ _ _ _ _ _ _ _ _ _ _ _ _ _ _ _ _ _ _ _ _ _ _ _ _ _ _ _ _ _ _ _ _ _ _ _ _ _ _ _ _ _ _ _ _ _ _ _ _ _ _ _ _ _ _ _ _ _ _ _ _ _ _ _ _ _ _ _ _ _ _ _ _ _ _ _ _ _ _ _ _ _ _ _ _ _ _ _ _ _ _ _ _ _ _ _ _ _ _ _ _ _ _ _ _ _ _ _ _ _ _ _ _ _ _ _ _ _ _ _ _ _ _ _ _ _ _ _ _ _ _ _ _ _ _ _ _ _ _ _ _ _ _ _ _ _ _ _ _ _ _ _ _ _ _ _ _ _ _ _ _ _ _ _ _ _ _ _ _ _ _ _ _ _ _ _ _ _ _ _ _ _ _ _ _ _ _ _ _ _ _ _ _ _ _ k pg B _ _ _ _ _ HLt _ _ size c HOk Y _ _ HY _ _ _ _ _ _ y0 y1 y2 y3 _ _ _ _ h0
  subst h0
  by_cases hs0 : size < 0
  · go_wp2
    go_ret
    exact ⟨rfl, HY.out.1.below⟩
  by_cases hs3 : 3000 < size
  · go_wp2
    go_ret
    exact ⟨rfl, HY.out.1.below⟩
  obtain ⟨sz, rfl⟩ : ∃ sz : Nat, size = sz := ⟨size.toNat, by omega⟩
  have hszI : (sz : Int) ≤ 3000 := by omega
  go_wp2_with fail
  refine (text8_any Y sz c (by omega) HOk.out.c1).mono ?_
  rintro e w6 ⟨s, rfl, hs, hb6⟩
  have H6 := Lib.hid (HY.out.1.still hb6)
  have HS := Lib.hid (show s.size ≤ 3000 by omega)
  have HRef := Lib.hid (ref8Pages_any w6 s.size (by omega) (by omega))
  rw [Bl.pagesI_nat] at HRef
  have hsI : (s.size : Int) ≤ 3000 := by omega
  have hneed := Bl.need_le (n := s.size) (by omega)
  have HNd := Lib.hid (show Bl.need s.size ≤ 260 from hneed)
  have hnI : (Bl.need s.size : Int) ≤ 260 := by omega
  have hsm := HY.out.1.small
  have huI : (Rm.used pg : Int) ≤ 58 := by have := HN.out; omega
  have hpl : pg.length = N := by rw [HN.out]; exact hsm.2
  have HPL := Lib.hid hpl
  clear hs hb6 y0 y1 y2 y3 hneed hsm hpl hs0 hs3
  go_wp2_with fail
  refine HRef.out.mono ?_
  rintro e w7 ⟨rfl, rfl⟩
  by_cases hfull : N < Rm.used pg + Bl.need s.size
  · have hr4 : Bl.refused pg s.size = 4 := by
      unfold Bl.refused
      rw [if_neg (by have := HS.out; omega), if_pos (by rw [HPL.out]; exact hfull)]
    have HR4 := Lib.hid hr4
    have hfI : (N : Int) < Rm.used pg + Bl.need s.size := by omega
    clear hr4 hfull
    go_wp2_with fail
    refine (kt_put_no H6.out s (by rw [HR4.out]; decide) (by have := HS.out; omega)).mono ?_
    rintro e w8 ⟨rfl, h8, -⟩
    rw [HR4.out]
    have H8 := Lib.hid (h8.more (show 1040 * k ≤ 1040 * (k + 1) by omega))
    clear h8
    go_wp2
    go_meet
    case rel => exact ⟨pg, B, rfl, H8⟩
  · have hr0 : Bl.refused pg s.size = 0 := by
      unfold Bl.refused
      rw [if_neg (by have := HS.out; omega), if_neg (by rw [HPL.out]; exact hfull)]
    have HR0 := Lib.hid hr0
    have hfI : ¬ (N : Int) < Rm.used pg + Bl.need s.size := by omega
    clear hr0 hfull
    go_wp2_with fail
    refine (kt_put H6.out (by have := HLt.out; omega) s HR0.out HS.out).mono ?_
    rintro e w8 ⟨p, l0, qg, R8, rfl, hu8, hp8⟩
    have H8 := Lib.hid hp8
    have HU8 := Lib.hid hu8
    have HBl := Lib.hid (show B.length ≤ 58 by have := H6.out.count; have := H6.out.small; have := HN.out; omega)
    clear hp8 hu8
    go_wp2_with (at_builtin; refine Hid.out ?_)
    refine Lib.hid ?_
    refine wpList_app2 keptST rfl _ _ rfl rfl (Own.alloc H8.out.own _) (by have := H8.out.below.size; rw [World.size_alloc]; omega) w8.heap.size 0 1 1 [(p, s.data.toList)] rfl rfl (lies_kept w8 p s.data.toList) (by rw [List.length_map]; have := HBl.out; omega) ?_
    intro v9 w9 ho9 hg9 hw9
    have H9 := Lib.hid (show KT w g b tb r m rt qg (B ++ [(p :: l0, s.data.toList)]) (1040 * (k + 1)) v9 w9 from (H8.out.append ho9 hg9 hw9 (by rw [List.map_append]; rfl)).more (by omega))
    clear ho9 hg9 hw9
    go_wp2
    go_meet
    case rel => exact ⟨qg, _, by rw [HU8.out]; go_num, H9⟩
end Go.Proofs.YtahnhhhhfioibaaGreatDoor
