/- Walk of gather. -/
import Derived.Test.YthkblabpiajbhaaDoorPuts
import Derived.Test.YthkblabpiajbhaaDoorLogWrite
import Derived.StillTailTactics
namespace Go.Proofs.YthkblabpiajbhaaDoor
open Go.RowKit Lib

theorem full_cellsZ (s : ByteArray) : strCells s ++ (zeros.map bcell).drop s.size = (Dk.full s.data.toList).map bcell := by
  rw [← full_cells s, zeros, List.map_replicate]; rfl
/-- What gather hands back. -/
def Gathered (w w' : World) (homes : Nat) (ps : List (Int × Wl.Text)) (e : Ending) : Prop := ∃ mv, e = .returned (.tuple #[mv, .int .i64 (Wl.gather homes [] ps).1]) ∧ Below w.heap.size w w' ∧
      ((Wl.gather homes [] ps).1 = 0 → ∃ gb, mv = .map (some gb) ∧ CMap w' gb (Wl.gather homes [] ps).2 ∧ w.heap.size ≤ gb)
theorem Gathered.no {w w' : World} {homes : Nat} {ps : List (Int × Wl.Text)} {c : Int} (h : Wl.gather homes [] ps = (c, [])) (hc : c ≠ 0) (hb : Below w.heap.size w w') : Gathered w w' homes ps (.returned (.tuple #[.map none, .int .i64 c])) :=
  ⟨.map none, by rw [h], hb, fun e => by rw [h] at e; exact absurd e hc⟩
set_option maxRecDepth 100000 in
set_option maxHeartbeats 4000000 in
theorem gather_any (w : World) (F : Nat → Prop) (b g : Nat) (s : Wl.Lg) (va : Value) (ll : List (Value × List PutD)) (hl : Log w F b g s) (hh : s.homes ≤ 65536) (ha : RdL w va ll) :
    Calls Tryd.prog 21 #[ptr b, va] w fun e w' => Gathered w w' s.homes (ptsL ll) e := by
  obtain ⟨a, cap, rfl, hc, hm, hr⟩ := ha
  have HL := Lib.hid hl
  have HR := Lib.hid hr
  have HH := Lib.hid hh
  obtain ⟨Z, hZ⟩ : ∃ Z, Z = (zeros.map bcell).toArray := ⟨_, rfl⟩
  have hz : ∀ w, (zeroValue CT).run Tryd.prog w = .ok (.agg Z) w := fun w => by rw [hZ]; exact zero_CT w
  have hzs : Z.size = 512 := by rw [hZ]; simp [zeros_len]
  have hzn : ¬ Z = #[] := by intro e; rw [e] at hzs; cases hzs
  have HZ := Lib.hid hZ
  have hmm := @run_makeMap Tryd.prog
  clear hl hr hh hZ
  go_enter Tryd.func21, Tryd.ntmps21
  unfold ptr
  go_wp2
  obtain ⟨q, hq⟩ : ∃ q, w.heap.size = q := ⟨_, rfl⟩
  obtain ⟨V, hV⟩ : ∃ V, V = w.alloc (.map #[] 0) := ⟨_, rfl⟩
  rw [← hV, hq]
  have H0 := Lib.hid (show CMap V q [] ∧ Below w.heap.size w V by
    rw [hV, ← hq]; exact ⟨IMap.made _ _ _ _, (Below.refl _ _).alloc (Nat.le_refl _) _⟩)
  have HQ := Lib.hid hq
  have HC := Lib.hid hc
  clear hV hq hmm hc
  go_loopw [15] (fun i wr => ∃ (k : Nat) (G : Wl.Grp), k ≤ ll.length ∧ i = .int .i64 k ∧ Hid (Wl.gather s.homes [] (ptsL (ll.take k)) = (0, G)) ∧ Hid (CMap wr q G) ∧ Hid (Below w.heap.size w wr)) (fun i _ => ll.length - (Go.RowKit.intOf i).toNat)
  case atStart => exact ⟨0, [], Nat.zero_le _, rfl, Lib.hid rfl, Lib.hid H0.out.1, Lib.hid H0.out.2⟩
  case round =>
    obtain ⟨k, G, hk, rfl, hG, hM, hB⟩ := hrel
    by_cases hlt : k < ll.length
    · have hI : (k : Int) < ll.length := by omega
      obtain ⟨hP, ga, oa, rfl, hga, hxa⟩ := HR.out k hlt
      have hcl : wr.cell? ⟨ga, oa + k, none⟩ = some ll[k].1 := (hB.out.cell (p := ⟨ga, oa + k, none⟩) hga).trans (hxa k hlt)
      obtain ⟨al, capl, hv, hcl2, hml, hrl⟩ := hP
      rw [hv] at hcl
      have HT := Lib.hid (ptsL_take ll k hlt)
      have HSP := Lib.hid (ptsL_split ll (k + 1))
      have HRL := Lib.hid hrl
      clear hxa hv hrl
      obtain ⟨l, hl⟩ : ∃ l, l = ll[k].2 := ⟨_, rfl⟩
      rw [← hl] at hcl hcl2 hml HRL HT
      have HL2 := Lib.hid hl
      clear hl
      go_wp2
      go_loopw [21] (fun i wq => ∃ (j : Nat) (G' : Wl.Grp), j ≤ l.length ∧ i = .int .i64 j ∧ Hid (Wl.gather s.homes [] (ptsL (ll.take k) ++ pts (l.take j)) = (0, G')) ∧ Hid (CMap wq q G') ∧ Hid (Below w.heap.size w wq)) (fun i _ => l.length - (Go.RowKit.intOf i).toNat)
      case atStart => exact ⟨0, G, Nat.zero_le _, rfl, Lib.hid (by rw [List.take_zero]; unfold pts; rw [List.map_nil, List.append_nil]; exact hG.out), hM, hB⟩
      case round =>
        clear hG hM hB hcl
        obtain ⟨j, G', hj, rfl, hG, hM, hB⟩ := hrel
        by_cases hlt2 : j < l.length
        · have hI2 : (j : Int) < l.length := by omega
          obtain ⟨⟨hi1, hi2⟩, gp, op, rfl, hgp, hxp⟩ := HRL.out j hlt2
          obtain ⟨cp0, cp1⟩ := hxp j hlt2
          have d0 : wr.cell? ⟨gp, op + j * 2, none⟩ = some (.int .i64 l[j].1) := (hB.out.cell (p := ⟨gp, op + j * 2, none⟩) hgp).trans cp0
          have d1 : wr.cell? ⟨gp, op + j * 2 + 1, none⟩ = some (.string l[j].2) := (hB.out.cell (p := ⟨gp, op + j * 2 + 1, none⟩) hgp).trans cp1
          have HPT := Lib.hid (pts_take l j hlt2)
          have HGO := Lib.hid (Wl.gather_go hG.out (pt l[j]))
          have HSL := Lib.hid (pts_split l (j + 1))
          clear hxp cp0 cp1
          generalize l[j] = p at *
          obtain ⟨at_, text⟩ := p
          simp only at d0 d1 hi1 hi2
          have HGO := Lib.hid (show Wl.gather s.homes [] (ptsL (ll.take k) ++ pts (l.take j) ++ [pt (at_, text)]) = if at_ < 0 ∨ (s.homes : Int) ≤ at_ then (2, []) else if 512 < text.size then (5, []) else (0, Wl.ins at_.toNat (Dk.full text.data.toList) G') by
            rw [HGO.out]
            show (if at_ < 0 ∨ _ then _ else if 512 < text.data.toList.length then _ else _) = _
            rw [Array.length_toList]; rfl)
          have HALL := Lib.hid (show ptsL ll = (ptsL (ll.take k) ++ pts (l.take j) ++ [pt (at_, text)]) ++ (pts (l.drop (j + 1)) ++ ptsL (ll.drop (k + 1))) by
            rw [HSP.out, HT.out, HSL.out, HPT.out]; simp only [List.append_assoc])
          obtain ⟨r, hr⟩ : ∃ r, wr.heap.size = r := ⟨_, rfl⟩
          have HRR := Lib.hid hr
          have HFG := Lib.hid (show Wl.Fits s.homes G' by have := Wl.gather_fits s.homes (ptsL (ll.take k) ++ pts (l.take j)) [] (Wl.fits_nil _); rw [hG.out] at this; exact this)
          have HLr := Lib.hid (show Log (wr.alloc (.cells #[.int .i64 at_, .string text] 34)) F b g s from HL.out.below (hB.out.alloc hB.out.size _))
          have HBr := Lib.hid (hB.out.alloc hB.out.size (.cells #[.int .i64 at_, .string text] 34))
          have hqr : q < wr.heap.size := hM.out.lt
          have hBr' := (hB.out.alloc hB.out.size (.cells #[.int .i64 at_, .string text] 34)).alloc (by simp; have := hB.out.size; omega) (.cells Z CT)
          go_wp2_with fail
          refine (lhas_any _ F b g s at_ HLr.out).mono ?_
          rintro e w1 ⟨rfl, rfl⟩
          by_cases hhas : s.has at_ = true
          · rw [hhas]
            have hat : 0 ≤ at_ ∧ at_ < s.homes := by simpa [Wl.Lg.has] using hhas
            obtain ⟨i, rfl⟩ : ∃ i : Nat, at_ = i := ⟨at_.toNat, by omega⟩
            by_cases h5 : text.size ≤ 512
            · have h5I : (text.size : Int) ≤ 512 := by omega
              have HGO := Lib.hid (show Wl.gather s.homes [] (ptsL (ll.take k) ++ pts (l.take j) ++ [pt ((i : Int), text)]) = (0, Wl.ins i (Dk.full text.data.toList) G') by
                rw [HGO.out, if_neg (by omega), if_neg (by omega), Int.toNat_natCast])
              have HI := Lib.hid (show i ≤ 1000000 by have := HH.out; omega)
              have H5 := Lib.hid h5
              clear hhas hat
              go_wp2
              obtain ⟨X, hX⟩ : ∃ X, X = (wr.alloc (.cells #[.int .i64 i, .string text] 34)).alloc (.cells Z CT) := ⟨_, rfl⟩
              rw [← hX]
              have x0 : X.cell? ⟨r, 1, none⟩ = some (.string text) := by rw [hX]; simp [← hr]
              have x1 : X.cell? ⟨r, 0, none⟩ = some (.int .i64 i) := by rw [hX]; simp [← hr]
              have hxs := slice_CT X
              have HX := Lib.hid (show CBlk X (r + 1) zeros ∧ CMap X q G' ∧ Below w.heap.size w X ∧ X.heap.size = r + 2 by
                rw [hX]
                refine ⟨?_, ?_, hBr', by simp [hr]⟩
                · have := CBlk.new (wr.alloc (.cells #[.int .i64 i, .string text] 34)) Z HZ.out
                  rw [World.size_alloc, hr] at this
                  exact this
                · exact (hM.out.kept (World.grownBy_alloc _ _ none) (by simp)).kept (World.grownBy_alloc _ _ none) (by simp))
              clear hX hBr' d0 d1 h5 h5I hr
              go_still_tail 3, (by kernel_rfl)
              change wpList _ _ _ _ _ X.drew
              obtain ⟨U, hU⟩ : ∃ U, U = X.drew := ⟨_, rfl⟩
              rw [← hU]
              have hbU : But (fun _ => False) X U := by rw [hU]; exact (But.refl _ _).drew
              have u1 : U.cell? ⟨r, 0, none⟩ = some (.int .i64 i) := hbU.cell x1 id
              have HU := Lib.hid (show CBlk U (r + 1) zeros ∧ CMap U q G' ∧ Below w.heap.size w U ∧ U.heap.size = r + 2 by
                obtain ⟨h1, h2, h3, h6⟩ := HX.out
                rw [hU]
                exact ⟨h1, h2.but ((But.refl (fun _ => False) X).drew) id, h3.drew, h6⟩)
              clear hU hbU x0 x1 hxs HX
              go_wp2_with (refine wpList_copy_str rfl _ _ _ _ rfl 5 Tryd.underlying22 (by kernel_rfl) (r + 1) 512 512 text rfl rfl _ CT HU.out.1.1 H5.out (by have := H5.out; simp [zeros_len]; exact this) ?_; refine Hid.out ?_)
              refine Lib.hid ?_
              obtain ⟨Y, hY⟩ : ∃ Y, Y = U.setRow (r + 1) (strCells text ++ List.drop text.size (List.map bcell zeros)).toArray := ⟨_, rfl⟩
              rw [← hY]
              have hbY : But (fun k => k = r + 1) U Y := by rw [hY]; exact (But.refl _ _).setRow _ _ (fun _ => rfl)
              have HRQ := Lib.hid hqr
              have HY := Lib.hid (show CBlk Y (r + 1) (Dk.full text.data.toList) ∧ CMap Y q G' ∧ Below w.heap.size w Y ∧ Y.cell? ⟨r, 0, none⟩ = some (.int .i64 i) by
                obtain ⟨h1, h2, h3, h6⟩ := HU.out
                have hB1 := hB.out.size
                have hwr := HRR.out
                refine ⟨⟨?_, Dk.full_length _ (by rw [Array.length_toList]; exact H5.out)⟩, h2.but hbY (by omega), Below.but h3 hbY h3.size (fun k hk e => by omega), hbY.cell u1 (by simp)⟩
                rw [hY, ← full_cellsZ text]
                exact setRow_heap U (r + 1) _ _ _ _ h1.1)
              have y0 := HY.out.2.2.2
              clear hY hbY HU u1 hqr
              go_wp2_with (first
                | (refine wpList_loadC rfl _ rfl (r + 1) (Dk.full text.data.toList) rfl HY.out.1 ?_)
                | (at_mapUpdate; refine wpList_store (M := contentE) rfl _ _ _ rfl HY.out.2.1 underInt underMap (by have := Wl.fits_length (HFG.out); have := HH.out; omega) i HI.out (Dk.full text.data.toList) HY.out.1.2 rfl rfl rfl ?_; intro w8 hM8 hg8; have H8 := Lib.hid (And.intro hM8 hg8); clear hM8 hg8; go_frame))
              go_roundw
              case rel =>
                have hq8 : ∀ j, some q = some j → w.heap.size ≤ j := fun j e => by cases e; have := HQ.out; omega
                refine ⟨j + 1, _, by omega, by go_num, Lib.hid (by rw [HPT.out, ← List.append_assoc]; exact HGO.out), Lib.hid H8.out.1, Lib.hid (HY.out.2.2.1.grown H8.out.2 (HY.out.2.2.1.size) (fun j e => hq8 j e))⟩
              case measure => simp [Go.RowKit.intOf]; omega
            · have h5I : (text.size : Int) > 512 := by omega
              have HE := Lib.hid (show Wl.gather s.homes [] (ptsL ll) = (5, []) by
                rw [HALL.out]
                refine Wl.gather_stop (by decide) ?_ _
                rw [HGO.out, if_neg (by omega), if_pos (by omega)])
              clear hhas hat hBr'
              go_wp2
              go_ret2
              exact Gathered.no HE.out (by decide) HBr.out
          · have hh' : s.has at_ = false := by simpa using hhas
            have hat : at_ < 0 ∨ (s.homes : Int) ≤ at_ := by
              simp only [Wl.Lg.has, Bool.and_eq_false_iff, decide_eq_false_iff_not] at hh'
              omega
            have HE := Lib.hid (show Wl.gather s.homes [] (ptsL ll) = (2, []) by
              rw [HALL.out]
              refine Wl.gather_stop (by decide) ?_ _
              rw [HGO.out, if_pos hat])
            rw [hh']
            clear hhas hat hh' hBr'
            go_wp2
            go_ret2
            exact Gathered.no HE.out (by decide) HBr.out
        · have hje : j = l.length := by omega
          subst hje
          rw [List.take_length] at hG
          go_wp2
          go_roundw
          case rel => exact ⟨k + 1, G', by omega, by go_num, Lib.hid (by rw [HT.out]; exact hG.out), hM, hB⟩
          case measure => simp [Go.RowKit.intOf]; omega
    · have hke : k = ll.length := by omega
      subst hke
      rw [List.take_length] at hG
      go_wp2
      go_ret2
      refine ⟨.map (some q), by rw [hG.out]; rfl, hB.out, fun _ => ⟨q, rfl, by rw [hG.out]; exact hM.out, by have := HQ.out; omega⟩⟩
end Go.Proofs.YthkblabpiajbhaaDoor
