/- A part of the law. -/
import Derived.Test.YtahnhhhhfioibaaGreatDoorG18
import Derived.Deep.CutBlock
import Derived.Deep.DeepCutAuto
import Derived.Test.YtahnhhhhfioibaaGreatDoorBlPartsM
namespace Go.Proofs.YtahnhhhhfioibaaGreatDoor
open Go.RowKit Lib
set_option maxRecDepth 100000 in
set_option maxHeartbeats 100000000 in
theorem bl_tail_0 : bl_g4 := by
  intro w _ _ _ z1 _ _ m HM _ _ g b _ tb _ r _ rt _ _ _ _ _ _ wr _ _ _ _ _ _ _ _ _ _ _ _ _ _ _ _ _ _ _ _ _ _ _ _ _ _ _ _ _ _ _ _ _ _ _ _ _ _ _ _ _ _ _ _ _ _ _ _ _ _ _ _ _ _ _ _ _ _ _ _ _ _ _ _ _ _ _ _ _ _ _ _ _ _ _ _ _ _ _ _ _ _ _ _ _ _ _ _ _ _ _ _ _ _ _ _ _ _ _ _ _ _ _ _ _ _ _ _ _ _ _ _ _ _ _ _ _ _ _ _ _ _ _ _ _ _ _ _ _ _ _ _ _ _ _ _ _ _ _ _ _ _ _ _ _ _ _ _ _ _ _ _ _ _ _ _ _ _ _ _ _ _ _ _ _ _ _ _ _ _ _ _ _ _ _ _ _ _ _ _ _ _ _ _ _ _ _ _ _ _ _ _ _ _ _ _ _ _ _ _ _ _ _ _ _ _ _ _ _ _ _ _ _ _ _ _ _ _ _ _ _ _ _ _ _ _ _ _ _ _ _ _ _ _ _ _ _ _ _ _ _ _ _ _ _ k _ _ _ _ _ _ _ HLt _ _ size _ HOk _ HYY _ HY HGA _ _ _ _ _ y0 y1 y2 y3 _ _ _ _ _ _ _ _ _ _ _ _ _ _ _ _ _ _ _ _ _ _ _ _ _ _ _ _ _ _ _ _ _ _ _ _ _ _ _ _ _ _ _ _ _ _ _ _ _ _ _ _ _ _ _ _ _ _ _ _ _ _ _ _ _ _ _ _ _ _ _ _ _ _ _ _ _ _ _ _ _ _ _ _ _ _ _ _ _ _ _ _ _ _ _ _ _ _ _ _ _ _ _ _ _ _ _ _ _ _ _ _ _ _ _ _ _ _ _ _ _ _ _ _ _ _ _ _ _ _ _ _ _ _ _ _ _ _ _ _ _ _ _ _ _ _ _ _ _ _ _ _ _ _ _ _ _ _ _ _ _ _ _ _ _ _ _ _ _ _ _ _ _ _ _ _ _ _ _ _ _ _ _ _ _ _ _ _ _ _ _ _ _ _ _ _ _ _ _ _ _ _ _ _ _ _ _ _ _ _ _ _ _ _ _ _ _ _ _ _ _ _ _ _ _ _ _ _ hcut
  clear y0 y1 y2 y3 HY HYY HGA HOk
  obtain ⟨qg, D, rfl, hT⟩ := hcut
  obtain ⟨a8, cap8, hv, hcap⟩ := hT.out.form
  subst hv
  have hsm := hT.out.small
  have hcnt := hT.out.count
  have hdI : (D.length : Int) ≤ 58 := by have := HM.out; omega
  have huI : (Rm.used qg : Int) ≤ 58 := by have := HM.out; omega
  have HPL := Lib.hid (show qg.length ≤ 58 by have := HM.out; omega)
  clear hsm hcnt hcap
  go_wp2_with fail
  refine (kt_used hT.out).mono ?_
  rintro e w6 ⟨rfl, h6, -⟩
  obtain ⟨q, hq⟩ : ∃ q, q = w6.heap.size := ⟨_, rfl⟩
  obtain ⟨Z, hZ⟩ : ∃ Z, Z = w6.alloc (.map #[] 0) := ⟨_, rfl⟩
  have H7 := Lib.hid (show KM w g b tb r m rt qg D (1040 * (k + 1)) (.slice a8 D.length cap8) q [] Z by rw [hq, hZ]; exact KM.new h6)
  have HZ := Lib.hid hZ
  have HQ := Lib.hid hq
  clear h6 hq hZ hT
  go_wp2
  rw [← HZ.out, ← HQ.out]
  go_loopw [209] (fun i wr => ∃ j : Nat, j ≤ D.length ∧ i = .int .i64 j ∧ ∃ M, Hid (KM w g b tb r m rt qg D (1040 * (k + 1)) (.slice a8 D.length cap8) q M wr) ∧ Hid (Met8 M ((D.take j).flatMap (·.1)))) (fun i _ => D.length - (Go.RowKit.intOf i).toNat)
  case atStart => exact ⟨0, Nat.zero_le _, rfl, [], H7, Lib.hid Met8.nil⟩
  case round =>
    clear H7 HZ HQ
    obtain ⟨j, hj, rfl, M, hK, hMt⟩ := hrel
    by_cases hlt : j < D.length
    · have hI2 : (j : Int) < D.length := by omega
      obtain ⟨gv, cap', e, hc', e0, e1⟩ := hK.out.1.cells hlt
      obtain ⟨p, l0, ep, hch, hnd, hsml⟩ := hK.out.1.blob hlt
      injection e with ea en ec
      subst ea ec
      rw [ep] at e0
      obtain ⟨ll, hll⟩ : ∃ ll, ll = p :: l0 := ⟨_, rfl⟩
      have hhd : (p :: l0).headD 0 = p := rfl
      rw [hhd] at e0
      obtain ⟨s, hs⟩ : ∃ s, s = bs D[j].2 := ⟨_, rfl⟩
      rw [← hs] at e1
      have hsd : s.data.toList = D[j].2 := by rw [hs]; rfl
      have hss : s.size = D[j].2.length := by rw [hs]; exact bs_size _
      have hsI : (s.size : Int) ≤ 3000 := by omega
      rw [← hsd] at hch
      have HCh := Lib.hid (And.intro hch (show s.size ≤ 131072 by omega))
      have hlen : Bl.need s.size = ll.length := by
        rw [hll, hch.length, show s.data.toList.length = s.size from Array.length_toList]
      have HRef := Lib.hid (fun W => ref8Pages_any W s.size (by omega) (by omega))
      rw [Bl.pagesI_nat, hlen] at HRef
      have hln := Bl.need_le (n := s.size) (by omega)
      have HLL := Lib.hid (show D[j].1 = ll ∧ (∀ x ∈ ll, (qg.getD x none).isSome = true) ∧ 1 ≤ ll.length ∧ ll.length ≤ 260 from ⟨ep.trans hll.symm, fun x hx => hch.taken x (by rw [← hll]; exact hx), by rw [hll]; show 1 ≤ l0.length + 1; omega, by omega⟩)
      have HJ := Lib.hid hlt
      have hlI : (ll.length : Int) ≤ 260 := by omega
      have hlI2 : (0 : Int) < ll.length := by rw [hll]; show (0 : Int) < ((l0.length + 1 : Nat) : Int); omega
      obtain ⟨Y2, hY2⟩ : ∃ Y2, Y2 = wr.alloc (.cells #[.int .i64 (p : Int), .string s] 71) := ⟨_, rfl⟩
      obtain ⟨gb, hgb⟩ : ∃ gb, gb = wr.heap.size := ⟨_, rfl⟩
      have HK2 := Lib.hid (show KM w g b tb r m rt qg D (1040 * (k + 1)) (.slice (some ⟨gv, 0, none⟩) D.length cap8) q M Y2 ∧ Blk Y2 gb 71 [.int .i64 (p : Int), .string s] by
        rw [hY2, hgb]
        exact ⟨hK.out.still ((Below.refl _ wr).alloc (Nat.le_refl _) _), Blk.new wr #[.int .i64 (p : Int), .string s] 71⟩)
      have HY2 := Lib.hid hY2
      have HGB := Lib.hid hgb
      have HLL0 := Lib.hid hll
      have hlist := kt_list HK2.out.1.1
      clear hs hsd hss hch hlen hln ep hnd hsml hll hY2 hgb hj hhd hlist hc'
      go_wp2_with fail
      rw [← HY2.out, ← HGB.out]
      refine (kt_get HK2.out.1.1 p l0 s HCh.out.1 HCh.out.2).mono ?_
      rintro e w8 ⟨rfl, -, hb8⟩
      have H8 := Lib.hid (show KM w g b tb r m rt qg D (1040 * (k + 1)) (.slice (some ⟨gv, 0, none⟩) D.length cap8) q M w8 ∧ Blk w8 gb 71 [.int .i64 (p : Int), .string s] from ⟨HK2.out.1.still hb8, Blk.below HK2.out.2 hb8 HK2.out.2.lt⟩)
      have z0 := H8.out.2.cell (j := 0) rfl
      clear hb8
      go_wp2_with fail
      refine (kt_list H8.out.1.1 p l0 s HCh.out.1 HCh.out.2).mono ?_
      rintro e w9 ⟨ul, rfl, ho9, -, hb9⟩
      rw [← HLL0.out] at ho9
      obtain ⟨gl, capl, rfl, hgl1, hgl2, hgl3⟩ := Own.form ho9 HLL.out.2.2.1
      have H9 := Lib.hid (show KM w g b tb r m rt qg D (1040 * (k + 1)) (.slice (some ⟨gv, 0, none⟩) D.length cap8) q M w9 ∧ Blk w9 gb 71 [.int .i64 (p : Int), .string s] ∧ OwnPg w8.heap.size w9 (.slice (some ⟨gl, 0, none⟩) ll.length capl) ll from ⟨H8.out.1.still hb9, Blk.below H8.out.2 hb9 H8.out.2.lt, ho9⟩)
      have hl0 : ll[0]'HLL.out.2.2.1 = p := by
        have e := HLL0.out
        subst e
        rfl
      have hcl := OwnPg.cellAt H9.out.2.2 (k := 0) HLL.out.2.2.1
      rw [hl0] at hcl
      have z0 := H9.out.2.1.cell (j := 0) rfl
      have z1 := H9.out.2.1.cell (j := 1) rfl
      clear ho9 hb9 hgl1 hgl2 hgl3 hl0 HY2 HGB
      go_wp2_with fail
      go_quiet ((go_at_call 28; exact Calls.quiet_of_same (HRef.out _)))
      rename_i nq
      obtain ⟨wA, hwA⟩ : ∃ wA, wA = w9.drewN nq := ⟨_, rfl⟩
      rw [← hwA]
      have H10 := Lib.hid (show KM w g b tb r m rt qg D (1040 * (k + 1)) (.slice (some ⟨gv, 0, none⟩) D.length cap8) q M wA ∧ OwnPg w8.heap.size wA (.slice (some ⟨gl, 0, none⟩) ll.length capl) ll by rw [hwA]; exact ⟨H9.out.1.still (below_drawn w9 nq), Own.drewN H9.out.2.2 nq⟩)
      clear hcl z0 z1 hwA
      clear H9 H8
      go_wp2
      go_loopw [257] (fun i wr => ∃ h : Nat, h ≤ ll.length ∧ i = .int .i64 h ∧ ∃ M', Hid (KM w g b tb r m rt qg D (1040 * (k + 1)) (.slice (some ⟨gv, 0, none⟩) D.length cap8) q M' wr) ∧ Hid (Met8 M' ((D.take j).flatMap (·.1) ++ ll.take h)) ∧ Hid (OwnPg w8.heap.size wr (.slice (some ⟨gl, 0, none⟩) ll.length capl) ll)) (fun i _ => ll.length - (Go.RowKit.intOf i).toNat)
      case atStart => exact ⟨0, Nat.zero_le _, rfl, M, Lib.hid H10.out.1, Lib.hid (by rw [List.take_zero, List.append_nil]; exact hMt.out), Lib.hid H10.out.2⟩
      case round =>
        clear H10 hK HK2
        obtain ⟨h, hh, rfl, M', hK', hM', hO'⟩ := hrel
        by_cases hlt2 : h < ll.length
        · have hI3 : (h : Int) < ll.length := by omega
          have hcell := OwnPg.cellAt hO'.out hlt2
          obtain ⟨x, hx⟩ : ∃ x, x = ll[h] := ⟨_, rfl⟩
          rw [← hx] at hcell
          have hbl : Bl.Blobs qg D := by
            obtain ⟨R0, h0⟩ := hK'.out.1
            exact h0.bl
          have key : ∀ l' : List Nat, l' = (D[j]'HJ.out).1 → ∀ hi : h < l'.length, l'[h] ∉ (D.take j).flatMap (·.1) ++ l'.take h := by
            rintro _ rfl hi
            exact hbl.fresh HJ.out hi
          have hfr := key ll HLL.out.1.symm hlt2
          rw [← hx] at hfr
          have htk : (qg.getD x none).isSome = true := HLL.out.2.1 x (by rw [hx]; exact List.getElem_mem hlt2)
          have hxl := Bl.isSome_lt htk
          have hhas : Rm.has qg x = true ∧ Rm.hasNo qg x = 0 := by
            unfold Rm.has Rm.hasNo
            rw [if_pos (by omega), if_pos (by omega), Int.toNat_natCast, htk]
            exact ⟨rfl, rfl⟩
          have HX := Lib.hid (show x ≤ 1000000 ∧ h < ll.length ∧ M'.length ≤ 1000000 from ⟨by have := HPL.out; omega, hlt2, by
            have h1 := hM'.out.1
            have h2 := hbl.used
            have h3 := hM'.out.2
            rw [List.length_append, List.length_take] at h1
            have h4 : ((D.take j).flatMap (·.1)).length ≤ (D.flatMap (·.1)).length := by
              rw [← List.take_append_drop j D, List.flatMap_append, List.length_append]
              simp
            have h5 := HLL.out.2.2.2
            have h6 := Rm.used_le qg
            have h7 := HPL.out
            omega⟩)
          have hlook0 : Wl.look x M' = none := by rw [hM'.out.2 x, if_neg hfr]
          have HHas := Lib.hid hhas
          have HLook := Lib.hid (And.intro hlook0 (And.intro hfr hx))
          clear hx hbl key hfr htk hxl hhas hlook0 hh
          go_wp2_with fail
          refine (kt_has hK'.out.1 x).mono ?_
          rintro e w11 ⟨rfl, -, hb11⟩
          rw [HHas.out.1, HHas.out.2]
          have HK11 := Lib.hid (hK'.out.still hb11)
          have HO11 := Lib.hid (show OwnPg w8.heap.size w11 (.slice (some ⟨gl, 0, none⟩) ll.length capl) ll from Own.below hO'.out hb11 (Nat.le_refl _))
          have hlookrun := BMap.off HK11.out.2.1 HX.out.1 HLook.out.1
          obtain ⟨w12, hrun, hK12, hb12⟩ := HK11.out.store HX.out.1 HX.out.2.2
          have HK12 := Lib.hid (show KM w g b tb r m rt qg D (1040 * (k + 1)) (.slice (some ⟨gv, 0, none⟩) D.length cap8) q (Wl.ins x [1] M') w12 ∧ Met8 (Wl.ins x [1] M') ((D.take j).flatMap (·.1) ++ ll.take (h + 1)) ∧ OwnPg w8.heap.size w12 (.slice (some ⟨gl, 0, none⟩) ll.length capl) ll from ⟨hK12, by
            rw [List.take_succ_eq_append_getElem HX.out.2.1, ← List.append_assoc, ← HLook.out.2.2]
            exact hM'.out.put hK'.out.2.1.2.1 HLook.out.2.1, by
            refine Own.but HO11.out hb12 (fun y hy e => ?_)
            have e1 : some gl = some y := hy
            injection e1 with e1
            obtain ⟨es, clock, hq⟩ := HK11.out.2.1.isMap
            rcases HO11.out.2 with ⟨e0, _⟩ | ⟨g', cap, cur, e0, _, hh, _⟩
            · cases e0
            · injection e0 with e0 _ _
              injection e0 with e0
              injection e0 with e0 _ _
              rw [← e0, e1, e, hq] at hh
              cases hh⟩)
          clear hK12 hb12 hb11 hcell
          go_wp2
          go_roundw
          case rel => exact ⟨h + 1, HX.out.2.1, by go_num, Wl.ins x [1] M', Lib.hid HK12.out.1, Lib.hid HK12.out.2.1, Lib.hid HK12.out.2.2⟩
          case measure => have := HX.out.2.1; simp [Go.RowKit.intOf]; omega
        · have hI3 : ¬ (h : Int) < ll.length := by omega
          have hte : ll.take h = ll := List.take_of_length_le (by omega)
          have HMN := Lib.hid (show Met8 M' ((D.take (j + 1)).flatMap (·.1)) by
            have := hM'.out
            rw [hte] at this
            rw [Bl.seen_snoc HJ.out, HLL.out.1]
            exact this)
          clear hte hlt2 hh
          go_wp2
          go_roundw
          case rel => exact ⟨j + 1, HJ.out, by go_num, M', Lib.hid hK'.out, HMN⟩
          case measure => have := HJ.out; simp [Go.RowKit.intOf]; omega
    · have hI2 : ¬ (j : Int) < D.length := by omega
      go_wp2
      go_roundw
      case rel => exact ⟨k + 1, qg, D, HLt.out.1, by go_num, rfl, Lib.hid hK.out.1⟩
      case measure => have := HLt.out.1; simp [Go.RowKit.intOf]; omega
end Go.Proofs.YtahnhhhhfioibaaGreatDoor
