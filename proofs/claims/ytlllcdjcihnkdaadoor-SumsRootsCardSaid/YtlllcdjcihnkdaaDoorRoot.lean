/- Walk of the reference's root. -/
import Derived.Test.YtlllcdjcihnkdaaDoorAbove
import Derived.Test.YtlllcdjcihnkdaaDoorRootStep
namespace Go.Proofs.YtlllcdjcihnkdaaDoor
open Go.RowKit

theorem i64s_two (a b : Nat) (x y : Int) (h1 : x = a) (h2 : y = b) : (#[Value.int .i64 x, Value.int .i64 y] : Array Value).toList = i64s [a, b] := by subst h1 h2; rfl
theorem Out.later {w wr w4 : World} {g B : Nat} {o : List Nat} (h : Out w wr g o) (hb : Below B wr w4) (hB : wr.heap.size ≤ B) : Out w w4 g o :=
  ⟨h.1.below hb (Nat.lt_of_lt_of_le h.2.2.2.1 hB), fun j => by rw [hb.frozen (Nat.lt_of_lt_of_le h.2.2.2.1 hB)]; exact h.2.1 j, h.2.2.1.trans (hb.mono (Nat.le_trans h.2.2.1.size hB)), Nat.lt_of_lt_of_le h.2.2.2.1 hb.size, h.2.2.2.2⟩

set_option maxHeartbeats 1000000 in
theorem root_any (p power X : Nat) (w : World) (hp : p < 65536) (hw2 : 2 ≤ power) (hw3 : power ≤ 3) (hX : Rt.IsRoot power p X) :
    Calls Tryd.prog 25 #[.int .i64 p, .int .i64 power] w fun e w' => e = .returned (.int .u64 ((X % 4294967296 : Nat) : Int)) ∧ Below w.heap.size w w' := by
  have HX := Lib.hid hX
  clear hX
  obtain ⟨n4, hn4⟩ : ∃ n, n = 4 * power := ⟨_, rfl⟩
  have hn4' : 4 * (power : Int) = n4 := by omega
  have hn12 : n4 ≤ 12 := by omega
  have HN4 := Lib.hid hn4
  clear hn4
  go_enter Tryd.func25, Tryd.ntmps25
  go_wp2_with (at_make; refine Hid.out ?_)
  refine Lib.hid ?_
  refine wpList_mkI rfl _ _ rfl w.heap.size w _ _ n4 rfl rfl (by omega) (by omega) (by omega) (Below.refl _ _) (Nat.le_refl _) ?_
  intro w1 hown1 hb1
  go_wp2_with (at_builtin; refine Hid.out ?_)
  refine Lib.hid ?_
  refine wpList_appI rfl _ _ rfl w.heap.size w _ _ rfl (hown1.alloc _) (hb1.alloc hb1.size _) (by have := hb1.size; simp; omega) ⟨w1.heap.size, 0, none⟩ 2 2 [p % 256, p / 256] rfl rfl (news_int _ _ _ _ (i64s_two _ _ _ _ (by omega) (by omega))) (by simp; omega) ?_
  intro v3 w3 hown3 hb3
  have hml : (List.replicate n4 0 ++ [p % 256, p / 256]).length = n4 + 2 := by rw [List.length_append, List.length_replicate]; rfl
  obtain ⟨gm, cm, rfl, hgm1, hgm2⟩ := hown3.form (by rw [hml]; omega)
  have hRm := hown3.rw rfl
  have hmv := Rt.most_val power p
  have hmo := Rt.most_ok power p hp
  rw [← HN4.out] at hmv hmo
  rw [hml]
  obtain ⟨lm, hlm⟩ : ∃ l, l = List.replicate n4 0 ++ [p % 256, p / 256] := ⟨_, rfl⟩
  rw [← hlm] at hRm hmv hmo hml
  obtain ⟨P, hP⟩ : ∃ P, P = p * 256 ^ (4 * power) := ⟨_, rfl⟩
  have hSt := Rt.St.zero power p hw2 hp
  rw [HN4.out, ← hP] at hmv
  rw [← hP] at hSt
  have HP := Lib.hid hP
  have HRM := Lib.hid hRm
  have HMV := Lib.hid hmv
  have HMO := Lib.hid hmo
  have HML := Lib.hid hml
  have HST := Lib.hid hSt
  clear hown1 hb1 hown3 hlm hP hRm hmv hmo hml hSt
  go_wp2_with (at_make; refine Hid.out ?_)
  refine Lib.hid ?_
  refine wpList_mkI rfl _ _ rfl w3.heap.size w3 _ _ 5 rfl rfl rfl rfl (by omega) (Below.refl _ _) (Nat.le_refl _) ?_
  intro w5 hown5 hb5
  have hO := Lib.hid (Out.of hown5 rfl (by decide) hb5)
  obtain ⟨g, hg⟩ : ∃ g, g = w3.heap.size := ⟨_, rfl⟩
  rw [← hg] at hO ⊢
  have hgm' : gm ≠ g := by omega
  have HG := Lib.hid hg
  have HWB := Lib.hid hb3
  clear hown5 hb5 hg hb3
  obtain ⟨lz, hlz⟩ : ∃ l, l = List.replicate 5 0 := ⟨_, rfl⟩
  rw [← hlz] at hO HST
  clear hlz
  go_wp2_with fail
  go_loopw [7, 8, 9, 10, 11] (fun va _ _ _ _ wr => ∃ (n : Nat) (lx : List Nat), n ≤ 5 ∧ va = .int .i64 ((n : Int) - 1) ∧ Hid (Out w3 wr g lx) ∧ Hid (Rt.St power P n lx)) (fun va _ _ _ _ _ => (intOf va + 1).toNat)
  case atStart => exact ⟨5, lz, Nat.le_refl _, rfl, hO, HST⟩
  case round =>
    clear hO HST
    obtain ⟨n, lx, hn, rfl, hO, hS⟩ := hrel
    rcases Nat.eq_zero_or_pos n with h0 | h0
    · subst h0
      have HV := Lib.hid (show X = Dg.val lx from HX.out.one (by have := hS.out; rw [HP.out] at this; exact this.root))
      have H4 := Lib.hid (Rt.four hS.out.1 hS.out.2.1)
      have hl : lx.length = 5 := hS.out.1
      have c0 := hO.out.1 0 (by omega)
      have c1 := hO.out.1 1 (by omega)
      have c2 := hO.out.1 2 (by omega)
      have c3 := hO.out.1 3 (by omega)
      have d0 := hS.out.2.1 0
      have d1 := hS.out.2.1 1
      have d2 := hS.out.2.1 2
      have d3 := hS.out.2.1 3
      rw [← HV.out] at H4
      have HB := Lib.hid hO.out.2.2.1
      clear hl hO hS HV
      generalize lx.getD 0 0 = x0 at *
      generalize lx.getD 1 0 = x1 at *
      generalize lx.getD 2 0 = x2 at *
      generalize lx.getD 3 0 = x3 at *
      go_wp2_with fail
      go_quiet (fail)
      go_wp2
      go_ret
      exact ⟨ret_int (by rw [← H4.out]; omega), HWB.out.trans ((below_drewN HB.out nq).mono HWB.out.size)⟩
    · obtain ⟨j, rfl⟩ : ∃ j, n = j + 1 := ⟨n - 1, by omega⟩
      have hj : (((j + 1 : Nat) : Int)) - 1 = j := by omega
      rw [hj]
      have hj5 : j < 5 := by omega
      have hj5' : (j : Int) < 5 := by omega
      clear hj h0 hn
      have hO0 : Hid (Out w3 wr g (lx.set j 0)) := by rw [Rt.set_here (hS.out.2.2.1 j (by omega))]; exact hO
      have HF := Lib.hid hS.out.from
      obtain ⟨wb, hwb⟩ : ∃ wb, wb = wr := ⟨_, rfl⟩
      rw [← hwb] at hO0 ⊢
      clear hwb hO
      go_wp2_with fail
      go_loopw [8, 9, 10, 11] (fun va vb _ _ wq => ∃ (a b c : Nat), a < b ∧ b ≤ 256 ∧ va = .int .i64 a ∧ vb = .int .i64 b ∧ Hid (Out w3 wq g (lx.set j c)) ∧ Hid ((Dg.val lx + a * 256 ^ j) ^ power ≤ P) ∧ Hid (P < (Dg.val lx + b * 256 ^ j) ^ power)) (fun va vb _ _ _ => (intOf vb - intOf va).toNat)
      case atStart => exact ⟨0, 256, 0, by decide, Nat.le_refl _, rfl, rfl, hO0, HF.out.1, HF.out.2⟩
      case round =>
        clear hO0
        obtain ⟨a, b, c, hab, hb, rfl, rfl, hO, h1, h2⟩ := hrel
        have hlen : ∀ x, (lx.set j x).length = 5 := fun x => by rw [List.length_set]; exact hS.out.1
        have co' : wr.cell? ⟨g, j, none⟩ = some (.int .i64 (((lx.set j c).getD j 0 : Nat) : Int)) := hO.out.1 j (by rw [hlen]; exact hj5)
        have fo' := hO.out.2.1 j
        have HLEN := Lib.hid hlen
        clear hlen
        by_cases hlt : a + 1 < b
        · obtain ⟨m, hm⟩ : ∃ m, m = (a + b) / 2 := ⟨_, rfl⟩
          have hm1 : a < m := by omega
          have hm2 : m < b := by omega
          have hmid : ((a : Int) + b) / 2 = m := by omega
          have hmid' : ((a : Int) + b).tdiv 2 = m := by rw [Int.tdiv_eq_ediv_of_nonneg (by omega)]; exact hmid
          have hlt' : (b : Int) - a > 1 := by omega
          clear hm
          go_wp2_with fail
          obtain ⟨wm, hwm⟩ : ∃ wm, wm = wr.setCell ⟨g, j, none⟩ (.int .i64 (m : Int)) := ⟨_, rfl⟩
          rw [← hwm]
          obtain ⟨lk, hlk⟩ : ∃ l, l = lx.set j m := ⟨_, rfl⟩
          have hOm := Lib.hid (show Out w3 wm g lk by rw [hwm, hlk]; have := hO.out.set j m (by rw [HLEN.out]; exact hj5); rwa [List.set_set] at this)
          obtain ⟨M, hM⟩ : ∃ M, M = Dg.val lx + m * 256 ^ j := ⟨_, rfl⟩
          have HM := Lib.hid hM
          have hMv := Lib.hid (show Dg.val lk = M by rw [hlk, hM]; exact Rt.val_digit hS.out.1 hj5 (hS.out.2.2.1 j (by omega)) m)
          have hMo := Lib.hid (show Dg.Ok lk by rw [hlk]; exact Rt.ok_set hS.out.2.1 j m (by omega))
          have hkl := Lib.hid (show lk.length = 5 by rw [hlk]; exact HLEN.out m)
          have hkj := Lib.hid (show lk.getD j 0 = m by rw [hlk]; exact Dg.getD_set_same _ _ _ (by rw [hS.out.1]; exact hj5))
          have HLK := Lib.hid hlk
          clear hwm co' fo' hO hM hlk hmid hmid' hlt'
          go_loopw [10, 11] (fun vy vi wq => ∃ (t gy ny cy : Nat) (ly : List Nat), 1 ≤ t ∧ t ≤ power ∧ vi = .int .i64 t ∧ vy = .slice (some ⟨gy, 0, none⟩) ny cy ∧ Hid (ly.length = ny) ∧ Hid (ny = 5 * t) ∧ Hid (Dg.Ok ly) ∧ Hid (Dg.val ly = M ^ t) ∧ Hid (RwI wq gy ly) ∧ gy < wq.heap.size ∧ Hid (Out w3 wq g lk)) (fun _ vi _ => power - (intOf vi).toNat)
          case atStart => exact ⟨1, g, 5, 5, lk, Nat.le_refl _, by omega, rfl, rfl, hkl, rfl, hMo, (by show _ = _; rw [Nat.pow_one]; exact hMv.out), hOm.out.1, hOm.out.2.2.2.1, hOm⟩
          case round =>
            clear hOm
            obtain ⟨t, gy, ny, cy, ly, ht1, ht2, rfl, rfl, hyl, hny, hyo, hyv, hyr, hyg, hO⟩ := hrel
            by_cases htp : t < power
            · have htp' : (t : Int) < power := by omega
              go_wp2_with fail
              have hb1 : ny ≤ 20 := by have := hny.out; omega
              have hb3 : 0 < ny := by have := hny.out; omega
              have HT := times_any ly lk gy g ny 5 cy 5 wr hyl.out hkl.out hb1 (by decide) hb3 hyo.out hMo.out hyr.out hO.out.1 hyg hO.out.2.2.2.1
              refine HT.mono ?_
              rintro e w4 ⟨g4, c4, lo, rfl, h41, h42, h4r, h4o, h4l, h4v, h4b⟩
              have HO4 := Lib.hid (hO.out.later h4b (Nat.le_refl _))
              have H4R := Lib.hid h4r
              have H4O := Lib.hid h4o
              have H4L := Lib.hid h4l
              have H4V := Lib.hid (show Dg.val lo = M ^ (t + 1) by rw [h4v, hyv.out, hMv.out, Nat.pow_succ])
              clear h4r h4o h4l h4v h4b hO hyr
              go_wp2
              go_roundw
              case rel => exact ⟨t + 1, g4, ny + 5, c4, lo, by omega, by omega, by go_num, rfl, H4L, (by have := hny.out; show ny + 5 = 5 * (t + 1); omega), H4O, H4V, H4R, h42, HO4⟩
              case measure => simp [intOf]; omega
            · have htp2 := Lib.hid (show t = power by omega)
              have htp' : ¬ (t : Int) < power := by omega
              have HRM2 := Lib.hid (HRM.out.below hO.out.2.2.1 hgm2)
              have hny20 : ny ≤ 20 := by have := hny.out; omega
              go_wp2_with fail
              refine (above_any ly lm gy gm ny (n4 + 2) cy cm wr hyl.out HML.out hny20 (by omega) hyo.out HMO.out hyr.out HRM2.out).mono ?_
              rintro e w4 ⟨rfl, rfl⟩
              rw [hyv.out, HMV.out, htp2.out]
              have co2 : w4.cell? ⟨g, j, none⟩ = some (.int .i64 (m : Int)) := by have := hO.out.1 j (by rw [hkl.out]; exact hj5); rwa [hkj.out] at this
              have HOX := Lib.hid (show Out w3 w4 g (lx.set j m) by rw [← HLK.out]; exact hO.out)
              clear hyl hny hyo hyv hyr hyg hO HRM2 ht1 ht2 htp
              by_cases hgt : P < M ^ power
              · have HGT := Lib.hid (show P < (Dg.val lx + m * 256 ^ j) ^ power by rw [← HM.out]; exact hgt)
                rw [decide_eq_true hgt]
                clear hgt
                go_wp2
                refine ⟨⟨a, m, m, hm1, by omega, rfl, rfl, HOX, h1, HGT⟩, by simp [intOf]; omega⟩
              · have HLE := Lib.hid (show (Dg.val lx + m * 256 ^ j) ^ power ≤ P by rw [← HM.out]; omega)
                rw [decide_eq_false hgt]
                clear hgt
                go_wp2
                refine ⟨⟨m, b, m, hm2, hb, rfl, rfl, HOX, HLE, h2⟩, by simp [intOf]; omega⟩
        · have hb1 := Lib.hid (show b = a + 1 by omega)
          have hlt' : ¬ (b : Int) - a > 1 := by omega
          have HS2 := Lib.hid (hS.out.next hj5 (show a < 256 by omega) h1.out (by have := h2.out; rwa [hb1.out] at this))
          have HO2 := Lib.hid (show Out w3 (wr.setCell ⟨g, j, none⟩ (.int .i64 (a : Int))) g (lx.set j a) by have := hO.out.set j a (by rw [HLEN.out]; exact hj5); rwa [List.set_set] at this)
          clear hlt h1 h2
          go_wp2
          refine ⟨⟨j, lx.set j a, by omega, rfl, HO2, HS2⟩, by simp [intOf]⟩
end Go.Proofs.YtlllcdjcihnkdaaDoor
