/- Walk of the reference's Read. -/
import Derived.Test.YtgdpdkbhjekjeaaPkRef
namespace Go.Proofs.Ytgdpdkbhjekjeaa
open Go.RowKit Lib

theorem ext_from (t : List UInt8) (n : Nat) : (bs t).extract n (bs t).size = bs (t.drop n) := by
  apply ByteArray.ext; apply Array.ext'; rw [ext_drop]; rfl
theorem ext_all (t : List UInt8) : (bs t).extract 0 (bs t).size = bs t := by
  rw [ext_take, bs_size, bs_list, List.take_of_length_le (Nat.le_refl _)]
set_option maxRecDepth 100000 in
set_option maxHeartbeats 4000000 in
theorem refRead_any (ks : ByteArray) (s : List UInt8) (w : World) (hk : ks.size ≤ 100) (hs : s.length ≤ 1000000) :
    Calls Try.prog 16 #[.string ks, .string (bs s)] w fun e w' => ReadTo (Pk.read ks.data.toList s) w.heap.size e w' ∧ Below w.heap.size w w' := by
  have hkI : (ks.size : Int) ≤ 100 := by omega
  have HLEN := Lib.hid (show ks.data.toList.length = ks.size from Array.length_toList)
  cases hrt : Pk.right ks.data.toList with
  | false =>
    have HV : Pk.read ks.data.toList s = none := by unfold Pk.read; rw [if_neg (by rw [hrt]; decide)]
    rw [HV]
    have HRI := Lib.hid (show ∀ W, Calls Try.prog 13 #[.string ks] W fun e w' => e = .returned (.bool false) ∧ w' = W from fun W => by have := refRight_any ks W (by omega); rw [hrt] at this; exact this)
    clear HV hrt
    go_enter Try.func16, Try.ntmps16
    go_wp2_with fail
    refine (HRI.out _).mono ?_
    rintro e w1 ⟨rfl, rfl⟩
    go_wp2
    go_ret2
    exact ⟨rfl, Below.refl _ _⟩
  | true =>
    have HRI := Lib.hid (show ∀ W, Calls Try.prog 13 #[.string ks] W fun e w' => e = .returned (.bool true) ∧ w' = W from fun W => by have := refRight_any ks W (by omega); rw [hrt] at this; exact this)
    have HV : Pk.read ks.data.toList s = Pk.rds [] ks.data.toList s := by unfold Pk.read; rw [if_pos hrt]
    rw [HV]
    have HRT := Lib.hid hrt
    have HS := Lib.hid hs
    obtain ⟨X, hX⟩ : ∃ X, X = bs s := ⟨_, rfl⟩
    have HX := Lib.hid hX
    rw [← hX]
    clear HV hrt hX hs
    go_enter Try.func16, Try.ntmps16
    go_wp2_with fail
    refine (HRI.out _).mono ?_
    rintro e w1 ⟨rfl, rfl⟩
    go_wp2_with fail
    go_loopw [1, 6, 7] (fun sv u i wr => ∃ k : Nat, k ≤ ks.size ∧ i = .int .i64 k ∧ ∃ (acc : List Pk.Fd) (t : List UInt8), sv = .string (bs t) ∧ Hid (t.length ≤ s.length ∧ Pk.rds [] ks.data.toList s = Pk.rds acc (ks.data.toList.drop k) t ∧ acc.length = k) ∧ Hid (Own fdElem 46 w1.heap.size wr u acc) ∧ Hid (Below w1.heap.size w1 wr)) (fun _ _ i _ => ks.size - (RowKit.intOf i).toNat)
    case atStart => exact ⟨0, Nat.zero_le _, rfl, [], s, by rw [HX.out], Lib.hid ⟨Nat.le_refl _, rfl, rfl⟩, Lib.hid (Own.nil _ _ _ _), Lib.hid (Below.refl _ _)⟩
    case round =>
      obtain ⟨k, hk', rfl, acc, t, rfl, HA, HO, HB⟩ := hrel
      by_cases hlt : k < ks.size
      · have hltI : (k : Int) < ks.size := by omega
        have hlet := Pk.right_letter ks.data.toList k hlt HRT.out
        change Pk.letter ks[k] true = true at hlet
        have HST := Lib.hid (HA.out.2.1.trans (Pk.rds_step acc ks.data.toList t k hlt))
        change Hid (_ = match Pk.fieldOf ks[k] t with | none => none | some p => _) at HST
        have HW := Lib.hid (fun W => refWidth_any ks[k] W)
        have ht := HA.out.1
        have hsL := HS.out
        obtain ⟨Y, hY⟩ : ∃ Y, Y = bs t := ⟨_, rfl⟩
        have hYs : Y.size = t.length := by rw [hY, bs_size]
        have HY := Lib.hid hY
        have e0 := ext_all t
        rw [← hY] at e0
        rw [← hY]
        rcases Pk.letter_what hlet with ⟨h0, h1, h2⟩ | ⟨h0, h1⟩ | ⟨h0, h1⟩
        · rw [fieldOf_num h1 h2] at HST
          have hw8 := Pk.width_le ks[k]
          have HTO := Lib.hid (fun W => told_any (bs (t.take (Pk.width ks[k]))) W (by rw [bs_size, List.length_take]; omega))
          rw [bs_list] at HTO
          have e1 := ext_take Y (Pk.width ks[k])
          have e2 := ext_from t (Pk.width ks[k])
          rw [hY, bs_list, ← hY] at e1
          rw [← hY] at e2
          generalize Pk.width ks[k] = wd at *
          have hwI : (0 : Int) < wd := by omega
          have hw8I : (wd : Int) ≤ 8 := by omega
          by_cases hl : t.length < wd
          · rw [if_pos hl] at HST
            change Hid (_ = none) at HST
            have hlI : (Y.size : Int) < wd := by omega
            clear hY hYs e0 e1 e2 hl ht hsL h0 hlet
            go_wp2_with fail
            refine (HW.out _).mono ?_
            rintro e w2 ⟨rfl, rfl⟩
            go_wp2
            go_ret2
            exact ⟨by rw [HST.out]; exact rfl, HB.out⟩
          · rw [if_neg hl] at HST
            change Hid (_ = Pk.rds (acc ++ [⟨Wl.dec (t.take wd), []⟩]) (ks.data.toList.drop (k + 1)) (t.drop wd)) at HST
            have hlI : (wd : Int) ≤ Y.size := by omega
            have hlJ : ¬ (Y.size : Int) < wd := by omega
            have HL := Lib.hid ht
            obtain ⟨N, hN⟩ : ∃ N, N = Wl.dec (t.take wd) := ⟨_, rfl⟩
            rw [← hN] at HST HTO
            have hF := Lib.hid (show ([.int .u64 N, .string ⟨#[]⟩] : List Value) = fdElem.cells [⟨N, []⟩] from rfl)
            obtain ⟨F, hFF⟩ : ∃ F : Pk.Fd, F = ⟨N, []⟩ := ⟨_, rfl⟩
            rw [← hFF] at HST hF
            clear hY hYs e0 hl ht hsL h0 hlet hN hFF
            go_wp2_with fail
            refine (HW.out _).mono ?_
            rintro e w2 ⟨rfl, rfl⟩
            go_wp2_with fail
            refine (HTO.out _).mono ?_
            rintro e w3 ⟨rfl, rfl⟩
            go_wp2_with (at_builtin; refine Hid.out ?_)
            refine Lib.hid ?_
            have hsz3 := HB.out.size
            refine wpList_app fdST rfl _ _ rfl rfl (HO.out.alloc _) (by simp; omega) _ 0 1 1 [F] rfl rfl (Lies.of_blk (Blk.new _ _ 46) hF.out) (by have := HA.out.2.2; omega) ?_
            intro v' w4 ho4 hg4
            have H4 := Lib.hid (And.intro ho4 ((HB.out.alloc hsz3 _).trans ((But.ofGrown hg4).below (by simp; omega) (fun i hi e => by have := (HO.out.block i e).1; omega))))
            clear ho4 hg4 hsz3
            go_wp2
            go_roundw
            case rel => exact ⟨k + 1, by omega, by go_num, acc ++ [F], t.drop wd, rfl, Lib.hid ⟨by rw [List.length_drop]; have := HL.out; omega, HST.out, by rw [List.length_append, HA.out.2.2]; rfl⟩, Lib.hid H4.out.1, Lib.hid H4.out.2⟩
            case measure => simp [RowKit.intOf]; omega
        · have hwd : Pk.width ks[k] = 0 := by rw [h0]; decide
          rw [hwd] at HW
          simp only [h1] at HW
          by_cases hl : t.length < 2
          · have hV : Pk.fieldOf ks[k] t = none := by rw [h0]; unfold Pk.fieldOf; rw [if_neg (by decide), if_pos rfl, if_pos hl]
            rw [hV] at HST
            change Hid (_ = none) at HST
            have hlI : (Y.size : Int) < 2 := by omega
            clear hY hYs e0 hl ht hsL h0 hlet hwd hV
            go_wp2_with fail
            refine (HW.out _).mono ?_
            rintro e w2 ⟨rfl, rfl⟩
            go_wp2
            go_ret2
            exact ⟨by rw [HST.out]; exact rfl, HB.out⟩
          · have hlI : ¬ (Y.size : Int) < 2 := by omega
            have hlJ : (2 : Int) ≤ Y.size := by omega
            have HTO := Lib.hid (fun W => told_any (bs (t.take 2)) W (by rw [bs_size, List.length_take]; omega))
            rw [bs_list] at HTO
            have e1 := ext_take Y 2
            have e2 := ext_from t 2
            rw [hY, bs_list, ← hY] at e1
            rw [← hY] at e2
            have hd : Wl.dec (t.take 2) < 65536 := by
              have := Wl.dec_snoc_lt (t.take 2)
              rw [show (t.take 2).length = 2 by rw [List.length_take]; omega] at this
              exact this
            obtain ⟨N, hN⟩ : ∃ N, N = Wl.dec (t.take 2) := ⟨_, rfl⟩
            rw [← hN] at HTO hd
            have hNI : (N : Int) ≤ 65535 := by omega
            obtain ⟨t2, ht2⟩ : ∃ t2, t2 = t.drop 2 := ⟨_, rfl⟩
            have ht2l : t2.length ≤ t.length := by rw [ht2, List.length_drop]; omega
            rw [← ht2] at e2
            obtain ⟨Z, hZ⟩ : ∃ Z, Z = bs t2 := ⟨_, rfl⟩
            have hZs : Z.size = t2.length := by rw [hZ, bs_size]
            rw [← hZ] at e2
            by_cases hl2 : t2.length < N
            · have hV : Pk.fieldOf ks[k] t = none := by rw [h0]; unfold Pk.fieldOf; rw [if_neg (by decide), if_pos rfl, if_neg hl, ← ht2, ← hN, if_pos hl2]
              rw [hV] at HST
              change Hid (_ = none) at HST
              have hl2I : (Z.size : Int) < N := by omega
              clear hY hYs e0 hl ht hsL h0 hlet hwd hV hN hZ hZs hl2 ht2 ht2l hd
              go_wp2_with fail
              refine (HW.out _).mono ?_
              rintro e w2 ⟨rfl, rfl⟩
              go_wp2_with fail
              refine (HTO.out _).mono ?_
              rintro e w3 ⟨rfl, rfl⟩
              go_wp2
              go_ret2
              exact ⟨by rw [HST.out]; exact rfl, HB.out⟩
            · have hV : Pk.fieldOf ks[k] t = some (⟨0, t2.take N⟩, t2.drop N) := by rw [h0]; unfold Pk.fieldOf; rw [if_neg (by decide), if_pos rfl, if_neg hl, ← ht2, ← hN, if_neg hl2]
              rw [hV] at HST
              obtain ⟨F, hFF⟩ : ∃ F : Pk.Fd, F = ⟨0, t2.take N⟩ := ⟨_, rfl⟩
              rw [← hFF] at HST
              change Hid (_ = Pk.rds (acc ++ [F]) (ks.data.toList.drop (k + 1)) (t2.drop N)) at HST
              have hl2I : ¬ (Z.size : Int) < N := by omega
              have hl2J : (N : Int) ≤ Z.size := by omega
              have e3 := ext_take Z N
              have e4 := ext_from t2 N
              rw [hZ, bs_list, ← hZ] at e3
              rw [← hZ] at e4
              have hF := Lib.hid (show ([.int .u64 0, .string (bs (t2.take N))] : List Value) = fdElem.cells [F] by rw [hFF]; rfl)
              have HL := Lib.hid (show (t2.drop N).length ≤ s.length by rw [List.length_drop]; omega)
              clear hY hYs e0 hl ht hsL h0 hlet hwd hV hN hZ hZs hl2 ht2 ht2l hd hFF
              go_wp2_with fail
              refine (HW.out _).mono ?_
              rintro e w2 ⟨rfl, rfl⟩
              go_wp2_with fail
              refine (HTO.out _).mono ?_
              rintro e w3 ⟨rfl, rfl⟩
              go_wp2_with (at_builtin; refine Hid.out ?_)
              refine Lib.hid ?_
              have hsz3 := HB.out.size
              refine wpList_app fdST rfl _ _ rfl rfl (HO.out.alloc _) (by simp; omega) _ 0 1 1 [F] rfl rfl (Lies.of_blk (Blk.new _ _ 46) hF.out) (by have := HA.out.2.2; omega) ?_
              intro v' w4 ho4 hg4
              have H4 := Lib.hid (And.intro ho4 ((HB.out.alloc hsz3 _).trans ((But.ofGrown hg4).below (by simp; omega) (fun i hi e => by have := (HO.out.block i e).1; omega))))
              clear ho4 hg4 hsz3
              go_wp2
              go_roundw
              case rel => exact ⟨k + 1, by omega, by go_num, acc ++ [F], t2.drop N, rfl, Lib.hid ⟨HL.out, HST.out, by rw [List.length_append, HA.out.2.2]; rfl⟩, Lib.hid H4.out.1, Lib.hid H4.out.2⟩
              case measure => simp [RowKit.intOf]; omega
        · have hwd : Pk.width ks[k] = 0 := by rw [h0]; decide
          rw [hwd] at HW
          simp only [h1] at HW
          have hV : Pk.fieldOf ks[k] t = some (⟨0, t⟩, []) := by rw [h0]; unfold Pk.fieldOf; rw [if_pos rfl]
          rw [hV] at HST
          obtain ⟨F, hFF⟩ : ∃ F : Pk.Fd, F = ⟨0, t⟩ := ⟨_, rfl⟩
          rw [← hFF] at HST
          change Hid (_ = Pk.rds (acc ++ [F]) (ks.data.toList.drop (k + 1)) []) at HST
          have e4 := ext_from t t.length
          rw [← hY, ← hYs, List.drop_of_length_le (by omega)] at e4
          have hF := Lib.hid (show ([.int .u64 0, .string Y] : List Value) = fdElem.cells [F] by rw [hFF, hY]; rfl)
          have hYI : (Y.size : Int) ≤ 1000000 := by omega
          clear hY hYs ht hsL h0 hlet hwd hV hFF
          go_wp2_with fail
          refine (HW.out _).mono ?_
          rintro e w2 ⟨rfl, rfl⟩
          go_wp2_with (at_builtin; refine Hid.out ?_)
          refine Lib.hid ?_
          have hsz3 := HB.out.size
          refine wpList_app fdST rfl _ _ rfl rfl (HO.out.alloc _) (by simp; omega) _ 0 1 1 [F] rfl rfl (Lies.of_blk (Blk.new _ _ 46) hF.out) (by have := HA.out.2.2; omega) ?_
          intro v' w4 ho4 hg4
          have H4 := Lib.hid (And.intro ho4 ((HB.out.alloc hsz3 _).trans ((But.ofGrown hg4).below (by simp; omega) (fun i hi e => by have := (HO.out.block i e).1; omega))))
          clear ho4 hg4 hsz3
          go_wp2
          go_roundw
          case rel => exact ⟨k + 1, by omega, by go_num, acc ++ [F], [], rfl, Lib.hid ⟨Nat.zero_le _, HST.out, by rw [List.length_append, HA.out.2.2]; rfl⟩, Lib.hid H4.out.1, Lib.hid H4.out.2⟩
          case measure => simp [RowKit.intOf]; omega
      · have hke : k = ks.size := by omega
        subst hke
        have HE := Lib.hid (show Pk.rds [] ks.data.toList s = if t = [] then some acc else none by
          rw [HA.out.2.1, List.drop_of_length_le (by rw [HLEN.out]; exact Nat.le_refl _)]
          rfl)
        by_cases ht : t = []
        · have HE1 := Lib.hid (HE.out.trans (if_pos ht))
          clear HE
          subst ht
          have hem : (bs ([] : List UInt8)).toList.isEmpty = true := by rw [bs_toList]; rfl
          go_wp2
          go_ret2
          exact ⟨by rw [HE1.out]; exact ⟨_, rfl, HO.out⟩, HB.out⟩
        · have hne : (bs t).toList.isEmpty = false := by
            rw [bs_toList]
            cases t with
            | nil => exact absurd rfl ht
            | cons _ _ => rfl
          have HE1 := Lib.hid (HE.out.trans (if_neg ht))
          clear HE
          go_wp2
          go_ret2
          exact ⟨by rw [HE1.out]; exact rfl, HB.out⟩
end Go.Proofs.Ytgdpdkbhjekjeaa
