/- Walk of the reference's Write. -/
import Derived.Test.YtgdpdkbhjekjeaaPkRef
namespace Go.Proofs.Ytgdpdkbhjekjeaa
open Go.RowKit Lib

set_option maxRecDepth 100000 in
set_option maxHeartbeats 8000000 in
theorem refWrite_any (ks : ByteArray) (v : Value) (l : List Pk.Fd) (w : World) (hk : ks.size ≤ 100) (hll : l.length ≤ 9223372036854775807) (hr : RdF w v l) (hs : ∀ i (h : i < l.length), l[i].s.length ≤ 10000) :
    Calls Try.prog 11 #[.string ks, v] w fun e w' => e = .returned (wres (Pk.write ks.data.toList l)) ∧ Below w.heap.size w w' := by
  have hkI : (ks.size : Int) ≤ 100 := by omega
  have hllI : (l.length : Int) ≤ 9223372036854775807 := by omega
  obtain ⟨a, cap, rfl, hcap, hcells⟩ := hr
  have HC := Lib.hid hcells
  have HSS := Lib.hid hs
  have HLEN := Lib.hid (show ks.data.toList.length = ks.size from Array.length_toList)
  clear hcells hs
  cases hrt : Pk.right ks.data.toList with
  | false =>
    have HV : Pk.write ks.data.toList l = none := by unfold Pk.write; rw [if_neg (by rw [hrt]; exact fun e => by cases e.1)]
    rw [HV]
    have HRI := Lib.hid (show ∀ W, Calls Try.prog 13 #[.string ks] W fun e w' => e = .returned (.bool false) ∧ w' = W from fun W => by have := refRight_any ks W (by omega); rw [hrt] at this; exact this)
    clear HV hrt
    go_enter Try.func11, Try.ntmps11
    go_wp2_with fail
    refine (HRI.out _).mono ?_
    rintro e w1 ⟨rfl, rfl⟩
    go_wp2
    go_ret2
    exact ⟨rfl, Below.refl _ _⟩
  | true =>
    have HRI := Lib.hid (show ∀ W, Calls Try.prog 13 #[.string ks] W fun e w' => e = .returned (.bool true) ∧ w' = W from fun W => by have := refRight_any ks W (by omega); rw [hrt] at this; exact this)
    by_cases hln : l.length = ks.size
    · have HV : Pk.write ks.data.toList l = Pk.wrs [] ks.data.toList l := by unfold Pk.write; rw [if_pos ⟨hrt, by rw [HLEN.out, hln]⟩]
      rw [HV]
      have HRT := Lib.hid hrt
      have hlnI : ((ks.size : Int) != l.length) = false := by rw [bne_eq_false_iff_eq]; omega
      have HLN := Lib.hid hln
      obtain ⟨L, hL⟩ : ∃ L, L = l.length := ⟨_, rfl⟩
      have HL := Lib.hid hL
      have hLk : (L : Int) = ks.size := by omega
      have HLK := Lib.hid hLk
      rw [← hL] at hlnI hllI ⊢
      clear HV hrt hln hL hLk
      go_enter Try.func11, Try.ntmps11
      go_wp2_with fail
      refine (HRI.out _).mono ?_
      rintro e w1 ⟨rfl, rfl⟩
      go_wp2_with fail
      go_loopw [6, 7] (fun sv i wr => ∃ k : Nat, k ≤ ks.size ∧ i = .int .i64 k ∧ ∃ acc : List UInt8, sv = .string (bs acc) ∧ Hid (acc.length ≤ k * 10010 ∧ Pk.wrs [] ks.data.toList l = Pk.wrs acc (ks.data.toList.drop k) (l.drop k)) ∧ Hid (Below w1.heap.size w1 wr)) (fun _ i _ => ks.size - (RowKit.intOf i).toNat)
      case atStart => exact ⟨0, Nat.zero_le _, rfl, [], rfl, Lib.hid ⟨Nat.zero_le _, rfl⟩, Lib.hid (Below.refl _ _)⟩
      case round =>
        obtain ⟨k, hk', rfl, acc, rfl, HA, HB⟩ := hrel
        by_cases hlt : k < ks.size
        · have hltI : (k : Int) < ks.size := by omega
          have hk1 : k < l.length := by have := HL.out; have := HLN.out; omega
          have hk1I : (k : Int) < L := by have := HL.out; omega
          obtain ⟨hn, g, o, rfl, hg, hc⟩ := HC.out k hk1
          have c0 : wr.cell? ⟨g, o + k * 2, none⟩ = some (.int .u64 l[k].n) := (HB.out.cell (p := ⟨g, o + k * 2, none⟩) hg).trans (hc k hk1).1
          have c1 : wr.cell? ⟨g, o + k * 2 + 1, none⟩ = some (.string (bs l[k].s)) := (HB.out.cell (p := ⟨g, o + k * 2 + 1, none⟩) hg).trans (hc k hk1).2
          have HST := Lib.hid (HA.out.2.trans (Pk.wrs_step acc ks.data.toList l k hlt hk1))
          have hlet := Pk.right_letter ks.data.toList k hlt HRT.out
          have hsk := HSS.out k hk1
          generalize l[k] = f at *
          obtain ⟨n, s⟩ := f
          simp only at hn c0 c1 hsk
          change Hid (_ = match Pk.ftext ks[k] ⟨n, s⟩ with | none => none | some a => _) at HST
          change Pk.letter ks[k] true = true at hlet
          obtain ⟨X, hX⟩ : ∃ X, X = bs s := ⟨_, rfl⟩
          have hXs : X.size = s.length := by rw [hX, bs_size]
          have HX := Lib.hid hX
          rw [← hX] at c1
          have HW := Lib.hid (fun W => refWidth_any ks[k] W)
          have HB1 := Lib.hid (HB.out.alloc HB.out.size (.cells #[.int .u64 n, .string X] 46))
          obtain ⟨S, hS⟩ : ∃ S, S = bs acc := ⟨_, rfl⟩
          have hSs : S.size = acc.length := by rw [hS, bs_size]
          have HS := Lib.hid hS
          rw [← hS]
          have hacc : acc.length ≤ 1001000 := by have := HA.out.1; omega
          have hXI : (X.size : Int) ≤ 10000 := by omega
          have hnI : (n : Int) < 18446744073709551616 := by omega
          clear hc hS
          rcases Pk.letters ks[k] with ⟨h0, h, hwd, _⟩ | ⟨h0, h, hwd, _⟩ | ⟨h0, h, hwd, _⟩ | ⟨h0, h, hwd, _⟩ | ⟨h0, h, hwd, _⟩ | ⟨_, _, hw⟩
          · have hft := Pk.ftext_num (c := ks[k]) (f := ⟨n, s⟩) (by rw [hwd]; decide)
            rw [hwd] at HW hft
            simp only [h] at HW
            by_cases hss : s = []
            · have hXe : X = ⟨#[]⟩ := by rw [hX, hss]; rfl
              have hsm : n < 256 ^ 8 := hn
              rw [if_pos ⟨hss, hsm⟩] at hft
              rw [hft] at HST
              change Hid (_ = Pk.wrs (acc ++ Wl.enc 8 n) _ _) at HST
              have HNU := Lib.hid (fun W => refNumber_any n 8 W hn (by decide))
              obtain ⟨T, hT⟩ : ∃ T, T = bs (Wl.enc 8 n) := ⟨_, rfl⟩
              have HT := Lib.hid hT
              have hTs : T.size = 8 := by rw [hT, bs_size, Wl.enc_length]
              have hsum : S.size + T.size ≤ 9223372036854775807 := by omega
              simp only [← hT] at HNU
              rw [hXe] at c1 HB1
              have HHS := Lib.hid hsm
              clear hft hwd h0 hn hX hss hTs hT hXe hXs hXI hsm
              go_wp2_with fail
              refine (HW.out _).mono ?_
              rintro e w2 ⟨rfl, rfl⟩
              go_wp2_with fail
              refine (HNU.out _).mono ?_
              rintro e w3 ⟨rfl, hb3⟩
              have HB3 := Lib.hid (HB1.out.trans (hb3.mono HB1.out.size))
              clear hb3
              go_wp2
              go_roundw
              case rel => exact ⟨k + 1, by omega, by go_num, acc ++ Wl.enc 8 n, by rw [← bs_append, ← HS.out, ← HT.out], Lib.hid ⟨by rw [List.length_append, Wl.enc_length]; have := HA.out.1; omega, HST.out⟩, HB3⟩
              case measure => simp [RowKit.intOf]; omega
            · have hXe : X.toList.isEmpty = false := by
                rw [hX, bs_toList]
                cases s with
                | nil => exact absurd rfl hss
                | cons _ _ => rfl
              rw [if_neg (fun e => hss e.1)] at hft
              rw [hft] at HST
              change Hid (_ = none) at HST
              clear hft hwd h0 hn hX hss hXs hXI
              go_wp2_with fail
              refine (HW.out _).mono ?_
              rintro e w2 ⟨rfl, rfl⟩
              go_wp2
              go_ret2
              exact ⟨by rw [HST.out]; rfl, HB1.out⟩
          · have hft := Pk.ftext_num (c := ks[k]) (f := ⟨n, s⟩) (by rw [hwd]; decide)
            rw [hwd] at HW hft
            simp only [h] at HW
            by_cases hss : s = []
            · have hXe : X = ⟨#[]⟩ := by rw [hX, hss]; rfl
              by_cases hsm : n < 256 ^ 4
              · have hsmI : decide ((4294967296 : Int) ≤ n) = false := by rw [decide_eq_false_iff_not]; omega
                rw [if_pos ⟨hss, hsm⟩] at hft
                rw [hft] at HST
                change Hid (_ = Pk.wrs (acc ++ Wl.enc 4 n) _ _) at HST
                have HNU := Lib.hid (fun W => refNumber_any n 4 W hn (by decide))
                obtain ⟨T, hT⟩ : ∃ T, T = bs (Wl.enc 4 n) := ⟨_, rfl⟩
                have HT := Lib.hid hT
                have hTs : T.size = 4 := by rw [hT, bs_size, Wl.enc_length]
                have hsum : S.size + T.size ≤ 9223372036854775807 := by omega
                simp only [← hT] at HNU
                rw [hXe] at c1 HB1
                have HHS := Lib.hid hsm
                clear hft hwd h0 hn hX hss hTs hT hXe hXs hXI hsm
                go_wp2_with fail
                refine (HW.out _).mono ?_
                rintro e w2 ⟨rfl, rfl⟩
                go_wp2_with fail
                refine (HNU.out _).mono ?_
                rintro e w3 ⟨rfl, hb3⟩
                have HB3 := Lib.hid (HB1.out.trans (hb3.mono HB1.out.size))
                clear hb3
                go_wp2
                go_roundw
                case rel => exact ⟨k + 1, by omega, by go_num, acc ++ Wl.enc 4 n, by rw [← bs_append, ← HS.out, ← HT.out], Lib.hid ⟨by rw [List.length_append, Wl.enc_length]; have := HA.out.1; omega, HST.out⟩, HB3⟩
                case measure => simp [RowKit.intOf]; omega
              · have hsmI : ¬ (n : Int) < 4294967296 := by omega
                rw [if_neg (fun e => hsm e.2)] at hft
                rw [hft] at HST
                change Hid (_ = none) at HST
                rw [hXe] at c1 HB1
                clear hft hwd h0 hn hX hss hXe hXs hXI hsm
                go_wp2_with fail
                refine (HW.out _).mono ?_
                rintro e w2 ⟨rfl, rfl⟩
                go_wp2
                go_ret2
                exact ⟨by rw [HST.out]; rfl, HB1.out⟩
            · have hXe : X.toList.isEmpty = false := by
                rw [hX, bs_toList]
                cases s with
                | nil => exact absurd rfl hss
                | cons _ _ => rfl
              rw [if_neg (fun e => hss e.1)] at hft
              rw [hft] at HST
              change Hid (_ = none) at HST
              clear hft hwd h0 hn hX hss hXs hXI
              go_wp2_with fail
              refine (HW.out _).mono ?_
              rintro e w2 ⟨rfl, rfl⟩
              go_wp2
              go_ret2
              exact ⟨by rw [HST.out]; rfl, HB1.out⟩
          · have hft := Pk.ftext_num (c := ks[k]) (f := ⟨n, s⟩) (by rw [hwd]; decide)
            rw [hwd] at HW hft
            simp only [h] at HW
            by_cases hss : s = []
            · have hXe : X = ⟨#[]⟩ := by rw [hX, hss]; rfl
              by_cases hsm : n < 256 ^ 1
              · have hsmI : decide ((256 : Int) ≤ n) = false := by rw [decide_eq_false_iff_not]; omega
                rw [if_pos ⟨hss, hsm⟩] at hft
                rw [hft] at HST
                change Hid (_ = Pk.wrs (acc ++ Wl.enc 1 n) _ _) at HST
                have HNU := Lib.hid (fun W => refNumber_any n 1 W hn (by decide))
                obtain ⟨T, hT⟩ : ∃ T, T = bs (Wl.enc 1 n) := ⟨_, rfl⟩
                have HT := Lib.hid hT
                have hTs : T.size = 1 := by rw [hT, bs_size, Wl.enc_length]
                have hsum : S.size + T.size ≤ 9223372036854775807 := by omega
                simp only [← hT] at HNU
                rw [hXe] at c1 HB1
                have HHS := Lib.hid hsm
                clear hft hwd h0 hn hX hss hTs hT hXe hXs hXI hsm
                go_wp2_with fail
                refine (HW.out _).mono ?_
                rintro e w2 ⟨rfl, rfl⟩
                go_wp2_with fail
                refine (HNU.out _).mono ?_
                rintro e w3 ⟨rfl, hb3⟩
                have HB3 := Lib.hid (HB1.out.trans (hb3.mono HB1.out.size))
                clear hb3
                go_wp2
                go_roundw
                case rel => exact ⟨k + 1, by omega, by go_num, acc ++ Wl.enc 1 n, by rw [← bs_append, ← HS.out, ← HT.out], Lib.hid ⟨by rw [List.length_append, Wl.enc_length]; have := HA.out.1; omega, HST.out⟩, HB3⟩
                case measure => simp [RowKit.intOf]; omega
              · have hsmI : ¬ (n : Int) < 256 := by omega
                rw [if_neg (fun e => hsm e.2)] at hft
                rw [hft] at HST
                change Hid (_ = none) at HST
                rw [hXe] at c1 HB1
                clear hft hwd h0 hn hX hss hXe hXs hXI hsm
                go_wp2_with fail
                refine (HW.out _).mono ?_
                rintro e w2 ⟨rfl, rfl⟩
                go_wp2
                go_ret2
                exact ⟨by rw [HST.out]; rfl, HB1.out⟩
            · have hXe : X.toList.isEmpty = false := by
                rw [hX, bs_toList]
                cases s with
                | nil => exact absurd rfl hss
                | cons _ _ => rfl
              rw [if_neg (fun e => hss e.1)] at hft
              rw [hft] at HST
              change Hid (_ = none) at HST
              clear hft hwd h0 hn hX hss hXs hXI
              go_wp2_with fail
              refine (HW.out _).mono ?_
              rintro e w2 ⟨rfl, rfl⟩
              go_wp2
              go_ret2
              exact ⟨by rw [HST.out]; rfl, HB1.out⟩
          · have hft := Pk.ftext_text ⟨n, s⟩
            rw [← h0] at hft
            simp only at hft
            rw [hwd] at HW
            simp only [h] at HW
            by_cases hn0 : n = 0
            · have hn0I : ((n : Int) != 0) = false := by rw [bne_eq_false_iff_eq]; omega
              by_cases h6 : s.length ≤ 65535
              · rw [if_pos ⟨hn0, h6⟩] at hft
                rw [hft] at HST
                change Hid (_ = Pk.wrs (acc ++ (Wl.enc 2 s.length ++ s)) _ _) at HST
                obtain ⟨T, hT⟩ : ∃ T, T = bs (Wl.enc 2 s.length) := ⟨_, rfl⟩
                have HT := Lib.hid hT
                have hTs : T.size = 2 := by rw [hT, bs_size, Wl.enc_length]
                have hsum : S.size + T.size ≤ 9223372036854775807 := by omega
                have hsz2 : (S ++ T).size = S.size + T.size := ByteArray.size_append ..
                have hsum2 : (S ++ T).size + X.size ≤ 9223372036854775807 := by omega
                have h6J : decide ((65535 : Int) < X.size) = false := by rw [decide_eq_false_iff_not]; omega
                have HL6 := Lib.hid hsk
                have HNU := Lib.hid (show ∀ W, Calls Try.prog 25 #[.int .u64 (X.size : Nat), .int .i64 2] W fun e w' => e = .returned (.string T) ∧ Below W.heap.size W w' from fun W => by rw [hT, ← hXs]; exact refNumber_any X.size 2 W (by omega) (by decide))
                have HSUM := Lib.hid (And.intro hsum hsum2)
                clear hft hwd h0 hn hn0 hX hT hXs h6 hsk hsz2 hTs hsum hsum2 hSs hacc
                go_wp2_with fail
                refine (HW.out _).mono ?_
                rintro e w2 ⟨rfl, rfl⟩
                go_wp2_with (refine wp_region_any (by kernel_rfl) ?_; refine Hid.out ?_)
                refine Lib.hid ?_
                try (change wpAny _ _ _ _ _ _ _ (World.drew _))
                obtain ⟨hsum, hsum2⟩ := HSUM.out
                have hs1 : ¬ (9223372036854775807 < S.size + T.size) := by omega
                have hs2 : ¬ (9223372036854775807 < (S ++ T).size + X.size) := by omega
                have hs3 : ¬ (9223372036854775807 < S.size + T.size + X.size) := by rw [← ByteArray.size_append]; exact hs2
                clear hsum hsum2
                have hwrap : IntKind.u64.wrap (X.size : Int) = X.size := by rw [IntKind.wrap_u64]; omega
                refine wpAny_take (i := 0) (v := ?_) (by simp only [List.getElem?_toArray, List.getElem?_cons_zero]; exact rfl) (by kernel_rfl) (by kernel_rfl) (by kernel_rfl) (by exact fun _ _ _ h => h) (Or.inl ⟨by rfl, ?_⟩) ?_
                rotate_left
                · intro w; go_simp; try with_reducible rfl
                refine wpAny_take (i := 1) (v := ?_) (by simp only [List.getElem?_toArray, List.getElem?_cons_succ, List.getElem?_cons_zero]; exact rfl) (by kernel_rfl) (by kernel_rfl) (by kernel_rfl) (by exact fun _ _ _ h => h) (Or.inl ⟨by rfl, ?_⟩) ?_
                rotate_left
                · intro w; go_simp; try with_reducible rfl
                refine wpAny_take (i := 7) (v := ?_) (by simp only [List.getElem?_toArray, List.getElem?_cons_succ, List.getElem?_cons_zero]; exact rfl) (by kernel_rfl) (by kernel_rfl) (by kernel_rfl) (by exact fun _ _ _ h => h) (Or.inl ⟨by rfl, ?_⟩) ?_
                rotate_left
                · intro w; go_simp; try with_reducible rfl
                refine wpAny_ready (rs := [2, 8]) (by kernel_rfl) (by simp) ?_
                refine AllReady.cons rfl (fun K hK => ?_) (AllReady.cons rfl (fun K hK => ?_) AllReady.nil)
                · go_simp
                  refine hK _ _ ?_; clear hK K
                  refine wpAny_take (i := 3) (v := ?_) (by simp only [List.getElem?_toArray, List.getElem?_cons_succ, List.getElem?_cons_zero]; exact rfl) (by kernel_rfl) (by kernel_rfl) (by kernel_rfl) (by exact fun _ _ _ h => h) (Or.inl ⟨by rfl, ?_⟩) ?_
                  rotate_left
                  · intro w; go_simp; try with_reducible rfl
                  refine wpAny_take (i := 4) (v := ?_) (by simp only [List.getElem?_toArray, List.getElem?_cons_succ, List.getElem?_cons_zero]; exact rfl) (by kernel_rfl) (by kernel_rfl) (by kernel_rfl) (by exact fun _ _ _ h => h) (Or.inl ⟨by rfl, ?_⟩) ?_
                  rotate_left
                  · intro w; go_simp; try with_reducible rfl
                  refine wpAny_ready (rs := [5, 8]) (by kernel_rfl) (by simp) ?_
                  refine AllReady.cons rfl (fun K hK => ?_) (AllReady.cons rfl (fun K hK => ?_) AllReady.nil)
                  · go_simp
                    refine (HNU.out _).mono ?_
                    rintro e w3 ⟨rfl, hb3⟩
                    have c1 : w3.cell? ⟨wr.heap.size, 1, none⟩ = some (.string X) := ((Blk.new wr #[.int .u64 n, .string X] 46).drew.below hb3 (by simp)).cell rfl
                    refine hK _ _ ?_; clear hK K
                    refine wpAny_take (i := 6) (v := ?_) (by simp only [List.getElem?_toArray, List.getElem?_cons_succ, List.getElem?_cons_zero]; exact rfl) (by kernel_rfl) (by kernel_rfl) (by kernel_rfl) (by exact fun _ _ _ h => h) (Or.inl ⟨by rfl, ?_⟩) ?_
                    rotate_left
                    · intro w; go_simp; try with_reducible rfl
                    refine wpAny_ready (rs := [8]) (by kernel_rfl) (by simp) ?_
                    refine AllReady.cons rfl (fun K hK => ?_) AllReady.nil
                    go_simp
                    refine hK _ _ ?_; clear hK K
                    refine wpAny_ready (rs := [9]) (by kernel_rfl) (by simp) ?_
                    refine AllReady.cons rfl (fun K hK => ?_) AllReady.nil
                    go_simp
                    refine hK _ _ ?_; clear hK K
                    refine wpAny_ready (rs := [10]) (by kernel_rfl) (by simp) ?_
                    refine AllReady.cons rfl (fun K hK => ?_) AllReady.nil
                    go_simp
                    refine hK _ _ ?_; clear hK K
                    refine wpAny_done (by kernel_rfl) ?_ _
                    have HB3 := Lib.hid (HB1.out.drew.trans (hb3.mono HB1.out.size))
                    clear hb3 c1
                    go_wp2
                    go_roundw
                    case rel => exact ⟨k + 1, by omega, by go_num, acc ++ (Wl.enc 2 s.length ++ s), by rw [← List.append_assoc, ← bs_append, ← bs_append, ← HS.out, ← HT.out, ← HX.out], Lib.hid ⟨by rw [List.length_append, List.length_append, Wl.enc_length]; have := HA.out.1; have := HL6.out; omega, HST.out⟩, HB3⟩
                    case measure => simp [RowKit.intOf]; omega
                  · go_simp
                    refine hK _ _ ?_; clear hK K
                    refine wpAny_ready (rs := [5]) (by kernel_rfl) (by simp) ?_
                    refine AllReady.cons rfl (fun K hK => ?_) AllReady.nil
                    go_simp
                    refine (HNU.out _).mono ?_
                    rintro e w3 ⟨rfl, hb3⟩
                    have c1 : w3.cell? ⟨wr.heap.size, 1, none⟩ = some (.string X) := ((Blk.new wr #[.int .u64 n, .string X] 46).drew.below hb3 (by simp)).cell rfl
                    refine hK _ _ ?_; clear hK K
                    refine wpAny_take (i := 6) (v := ?_) (by simp only [List.getElem?_toArray, List.getElem?_cons_succ, List.getElem?_cons_zero]; exact rfl) (by kernel_rfl) (by kernel_rfl) (by kernel_rfl) (by exact fun _ _ _ h => h) (Or.inl ⟨by rfl, ?_⟩) ?_
                    rotate_left
                    · intro w; go_simp; try with_reducible rfl
                    refine wpAny_ready (rs := [9]) (by kernel_rfl) (by simp) ?_
                    refine AllReady.cons rfl (fun K hK => ?_) AllReady.nil
                    go_simp
                    refine hK _ _ ?_; clear hK K
                    refine wpAny_ready (rs := [10]) (by kernel_rfl) (by simp) ?_
                    refine AllReady.cons rfl (fun K hK => ?_) AllReady.nil
                    go_simp
                    refine hK _ _ ?_; clear hK K
                    refine wpAny_done (by kernel_rfl) ?_ _
                    have HB3 := Lib.hid (HB1.out.drew.trans (hb3.mono HB1.out.size))
                    clear hb3 c1
                    go_wp2
                    go_roundw
                    case rel => exact ⟨k + 1, by omega, by go_num, acc ++ (Wl.enc 2 s.length ++ s), by rw [← List.append_assoc, ← bs_append, ← bs_append, ← HS.out, ← HT.out, ← HX.out], Lib.hid ⟨by rw [List.length_append, List.length_append, Wl.enc_length]; have := HA.out.1; have := HL6.out; omega, HST.out⟩, HB3⟩
                    case measure => simp [RowKit.intOf]; omega
                · go_simp
                  refine hK _ _ ?_; clear hK K
                  refine wpAny_ready (rs := [2]) (by kernel_rfl) (by simp) ?_
                  refine AllReady.cons rfl (fun K hK => ?_) AllReady.nil
                  go_simp
                  refine hK _ _ ?_; clear hK K
                  refine wpAny_take (i := 3) (v := ?_) (by simp only [List.getElem?_toArray, List.getElem?_cons_succ, List.getElem?_cons_zero]; exact rfl) (by kernel_rfl) (by kernel_rfl) (by kernel_rfl) (by exact fun _ _ _ h => h) (Or.inl ⟨by rfl, ?_⟩) ?_
                  rotate_left
                  · intro w; go_simp; try with_reducible rfl
                  refine wpAny_take (i := 4) (v := ?_) (by simp only [List.getElem?_toArray, List.getElem?_cons_succ, List.getElem?_cons_zero]; exact rfl) (by kernel_rfl) (by kernel_rfl) (by kernel_rfl) (by exact fun _ _ _ h => h) (Or.inl ⟨by rfl, ?_⟩) ?_
                  rotate_left
                  · intro w; go_simp; try with_reducible rfl
                  refine wpAny_ready (rs := [5]) (by kernel_rfl) (by simp) ?_
                  refine AllReady.cons rfl (fun K hK => ?_) AllReady.nil
                  go_simp
                  refine (HNU.out _).mono ?_
                  rintro e w3 ⟨rfl, hb3⟩
                  have c1 : w3.cell? ⟨wr.heap.size, 1, none⟩ = some (.string X) := ((Blk.new wr #[.int .u64 n, .string X] 46).drew.below hb3 (by simp)).cell rfl
                  refine hK _ _ ?_; clear hK K
                  refine wpAny_take (i := 6) (v := ?_) (by simp only [List.getElem?_toArray, List.getElem?_cons_succ, List.getElem?_cons_zero]; exact rfl) (by kernel_rfl) (by kernel_rfl) (by kernel_rfl) (by exact fun _ _ _ h => h) (Or.inl ⟨by rfl, ?_⟩) ?_
                  rotate_left
                  · intro w; go_simp; try with_reducible rfl
                  refine wpAny_ready (rs := [9]) (by kernel_rfl) (by simp) ?_
                  refine AllReady.cons rfl (fun K hK => ?_) AllReady.nil
                  go_simp
                  refine hK _ _ ?_; clear hK K
                  refine wpAny_ready (rs := [10]) (by kernel_rfl) (by simp) ?_
                  refine AllReady.cons rfl (fun K hK => ?_) AllReady.nil
                  go_simp
                  refine hK _ _ ?_; clear hK K
                  refine wpAny_done (by kernel_rfl) ?_ _
                  have HB3 := Lib.hid (HB1.out.drew.trans (hb3.mono HB1.out.size))
                  clear hb3 c1
                  go_wp2
                  go_roundw
                  case rel => exact ⟨k + 1, by omega, by go_num, acc ++ (Wl.enc 2 s.length ++ s), by rw [← List.append_assoc, ← bs_append, ← bs_append, ← HS.out, ← HT.out, ← HX.out], Lib.hid ⟨by rw [List.length_append, List.length_append, Wl.enc_length]; have := HA.out.1; have := HL6.out; omega, HST.out⟩, HB3⟩
                  case measure => simp [RowKit.intOf]; omega
              · exact absurd (by omega) h6
            · have hn0I : ((n : Int) != 0) = true := by rw [bne_iff_ne]; omega
              rw [if_neg (fun e => hn0 e.1)] at hft
              rw [hft] at HST
              change Hid (_ = none) at HST
              clear hft hwd h0 hn hX hXs hXI
              go_wp2_with fail
              refine (HW.out _).mono ?_
              rintro e w2 ⟨rfl, rfl⟩
              go_wp2
              go_ret2
              exact ⟨by rw [HST.out]; rfl, HB1.out⟩
          · have hft := Pk.ftext_rest ⟨n, s⟩
            rw [← h0] at hft
            simp only at hft
            rw [hwd] at HW
            simp only [h] at HW
            by_cases hn0 : n = 0
            · have hn0I : ((n : Int) != 0) = false := by rw [bne_eq_false_iff_eq]; omega
              rw [if_pos hn0] at hft
              rw [hft] at HST
              change Hid (_ = Pk.wrs (acc ++ s) _ _) at HST
              have hsum : S.size + X.size ≤ 9223372036854775807 := by omega
              have HL6 := Lib.hid hsk
              clear hft hwd h0 hn hn0 hX hXs hXI hsk
              go_wp2_with fail
              refine (HW.out _).mono ?_
              rintro e w2 ⟨rfl, rfl⟩
              go_wp2
              go_roundw
              case rel => exact ⟨k + 1, by omega, by go_num, acc ++ s, by rw [← bs_append, ← HS.out, ← HX.out], Lib.hid ⟨by rw [List.length_append]; have := HA.out.1; have := HL6.out; omega, HST.out⟩, HB1⟩
              case measure => simp [RowKit.intOf]; omega
            · have hn0I : ((n : Int) != 0) = true := by rw [bne_iff_ne]; omega
              rw [if_neg hn0] at hft
              rw [hft] at HST
              change Hid (_ = none) at HST
              clear hft hwd h0 hn hX hXs hXI
              go_wp2_with fail
              refine (HW.out _).mono ?_
              rintro e w2 ⟨rfl, rfl⟩
              go_wp2
              go_ret2
              exact ⟨by rw [HST.out]; rfl, HB1.out⟩
          · exact absurd hlet (by rw [hw]; decide)
        · have hke : k = ks.size := by omega
          subst hke
          have HZ := Lib.hid (show Pk.wrs [] ks.data.toList l = some acc by
            rw [HA.out.2, List.drop_of_length_le (by rw [HLEN.out]; exact Nat.le_refl _), List.drop_of_length_le (by have := HLN.out; omega)]
            rfl)
          go_wp2
          go_ret2
          exact ⟨by rw [HZ.out]; rfl, HB.out⟩
    · have HV : Pk.write ks.data.toList l = none := by unfold Pk.write; rw [if_neg (by rw [HLEN.out]; exact fun e => hln e.2.symm)]
      rw [HV]
      have hlnI : ((ks.size : Int) != l.length) = true := by rw [bne_iff_ne]; omega
      clear HV hrt hln
      go_enter Try.func11, Try.ntmps11
      go_wp2_with fail
      refine (HRI.out _).mono ?_
      rintro e w1 ⟨rfl, rfl⟩
      go_wp2
      go_ret2
      exact ⟨rfl, Below.refl _ _⟩
end Go.Proofs.Ytgdpdkbhjekjeaa
