/- Walk of Holds. -/
import Derived.Test.YthkblabpiajbhaaDoorLive
namespace Go.Proofs.YthkblabpiajbhaaDoor
open Go.RowKit Lib

theorem bs_inj {a b : List UInt8} (h : bs a = bs b) : a = b := by rw [← bs_list a, h, bs_list]
theorem homeOf_at {H : List Wl.Text} {k : Nat} (hk : k < H.length) : homeOf H (k : Nat) = (H[k], 0) := by
  unfold homeOf
  rw [if_pos (by omega), Int.toNat_natCast, List.getD_eq_getElem?_getD, List.getElem?_eq_getElem hk]; rfl
theorem homeOf_end (H : List Wl.Text) : homeOf H (H.length : Nat) = ([], 2) := by
  unfold homeOf
  rw [if_neg (by omega)]
set_option maxRecDepth 100000 in
set_option maxHeartbeats 4000000 in
theorem holds_live (w : World) (F : Nat → Prop) (b g ring N : Nat) (s : Wl.Lg) (H T : List Wl.Text) (vt : Value) (hl : Log w F b g s) (hv : Wl.Live ring N s H) (ht : Reads w vt T) (hT : T.length ≤ 1000000) :
    Calls Tryd.prog 12 #[ptr b, vt] w fun e w' => e = .returned (.bool (decide (H = T))) ∧ Below w.heap.size w w' := by
  have HL := Lib.hid hl
  have HV := Lib.hid hv
  obtain ⟨a, cap, rfl, hc, hr⟩ := ht
  have HR := Lib.hid hr
  have hhom := hv.homes_eq
  have hH := hv.bnd.h
  have hTI : (T.length : Int) ≤ 1000000 := by omega
  rw [hhom] at hH
  clear hl hv hr hc
  obtain ⟨B, hB⟩ : ∃ B, B = decide (H = T) := ⟨_, rfl⟩
  rw [← hB]
  have HB := Lib.hid hB
  clear hB
  go_enter Tryd.func12, Tryd.ntmps12
  unfold ptr
  go_wp2_with fail
  refine (homes_any w F b g s HL.out).mono ?_
  rintro e w1 ⟨rfl, rfl⟩
  rw [hhom]
  by_cases hlen : H.length = T.length
  · rw [hlen]
    have HLn := Lib.hid hlen
    clear hlen hhom hH
    go_wp2_with fail
    go_loopw [18] (fun i wr => ∃ k : Nat, k ≤ T.length ∧ i = .int .i64 k ∧ Hid (H.take k = T.take k) ∧ Hid (Below w1.heap.size w1 wr)) (fun i _ => T.length - (Go.RowKit.intOf i).toNat)
    case atStart => exact ⟨0, Nat.zero_le _, rfl, Lib.hid rfl, Lib.hid (Below.refl _ _)⟩
    case round =>
      obtain ⟨k, hk, rfl, hE, hB⟩ := hrel
      by_cases hlt : k < T.length
      · have hI : (k : Int) < T.length := by omega
        obtain ⟨ga, oa, rfl, hga, hxa⟩ := HR.out k hlt
        have hcl : wr.cell? ⟨ga, oa + k, none⟩ = some (.string (bs T[k])) := (hB.out.cell (p := ⟨ga, oa + k, none⟩) hga).trans (hxa k hlt)
        have hHk : k < H.length := by have := HLn.out; omega
        have HK := Lib.hid (And.intro hlt hHk)
        have HTk := Lib.hid (show H[k] = T[k] → H.take (k + 1) = T.take (k + 1) from fun h => by
          rw [List.take_succ_eq_append_getElem hHk, List.take_succ_eq_append_getElem hlt, hE.out, h])
        have HNe := Lib.hid (show H[k] ≠ T[k] → B = false from fun h => by
          rw [HB.out, decide_eq_false_iff_not]
          intro e; subst e; exact h rfl)
        have HHm := Lib.hid (homeOf_at hHk)
        generalize T[k] = t at *
        generalize H[k] = u at *
        clear hxa hk hlt hHk hE
        go_wp2_with fail
        refine (read_live wr F b g ring N s H k (HL.out.below hB.out) HV.out).mono ?_
        rintro e w2 ⟨rfl, hb2⟩
        rw [HHm.out]
        have HB2 := Lib.hid (hB.out.trans (hb2.mono hB.out.size))
        clear hb2 hcl
        simp only
        by_cases he : u = t
        · subst he
          have hkI : (k : Int) ≤ 1000000 := by have := HK.out.1; omega
          go_wp2
          go_roundw
          case rel => exact ⟨k + 1, HK.out.1, by go_num, Lib.hid (HTk.out rfl), HB2⟩
          case measure => have := HK.out.1; simp [Go.RowKit.intOf]; omega
        · have hne : ¬ (bs u).toList = (bs t).toList := by rw [bs_toList, bs_toList]; exact he
          have hBf := HNe.out he
          subst hBf
          clear he
          go_wp2
          go_ret
          exact ⟨rfl, HB2.out⟩
      · obtain rfl : T.length = k := by omega
        have hTH : H = T := by
          have h1 := hE.out
          rw [List.take_length, List.take_of_length_le (by have := HLn.out; omega)] at h1
          exact h1
        have hBt : B = true := by rw [HB.out, decide_eq_true_iff]; exact hTH
        subst hBt
        have HEn := Lib.hid (show homeOf H (T.length : Nat) = ([], 2) by rw [← hTH]; exact homeOf_end H)
        clear hTH hE hk hlt
        go_wp2_with fail
        refine (read_live wr F b g ring N s H _ (HL.out.below hB.out) HV.out).mono ?_
        rintro e w2 ⟨rfl, hb2⟩
        rw [HEn.out]
        have HB2 := Lib.hid (hB.out.trans (hb2.mono hB.out.size))
        clear hb2
        simp only
        rw [show bs [] = ⟨#[]⟩ from rfl]
        go_wp2
        go_ret
        exact ⟨rfl, HB2.out⟩
  · have hlI : ¬ (H.length : Int) = T.length := by omega
    have hbne : ((H.length : Int) != T.length) = true := by rw [bne_iff_ne]; exact hlI
    have hBf : B = false := by
      rw [HB.out, decide_eq_false_iff_not]
      intro e; exact hlen (by rw [e])
    subst hBf
    clear hlen
    go_wp2
    go_ret
    exact ⟨rfl, Below.refl _ _⟩
end Go.Proofs.YthkblabpiajbhaaDoor
