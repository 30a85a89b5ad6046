/- Walk of the reference's Same. -/
import Derived.Test.YtgdpdkbhjekjeaaPkRef
namespace Go.Proofs.Ytgdpdkbhjekjeaa
open Go.RowKit Lib

set_option maxHeartbeats 2000000 in
theorem same_any (u v : Value) (l m : List Pk.Fd) (w : World) (hl : RdF w u l) (hm : RdF w v m) (hll : l.length ≤ 1000000) : Calls Try.prog 15 #[u, v] w fun e w' => e = .returned (.bool (decide (l = m))) ∧ Below w.heap.size w w' := by
  obtain ⟨a, cap, rfl, hcap, hcells⟩ := hl
  obtain ⟨b, cbp, rfl, hcbp, hdells⟩ := hm
  have HC := Lib.hid hcells
  have HD := Lib.hid hdells
  clear hcells hdells
  by_cases hlen : l.length = m.length
  · have hlenI : ((l.length : Int) != m.length) = false := by rw [bne_eq_false_iff_eq]; omega
    have hLI : (l.length : Int) ≤ 1000000 := by omega
    obtain ⟨L, hL⟩ : ∃ L, L = l.length := ⟨_, rfl⟩
    obtain ⟨M, hM⟩ : ∃ M, M = m.length := ⟨_, rfl⟩
    have HL := Lib.hid hL
    have HM := Lib.hid hM
    have HLM := Lib.hid (show L = M by omega)
    rw [← hL] at hlenI hLI ⊢
    rw [← hM] at hlenI ⊢
    clear hL hM hlen
    go_enter Try.func15, Try.ntmps15
    go_wp2_with fail
    go_loopw [5] (fun i wr => ∃ k : Nat, k ≤ L ∧ i = .int .i64 k ∧ Hid (l.take k = m.take k) ∧ Hid (Below w.heap.size w wr)) (fun i _ => L - (RowKit.intOf i).toNat)
    case atStart => exact ⟨0, Nat.zero_le _, rfl, Lib.hid rfl, Lib.hid (Below.refl _ _)⟩
    case round =>
      obtain ⟨k, hk, rfl, HA, HB⟩ := hrel
      by_cases hlt : k < L
      · have hltI : (k : Int) < L := by omega
        have hltM : (k : Int) < M := by have := HLM.out; omega
        have hk1 : k < l.length := by have := HL.out; omega
        have hk2 : k < m.length := by have := HM.out; have := HLM.out; omega
        obtain ⟨_, g, o, rfl, hg, hc⟩ := HC.out k hk1
        obtain ⟨_, g', o', rfl, hg', hd⟩ := HD.out k hk2
        have c0 : wr.cell? ⟨g, o + k * 2, none⟩ = some (.int .u64 l[k].n) := (HB.out.cell (p := ⟨g, o + k * 2, none⟩) hg).trans (hc k hk1).1
        have c1 : wr.cell? ⟨g, o + k * 2 + 1, none⟩ = some (.string (bs l[k].s)) := (HB.out.cell (p := ⟨g, o + k * 2 + 1, none⟩) hg).trans (hc k hk1).2
        have d0 : wr.cell? ⟨g', o' + k * 2, none⟩ = some (.int .u64 m[k].n) := (HB.out.cell (p := ⟨g', o' + k * 2, none⟩) hg').trans (hd k hk2).1
        have d1 : wr.cell? ⟨g', o' + k * 2 + 1, none⟩ = some (.string (bs m[k].s)) := (HB.out.cell (p := ⟨g', o' + k * 2 + 1, none⟩) hg').trans (hd k hk2).2
        have HT1 := Lib.hid (List.take_succ_eq_append_getElem hk1)
        have HT2 := Lib.hid (List.take_succ_eq_append_getElem hk2)
        have HNE := Lib.hid (show l[k] ≠ m[k] → l ≠ m from fun h e => h (by subst e; rfl))
        have q1 := bs_toList l[k].s
        have q2 := bs_toList m[k].s
        generalize l[k] = f at *
        generalize m[k] = f' at *
        obtain ⟨n, s⟩ := f
        obtain ⟨n', s'⟩ := f'
        simp only at c0 c1 d0 d1 q1 q2
        generalize bs s = X at *
        generalize bs s' = Y at *
        clear hc hd
        by_cases hn : n = n'
        · subst hn
          by_cases hs : s = s'
          · subst hs
            go_wp2_with fail
            go_quiet (fail)
            go_wp2
            go_roundw
            case rel => exact ⟨k + 1, by omega, by go_num, Lib.hid (by rw [HT1.out, HT2.out, HA.out]), Lib.hid (HB.out.trans (below_drawn' HB.out.size _))⟩
            case measure => simp [RowKit.intOf]; omega
          · have hss : (s == s') = false := by rw [beq_eq_false_iff_ne]; exact hs
            have HV := Lib.hid (HNE.out (fun e => hs (by injection e)))
            go_wp2_with fail
            go_quiet (fail)
            go_wp2
            go_ret
            exact ⟨by rw [decide_eq_false HV.out]; rfl, HB.out.trans (below_drawn' HB.out.size _)⟩
        · have hnn : ((n : Int) == n') = false := by rw [beq_eq_false_iff_ne]; omega
          have HV := Lib.hid (HNE.out (fun e => hn (by injection e)))
          go_wp2_with fail
          go_quiet (fail)
          go_wp2
          go_ret
          exact ⟨by rw [decide_eq_false HV.out]; rfl, HB.out.trans (below_drawn' HB.out.size _)⟩
      · have hke : k = L := by omega
        subst hke
        have HV := Lib.hid (show l = m by
          have := HA.out
          rwa [List.take_of_length_le (by rw [← HL.out]; exact Nat.le_refl _), List.take_of_length_le (by rw [← HM.out, ← HLM.out]; exact Nat.le_refl _)] at this)
        go_wp2
        go_ret
        exact ⟨by rw [decide_eq_true HV.out]; rfl, HB.out⟩
  · have hlenI : ((l.length : Int) != m.length) = true := by rw [bne_iff_ne]; omega
    have HV := Lib.hid (show ¬ l = m from fun e => hlen (by rw [e]))
    go_enter Try.func15, Try.ntmps15
    go_wp2
    go_ret
    exact ⟨by rw [decide_eq_false HV.out]; rfl, Below.refl _ _⟩
end Go.Proofs.Ytgdpdkbhjekjeaa
