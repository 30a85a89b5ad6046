/- Walk of the statement PackWrites. -/
import Derived.Test.YtgdpdkbhjekjeaaPkAwake
import Derived.Test.YtgdpdkbhjekjeaaPkRefW
import Derived.Test.YtgdpdkbhjekjeaaPkSame
namespace Go.Proofs.Ytgdpdkbhjekjeaa
open Go.RowKit Lib

theorem few_le {l : List Pk.Fd} (h : Pk.few l = true) : l.length ≤ 20 ∧ ∀ i (hi : i < l.length), l[i].s.length ≤ 300 := by
  unfold Pk.few at h
  rw [Bool.and_eq_true, decide_eq_true_eq, List.all_eq_true] at h
  exact ⟨h.1, fun i hi => by have := h.2 _ (List.getElem_mem hi); simpa using this⟩
theorem write_len {k : List UInt8} {l : List Pk.Fd} {t : List UInt8} (h : Pk.write k l = some t) (hs : ∀ i (hi : i < l.length), l[i].s.length ≤ 10000) (hl : l.length ≤ 20) : t.length ≤ 300000 := by
  unfold Pk.write at h
  split at h
  · have key : ∀ (k : List UInt8) (l : List Pk.Fd) (acc t : List UInt8), Pk.wrs acc k l = some t → (∀ f ∈ l, f.s.length ≤ 10000) → t.length ≤ acc.length + l.length * 10008 := by
      intro k
      induction k with
      | nil =>
        intro l acc t h _
        cases l with
        | nil => simp only [Pk.wrs, Option.some.injEq] at h; subst h; omega
        | cons _ _ => simp [Pk.wrs] at h
      | cons c k ih =>
        intro l acc t h hf
        cases l with
        | nil => simp [Pk.wrs] at h
        | cons f l =>
          rw [Pk.wrs] at h
          split at h
          · cases h
          · next a ha =>
            have h1 := ih l (acc ++ a) t h (fun g hg => hf g (List.mem_cons_of_mem _ hg))
            have h2 := Pk.ftext_len ha
            have h3 := hf f (List.mem_cons_self ..)
            rw [List.length_append] at h1
            rw [List.length_cons, Nat.add_mul]
            omega
    have := key k l [] t h (fun f hf => by
      obtain ⟨i, hi, rfl⟩ := List.getElem_of_mem hf
      exact hs i hi)
    simp only [List.length_nil] at this
    omega
  · cases h
set_option maxRecDepth 100000 in
set_option maxHeartbeats 2000000 in
theorem packWrites_any (ks : ByteArray) (v : Value) (l : List Pk.Fd) (w : World) (hr : RdF w v l) (hll : l.length ≤ 9223372036854775807) :
    Calls Try.prog 3 #[.string ks, v] w fun e w' => e = .returned (.bool true) ∧ Below w.heap.size w w' := by
  have HAW := Lib.hid (fun W => pkawake_any W)
  have HR := Lib.hid hr
  clear hr
  by_cases hk : ks.size ≤ 20
  · have hkI : ¬ (ks.size : Int) > 20 := by omega
    cases hfw : Pk.few l with
    | false =>
      have HF := Lib.hid (show ∀ W, RdF W v l → Calls Try.prog 9 #[v] W fun e w' => e = .returned (.bool false) ∧ Below W.heap.size W w' from fun W h => by have := few_any v l W h; rw [hfw] at this; exact this)
      clear hfw
      go_enter Try.func3, Try.ntmps3
      go_wp2_with fail
      refine (HAW.out _).mono ?_
      rintro e w1 ⟨rfl, hb1⟩
      have HB1 := Lib.hid hb1
      have HR1 := Lib.hid (HR.out.below hb1)
      clear hb1
      go_wp2_with fail
      refine (HF.out _ HR1.out).mono ?_
      rintro e w2 ⟨rfl, hb2⟩
      have HB2 := Lib.hid (HB1.out.trans (hb2.mono HB1.out.size))
      clear hb2
      go_wp2
      go_ret
      exact ⟨rfl, HB2.out⟩
    | true =>
      have HF := Lib.hid (show ∀ W, RdF W v l → Calls Try.prog 9 #[v] W fun e w' => e = .returned (.bool true) ∧ Below W.heap.size W w' from fun W h => by have := few_any v l W h; rw [hfw] at this; exact this)
      obtain ⟨h20, h300⟩ := few_le hfw
      have hs4 : ∀ i (hi : i < l.length), l[i].s.length ≤ 10000 := fun i hi => Nat.le_trans (h300 i hi) (by decide)
      have HRI := Lib.hid (fun W => right_any ks W (by omega))
      have HRR := Lib.hid (fun W => refRight_any ks W (by omega))
      generalize Pk.right ks.data.toList = rt at *
      cases hwr : Pk.write ks.data.toList l with
      | none =>
        have HW := Lib.hid (fun W h => write_any ks v l W (by omega) hll h hs4)
        have HRW := Lib.hid (fun W h => refWrite_any ks v l W (by omega) hll h hs4)
        rw [hwr] at HW HRW
        unfold wres at HW HRW
        simp only at HW HRW
        clear hfw hwr h20 h300 hs4 hll
        go_enter Try.func3, Try.ntmps3
        go_wp2_with fail
        refine (HAW.out _).mono ?_
        rintro e w1 ⟨rfl, hb1⟩
        have HB1 := Lib.hid hb1
        have HR1 := Lib.hid (HR.out.below hb1)
        clear hb1
        go_wp2_with fail
        refine (HF.out _ HR1.out).mono ?_
        rintro e w2 ⟨rfl, hb2⟩
        have HB2 := Lib.hid (HB1.out.trans (hb2.mono HB1.out.size))
        have HR2 := Lib.hid (HR1.out.below hb2)
        clear hb2
        go_wp2_with fail
        refine (HW.out _ HR2.out).mono ?_
        rintro e w3 ⟨rfl, hb3⟩
        have HB3 := Lib.hid (HB2.out.trans (hb3.mono HB2.out.size))
        have HR3 := Lib.hid (HR2.out.below hb3)
        clear hb3
        go_wp2_with fail
        refine (HRW.out _ HR3.out).mono ?_
        rintro e w4 ⟨rfl, hb4⟩
        have HB4 := Lib.hid (HB3.out.trans (hb4.mono HB3.out.size))
        have HR4 := Lib.hid (HR3.out.below hb4)
        clear hb4
        go_wp2_with fail
        refine (HRI.out _).mono ?_
        rintro e w5 ⟨rfl, rfl⟩
        go_wp2_with fail
        refine (HRR.out _).mono ?_
        rintro e w6 ⟨rfl, rfl⟩
        go_wp2
        go_ret
        exact ⟨rfl, HB4.out⟩
      | some t =>
        have HW := Lib.hid (fun W h => write_any ks v l W (by omega) hll h hs4)
        have HRW := Lib.hid (fun W h => refWrite_any ks v l W (by omega) hll h hs4)
        rw [hwr] at HW HRW
        unfold wres at HW HRW
        simp only at HW HRW
        have htl := write_len hwr hs4 h20
        have HRD := Lib.hid (fun W => read_any ks t W (by omega) (by omega))
        have hrd := Pk.read_write hwr
        rw [hrd] at HRD
        have HSA := Lib.hid (show ∀ W u, Own fdElem 46 0 W u l → RdF W v l → Calls Try.prog 15 #[u, v] W fun e w' => e = .returned (.bool true) ∧ Below W.heap.size W w' from fun W u h1 h2 => by
          have h3 : ∀ f ∈ l, f.n < 2 ^ 64 := fun f hf => (Pk.read_good hrd f hf).1
          have := same_any u v l l W (rdF_own h1 h3) h2 (by omega)
          rw [decide_eq_true rfl] at this
          exact this)
        obtain ⟨T, hT⟩ : ∃ T, T = bs t := ⟨_, rfl⟩
        rw [← hT] at HW HRW HRD
        clear hfw hwr h20 h300 hs4 hll htl hrd hT
        go_enter Try.func3, Try.ntmps3
        go_wp2_with fail
        refine (HAW.out _).mono ?_
        rintro e w1 ⟨rfl, hb1⟩
        have HB1 := Lib.hid hb1
        have HR1 := Lib.hid (HR.out.below hb1)
        clear hb1
        go_wp2_with fail
        refine (HF.out _ HR1.out).mono ?_
        rintro e w2 ⟨rfl, hb2⟩
        have HB2 := Lib.hid (HB1.out.trans (hb2.mono HB1.out.size))
        have HR2 := Lib.hid (HR1.out.below hb2)
        clear hb2
        go_wp2_with fail
        refine (HW.out _ HR2.out).mono ?_
        rintro e w3 ⟨rfl, hb3⟩
        have HB3 := Lib.hid (HB2.out.trans (hb3.mono HB2.out.size))
        have HR3 := Lib.hid (HR2.out.below hb3)
        clear hb3
        go_wp2_with fail
        refine (HRW.out _ HR3.out).mono ?_
        rintro e w4 ⟨rfl, hb4⟩
        have HB4 := Lib.hid (HB3.out.trans (hb4.mono HB3.out.size))
        have HR4 := Lib.hid (HR3.out.below hb4)
        clear hb4
        go_wp2_with fail
        refine (HRI.out _).mono ?_
        rintro e w5 ⟨rfl, rfl⟩
        go_wp2_with fail
        refine (HRR.out _).mono ?_
        rintro e w6 ⟨rfl, rfl⟩
        go_wp2_with fail
        refine (HRD.out _).mono ?_
        rintro e w5 ⟨⟨v5, rfl, ho5⟩, hb5⟩
        have HB5 := Lib.hid (HB4.out.trans (hb5.mono HB4.out.size))
        have HR5 := Lib.hid (HR4.out.below hb5)
        have HO5 := Lib.hid (ho5.mono (Nat.zero_le _))
        clear hb5 ho5
        go_wp2_with fail
        refine (HSA.out _ _ HO5.out HR5.out).mono ?_
        rintro e w6 ⟨rfl, hb6⟩
        have HB6 := Lib.hid (HB5.out.trans (hb6.mono HB5.out.size))
        clear hb6
        go_wp2
        go_ret
        exact ⟨rfl, HB6.out⟩
  · have hkI : (ks.size : Int) > 20 := by omega
    go_enter Try.func3, Try.ntmps3
    go_wp2_with fail
    refine (HAW.out _).mono ?_
    rintro e w1 ⟨rfl, hb1⟩
    have HB1 := Lib.hid hb1
    have HR1 := Lib.hid (HR.out.below hb1)
    clear hb1
    go_wp2
    go_ret
    exact ⟨rfl, HB1.out⟩
end Go.Proofs.Ytgdpdkbhjekjeaa
