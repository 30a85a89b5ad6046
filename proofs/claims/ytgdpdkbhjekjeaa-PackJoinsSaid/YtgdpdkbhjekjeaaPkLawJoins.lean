/- Walk of the statement PackJoins. -/
import Derived.Test.YtgdpdkbhjekjeaaPkLawWrites
namespace Go.Proofs.Ytgdpdkbhjekjeaa
open Go.RowKit Lib

/-- append of nothing: whatever the row is. -/
theorem pwp_app_zero {α : Type} {K : Elem α} {P : Program} {E T : TypeId} {B : Nat} {w : World} {l : List α} (ST : SliceT P T E K.size) {o : Oper} {a : Act} {K' : Act → World → Prop} {Q : Exit → Act → World → Prop} (s x : Operand)
    (ho : o.op = .call { callee := .builtin .append, args := #[s, x], argTypes := #[T, T] }) (g k cap : Nat)
    (hs : a.eval s = .slice (some ⟨g, 0, none⟩) k cap) (hown : Own K E B w (.slice (some ⟨g, 0, none⟩) k cap) l) (hk : k = l.length) (ad : Addr) (c : Nat) (hx : a.eval x = .slice (some ad) 0 c) (hc : k ≤ cap)
    (h : ∀ w', Own K E B w' (.slice (some ⟨g, 0, none⟩) k cap) l → w.grownBy w' (some g) → K' (a.put o.dst (.slice (some ⟨g, 0, none⟩) k cap)) w') : o.wp P a w K' Q := by
  obtain ⟨i, z, hi, hz, hsize, hzs, hby⟩ := ST.info
  subst hk
  obtain ⟨w', hr, h2, h3⟩ := run_append_fits (P := P) (w := w) (ty := o.type) B T E i K.size ST.under hi hsize g l.length cap (K.cells l) hown ad 0 c [] (by simp) (fun j u hu => by cases hu) (fun u hu => by cases hu) (by omega)
  unfold Oper.wp execOp
  simp only [ho, resolve, invoke, builtin, Sem.run_bind, Sem.run_pure, Result.andThen_ok, List.map_toArray, List.map_cons, List.map_nil, hs, hx, hr]
  refine h w' ?_ h3
  rw [List.append_nil] at h2
  exact h2
theorem lies_fd {w : World} {g o : Nat} {l : List Pk.Fd} (h : ∀ j (hj : j < l.length), w.cell? ⟨g, o + j * 2, none⟩ = some (.int .u64 l[j].n) ∧ w.cell? ⟨g, o + j * 2 + 1, none⟩ = some (.string (bs l[j].s))) : Lies fdElem w g o l := by
  intro j u hu
  have hlt : j < l.length * 2 := by
    rcases Nat.lt_or_ge j (l.length * 2) with h' | h'
    · exact h'
    · rw [List.getElem?_eq_none (by rw [fdElem.cells_length]; exact h')] at hu; cases hu
  have hd : j / 2 < l.length := by omega
  have hm : j % 2 < 2 := Nat.mod_lt _ (by decide)
  have hj : j = j / 2 * fdElem.size + j % 2 := by show j = j / 2 * 2 + j % 2; omega
  rw [hj, fdElem.cells_get l (j / 2) (j % 2) hm hd] at hu
  have := h (j / 2) hd
  rcases Nat.lt_or_ge (j % 2) 1 with h0 | h0
  · have e0 : j % 2 = 0 := by omega
    rw [e0] at hu
    have hu' : some (Value.int .u64 l[j / 2].n) = some u := hu
    rw [← hu', ← this.1]
    congr 2
    omega
  · have e0 : j % 2 = 1 := by omega
    rw [e0] at hu
    have hu' : some (Value.string (bs l[j / 2].s)) = some u := hu
    rw [← hu', ← this.2]
    congr 2
    omega
/-- How a row that came in may look: nil, or somewhere. -/
def Fm (v : Value) : Prop := v = .slice none 0 0 ∨ ∃ ad n c, v = .slice (some ad) n c
/-- append of fields that lie anywhere. -/
theorem wp_app_rd {B : Nat} {w : World} {g k cap0 : Nat} {l m : List Pk.Fd} {o : Oper} {a : Act} {K' : Act → World → Prop} {Q : Exit → Act → World → Prop} (s x : Operand)
    (ho : o.op = .call { callee := .builtin .append, args := #[s, x], argTypes := #[22, 22] })
    (hs : a.eval s = .slice (some ⟨g, 0, none⟩) k cap0) (hown : Own fdElem 46 B w (.slice (some ⟨g, 0, none⟩) k cap0) l) (hB : B ≤ w.heap.size) (vx : Value) (hx : a.eval x = vx) (hf : Fm vx) (hr : RdF w vx m) (hlen : l.length + m.length ≤ 1000000)
    (h : ∀ g' k' cap' w', Own fdElem 46 B w' (.slice (some ⟨g', 0, none⟩) k' cap') (l ++ m) → Below B w w' → K' (a.put o.dst (.slice (some ⟨g', 0, none⟩) k' cap')) w') : o.wp Try.prog a w K' Q := by
  have hbel : ∀ {w' : World}, w.grownBy w' (Value.ownBlock (.slice (some ⟨g, 0, none⟩) k cap0)) → Below B w w' := fun hg => (But.ofGrown hg).below hB (fun k hk e => by have := (hown.block k e).1; omega)
  obtain ⟨ad, cap, rfl, hc, hi⟩ := hr
  by_cases hm : m.length = 0
  · have hm0 : m = [] := List.eq_nil_of_length_eq_zero hm
    subst hm0
    rcases hf with e | ⟨ad', n, c, e⟩
    · rw [e] at hx
      obtain ⟨i, z, hi', hz, hsize, hzs, hby⟩ := fdST.info
      have hr := run_append_owned_none (P := Try.prog) w B 22 o.type 46 i fdElem.size Try.underlying22 hi' _ l.length (fdElem.cells l) hown
      unfold Oper.wp execOp
      simp only [ho, resolve, invoke, builtin, Sem.run_bind, Sem.run_pure, Result.andThen_ok, List.map_toArray, List.map_cons, List.map_nil, hs, hx, hr]
      exact h _ _ _ _ (by rw [List.append_nil]; exact hown) (Below.refl _ _)
    · injection e with e1 e2 e3
      subst e1
      obtain ⟨a', cap', e', hcap'⟩ := Own.slice hown
      injection e' with _ e5 e6
      subst e5 e6
      refine pwp_app_zero fdST s x ho g _ _ hs hown rfl ad' cap hx hcap' fun w' h1 h2 => h _ _ _ _ (by rw [List.append_nil]; exact h1) (hbel h2)
  · obtain ⟨_, g', d, rfl, hg, hcl⟩ := hi 0 (by omega)
    refine wp_app fdST s x ho hs hown hB g' d m.length cap m hx rfl (lies_fd hcl) (by omega) fun v' w' h1 h2 => ?_
    obtain ⟨g2, c2, rfl, _⟩ := Own.form h1 (by rw [List.length_append]; omega)
    exact h _ _ _ _ h1 (hbel h2)
theorem rdF_n {w : World} {v : Value} {l : List Pk.Fd} (h : RdF w v l) : ∀ f ∈ l, f.n < 2 ^ 64 := by
  obtain ⟨a, cap, rfl, hc, hi⟩ := h
  intro f hf
  obtain ⟨i, hil, rfl⟩ := List.getElem_of_mem hf
  exact (hi i hil).1
theorem own_empty (w : World) (B : Nat) (hB : B ≤ w.heap.size) : Own fdElem 46 B (w.alloc (.cells #[] 46)) (.slice (some ⟨w.heap.size, 0, none⟩) 0 0) [] :=
  ⟨rfl, .inr ⟨w.heap.size, 0, #[], rfl, hB, heap_alloc_new w _, Nat.le_refl _, Nat.zero_le _, rfl, rfl⟩⟩
theorem byte_r (c : UInt8) : (c = 114 ∧ (c.toNat : Int) = 114) ∨ (c ≠ 114 ∧ ((c.toNat : Int) == 114) = false) := by
  by_cases h : c = 114
  · subst h; exact .inl ⟨rfl, rfl⟩
  · refine .inr ⟨h, ?_⟩
    rw [beq_eq_false_iff_ne]
    intro e
    exact h (UInt8.toNat.inj (by have : (114 : UInt8).toNat = 114 := rfl; omega))
set_option maxRecDepth 100000 in
set_option maxHeartbeats 8000000 in
theorem packJoins_any (k0 k1 : ByteArray) (u v : Value) (l m : List Pk.Fd) (w : World) (hfu : Fm u) (hfv : Fm v) (hrl : RdF w u l) (hrm : RdF w v m) (hll : l.length ≤ 9223372036854775807) (hlm : m.length ≤ 9223372036854775807) :
    Calls Try.prog 7 #[.agg #[.string k0, .string k1], u, v] w fun e w' => e = .returned (.bool true) ∧ Below w.heap.size w w' := by
  have HAW := Lib.hid (fun W => pkawake_any W)
  have HRl := Lib.hid hrl
  have HRm := Lib.hid hrm
  have HFM := Lib.hid (And.intro hfu hfv)
  obtain ⟨W0, hW0⟩ : ∃ W0, W0 = w.alloc (.cells #[.string k0, .string k1] 34) := ⟨_, rfl⟩
  have HB0 := Lib.hid (show Below w.heap.size w W0 by rw [hW0]; exact (Below.refl _ _).alloc (Nat.le_refl _) _)
  have HK0 := Lib.hid (show Blk W0 w.heap.size 34 [.string k0, .string k1] by rw [hW0]; exact Blk.new w #[.string k0, .string k1] 34)
  clear hrl hrm hfu hfv
  by_cases hk0 : k0.size ≤ 10
  · have hk0I : ¬ (k0.size : Int) > 10 := by omega
    by_cases hk1 : k1.size ≤ 10
    · have hk1I : ¬ (k1.size : Int) > 10 := by omega
      cases hfl : Pk.few l with
      | false =>
        have HFl := Lib.hid (show ∀ W, RdF W u l → Calls Try.prog 9 #[u] W fun e w' => e = .returned (.bool false) ∧ Below W.heap.size W w' from fun W h => by have := few_any u l W h; rw [hfl] at this; exact this)
        go_enter Try.func7, Try.ntmps7
        go_wp2_with fail
        rw [← hW0]
        refine (HAW.out _).mono ?_
        rintro e w1 ⟨rfl, hb1⟩
        have HB1 := Lib.hid (HB0.out.trans (hb1.mono HB0.out.size))
        have HK1 := Lib.hid (HK0.out.below hb1 HK0.out.lt)
        have c0 := HK1.out.cell (j := 0) rfl
        have c1 := HK1.out.cell (j := 1) rfl
        clear hb1 hW0
        go_wp2_with fail
        refine (HFl.out _ (HRl.out.below HB1.out)).mono ?_
        rintro e w2 ⟨rfl, hb2⟩
        have HB2 := Lib.hid (HB1.out.trans (hb2.mono HB1.out.size))
        have HK2 := Lib.hid (HK1.out.below hb2 HK1.out.lt)
        clear hb2 c0 c1
        go_wp2
        go_ret
        exact ⟨rfl, HB2.out⟩
      | true =>
        have HFl := Lib.hid (show ∀ W, RdF W u l → Calls Try.prog 9 #[u] W fun e w' => e = .returned (.bool true) ∧ Below W.heap.size W w' from fun W h => by have := few_any u l W h; rw [hfl] at this; exact this)
        cases hfm : Pk.few m with
        | false =>
          have HFm := Lib.hid (show ∀ W, RdF W v m → Calls Try.prog 9 #[v] W fun e w' => e = .returned (.bool false) ∧ Below W.heap.size W w' from fun W h => by have := few_any v m W h; rw [hfm] at this; exact this)
          go_enter Try.func7, Try.ntmps7
          go_wp2_with fail
          rw [← hW0]
          refine (HAW.out _).mono ?_
          rintro e w1 ⟨rfl, hb1⟩
          have HB1 := Lib.hid (HB0.out.trans (hb1.mono HB0.out.size))
          have HK1 := Lib.hid (HK0.out.below hb1 HK0.out.lt)
          have c0 := HK1.out.cell (j := 0) rfl
          have c1 := HK1.out.cell (j := 1) rfl
          clear hb1 hW0
          go_wp2_with fail
          refine (HFl.out _ (HRl.out.below HB1.out)).mono ?_
          rintro e w2 ⟨rfl, hb2⟩
          have HB2 := Lib.hid (HB1.out.trans (hb2.mono HB1.out.size))
          have HK2 := Lib.hid (HK1.out.below hb2 HK1.out.lt)
          clear hb2 c0 c1
          go_wp2_with fail
          refine (HFm.out _ (HRm.out.below HB2.out)).mono ?_
          rintro e w3 ⟨rfl, hb3⟩
          have HB3 := Lib.hid (HB2.out.trans (hb3.mono HB2.out.size))
          have HK3 := Lib.hid (HK2.out.below hb3 HK2.out.lt)
          have c0 := HK3.out.cell (j := 0) rfl
          clear hb3
          go_wp2
          go_ret
          exact ⟨rfl, HB3.out⟩
        | true =>
          have HFm := Lib.hid (show ∀ W, RdF W v m → Calls Try.prog 9 #[v] W fun e w' => e = .returned (.bool true) ∧ Below W.heap.size W w' from fun W h => by have := few_any v m W h; rw [hfm] at this; exact this)
          obtain ⟨hl20, hl300⟩ := few_le hfl
          obtain ⟨hm20, hm300⟩ := few_le hfm
          have hsl : ∀ i (hi : i < l.length), l[i].s.length ≤ 10000 := fun i hi => Nat.le_trans (hl300 i hi) (by decide)
          have hsm : ∀ i (hi : i < m.length), m[i].s.length ≤ 10000 := fun i hi => Nat.le_trans (hm300 i hi) (by decide)
          have HWl := Lib.hid (fun W h => write_any k0 u l W (by omega) hll h hsl)
          have HWm := Lib.hid (fun W h => write_any k1 v m W (by omega) hlm h hsm)
          cases hwl : Pk.write k0.data.toList l with
          | none =>
            rw [hwl] at HWl
            unfold wres at HWl
            simp only at HWl
            cases hwm : Pk.write k1.data.toList m with
            | none =>
              rw [hwm] at HWm
              unfold wres at HWm
              simp only at HWm
              clear hfl hfm hl20 hm20 hl300 hm300 hsl hsm hwl hwm hll hlm hk0 hk1
              go_enter Try.func7, Try.ntmps7
              go_wp2_with fail
              rw [← hW0]
              refine (HAW.out _).mono ?_
              rintro e w1 ⟨rfl, hb1⟩
              have HB1 := Lib.hid (HB0.out.trans (hb1.mono HB0.out.size))
              have HK1 := Lib.hid (HK0.out.below hb1 HK0.out.lt)
              have c0 := HK1.out.cell (j := 0) rfl
              have c1 := HK1.out.cell (j := 1) rfl
              clear hb1 hW0
              go_wp2_with fail
              refine (HFl.out _ (HRl.out.below HB1.out)).mono ?_
              rintro e w2 ⟨rfl, hb2⟩
              have HB2 := Lib.hid (HB1.out.trans (hb2.mono HB1.out.size))
              have HK2 := Lib.hid (HK1.out.below hb2 HK1.out.lt)
              clear hb2 c0 c1
              go_wp2_with fail
              refine (HFm.out _ (HRm.out.below HB2.out)).mono ?_
              rintro e w3 ⟨rfl, hb3⟩
              have HB3 := Lib.hid (HB2.out.trans (hb3.mono HB2.out.size))
              have HK3 := Lib.hid (HK2.out.below hb3 HK2.out.lt)
              have c0 := HK3.out.cell (j := 0) rfl
              clear hb3
              go_wp2_with fail
              refine (HWl.out _ (HRl.out.below HB3.out)).mono ?_
              rintro e w4 ⟨rfl, hb4⟩
              have HB4 := Lib.hid (HB3.out.trans (hb4.mono HB3.out.size))
              have HK4 := Lib.hid (HK3.out.below hb4 HK3.out.lt)
              clear hb4 c0
              have c1 := HK4.out.cell (j := 1) rfl
              go_wp2_with fail
              refine (HWm.out _ (HRm.out.below HB4.out)).mono ?_
              rintro e w5 ⟨rfl, hb5⟩
              have HB5 := Lib.hid (HB4.out.trans (hb5.mono HB4.out.size))
              have HK5 := Lib.hid (HK4.out.below hb5 HK4.out.lt)
              clear hb5 c1
              have c0 := HK5.out.cell (j := 0) rfl
              have c1 := HK5.out.cell (j := 1) rfl
              go_wp2
              go_ret
              exact ⟨rfl, HB5.out⟩
            | some t2 =>
              rw [hwm] at HWm
              unfold wres at HWm
              simp only at HWm
              generalize bs t2 = T2 at *
              clear hfl hfm hl20 hm20 hl300 hm300 hsl hsm hwl hwm hll hlm hk0 hk1
              go_enter Try.func7, Try.ntmps7
              go_wp2_with fail
              rw [← hW0]
              refine (HAW.out _).mono ?_
              rintro e w1 ⟨rfl, hb1⟩
              have HB1 := Lib.hid (HB0.out.trans (hb1.mono HB0.out.size))
              have HK1 := Lib.hid (HK0.out.below hb1 HK0.out.lt)
              have c0 := HK1.out.cell (j := 0) rfl
              have c1 := HK1.out.cell (j := 1) rfl
              clear hb1 hW0
              go_wp2_with fail
              refine (HFl.out _ (HRl.out.below HB1.out)).mono ?_
              rintro e w2 ⟨rfl, hb2⟩
              have HB2 := Lib.hid (HB1.out.trans (hb2.mono HB1.out.size))
              have HK2 := Lib.hid (HK1.out.below hb2 HK1.out.lt)
              clear hb2 c0 c1
              go_wp2_with fail
              refine (HFm.out _ (HRm.out.below HB2.out)).mono ?_
              rintro e w3 ⟨rfl, hb3⟩
              have HB3 := Lib.hid (HB2.out.trans (hb3.mono HB2.out.size))
              have HK3 := Lib.hid (HK2.out.below hb3 HK2.out.lt)
              have c0 := HK3.out.cell (j := 0) rfl
              clear hb3
              go_wp2_with fail
              refine (HWl.out _ (HRl.out.below HB3.out)).mono ?_
              rintro e w4 ⟨rfl, hb4⟩
              have HB4 := Lib.hid (HB3.out.trans (hb4.mono HB3.out.size))
              have HK4 := Lib.hid (HK3.out.below hb4 HK3.out.lt)
              clear hb4 c0
              have c1 := HK4.out.cell (j := 1) rfl
              go_wp2_with fail
              refine (HWm.out _ (HRm.out.below HB4.out)).mono ?_
              rintro e w5 ⟨rfl, hb5⟩
              have HB5 := Lib.hid (HB4.out.trans (hb5.mono HB4.out.size))
              have HK5 := Lib.hid (HK4.out.below hb5 HK4.out.lt)
              clear hb5 c1
              have c0 := HK5.out.cell (j := 0) rfl
              have c1 := HK5.out.cell (j := 1) rfl
              go_wp2
              go_ret
              exact ⟨rfl, HB5.out⟩
          | some t1 =>
            rw [hwl] at HWl
            unfold wres at HWl
            simp only at HWl
            cases hwm : Pk.write k1.data.toList m with
            | none =>
              rw [hwm] at HWm
              unfold wres at HWm
              simp only at HWm
              generalize bs t1 = T1 at *
              clear hfl hfm hl20 hm20 hl300 hm300 hsl hsm hwl hwm hll hlm hk0 hk1
              go_enter Try.func7, Try.ntmps7
              go_wp2_with fail
              rw [← hW0]
              refine (HAW.out _).mono ?_
              rintro e w1 ⟨rfl, hb1⟩
              have HB1 := Lib.hid (HB0.out.trans (hb1.mono HB0.out.size))
              have HK1 := Lib.hid (HK0.out.below hb1 HK0.out.lt)
              have c0 := HK1.out.cell (j := 0) rfl
              have c1 := HK1.out.cell (j := 1) rfl
              clear hb1 hW0
              go_wp2_with fail
              refine (HFl.out _ (HRl.out.below HB1.out)).mono ?_
              rintro e w2 ⟨rfl, hb2⟩
              have HB2 := Lib.hid (HB1.out.trans (hb2.mono HB1.out.size))
              have HK2 := Lib.hid (HK1.out.below hb2 HK1.out.lt)
              clear hb2 c0 c1
              go_wp2_with fail
              refine (HFm.out _ (HRm.out.below HB2.out)).mono ?_
              rintro e w3 ⟨rfl, hb3⟩
              have HB3 := Lib.hid (HB2.out.trans (hb3.mono HB2.out.size))
              have HK3 := Lib.hid (HK2.out.below hb3 HK2.out.lt)
              have c0 := HK3.out.cell (j := 0) rfl
              clear hb3
              go_wp2_with fail
              refine (HWl.out _ (HRl.out.below HB3.out)).mono ?_
              rintro e w4 ⟨rfl, hb4⟩
              have HB4 := Lib.hid (HB3.out.trans (hb4.mono HB3.out.size))
              have HK4 := Lib.hid (HK3.out.below hb4 HK3.out.lt)
              clear hb4 c0
              have c1 := HK4.out.cell (j := 1) rfl
              go_wp2_with fail
              refine (HWm.out _ (HRm.out.below HB4.out)).mono ?_
              rintro e w5 ⟨rfl, hb5⟩
              have HB5 := Lib.hid (HB4.out.trans (hb5.mono HB4.out.size))
              have HK5 := Lib.hid (HK4.out.below hb5 HK4.out.lt)
              clear hb5 c1
              have c0 := HK5.out.cell (j := 0) rfl
              have c1 := HK5.out.cell (j := 1) rfl
              go_wp2
              go_ret
              exact ⟨rfl, HB5.out⟩
            | some t2 =>
              rw [hwm] at HWm
              unfold wres at HWm
              simp only at HWm
              have ht1 := write_len hwl hsl hl20
              have ht2 := write_len hwm hsm hm20
              obtain ⟨T1, hT1⟩ : ∃ T1, T1 = bs t1 := ⟨_, rfl⟩
              obtain ⟨T2, hT2⟩ : ∃ T2, T2 = bs t2 := ⟨_, rfl⟩
              have hT : T1 ++ T2 = bs (t1 ++ t2) := by rw [hT1, hT2, bs_append]
              have hT1s : T1.size ≤ 300000 := by rw [hT1, bs_size]; omega
              have hT2s : T2.size ≤ 300000 := by rw [hT2, bs_size]; omega
              rw [← hT1] at HWl
              rw [← hT2] at HWm
              have HNL := Lib.hid (rdF_n HRl.out)
              have HNM := Lib.hid (rdF_n HRm.out)
              have HKK := Lib.hid (show (k0 ++ k1).data.toList = k0.data.toList ++ k1.data.toList by rw [ByteArray.data_append, Array.toList_append])
              have HLM := Lib.hid (show (∀ f ∈ l ++ m, f.n < 2 ^ 64) ∧ (∀ i (h : i < (l ++ m).length), (l ++ m)[i].s.length ≤ 10000) ∧ (l ++ m).length ≤ 40 from ⟨fun f hf => by
                  rcases List.mem_append.1 hf with h | h
                  · exact HNL.out f h
                  · exact HNM.out f h, fun i hi => by
                  rw [List.getElem_append]
                  split
                  · exact hsl _ _
                  · exact hsm _ _, by rw [List.length_append]; omega⟩)
              have HWJ := Lib.hid (show (∀ c ∈ k0.data.toList, c ≠ 114) → ∀ W z, Own fdElem 46 0 W z (l ++ m) → Calls Try.prog 10 #[.string (k0 ++ k1), z] W fun e w' => e = .returned (.tuple #[.string (T1 ++ T2), .bool true]) ∧ Below W.heap.size W w' from fun hn W z h => by
                have := write_any (k0 ++ k1) z (l ++ m) W (by rw [ByteArray.size_append]; omega) (by have := HLM.out.2.2; omega) (rdF_own h HLM.out.1) HLM.out.2.1
                rw [HKK.out, Pk.write_join hwl hwm hn] at this
                rw [hT]
                exact this)
              have HRJ := Lib.hid (show (∀ c ∈ k0.data.toList, c ≠ 114) → ∀ W, Calls Try.prog 14 #[.string (k0 ++ k1), .string (T1 ++ T2)] W fun e w' => ReadTo (some (l ++ m)) W.heap.size e w' ∧ Below W.heap.size W w' from fun hn W => by
                have := read_any (k0 ++ k1) (t1 ++ t2) W (by rw [ByteArray.size_append]; omega) (by rw [List.length_append]; omega)
                rw [HKK.out, Pk.read_write (Pk.write_join hwl hwm hn)] at this
                rw [hT]
                exact this)
              have HSJ := Lib.hid (show ∀ W z z', Own fdElem 46 0 W z (l ++ m) → Own fdElem 46 0 W z' (l ++ m) → Calls Try.prog 15 #[z, z'] W fun e w' => e = .returned (.bool true) ∧ Below W.heap.size W w' from fun W z z' h h' => by
                have := same_any z z' (l ++ m) (l ++ m) W (rdF_own h HLM.out.1) (rdF_own h' HLM.out.1) (by have := HLM.out.2.2; omega)
                rw [decide_eq_true rfl] at this
                exact this)
              have HSZ := Lib.hid (show k0.size + k1.size ≤ 20 ∧ T1.size + T2.size ≤ 600000 ∧ l.length + m.length ≤ 40 by rw [← List.length_append]; exact ⟨by omega, by omega, HLM.out.2.2⟩)
              have hk0J : (k0.size : Int) ≤ 10 := by omega
              clear hfl hfm hl20 hm20 hl300 hm300 hsl hsm hwl hwm hll hlm hk1 ht1 ht2 hT hT1 hT2 hT1s hT2s
              go_enter Try.func7, Try.ntmps7
              go_wp2_with fail
              rw [← hW0]
              refine (HAW.out _).mono ?_
              rintro e w1 ⟨rfl, hb1⟩
              have HB1 := Lib.hid (HB0.out.trans (hb1.mono HB0.out.size))
              have HK1 := Lib.hid (HK0.out.below hb1 HK0.out.lt)
              have c0 := HK1.out.cell (j := 0) rfl
              have c1 := HK1.out.cell (j := 1) rfl
              clear hb1 hW0
              go_wp2_with fail
              refine (HFl.out _ (HRl.out.below HB1.out)).mono ?_
              rintro e w2 ⟨rfl, hb2⟩
              have HB2 := Lib.hid (HB1.out.trans (hb2.mono HB1.out.size))
              have HK2 := Lib.hid (HK1.out.below hb2 HK1.out.lt)
              clear hb2 c0 c1
              go_wp2_with fail
              refine (HFm.out _ (HRm.out.below HB2.out)).mono ?_
              rintro e w3 ⟨rfl, hb3⟩
              have HB3 := Lib.hid (HB2.out.trans (hb3.mono HB2.out.size))
              have HK3 := Lib.hid (HK2.out.below hb3 HK2.out.lt)
              have c0 := HK3.out.cell (j := 0) rfl
              clear hb3
              go_wp2_with fail
              refine (HWl.out _ (HRl.out.below HB3.out)).mono ?_
              rintro e w4 ⟨rfl, hb4⟩
              have HB4 := Lib.hid (HB3.out.trans (hb4.mono HB3.out.size))
              have HK4 := Lib.hid (HK3.out.below hb4 HK3.out.lt)
              clear hb4 c0
              have c1 := HK4.out.cell (j := 1) rfl
              go_wp2_with fail
              refine (HWm.out _ (HRm.out.below HB4.out)).mono ?_
              rintro e w5 ⟨rfl, hb5⟩
              have HB5 := Lib.hid (HB4.out.trans (hb5.mono HB4.out.size))
              have HK5 := Lib.hid (HK4.out.below hb5 HK4.out.lt)
              clear hb5 c1
              have c0 := HK5.out.cell (j := 0) rfl
              have c1 := HK5.out.cell (j := 1) rfl
              go_wp2_with fail
              go_loop [11] (fun i => ∃ k : Nat, k ≤ k0.size ∧ i = .int .i64 k ∧ Hid (∀ c ∈ k0.data.toList.take k, c ≠ 114)) (fun i => k0.size - (RowKit.intOf i).toNat)
              case atStart => exact ⟨0, Nat.zero_le _, rfl, Lib.hid (fun c hc => by simp at hc)⟩
              case round =>
                obtain ⟨k, hk, rfl, HA⟩ := hrel
                by_cases hlt : k < k0.size
                · have hltI : (k : Int) < k0.size := by omega
                  have HT := Lib.hid (take_snoc k0 k hlt)
                  rcases byte_r k0[k] with ⟨h0, h⟩ | ⟨h0, h⟩
                  · go_wp2
                    go_ret
                    exact ⟨rfl, HB5.out⟩
                  · have HA2 := Lib.hid (show ∀ c ∈ k0.data.toList.take (k + 1), c ≠ 114 by
                      rw [HT.out]
                      intro c hc
                      rcases List.mem_append.1 hc with hc | hc
                      · exact HA.out c hc
                      · rw [List.mem_singleton.1 hc]; exact h0)
                    clear h0
                    go_wp2
                    go_round
                    case rel => exact ⟨k + 1, by omega, by go_num, HA2⟩
                    case measure => simp [RowKit.intOf]; omega
                · have hke : k = k0.size := by omega
                  have HN := Lib.hid (show ∀ c ∈ k0.data.toList, c ≠ 114 by
                    have := HA.out
                    rwa [List.take_of_length_le (by rw [Array.length_toList, hke]; exact Nat.le_refl _)] at this)
                  subst hke
                  have hs1 : ¬ (9223372036854775807 < k0.size + k1.size) := by have := HSZ.out; omega
                  go_wp2_with (refine wp_region_held_drew (S := (fun X => X.cell? ⟨w.heap.size, 0, none⟩ = some (.string k0) ∧ X.cell? ⟨w.heap.size, 1, none⟩ = some (.string k1))) (by kernel_rfl) ?_ (fun hS' => ?_); focus skip; rotate_left; refine Hid.out ?_)
                  refine Lib.hid ?_
                  · first | trivial | exact ⟨c0, c1⟩
                  refine wpAnyH_take (i := 0) (v := ?_) (by simp only [List.getElem?_toArray, List.getElem?_cons_zero]; exact rfl) (by kernel_rfl) (by kernel_rfl) (by kernel_rfl) (by exact fun _ _ _ h => h) (Or.inl ⟨by rfl, ?_⟩) hS' ?_
                  rotate_left
                  · intro w hSw; obtain ⟨s0, s1⟩ := hSw; go_simp; try with_reducible rfl
                  refine wpAnyH_take (i := 1) (v := ?_) (by simp only [List.getElem?_toArray, List.getElem?_cons_succ, List.getElem?_cons_zero]; exact rfl) (by kernel_rfl) (by kernel_rfl) (by kernel_rfl) (by exact fun _ _ _ h => h) (Or.inl ⟨by rfl, ?_⟩) hS' ?_
                  rotate_left
                  · intro w hSw; obtain ⟨s0, s1⟩ := hSw; go_simp; try with_reducible rfl
                  refine wpAnyH_take (i := 2) (v := ?_) (by simp only [List.getElem?_toArray, List.getElem?_cons_succ, List.getElem?_cons_zero]; exact rfl) (by kernel_rfl) (by kernel_rfl) (by kernel_rfl) (by exact fun _ _ _ h => h) (Or.inl ⟨by rfl, ?_⟩) hS' ?_
                  rotate_left
                  · intro w hSw; obtain ⟨s0, s1⟩ := hSw; go_simp; try with_reducible rfl
                  refine wpAnyH_take (i := 3) (v := ?_) (by simp only [List.getElem?_toArray, List.getElem?_cons_succ, List.getElem?_cons_zero]; exact rfl) (by kernel_rfl) (by kernel_rfl) (by kernel_rfl) (by exact fun _ _ _ h => h) (Or.inl ⟨by rfl, ?_⟩) hS' ?_
                  rotate_left
                  · intro w hSw; obtain ⟨s0, s1⟩ := hSw; go_simp; try with_reducible rfl
                  try simp only [Act.put, List.setIfInBounds_toArray, List.set_cons_succ, List.set_cons_zero]
                  refine wpAnyH_take (i := 4) (v := ?_) (by simp only [List.getElem?_toArray, List.getElem?_cons_succ, List.getElem?_cons_zero]; exact rfl) (by kernel_rfl) (by kernel_rfl) (by kernel_rfl) (by exact fun _ _ _ h => h) (Or.inl ⟨by rfl, ?_⟩) hS' ?_
                  rotate_left
                  · intro w hSw; obtain ⟨s0, s1⟩ := hSw; go_simp; try with_reducible rfl
                  refine wpAnyH_take (i := 6) (v := ?_) (by simp only [List.getElem?_toArray, List.getElem?_cons_succ, List.getElem?_cons_zero]; exact rfl) (by kernel_rfl) (by kernel_rfl) (by kernel_rfl) (by exact fun _ _ _ h => h) (Or.inl ⟨by rfl, ?_⟩) hS' ?_
                  rotate_left
                  · intro w hSw; obtain ⟨s0, s1⟩ := hSw; go_simp; try with_reducible rfl
                  refine wpAnyH_take (i := 8) (v := ?_) (by simp only [List.getElem?_toArray, List.getElem?_cons_succ, List.getElem?_cons_zero]; exact rfl) (by kernel_rfl) (by kernel_rfl) (by kernel_rfl) (by exact fun _ _ _ h => h) (Or.inl ⟨by rfl, ?_⟩) hS' ?_
                  rotate_left
                  · intro w hSw; obtain ⟨s0, s1⟩ := hSw; go_simp; try with_reducible rfl
                  try simp only [Act.put, List.setIfInBounds_toArray, List.set_cons_succ, List.set_cons_zero]
                  refine wpAnyH_ready (rs := [5]) (by kernel_rfl) (by simp) ?_
                  refine AllReadyH.cons rfl (fun K hK => ?_) AllReadyH.nil
                  go_simp
                  have HL5 := Lib.hid (show w.heap.size + 1 ≤ w5.heap.size from HK5.out.lt)
                  have HB6 := Lib.hid (HB5.out.drew.alloc HB5.out.size (.cells #[] 46))
                  have HK6 := Lib.hid (HK5.out.drew.alloc (.cells #[] 46))
                  refine hK.out _ _ (by first | trivial | exact ⟨HK6.out.cell (j := 0) rfl, HK6.out.cell (j := 1) rfl⟩) (fun hS' => ?_); clear hK K
                  refine wpAnyH_ready (rs := [7]) (by kernel_rfl) (by simp) ?_
                  refine AllReadyH.cons rfl (fun K hK => ?_) AllReadyH.nil
                  rw [if_pos (by rfl)]
                  refine wp_app_rd (B := w.heap.size + 1) _ _ rfl (by rfl) (own_empty w5.drew (w.heap.size + 1) HL5.out) (by have := HL5.out; simp; omega) u rfl HFM.out.1 (HRl.out.below HB6.out) (by have := HSZ.out; simp; omega) ?_
                  intro g7 k7 c7 w7 ho7 hb7
                  rw [List.nil_append] at ho7
                  have HO7 := Lib.hid ho7
                  have HB7 := Lib.hid (HB6.out.trans (hb7.mono (Nat.le_succ _)))
                  have HK7 := Lib.hid (HK6.out.below hb7 (Nat.lt_succ_self _))
                  clear ho7 hb7
                  refine hK.out _ _ (by first | trivial | exact ⟨HK7.out.cell (j := 0) rfl, HK7.out.cell (j := 1) rfl⟩) (fun hS' => ?_); clear hK K
                  refine wpAnyH_ready (rs := [9]) (by kernel_rfl) (by simp) ?_
                  refine AllReadyH.cons rfl (fun K hK => ?_) AllReadyH.nil
                  rw [if_pos (by rfl)]
                  refine wp_app_rd (B := w.heap.size + 1) _ _ rfl (by rfl) HO7.out (HK7.out.lt) v rfl HFM.out.2 (HRm.out.below HB7.out) (by have := HSZ.out; omega) ?_
                  intro g8 k8 c8 w8 ho8 hb8
                  have HO8 := Lib.hid ho8
                  have HB8 := Lib.hid (HB7.out.trans (hb8.mono (Nat.le_succ _)))
                  have HK8 := Lib.hid (HK7.out.below hb8 (Nat.lt_succ_self _))
                  clear ho8 hb8
                  refine hK.out _ _ (by first | trivial | exact ⟨HK8.out.cell (j := 0) rfl, HK8.out.cell (j := 1) rfl⟩) (fun hS' => ?_); clear hK K
                  refine wpAnyH_ready (rs := [10]) (by kernel_rfl) (by simp) ?_
                  refine AllReadyH.cons rfl (fun K hK => ?_) AllReadyH.nil
                  go_simp
                  refine (HWJ.out HN.out _ _ (HO8.out.mono (Nat.zero_le _))).mono ?_
                  rintro e w9 ⟨rfl, hb9⟩
                  have HB9 := Lib.hid (HB8.out.trans (hb9.mono HB8.out.size))
                  have HK9 := Lib.hid (HK8.out.below hb9 HK8.out.lt)
                  clear hb9
                  refine hK.out _ _ (by first | trivial | exact ⟨HK9.out.cell (j := 0) rfl, HK9.out.cell (j := 1) rfl⟩) (fun hS' => ?_); clear hK K
                  refine wpAnyH_take (i := 11) (v := ?_) (by simp only [List.getElem?_toArray, List.getElem?_cons_succ, List.getElem?_cons_zero]; exact rfl) (by kernel_rfl) (by kernel_rfl) (by kernel_rfl) (by exact fun _ _ _ h => h) (Or.inl ⟨by rfl, ?_⟩) hS' ?_
                  rotate_left
                  · intro w hSw; obtain ⟨s0, s1⟩ := hSw; go_simp; try with_reducible rfl
                  refine wpAnyH_take (i := 12) (v := ?_) (by simp only [List.getElem?_toArray, List.getElem?_cons_succ, List.getElem?_cons_zero]; exact rfl) (by kernel_rfl) (by kernel_rfl) (by kernel_rfl) (by exact fun _ _ _ h => h) (Or.inl ⟨by rfl, ?_⟩) hS' ?_
                  rotate_left
                  · intro w hSw; obtain ⟨s0, s1⟩ := hSw; go_simp; try with_reducible rfl
                  refine wpAnyH_take (i := 13) (v := ?_) (by simp only [List.getElem?_toArray, List.getElem?_cons_succ, List.getElem?_cons_zero]; exact rfl) (by kernel_rfl) (by kernel_rfl) (by kernel_rfl) (by exact fun _ _ _ h => h) (Or.inl ⟨by rfl, ?_⟩) hS' ?_
                  rotate_left
                  · intro w hSw; obtain ⟨s0, s1⟩ := hSw; go_simp; try with_reducible rfl
                  refine wpAnyH_take (i := 14) (v := ?_) (by simp only [List.getElem?_toArray, List.getElem?_cons_succ, List.getElem?_cons_zero]; exact rfl) (by kernel_rfl) (by kernel_rfl) (by kernel_rfl) (by exact fun _ _ _ h => h) (Or.inl ⟨by rfl, ?_⟩) hS' ?_
                  rotate_left
                  · intro w hSw; obtain ⟨s0, s1⟩ := hSw; go_simp; try with_reducible rfl
                  refine wpAnyH_take (i := 15) (v := ?_) (by simp only [List.getElem?_toArray, List.getElem?_cons_succ, List.getElem?_cons_zero]; exact rfl) (by kernel_rfl) (by kernel_rfl) (by kernel_rfl) (by exact fun _ _ _ h => h) (Or.inl ⟨by rfl, ?_⟩) hS' ?_
                  rotate_left
                  · intro w hSw; obtain ⟨s0, s1⟩ := hSw; go_simp; try with_reducible rfl
                  refine wpAnyH_done (by kernel_rfl) ?_ _
                  have HL9 := Lib.hid (show w.heap.size + 1 ≤ w9.heap.size from HK9.out.lt)
                  have c0 := HK9.out.cell (j := 0) rfl
                  have c1 := HK9.out.cell (j := 1) rfl
                  have hs2 : k0.size + k1.size ≤ 9223372036854775807 := by have := HSZ.out; omega
                  have hs3 : T1.size + T2.size ≤ 9223372036854775807 := by have := HSZ.out; omega
                  go_wp2_with fail
                  refine (HRJ.out HN.out _).mono ?_
                  rintro e w10 ⟨⟨v10, rfl, ho10⟩, hb10⟩
                  have HB10 := Lib.hid (HB9.out.trans (hb10.mono HB9.out.size))
                  have HK10 := Lib.hid (HK9.out.below hb10 HK9.out.lt)
                  have HO10 := Lib.hid (show Own fdElem 46 (w.heap.size + 1) w10 v10 (l ++ m) from ho10.mono HL9.out)
                  have HL10 := Lib.hid (show w.heap.size + 1 ≤ w10.heap.size from HK10.out.lt)
                  clear hb10 ho10 c0 c1
                  go_wp2_with (at_builtin; refine Hid.out ?_)
                  refine Lib.hid ?_
                  refine BigFrame.wpList_want (by rfl) fun K hK => ?_
                  refine wp_app_rd (B := w10.heap.size) _ _ rfl (by rfl) (own_empty w10 w10.heap.size (Nat.le_refl _)) (by simp) u rfl HFM.out.1 (HRl.out.below (HB10.out.alloc HB10.out.size _)) (by have := HSZ.out; simp; omega) ?_
                  intro g11 k11 c11 w11 ho11 hb11
                  rw [List.nil_append] at ho11
                  have hbb := ((Below.refl w10.heap.size w10).alloc (Nat.le_refl _) (.cells #[] 46)).trans hb11
                  have HX11 := Lib.hid hbb
                  have HB11 := Lib.hid (HB10.out.trans (hbb.mono HB10.out.size))
                  have HO11 := Lib.hid ho11
                  have HP11 := Lib.hid (HO10.out.below hbb (Nat.le_refl _))
                  refine hK _ _ ?_
                  clear hK K ho11 hb11 hbb
                  go_wp2_with (at_builtin; refine Hid.out ?_)
                  refine Lib.hid ?_
                  refine BigFrame.wpList_want (by rfl) fun K hK => ?_
                  refine wp_app_rd (B := w10.heap.size) _ _ rfl (by rfl) HO11.out HX11.out.size v rfl HFM.out.2 (HRm.out.below HB11.out) (by have := HSZ.out; omega) ?_
                  intro g12 k12 c12 w12 ho12 hb12
                  have HB12 := Lib.hid (HB11.out.trans (hb12.mono HB10.out.size))
                  have HO12 := Lib.hid (ho12.mono (Nat.zero_le _))
                  have HP12 := Lib.hid (show Own fdElem 46 0 w12 v10 (l ++ m) from ((HO10.out.below (HX11.out.trans hb12) (Nat.le_refl _))).mono (Nat.zero_le _))
                  refine hK _ _ ?_
                  clear hK K ho12 hb12
                  go_wp2_with fail
                  refine (HSJ.out _ _ _ HP12.out HO12.out).mono ?_
                  rintro e w13 ⟨rfl, hb13⟩
                  have HB13 := Lib.hid (HB12.out.trans (hb13.mono HB12.out.size))
                  clear hb13
                  go_wp2
                  go_ret
                  exact ⟨rfl, HB13.out⟩
    · have hk1I : (k1.size : Int) > 10 := by omega
      go_enter Try.func7, Try.ntmps7
      go_wp2_with fail
      rw [← hW0]
      refine (HAW.out _).mono ?_
      rintro e w1 ⟨rfl, hb1⟩
      have HB1 := Lib.hid (HB0.out.trans (hb1.mono HB0.out.size))
      have HK1 := Lib.hid (HK0.out.below hb1 HK0.out.lt)
      have c0 := HK1.out.cell (j := 0) rfl
      have c1 := HK1.out.cell (j := 1) rfl
      clear hb1 hW0
      go_wp2
      go_ret
      exact ⟨rfl, HB1.out⟩
  · have hk0I : (k0.size : Int) > 10 := by omega
    go_enter Try.func7, Try.ntmps7
    go_wp2_with fail
    rw [← hW0]
    refine (HAW.out _).mono ?_
    rintro e w1 ⟨rfl, hb1⟩
    have HB1 := Lib.hid (HB0.out.trans (hb1.mono HB0.out.size))
    have HK1 := Lib.hid (HK0.out.below hb1 HK0.out.lt)
    have c0 := HK1.out.cell (j := 0) rfl
    have c1 := HK1.out.cell (j := 1) rfl
    clear hb1 hW0
    go_wp2
    go_ret
    exact ⟨rfl, HB1.out⟩
end Go.Proofs.Ytgdpdkbhjekjeaa
