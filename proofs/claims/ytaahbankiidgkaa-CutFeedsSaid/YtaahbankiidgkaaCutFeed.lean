/- Walk of a cutter's Feed: two labels. -/
import Derived.Test.YtaahbankiidgkaaCutWalk
namespace Go.Proofs.Ytaahbankiidgkaa
open Go.RowKit Fx

section
variable {P : Program} {a : Act} {w : World} {Q : Exit → Act → World → Prop}
/-- By a goto to label 0 with J0, to label 1 with J1, of a measure below m; else as Q. -/
def Exit.two (J0 J1 : Act → World → Prop) (μ : Act → Nat) (m : Nat) (Q : Exit → Act → World → Prop) : Exit → Act → World → Prop
  | .goto l, a, w => (l = 0 ∧ J0 a w ∧ 2 * μ a < m) ∨ (l = 1 ∧ J1 a w ∧ 2 * μ a + 1 < m)
  | e, a, w => Q e a w

/-- A scope with two labels to which the run jumps back. -/
theorem wp_scope_two {c r0 r1 : Code} (J0 J1 : Act → World → Prop) (μ : Act → Nat) (M : Nat) (f0 : findLabel c 0 = some (Code.skip.seq r0)) (f1 : findLabel c 1 = some (Code.skip.seq r1))
    (p1 : ∀ m a w, J1 a w → 2 * μ a + 1 ≤ m → r1.wp P (Exit.two J0 J1 μ m Q) a w)
    (p0 : (∀ m a w, J1 a w → 2 * μ a + 1 ≤ m → r1.wp P (Exit.two J0 J1 μ m Q) a w) → ∀ m a w, J0 a w → 2 * μ a ≤ m → r0.wp P (Exit.two J0 J1 μ m Q) a w)
    (first : (∀ m a w, J0 a w → 2 * μ a ≤ m → r0.wp P (Exit.two J0 J1 μ m Q) a w) → c.wp P (Exit.two J0 J1 μ M Q) a w) : (Code.scope c).wp P Q a w := by
  have q0 := p0 p1
  have fst := first q0
  clear p0 first
  intro b k cs
  have hg0 : gotoIn 0 (.inScope c :: k) = some (.code (Code.skip.seq r0) :: .inScope c :: k) := by simp [gotoIn, f0]
  have hg1 : gotoIn 1 (.inScope c :: k) = some (.code (Code.skip.seq r1) :: .inScope c :: k) := by simp [gotoIn, f1]
  have out : ∀ (m : Nat) (st : Code) (a : Act) (w : World), st.wp P (Exit.two J0 J1 μ m Q) a w →
      (∀ a w, (J0 a w ∧ 2 * μ a < m → ∃ e a' w', Q e a' w' ∧ Arrives P (lone (b.at a (.code (Code.skip.seq r0) :: .inScope c :: k)) cs w) b k cs e a' w') ∧
        (J1 a w ∧ 2 * μ a + 1 < m → ∃ e a' w', Q e a' w' ∧ Arrives P (lone (b.at a (.code (Code.skip.seq r1) :: .inScope c :: k)) cs w) b k cs e a' w')) →
      ∃ e a' w', Q e a' w' ∧ Arrives P (lone (b.at a (.code st :: .inScope c :: k)) cs w) b k cs e a' w' := by
    intro m st a w hst hrec
    obtain ⟨e, a₁, w₁, hq, harr⟩ := hst b (.inScope c :: k) cs
    cases e with
    | normal => exact ⟨.normal, a₁, w₁, hq, Steps.trans harr (.one step_inScope)⟩
    | exit id => exact ⟨.exit id, a₁, w₁, hq, fun k' hk => harr k' (by simp [exitTo, hk])⟩
    | goto l =>
      rcases hq with ⟨rfl, h⟩ | ⟨rfl, h⟩
      · obtain ⟨e₂, a₂, w₂, hq₂, harr₂⟩ := (hrec a₁ w₁).1 h
        exact ⟨e₂, a₂, w₂, hq₂, .of_steps (harr _ hg0) harr₂⟩
      · obtain ⟨e₂, a₂, w₂, hq₂, harr₂⟩ := (hrec a₁ w₁).2 h
        exact ⟨e₂, a₂, w₂, hq₂, .of_steps (harr _ hg1) harr₂⟩
    | ret => exact ⟨_, a₁, w₁, hq, harr⟩
    | panic ch => exact ⟨_, a₁, w₁, hq, harr⟩
    | outgrown => exact ⟨_, a₁, w₁, hq, harr⟩
  have key : ∀ n a w, (J0 a w ∧ 2 * μ a < n → ∃ e a' w', Q e a' w' ∧ Arrives P (lone (b.at a (.code (Code.skip.seq r0) :: .inScope c :: k)) cs w) b k cs e a' w') ∧
        (J1 a w ∧ 2 * μ a + 1 < n → ∃ e a' w', Q e a' w' ∧ Arrives P (lone (b.at a (.code (Code.skip.seq r1) :: .inScope c :: k)) cs w) b k cs e a' w') := by
    intro n
    induction n with
    | zero => exact fun a w => ⟨fun h => absurd h.2 (by omega), fun h => absurd h.2 (by omega)⟩
    | succ n ih =>
      exact fun a w => ⟨fun h => out n _ a w (wp_seq (wp_skip (q0 n a w h.1 (by omega)))) ih, fun h => out n _ a w (wp_seq (wp_skip (p1 n a w h.1 (by omega)))) ih⟩
  obtain ⟨e, a₁, w₁, hq, harr⟩ := out M c a w fst (key M)
  exact ⟨e, a₁, w₁, hq, .of_steps (.one step_scope) harr⟩
end

/-- A text of these bytes. -/
def bs (l : List UInt8) : ByteArray := ⟨l.toArray⟩
theorem stringST : SliceT Try.prog 24 9 strElem.size := SliceT.of (size := 1) (bytes := 16) (z := .string .empty) Try.underlying24 (by kernel_rfl) rfl (by decide)
/-- v is a row of the call's own, of these texts. -/
abbrev OwnS (B : Nat) (w : World) (v : Value) (l : List (List UInt8)) : Prop := Own strElem 9 B w v (l.map bs)
theorem lies_new (w : World) (x : ByteArray) : Lies strElem (w.alloc (.cells #[.string x] 9)) w.heap.size 0 [x] :=
  Lies.of_blk (Blk.new w #[.string x] 9) rfl

/-- Where the run jumps to label 0: k of the bytes are fed. -/
def FeedJ0 (w0 : World) (g : Nat) (h : List UInt8) (s : ByteArray) (a : Act) (w : World) : Prop :=
  ∃ (k : Nat) (v : Value) (u7 u8 u9 u10 u11 u12 u13 u14 u15 u16 u17 u18 u19 u20 u21 u22 u23 u24 u25 u26 u27 u28 u29 u30 u31 u32 u33 u34 u35 u36 u37 u38 u39 u40 u41 : Value), a = { tmps := #[.pointer (some ⟨g, 0, none⟩), .string s, undef, undef, .slice none 0 0, v, .int .i64 k, u7, u8, u9, u10, u11, u12, u13, u14, u15, u16, u17, u18, u19, u20, u21, u22, u23, u24, u25, u26, u27, u28, u29, u30, u31, u32, u33, u34, u35, u36, u37, u38, u39, u40, u41], defers := [] } ∧ k ≤ s.size ∧
    OwnS w0.heap.size w v (Ct.feed h (s.data.toList.take k)).1 ∧ Cutter w g (Ct.feed h (s.data.toList.take k)).2 ∧ But (· = g) w0 w
/-- .. to label 1: a chunk has ended behind the last byte. -/
def FeedJ1 (w0 : World) (g : Nat) (h : List UInt8) (s : ByteArray) (a : Act) (w : World) : Prop :=
  ∃ (k : Nat) (v : Value) (o : List (List UInt8)) (c : List UInt8) (u7 u8 u9 u10 u11 u12 u13 u14 u15 u16 u17 u18 u19 u20 u21 u22 u23 u24 u25 u26 u27 u28 u29 u30 u31 u32 u33 u34 u35 u36 u37 u38 u39 u40 u41 : Value), a = { tmps := #[.pointer (some ⟨g, 0, none⟩), .string s, undef, undef, .slice none 0 0, v, .int .i64 k, u7, u8, u9, u10, u11, u12, u13, u14, u15, u16, u17, u18, u19, u20, u21, u22, u23, u24, u25, u26, u27, u28, u29, u30, u31, u32, u33, u34, u35, u36, u37, u38, u39, u40, u41], defers := [] } ∧ k ≤ s.size ∧
    OwnS w0.heap.size w v o ∧ Cutter w g c ∧ Ct.feed h (s.data.toList.take k) = (o ++ [c], []) ∧ o.length ≤ s.size ∧ But (· = g) w0 w
def feedμ (s : ByteArray) (a : Act) : Nat := s.size - (intOf (a.tmps.getD 6 undef)).toNat

theorem feed_count (l : List UInt8) : ∀ h, (Ct.feed h l).1.length ≤ l.length := by
  induction l with
  | nil => intro h; simp [Ct.feed_nil]
  | cons b l ih =>
    intro h
    rw [Ct.feed_cons]
    by_cases e : Ct.ends (h ++ [b]) = true
    · rw [if_pos e]; have := ih []; simp only [List.length_cons]; omega
    · rw [if_neg e]; have := ih (h ++ [b]); simp only [List.length_cons]; omega

set_option maxRecDepth 1000000 in
set_option maxHeartbeats 4000000 in
theorem feed_any (w : World) (g : Nat) (h : List UInt8) (s : ByteArray) (hc : Cutter w g h) (hh : Ct.Held h) (hs : s.size ≤ 1000000) :
    Calls Try.prog 12 #[.pointer (some ⟨g, 0, none⟩), .string s] w fun e w' => ∃ v, e = .returned v ∧ OwnS w.heap.size w' v (Ct.feed h s.data.toList).1 ∧ Cutter w' g (Ct.feed h s.data.toList).2 ∧ But (· = g) w w' := by
  have hgw : g < w.heap.size := hc.lt
  go_enter Try.func12, Try.ntmps12
  go_wp2_with fail
  refine wp_scope_two (FeedJ0 w g h s) (FeedJ1 w g h s) (feedμ s) (2 * s.size + 2) rfl rfl ?_ ?_ ?_
  · -- label 1
    intro m a' w' hJ hm
    obtain ⟨k, v, o, c, u7, u8, u9, u10, u11, u12, u13, u14, u15, u16, u17, u18, u19, u20, u21, u22, u23, u24, u25, u26, u27, u28, u29, u30, u31, u32, u33, u34, u35, u36, u37, u38, u39, u40, u41, rfl, hk, hown, hcut, hfd, hol, hbut⟩ := hJ
    have hm' : 2 * (s.size - k) + 1 ≤ m := hm
    go_wp2_with fail
    refine (end_any _ _ _ hcut).mono ?_
    rintro e w1 ⟨rfl, hcut1, hb1⟩
    have hown1 : OwnS w.heap.size w1 v o := hown.but hb1 (fun g' hg' e => by have := (hown.block g' hg').1; omega)
    have hbut1 := hbut.trans hb1 (fun i _ hi => hi)
    have hsz := hbut1.size
    have hsz' := hbut.size
    go_wp2_with (at_builtin; refine Hid.out ?_)
    refine Lib.hid ?_
    refine wpList_app stringST rfl _ _ rfl rfl (hown1.alloc _) (by have := hbut1.size; simp; omega) w1.heap.size 0 1 1 [bs c] rfl rfl (lies_new _ _) (by rw [List.length_map]; omega) ?_
    intro v' w2 hown2 hg2
    have hcut2 : Cutter w2 g [] := by
      refine (hcut1.but ((But.refl (fun _ => False) _).alloc _) (fun h => h)).but (S := fun k => v.ownBlock = some k) ⟨hg2.os, hg2.tape, hg2.output, hg2.size, fun k hk hn => hg2.block k hk (fun e => hn e.symm)⟩ ?_
      intro e
      have := (hown1.block g e).1
      omega
    have hbut2 : But (· = g) w w2 := (hbut1.alloc _).grown hg2 (fun k hk hlt => by have := (hown1.block k hk).1; omega)
    have hcellsEq : OwnS w.heap.size w2 v' (o ++ [c]) := by
      show Own _ _ _ _ _ _
      rw [List.map_append]; exact hown2
    go_wp2
    go_step3
    refine .inl ⟨rfl, ⟨k, v', _, _, _, _, _, _, _, _, _, _, _, _, _, _, _, _, _, _, _, _, _, _, _, _, _, _, _, _, _, _, _, _, _, _, _, rfl, hk, ?_, ?_, hbut2⟩, ?_⟩
    · rw [hfd]; exact hcellsEq
    · rw [hfd]; exact hcut2
    · show 2 * (s.size - k) < m
      omega
  · intro p1 m a' w' hJ hm
    obtain ⟨k, v, u7, u8, u9, u10, u11, u12, u13, u14, u15, u16, u17, u18, u19, u20, u21, u22, u23, u24, u25, u26, u27, u28, u29, u30, u31, u32, u33, u34, u35, u36, u37, u38, u39, u40, u41, rfl, hk, hown, hcut, hbut⟩ := hJ
    have hm' : 2 * (s.size - k) ≤ m := hm
    by_cases hlt : k < s.size
    · have hkk : ¬ (k : Int) = s.size := by omega
      have hkeq : decide ((k : Int) = s.size) = false := by simpa using hkk
      have hHeld := Ct.feed_held (s.data.toList.take k) h hh
      have hcnt := feed_count (s.data.toList.take k) h
      have hsn := Ct.feed_snoc h (s.data.toList.take k) s[k]
      rw [← take_snoc s k hlt] at hsn
      have hlt' : (k : Int) < s.size := by omega
      have hH128 := hHeld.lt
      have HSN := Lib.hid hsn
      rw [List.length_take] at hcnt
      have hk1 : (s.data.toList.take k).length ≤ k := by rw [List.length_take]; omega
      clear hsn
      generalize hO : (Ct.feed h (s.data.toList.take k)).1 = O at *
      generalize hH : (Ct.feed h (s.data.toList.take k)).2 = H at *
      go_wp2_with fail
      refine (take_any _ _ _ s[k] hcut hH128).mono ?_
      rintro e w1 ⟨rfl, hcut1, hb1⟩
      have hown1 : OwnS w.heap.size w1 v O := hown.but hb1 (fun g' hg' e => by have := (hown.block g' hg').1; omega)
      have hbut1 := hbut.trans hb1 (fun i _ hi => hi)
      clear hcut hown hbut hb1 hkk hkeq
      have HC := Lib.hid hcut1
      obtain ⟨j, x, y, hl, hr, hb⟩ := hcut1
      have hl' : (H ++ [s[k]] ++ j).length = 128 := by rw [List.length_append]; exact hl
      have hnlen : (H ++ [s[k]]).length = H.length + 1 := by simp
      have HE : Hid (Ct.ends (H ++ [s[k]]) = (decide ((H ++ [s[k]]).length = 128) || (decide (16 ≤ (H ++ [s[k]]).length) && decide (Ct.cell (Ct.last8 (H ++ [s[k]])) = 0)))) := Lib.hid rfl
      have hbd := Tn.sum_bound (Ct.last8 (H ++ [s[k]]))
      have h8l : (Ct.last8 (H ++ [s[k]])).length ≤ 8 := by unfold Ct.last8; rw [List.length_drop]; omega
      have hcl : ((Tn.sum (Ct.last8 (H ++ [s[k]]))).1 + 3 * (Tn.sum (Ct.last8 (H ++ [s[k]]))).2) % 16 = Ct.cell (Ct.last8 (H ++ [s[k]])) := rfl
      generalize hG : H ++ [s[k]] = G at *
      have c128 : w1.cell? ⟨g, 128, none⟩ = some (.int .i64 G.length) := hb.cell (cutCells_size _ _ _ _ hl')
      have c129 : w1.cell? ⟨g, 129, none⟩ = some (.complex .f64 x y) := hb.cell (cutCells_sum _ _ _ _ hl')
      have hcellA := fun w' => cell_any x y _ _ 16 hr (by omega) (by omega) (by decide) (by decide) w'
      rw [hcl] at hcellA
      generalize Ct.cell (Ct.last8 G) = cl at *
      generalize hn : G.length = n at *
      have hnlt : n ≤ 128 := by omega
      clear hb hr hbd h8l hcl hl'
      by_cases hA : n < 16
      · have hA' : (n : Int) < 16 := by omega
        have hno : Ct.ends G = false := by rw [HE.out]; simp; omega
        go_wp2_with fail
        go_step3
        have hk2 : (k : Int) + 1 = ((k + 1 : Nat) : Int) := rfl
        rw [hk2]
        have hsn := HSN.out
        rw [hno] at hsn
        refine .inl ⟨rfl, ⟨k + 1, v, _, _, _, _, _, _, _, _, _, _, _, _, _, _, _, _, _, _, _, _, _, _, _, _, _, _, _, _, _, _, _, _, _, _, _, rfl, hlt, ?_, ?_, hbut1⟩, ?_⟩
        · rw [hsn]; exact hown1
        · rw [hsn]; exact HC.out
        · show 2 * (s.size - (k + 1)) < m
          omega
      · have hA' : ¬ (n : Int) < 16 := by omega
        by_cases hB : n = 128
        · have hB' : (n : Int) = 128 := by omega
          have hyes : Ct.ends G = true := by rw [HE.out]; simp [hB]
          go_wp2_with fail
          go_step3
          have hk2 : (k : Int) + 1 = ((k + 1 : Nat) : Int) := rfl
          rw [hk2]
          have hsn := HSN.out
          rw [if_pos hyes] at hsn
          refine .inr ⟨rfl, ⟨k + 1, v, O, G, _, _, _, _, _, _, _, _, _, _, _, _, _, _, _, _, _, _, _, _, _, _, _, _, _, _, _, _, _, _, _, _, _, _, _, rfl, hlt, hown1, HC.out, hsn, by omega, hbut1⟩, ?_⟩
          show 2 * (s.size - (k + 1)) + 1 < m
          omega
        · have hB' : ¬ (n : Int) = 128 := by omega
          by_cases hZ : cl = 0
          · have hyes : Ct.ends G = true := by rw [HE.out]; simp [hZ]; omega
            subst hZ
            go_wp2_with fail
            refine (hcellA _).mono ?_
            rintro e w2 ⟨rfl, rfl⟩
            go_wp2_with fail
            go_step3
            rename_i hK
            refine hK _ _ (p1 _ _ _ ?_ ?_)
            · have hk2 : (k : Int) + 1 = ((k + 1 : Nat) : Int) := rfl
              rw [hk2]
              have hsn := HSN.out
              rw [if_pos hyes] at hsn
              exact ⟨k + 1, v, O, G, _, _, _, _, _, _, _, _, _, _, _, _, _, _, _, _, _, _, _, _, _, _, _, _, _, _, _, _, _, _, _, _, _, _, _, rfl, hlt, hown1, HC.out, hsn, by omega, hbut1⟩
            · show 2 * (s.size - (k + 1)) + 1 ≤ m
              omega
          · have hZ' : ¬ cl = 0 := hZ
            have hno : Ct.ends G = false := by rw [HE.out]; simp [hB, hZ]
            go_wp2_with fail
            refine (hcellA _).mono ?_
            rintro e w2 ⟨rfl, rfl⟩
            go_wp2_with fail
            go_step3
            have hk2 : (k : Int) + 1 = ((k + 1 : Nat) : Int) := rfl
            rw [hk2]
            have hsn := HSN.out
            rw [hno] at hsn
            refine .inl ⟨rfl, ⟨k + 1, v, _, _, _, _, _, _, _, _, _, _, _, _, _, _, _, _, _, _, _, _, _, _, _, _, _, _, _, _, _, _, _, _, _, _, _, rfl, hlt, ?_, ?_, hbut1⟩, ?_⟩
            · rw [hsn]; exact hown1
            · rw [hsn]; exact HC.out
            · show 2 * (s.size - (k + 1)) < m
              omega
    · have hke : k = s.size := by omega
      subst hke
      rw [take_all s s.size (by omega)] at hown hcut
      go_wp2
      simp only [Exit.two]
      go_ret
      exact ⟨v, rfl, hown, hcut, hbut⟩
  · intro p0
    go_wp2_with fail
    go_step3
    rename_i hK
    refine hK _ _ (p0 _ _ _ ⟨0, .slice none 0 0, _, _, _, _, _, _, _, _, _, _, _, _, _, _, _, _, _, _, _, _, _, _, _, _, _, _, _, _, _, _, _, _, _, _, _, rfl, Nat.zero_le _, Own.nil _ _ _ _, hc, But.refl _ _⟩ ?_)
    show 2 * (s.size - 0) ≤ _
    omega
end Go.Proofs.Ytaahbankiidgkaa
