/- Walks of pack's appendField and firstField. -/
import Derived.Test.YtlpillpfahkjdaaDoorPkField
namespace Go.Proofs.YtlpillpfahkjdaaDoor
open Go.RowKit Lib

theorem info_u8 : ∃ i, Tryd.prog.info? 5 = some i ∧ i.zero = some (.int .u8 0) ∧ i.size = 1 ∧ i.bytes = 1 := info_of (P := Tryd.prog) (E := 5) (size := 1) (bytes := 1) (z := .int .u8 0) (by kernel_rfl)
theorem strCells_bs (s : List UInt8) : Lib.strCells (bs s) = byteElem.cells s := by
  rw [show byteElem.cells s = s.map bcell from oneElem_cells _ _ _]
  unfold Lib.strCells
  rfl
/-- append(list, s...). -/
theorem wpList_app_text {B : Nat} {w : World} {v : Value} {l : List UInt8} {ops : Array Oper} {rest : List Oper} {o : Oper} {a : Act} {Q : Exit → Act → World → Prop} (hgd : o.guard = none) (x y : Operand)
    (ho : o.op = .call { callee := .builtin .append, args := #[x, y], argTypes := #[47, 9] })
    (hs : a.eval x = v) (hown : OwnY B w v l) (hB : B ≤ w.heap.size) (s : List UInt8) (hx : a.eval y = .string (bs s)) (hlen : l.length + s.length ≤ 900000000)
    (h : ∀ v' w', OwnY B w' v' (l ++ s) → w.grownBy w' v.ownBlock → wpList Tryd.prog ops Q rest (a.put o.dst v') w') : wpList Tryd.prog ops Q (o :: rest) a w := by
  obtain ⟨i, hi, hz, hsize, hby⟩ := info_u8
  have hsz := bs_size s
  refine wpList_append_own_string (P := Tryd.prog) w hgd x y 47 9 ho B 5 i Tryd.underlying47 Tryd.underlying9 hi hz hsize hby v l.length (byteElem.cells l) hs hown (bs s) hx (by unfold maxLen; omega) (by omega) hB ?_
  intro v' w' h1 h2 _
  refine h v' w' ?_ h2
  unfold OwnY Own
  rw [List.length_append, byteElem.cells_append, ← strCells_bs s, ← hsz]
  exact h1
theorem below_grownOwn {B : Nat} {w w' w'' : World} {v : Value} {l : List UInt8} (h : Below B w w') (ho : OwnY B w' v l) (hB : B ≤ w.heap.size) (hg : w'.grownBy w'' v.ownBlock) : Below B w w'' :=
  h.trans ((But.ofGrown hg).below (Nat.le_trans hB h.size) (fun k hk e => by have := (ho.block k e).1; omega))
theorem below_butOwn {B : Nat} {w w' w'' : World} {v : Value} {l : List UInt8} (h : Below B w w') (ho : OwnY B w' v l) (hB : B ≤ w.heap.size) (hb : But (fun k => v.ownBlock = some k) w'.drew w'') : Below B w w'' :=
  h.trans (((But.refl (fun k => v.ownBlock = some k) w').drew.trans hb (fun _ _ h => h)).below (Nat.le_trans hB h.size) (fun k hk e => by
    have := (ho.block k e).1; omega))
theorem below_butOwn' {B : Nat} {w w' w'' : World} {v : Value} {l : List UInt8} (h : Below B w w') (ho : OwnY B w' v l) (hB : B ≤ w.heap.size) (hb : But (fun k => v.ownBlock = some k) w' w'') : Below B w w'' :=
  h.trans (hb.below (Nat.le_trans hB h.size) (fun k hk e => by
    have := (ho.block k e).1; omega))
theorem OwnY.len {B : Nat} {w : World} {v : Value} {l : List UInt8} (_ : OwnY B w v l) : True := trivial
set_option maxHeartbeats 1000000 in
theorem appendField_any (c : UInt8) (f : Pk.Fd) (t : List UInt8) (B : Nat) (w : World) (v : Value) (l : List UInt8) (hf : Pk.ftext c f = some t) (hc : Pk.letter c true = true) (hown : OwnY B w v l) (hB : B ≤ w.heap.size) (hl : l.length ≤ 100000000) (hn : f.n < 2 ^ 64) (hs : f.s.length ≤ 1000000) :
    Calls Tryd.prog 31 #[v, .int .u8 c.toNat, fdV f] w fun e w' => ∃ v', e = .returned v' ∧ OwnY B w' v' (l ++ t) ∧ Below B w w' := by
  obtain ⟨n, s⟩ := f
  unfold fdV
  simp only at hn hs ⊢
  have hsz := bs_size s
  have hb1 : Below B w (w.alloc (.cells #[.int .u64 n, .string (bs s)] 36)) := (Below.refl _ _).alloc hB _
  have ho1 : OwnY B (w.alloc (.cells #[.int .u64 n, .string (bs s)] 36)) v l := hown.alloc _
  have hB1 := Nat.le_trans hB hb1.size
  have HO := Lib.hid (And.intro ho1 (And.intro hb1 (And.intro hB hB1)))
  rcases Pk.letter_what hc with ⟨h0, h1, h2⟩ | ⟨rfl, h1⟩ | ⟨rfl, h1⟩
  · rw [Pk.ftext_num h0] at hf
    have ht : s = [] ∧ t = Wl.enc (Pk.width c) n := by
      split at hf
      · next h => injection hf with hf; exact ⟨h.1, hf.symm⟩
      · cases hf
    obtain ⟨rfl, rfl⟩ := ht
    have hw8 := Pk.width_le c
    have HSZ := Lib.hid (fun W => sizeOf_any c W)
    have HAP := Lib.hid (fun (W : World) (h : OwnY B W v l) (hb : B ≤ W.heap.size) => pappendNumber_any B W v l n (Pk.width c) h hb (by omega) hn hw8)
    generalize (c.toNat : Int) = x at *
    generalize Pk.width c = wd at *
    generalize bs [] = X at *
    clear h0 hc hown hb1 ho1 hB1 hf hn hsz
    go_enter Tryd.func31, Tryd.ntmps31
    go_wp2_with (refine wp_region_any (by kernel_rfl) ?_; refine Hid.out ?_)
    refine Lib.hid ?_
    try (change wpAny _ _ _ _ _ _ _ (World.drew _))
    refine wpAny_take (i := 0) (v := ?_) (by simp only [List.getElem?_toArray, List.getElem?_cons_zero]; exact rfl) (by kernel_rfl) (by kernel_rfl) (by kernel_rfl) (by exact fun _ _ _ h => h) (Or.inl ⟨by rfl, ?_⟩) ?_
    rotate_left
    · intro w; go_simp; try with_reducible rfl
    refine wpAny_take (i := 1) (v := ?_) (by simp only [List.getElem?_toArray, List.getElem?_cons_succ, List.getElem?_cons_zero]; exact rfl) (by kernel_rfl) (by kernel_rfl) (by kernel_rfl) (by exact fun _ _ _ h => h) (Or.inl ⟨by rfl, ?_⟩) ?_
    rotate_left
    · intro w; go_simp; try with_reducible rfl
    refine wpAny_take (i := 3) (v := ?_) (by simp only [List.getElem?_toArray, List.getElem?_cons_succ, List.getElem?_cons_zero]; exact rfl) (by kernel_rfl) (by kernel_rfl) (by kernel_rfl) (by exact fun _ _ _ h => h) (Or.inl ⟨by rfl, ?_⟩) ?_
    rotate_left
    · intro w; go_simp; try with_reducible rfl
    refine wpAny_ready (rs := [2, 4]) (by kernel_rfl) (by simp) ?_
    refine AllReady.cons rfl (fun K hK => ?_) (AllReady.cons rfl (fun K hK => ?_) AllReady.nil)
    · go_simp
      refine hK _ _ ?_; clear hK K
      refine wpAny_ready (rs := [4]) (by kernel_rfl) (by simp) ?_
      refine AllReady.cons rfl (fun K hK => ?_) AllReady.nil
      go_simp
      refine (HSZ.out _).mono ?_
      rintro e w1 ⟨rfl, rfl⟩
      refine hK _ _ ?_; clear hK K
      refine wpAny_ready (rs := [5]) (by kernel_rfl) (by simp) ?_
      refine AllReady.cons rfl (fun K hK => ?_) AllReady.nil
      go_simp
      refine (HAP.out _ HO.out.1.drew HO.out.2.2.2).mono ?_
      rintro e w1 ⟨v1, rfl, ho2, hbt2, _⟩
      have hb2 := below_butOwn HO.out.2.1 HO.out.1 HO.out.2.2.1 hbt2
      refine hK _ _ ?_; clear hK K
      refine wpAny_ready (rs := [6]) (by kernel_rfl) (by simp) ?_
      refine AllReady.cons rfl (fun K hK => ?_) AllReady.nil
      go_simp
      refine hK _ _ ?_; clear hK K
      refine wpAny_done (by kernel_rfl) ?_ _
      go_wp2
      go_ret
      exact ⟨_, rfl, ho2, hb2⟩
    · go_simp
      refine (HSZ.out _).mono ?_
      rintro e w1 ⟨rfl, rfl⟩
      refine hK _ _ ?_; clear hK K
      refine wpAny_ready (rs := [2]) (by kernel_rfl) (by simp) ?_
      refine AllReady.cons rfl (fun K hK => ?_) AllReady.nil
      go_simp
      refine hK _ _ ?_; clear hK K
      refine wpAny_ready (rs := [5]) (by kernel_rfl) (by simp) ?_
      refine AllReady.cons rfl (fun K hK => ?_) AllReady.nil
      go_simp
      refine (HAP.out _ HO.out.1.drew HO.out.2.2.2).mono ?_
      rintro e w1 ⟨v1, rfl, ho2, hbt2, _⟩
      have hb2 := below_butOwn HO.out.2.1 HO.out.1 HO.out.2.2.1 hbt2
      refine hK _ _ ?_; clear hK K
      refine wpAny_ready (rs := [6]) (by kernel_rfl) (by simp) ?_
      refine AllReady.cons rfl (fun K hK => ?_) AllReady.nil
      go_simp
      refine hK _ _ ?_; clear hK K
      refine wpAny_done (by kernel_rfl) ?_ _
      go_wp2
      go_ret
      exact ⟨_, rfl, ho2, hb2⟩
  · rw [Pk.ftext_text] at hf
    have ht : n = 0 ∧ s.length ≤ 65535 ∧ t = Wl.enc 2 s.length ++ s := by
      split at hf
      · next h => injection hf with hf; exact ⟨h.1, h.2, hf.symm⟩
      · cases hf
    obtain ⟨rfl, hs6, rfl⟩ := ht
    generalize ((116 : UInt8).toNat : Int) = x at *
    subst h1
    have HAP := Lib.hid (fun (W : World) (h : OwnY B W v l) (hb : B ≤ W.heap.size) => pappendNumber_any B W v l s.length 2 h hb (by omega) (by omega) (by decide))
    have hown0 := Lib.hid hown
    have HL := Lib.hid (show l.length ≤ 100000000 ∧ s.length ≤ 65535 from ⟨hl, hs6⟩)
    have hsI : ((bs s).size : Int) = (s.length : Nat) := by omega
    have hsI6 : (s.length : Int) ≤ 65535 := by omega
    obtain ⟨X, hX⟩ : ∃ X, X = bs s := ⟨_, rfl⟩
    have HX := Lib.hid hX
    rw [← hX] at hsI HO ⊢
    clear hown hb1 ho1 hB1 hf hn hsz hX hc hs6 hl
    go_enter Tryd.func31, Tryd.ntmps31
    go_wp2_with fail
    refine (HAP.out _ HO.out.1 HO.out.2.2.2).mono ?_
    rintro e w1 ⟨v1, rfl, ho2, hbt2, hat2⟩
    have hcell : w1.cell? ⟨w.heap.size, 1, none⟩ = some (.string X) := hbt2.cell ((Blk.new w #[.int .u64 0, .string X] 36).cell rfl) (fun e => by have := (hown0.out.block _ e).2; exact absurd this (Nat.lt_irrefl _))
    have hR := Lib.hid (And.intro ho2 (below_butOwn' HO.out.2.1 HO.out.1 HO.out.2.2.1 hbt2))
    clear ho2 hbt2 hat2
    go_wp2_with (at_builtin; refine Hid.out ?_)
    refine Lib.hid ?_
    refine wpList_app_text rfl _ _ rfl rfl hR.out.1 (Nat.le_trans HO.out.2.2.1 hR.out.2.size) s (congrArg Value.string HX.out) (by rw [List.length_append, Wl.enc_length]; have := HL.out; omega) ?_
    intro v' w4 ho4 hg4
    have hR4 := Lib.hid (And.intro ho4 (below_grownOwn hR.out.2 hR.out.1 HO.out.2.2.1 hg4))
    clear ho4 hg4 hcell
    go_wp2
    go_ret
    exact ⟨_, rfl, by rw [← List.append_assoc]; exact hR4.out.1, hR4.out.2⟩
  · rw [Pk.ftext_rest] at hf
    have ht : n = 0 ∧ t = s := by
      split at hf
      · next h => injection hf with hf; exact ⟨h, hf.symm⟩
      · cases hf
    obtain ⟨rfl, rfl⟩ := ht
    generalize ((114 : UInt8).toNat : Int) = x at *
    subst h1
    have HL := Lib.hid (show l.length ≤ 100000000 ∧ t.length ≤ 1000000 from ⟨hl, hs⟩)
    obtain ⟨X, hX⟩ : ∃ X, X = bs t := ⟨_, rfl⟩
    have HX := Lib.hid hX
    rw [← hX] at HO ⊢
    clear hown hb1 ho1 hB1 hf hn hsz hX hc hl hs
    go_enter Tryd.func31, Tryd.ntmps31
    go_wp2_with (at_builtin; refine Hid.out ?_)
    refine Lib.hid ?_
    refine wpList_app_text rfl _ _ rfl rfl HO.out.1 HO.out.2.2.2 t (congrArg Value.string HX.out) (by have := HL.out; omega) ?_
    intro v' w4 ho4 hg4
    have hR4 := Lib.hid (And.intro ho4 (below_grownOwn HO.out.2.1 HO.out.1 HO.out.2.2.1 hg4))
    clear ho4 hg4
    go_wp2
    go_ret
    exact ⟨_, rfl, hR4.out.1, hR4.out.2⟩
end Go.Proofs.YtlpillpfahkjdaaDoor
