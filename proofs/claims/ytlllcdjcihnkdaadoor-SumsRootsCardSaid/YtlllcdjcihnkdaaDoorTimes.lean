/- Walks of the reference's arithmetic in digits. -/
import Derived.Test.YtlllcdjcihnkdaaDoorOwnI
import Derived.Test.YtlllcdjcihnkdaaDoorRootMath
import Derived.Deep.RegionHeld3
namespace Go.Proofs.YtlllcdjcihnkdaaDoor
open Go.RowKit

theorem at_any (la : List Nat) (g c : Nat) (i : Nat) (w : World) (hR : RwI w g la) :
    Calls Tryd.prog 41 #[.slice (some ⟨g, 0, none⟩) la.length c, .int .i64 i] w fun e w' => e = .returned (.int .i64 (la.getD i 0 : Nat)) ∧ w' = w := by
  by_cases hlt : i < la.length
  · have hc := hR i hlt
    generalize la.getD i 0 = x at *
    have h1 : (i : Int) < la.length := by omega
    generalize la.length = n at *
    go_enter Tryd.func41, Tryd.ntmps41
    go_wp2
    go_ret
    exact ⟨rfl, rfl⟩
  · rw [Dg.getD_over la i (by omega)]
    have h1 : ¬ (i : Int) < la.length := by omega
    generalize la.length = n at *
    go_enter Tryd.func41, Tryd.ntmps41
    go_wp2
    go_ret
    exact ⟨rfl, rfl⟩

theorem prime_any (p : Nat) (hp : p ≤ 1000) (w : World) :
    Calls Tryd.prog 24 #[.int .i64 p] w fun e w' => e = .returned (.bool (Rt.isPrime p)) ∧ w' = w := by
  go_enter Tryd.func24, Tryd.ntmps24
  go_wp2
  go_loopw [3] (fun i wr => ∃ d : Nat, 2 ≤ d ∧ (d ≤ p ∨ d = 2) ∧ i = .int .i64 d ∧ Hid (∀ x, 2 ≤ x → x < d → p % x ≠ 0) ∧ wr = w) (fun i _ => p - (intOf i).toNat)
  case atStart => exact ⟨2, Nat.le_refl _, Or.inr rfl, rfl, fun x h1 h2 => absurd h2 (by omega), rfl⟩
  case round =>
    obtain ⟨d, hd2, hd, rfl, hn, rfl⟩ := hrel
    by_cases hlt : d < p
    · by_cases h0 : p % d = 0
      · have hq := Lib.hid (Rt.isPrime_not p d hd2 hlt h0)
        have h0' : (p : Int).tmod d = 0 := by
          rw [Int.tmod_eq_emod_of_nonneg (by omega)]; omega
        go_wp2
        go_ret
        exact ⟨by rw [hq.out]; rfl, rfl⟩
      · have h0' : ¬ (p : Int).tmod d = 0 := by
          rw [Int.tmod_eq_emod_of_nonneg (by omega)]; omega
        go_wp2
        go_roundw
        case rel => exact ⟨d + 1, by omega, Or.inl hlt, by go_num, fun x h1 h2 => by
          by_cases e : x = d
          · subst e; exact h0
          · exact hn.out x h1 (by omega), trivial⟩
        case measure => simp [intOf]; omega
    · have hq := Lib.hid (Rt.isPrime_of p fun x h1 h2 => hn.out x h1 (by omega))
      go_wp2
      go_ret
      exact ⟨by rw [hq.out]; rfl, rfl⟩

/-- One digit by another, added at its place. -/
theorem Dg.inner {o la lb : List Nat} {i j : Nat} (hj : j < lb.length) (ho : i + j < o.length)
    (hv : Dg.val o = Dg.val (la.take i) * Dg.val lb + la.getD i 0 * 256 ^ i * Dg.val (lb.take j)) :
    Dg.val (o.set (i + j) (o.getD (i + j) 0 + la.getD i 0 * lb.getD j 0)) = Dg.val (la.take i) * Dg.val lb + la.getD i 0 * 256 ^ i * Dg.val (lb.take (j + 1)) := by
  rw [Dg.prod_step o (i + j) _ ho, hv, Dg.val_take_succ lb j hj, Nat.mul_add, Nat.pow_add, Nat.add_assoc]
  congr 2
  generalize la.getD i 0 = x
  generalize lb.getD j 0 = y
  generalize 256 ^ i = p
  generalize 256 ^ j = q
  rw [Nat.mul_mul_mul_comm]
theorem Dg.outer {la lb : List Nat} {i V : Nat} (hi : i < la.length)
    (hv : V = Dg.val (la.take i) * Dg.val lb + la.getD i 0 * 256 ^ i * Dg.val lb) : V = Dg.val (la.take (i + 1)) * Dg.val lb := by
  rw [hv, Dg.val_take_succ la i hi, Nat.add_mul]

/-- A row of the call's own, at block g, and what is below it is as it was. -/
def Out (w wr : World) (g : Nat) (o : List Nat) : Prop := RwI wr g o ∧ (∀ j, wr.frozen? ⟨g, j, none⟩ = false) ∧ Below w.heap.size w wr ∧ g < wr.heap.size ∧ w.heap.size ≤ g
theorem Out.set {w wr : World} {g : Nat} {o : List Nat} (h : Out w wr g o) (j x : Nat) (hj : j < o.length) : Out w (wr.setCell ⟨g, j, none⟩ (.int .i64 ((x : Nat) : Int))) g (o.set j x) :=
  ⟨h.1.set j x hj, fun i => by have := h.2.1 i; simpa using this, h.2.2.1.setCell h.2.2.2.2 _, by have := h.2.2.2.1; simpa using this, h.2.2.2.2⟩
theorem Out.drew {w wr : World} {g : Nat} {o : List Nat} (h : Out w wr g o) : Out w wr.drew g o := ⟨h.1, h.2.1, h.2.2.1.drew, h.2.2.2.1, h.2.2.2.2⟩
theorem Out.drewN {w wr : World} {g : Nat} {o : List Nat} (h : Out w wr g o) (n : Nat) : Out w (wr.drewN n) g o := ⟨h.1, h.2.1, below_drewN h.2.2.1 n, h.2.2.2.1, h.2.2.2.2⟩
theorem Out.of {w wr : World} {g n c : Nat} {o : List Nat} (h : OwnI w.heap.size wr (.slice (some ⟨g, 0, none⟩) n c) o) (hn : n = o.length) (h0 : 0 < o.length) (hb : Below w.heap.size w wr) : Out w wr g o := by
  subst hn
  refine ⟨h.rw rfl, World.ownsRow.frozenAt h, hb, ?_, ?_⟩
  · obtain ⟨g', c', e, h1, h2⟩ := h.form h0
    simp only [Value.slice.injEq, Option.some.injEq, Addr.mk.injEq, and_true] at e
    omega
  · obtain ⟨g', c', e, h1, h2⟩ := h.form h0
    simp only [Value.slice.injEq, Option.some.injEq, Addr.mk.injEq, and_true] at e
    omega

theorem wrap_of (a : Int) (h1 : -9223372036854775808 ≤ a) (h2 : a ≤ 9223372036854775807) : IntKind.i64.wrap a = a := by
  rw [IntKind.wrap_i64]; omega
theorem wrap_sum (z x y : Nat) (hz : z ≤ 30000000) (hxy : x * y ≤ 65025) : IntKind.i64.wrap ((z : Int) + IntKind.i64.wrap ((x : Int) * y)) = ((z + x * y : Nat) : Int) := by
  rw [show (x : Int) * y = ((x * y : Nat) : Int) by rw [Int.natCast_mul]]
  generalize x * y = m at *
  rw [wrap_of (m : Int) (by omega) (by omega), wrap_of _ (by omega) (by omega), Int.natCast_add]

theorem wrap_carry (z x : Nat) (hz : z ≤ 26010000) (hx : x ≤ 52020000) : IntKind.i64.wrap ((z : Int) + IntKind.i64.wrap ((x : Int) / 256)) = ((z + x / 256 : Nat) : Int) := by
  rw [wrap_of ((x : Int) / 256) (by omega) (by omega), wrap_of _ (by omega) (by omega)]; omega

set_option maxHeartbeats 2000000 in
theorem times_any (la lb : List Nat) (ga gb na nb ca cb : Nat) (w : World) (hna : la.length = na) (hnb : lb.length = nb) (hla : na ≤ 20) (hlb : nb ≤ 20) (ha0 : 0 < na)
    (oka : Dg.Ok la) (okb : Dg.Ok lb) (hRa : RwI w ga la) (hRb : RwI w gb lb) (hga : ga < w.heap.size) (hgb : gb < w.heap.size) :
    Calls Tryd.prog 35 #[.slice (some ⟨ga, 0, none⟩) na ca, .slice (some ⟨gb, 0, none⟩) nb cb] w fun e w' =>
      ∃ g c lo, e = .returned (.slice (some ⟨g, 0, none⟩) (na + nb) c) ∧ w.heap.size ≤ g ∧ g < w'.heap.size ∧ RwI w' g lo ∧ Dg.Ok lo ∧ lo.length = na + nb ∧ Dg.val lo = Dg.val la * Dg.val lb ∧ Below w.heap.size w w' := by
  have HNA := Lib.hid hna
  have HNB := Lib.hid hnb
  have HOA := Lib.hid oka
  have HOB := Lib.hid okb
  have HRA := Lib.hid hRa
  have HRB := Lib.hid hRb
  clear hna hnb oka okb hRa hRb
  obtain ⟨no, hno⟩ : ∃ n, n = na + nb := ⟨_, rfl⟩
  have HNO := Lib.hid hno
  rw [← hno]
  have hno40 : no ≤ 40 := by omega
  clear hno
  go_enter Tryd.func35, Tryd.ntmps35
  go_wp2_with (at_make; refine wpList_mkI rfl _ _ rfl w.heap.size w _ _ no rfl rfl (by have := HNO.out; omega) (by have := HNO.out; omega) (by omega) (Below.refl _ _) (Nat.le_refl _) ?_; intro w1 hown1 hb1)
  have hO := Lib.hid (Out.of hown1 (by rw [List.length_replicate]) (by rw [List.length_replicate, HNO.out]; omega) hb1)
  obtain ⟨g, hg⟩ : ∃ g, g = w.heap.size := ⟨_, rfl⟩
  rw [← hg] at hO ⊢
  have hga' : ga ≠ g := by omega
  have hgb' : gb ≠ g := by omega
  have HG := Lib.hid hg
  clear hown1 hb1 hg
  go_loopw [6, 7] (fun vi _ wr => ∃ (i : Nat) (o : List Nat), i ≤ na ∧ vi = .int .i64 i ∧ Hid (o.length = no) ∧ Hid (Out w wr g o) ∧ Hid (Dg.val o = Dg.val (la.take i) * Dg.val lb) ∧ Hid (Dg.Le o (i * 1300500))) (fun vi _ _ => na - (intOf vi).toNat)
  case atStart => exact ⟨0, List.replicate no 0, Nat.zero_le _, rfl, List.length_replicate, hO, (by show Dg.val _ = _; rw [Dg.val_replicate, List.take_zero]; simp [Dg.val]), fun i => by rw [Dg.getD_replicate]; omega⟩
  case round =>
    clear hO
    obtain ⟨i, o, hi, rfl, hol, hO, hv, hL⟩ := hrel
    by_cases hlt : i < na
    · have hi1 : (i : Int) < na := by omega
      obtain ⟨x, hx⟩ : ∃ x, x = la.getD i 0 := ⟨_, rfl⟩
      have hx255 : x ≤ 255 := by rw [hx]; have := HOA.out i; omega
      have HX := Lib.hid hx
      clear hx hi
      obtain ⟨wb, hwb⟩ : ∃ wb, wb = wr := ⟨_, rfl⟩
      rw [← hwb] at hO ⊢
      clear hwb
      go_wp2_with fail
      go_loopw [7] (fun vj wq => ∃ (j : Nat) (o : List Nat), j ≤ nb ∧ vj = .int .i64 j ∧ Hid (o.length = no) ∧ Hid (Out w wq g o) ∧ Hid (Dg.val o = Dg.val (la.take i) * Dg.val lb + x * 256 ^ i * Dg.val (lb.take j)) ∧ Hid (Dg.Le o ((i * 20 + j) * 65025))) (fun vj _ => nb - (intOf vj).toNat)
      case atStart => exact ⟨0, o, Nat.zero_le _, rfl, hol, hO, (by show Dg.val _ = _; rw [hv.out, List.take_zero]; simp [Dg.val]), hL.out.mono (by omega)⟩
      case round =>
        clear hol hO hv hL
        obtain ⟨j, o, hj, rfl, hol, hO, hv, hL⟩ := hrel
        by_cases hltj : j < nb
        · have hj1 : (j : Int) < nb := by omega
          obtain ⟨y, hy⟩ : ∃ y, y = lb.getD j 0 := ⟨_, rfl⟩
          have hy255 : y ≤ 255 := by rw [hy]; have := HOB.out j; omega
          obtain ⟨k, hk⟩ : ∃ k, k = i + j := ⟨_, rfl⟩
          have hkl : k < o.length := by rw [hol.out, HNO.out]; omega
          obtain ⟨z, hz⟩ : ∃ z, z = o.getD k 0 := ⟨_, rfl⟩
          have hz2 : z ≤ 30000000 := by rw [hz]; have := hL.out k; omega
          have hxy : x * y ≤ 65025 := Nat.mul_le_mul hx255 hy255
          have ca' : wr.cell? ⟨ga, i, none⟩ = some (.int .i64 (x : Nat)) := by rw [HX.out]; exact HRA.out.below hO.out.2.2.1 hga i (by rw [HNA.out]; exact hlt)
          have cb' : wr.cell? ⟨gb, j, none⟩ = some (.int .i64 (y : Nat)) := by rw [hy]; exact HRB.out.below hO.out.2.2.1 hgb j (by rw [HNB.out]; exact hltj)
          have co' : wr.cell? ⟨g, k, none⟩ = some (.int .i64 (z : Nat)) := by rw [hz]; exact hO.out.1 k hkl
          have fo' := hO.out.2.1 k
          have hwk : IntKind.i64.wrap ((i : Int) + j) = (k : Int) := by rw [wrap_of _ (by omega) (by omega)]; omega
          have hkn : (k : Int) < no := by rw [hol.out] at hkl; omega
          have HSUM := Lib.hid (wrap_sum z x y hz2 hxy)
          have HV := Lib.hid (show Dg.val (o.set k (z + x * y)) = Dg.val (la.take i) * Dg.val lb + x * 256 ^ i * Dg.val (lb.take (j + 1)) by
            rw [hz, hk, hy, HX.out]
            refine Dg.inner (by rw [HNB.out]; exact hltj) (by rw [← hk]; exact hkl) ?_
            rw [← HX.out]; exact hv.out)
          have HL := Lib.hid (show Dg.Le (o.set k (z + x * y)) ((i * 20 + (j + 1)) * 65025) by
            rw [hz]; exact hL.out.add _ (by omega))
          have HO := Lib.hid (hO.out.set k (z + x * y) hkl).drew
          have HOL := Lib.hid (show (o.set k (z + x * y)).length = no by rw [List.length_set]; exact hol.out)
          clear hol hO hv hL hkl hy hz hk hxy
          go_wp2
          refine wp_region_any (by kernel_rfl) ?_
          try (change wpAny _ _ _ _ _ _ _ (World.drew _))
          refine wpAny_take (i := 0) (v := ?_) rfl (by kernel_rfl) (by kernel_rfl) (by kernel_rfl) (fun _ _ _ h => h) (Or.inl ⟨by rfl, ?_⟩) ?_
          rotate_left
          · intro w; go_simp; try with_reducible rfl
          refine wpAny_take (i := 1) (v := ?_) rfl (by kernel_rfl) (by kernel_rfl) (by kernel_rfl) (fun _ _ _ h => h) (Or.inl ⟨by rfl, ?_⟩) ?_
          rotate_left
          · intro w; go_simp; try with_reducible rfl
          refine wpAny_take (i := 2) (v := ?_) rfl (by kernel_rfl) (by kernel_rfl) (by kernel_rfl) (fun _ _ _ h => h) (Or.inl ⟨by rfl, ?_⟩) ?_
          rotate_left
          · intro w; go_simp; try with_reducible rfl
          refine wpAny_take (i := 3) (v := ?_) rfl (by kernel_rfl) (by kernel_rfl) (by kernel_rfl) (fun _ _ _ h => h) (Or.inl ⟨by rfl, ?_⟩) ?_
          rotate_left
          · intro w; go_simp; try with_reducible rfl
          refine wpAny_take (i := 4) (v := ?_) rfl (by kernel_rfl) (by kernel_rfl) (by kernel_rfl) (fun _ _ _ h => h) (Or.inl ⟨by rfl, ?_⟩) ?_
          rotate_left
          · intro w; go_simp; try with_reducible rfl
          refine wpAny_take (i := 5) (v := ?_) rfl (by kernel_rfl) (by kernel_rfl) (by kernel_rfl) (fun _ _ _ h => h) (Or.inl ⟨by rfl, ?_⟩) ?_
          rotate_left
          · intro w; go_simp; try with_reducible rfl
          refine wpAny_take (i := 6) (v := ?_) rfl (by kernel_rfl) (by kernel_rfl) (by kernel_rfl) (fun _ _ _ h => h) (Or.inl ⟨by rfl, ?_⟩) ?_
          rotate_left
          · intro w; go_simp; try with_reducible rfl
          refine wpAny_take (i := 7) (v := ?_) rfl (by kernel_rfl) (by kernel_rfl) (by kernel_rfl) (fun _ _ _ h => h) (Or.inl ⟨by rfl, ?_⟩) ?_
          rotate_left
          · intro w; go_simp; try with_reducible rfl
          refine wpAny_take (i := 8) (v := ?_) rfl (by kernel_rfl) (by kernel_rfl) (by kernel_rfl) (fun _ _ _ h => h) (Or.inl ⟨by rfl, ?_⟩) ?_
          rotate_left
          · intro w; go_simp; try with_reducible rfl
          refine wpAny_take (i := 10) (v := ?_) rfl (by kernel_rfl) (by kernel_rfl) (by kernel_rfl) (fun _ _ _ h => h) (Or.inl ⟨by rfl, ?_⟩) ?_
          rotate_left
          · intro w; go_simp; try with_reducible rfl
          refine wpAny_take (i := 11) (v := ?_) rfl (by kernel_rfl) (by kernel_rfl) (by kernel_rfl) (fun _ _ _ h => h) (Or.inl ⟨by rfl, ?_⟩) ?_
          rotate_left
          · intro w; go_simp; try with_reducible rfl
          refine wpAny_take (i := 12) (v := ?_) rfl (by kernel_rfl) (by kernel_rfl) (by kernel_rfl) (fun _ _ _ h => h) (Or.inl ⟨by rfl, ?_⟩) ?_
          rotate_left
          · intro w; go_simp; try with_reducible rfl
          refine wpAny_take (i := 14) (v := ?_) rfl (by kernel_rfl) (by kernel_rfl) (by kernel_rfl) (fun _ _ _ h => h) (Or.inl ⟨by rfl, ?_⟩) ?_
          rotate_left
          · intro w; go_simp; try with_reducible rfl
          refine wpAny_take (i := 15) (v := ?_) rfl (by kernel_rfl) (by kernel_rfl) (by kernel_rfl) (fun _ _ _ h => h) (Or.inl ⟨by rfl, ?_⟩) ?_
          rotate_left
          · intro w; go_simp; try with_reducible rfl
          refine wpAny_take (i := 16) (v := ?_) rfl (by kernel_rfl) (by kernel_rfl) (by kernel_rfl) (fun _ _ _ h => h) (Or.inl ⟨by rfl, ?_⟩) ?_
          rotate_left
          · intro w; go_simp; try with_reducible rfl
          refine wpAny_ready (rs := [9, 13, 17]) (by kernel_rfl) (by simp) ?_
          refine AllReady.cons rfl (fun K hK => ?_) (AllReady.cons rfl (fun K hK => ?_) (AllReady.cons rfl (fun K hK => ?_) AllReady.nil))
          · go_simp
            refine hK _ _ ?_; clear hK K
            refine wpAny_ready (rs := [13, 17]) (by kernel_rfl) (by simp) ?_
            refine AllReady.cons rfl (fun K hK => ?_) (AllReady.cons rfl (fun K hK => ?_) AllReady.nil)
            · go_simp
              refine hK _ _ ?_; clear hK K
              refine wpAny_ready (rs := [17]) (by kernel_rfl) (by simp) ?_
              refine AllReady.cons rfl (fun K hK => ?_) AllReady.nil
              go_simp
              refine hK _ _ ?_; clear hK K
              refine wpAny_take (i := 18) (v := ?_) rfl (by kernel_rfl) (by kernel_rfl) (by kernel_rfl) (fun _ _ _ h => h) (Or.inl ⟨by rfl, ?_⟩) ?_
              rotate_left
              · intro w; go_simp; try with_reducible rfl
              refine wpAny_take (i := 19) (v := ?_) rfl (by kernel_rfl) (by kernel_rfl) (by kernel_rfl) (fun _ _ _ h => h) (Or.inl ⟨by rfl, ?_⟩) ?_
              rotate_left
              · intro w; go_simp; try with_reducible rfl
              refine wpAny_take (i := 20) (v := ?_) rfl (by kernel_rfl) (by kernel_rfl) (by kernel_rfl) (fun _ _ _ h => h) (Or.inl ⟨by rfl, ?_⟩) ?_
              rotate_left
              · intro w; go_simp; try with_reducible rfl
              refine wpAny_ready (rs := [21]) (by kernel_rfl) (by simp) ?_
              refine AllReady.cons rfl (fun K hK => ?_) AllReady.nil
              go_simp
              refine hK _ _ ?_; clear hK K
              refine wpAny_done (by kernel_rfl) ?_ _
              rw [HSUM.out]
              go_wp2
              go_roundw
              case rel => exact ⟨j + 1, o.set k (z + x * y), by omega, by go_num, HOL, HO, HV, HL⟩
              case measure => simp [intOf]; omega
            · go_simp
              refine hK _ _ ?_; clear hK K
              refine wpAny_ready (rs := [13]) (by kernel_rfl) (by simp) ?_
              refine AllReady.cons rfl (fun K hK => ?_) AllReady.nil
              go_simp
              refine hK _ _ ?_; clear hK K
              refine wpAny_take (i := 18) (v := ?_) rfl (by kernel_rfl) (by kernel_rfl) (by kernel_rfl) (fun _ _ _ h => h) (Or.inl ⟨by rfl, ?_⟩) ?_
              rotate_left
              · intro w; go_simp; try with_reducible rfl
              refine wpAny_take (i := 19) (v := ?_) rfl (by kernel_rfl) (by kernel_rfl) (by kernel_rfl) (fun _ _ _ h => h) (Or.inl ⟨by rfl, ?_⟩) ?_
              rotate_left
              · intro w; go_simp; try with_reducible rfl
              refine wpAny_take (i := 20) (v := ?_) rfl (by kernel_rfl) (by kernel_rfl) (by kernel_rfl) (fun _ _ _ h => h) (Or.inl ⟨by rfl, ?_⟩) ?_
              rotate_left
              · intro w; go_simp; try with_reducible rfl
              refine wpAny_ready (rs := [21]) (by kernel_rfl) (by simp) ?_
              refine AllReady.cons rfl (fun K hK => ?_) AllReady.nil
              go_simp
              refine hK _ _ ?_; clear hK K
              refine wpAny_done (by kernel_rfl) ?_ _
              rw [HSUM.out]
              go_wp2
              go_roundw
              case rel => exact ⟨j + 1, o.set k (z + x * y), by omega, by go_num, HOL, HO, HV, HL⟩
              case measure => simp [intOf]; omega
          · go_simp
            refine hK _ _ ?_; clear hK K
            refine wpAny_ready (rs := [9, 17]) (by kernel_rfl) (by simp) ?_
            refine AllReady.cons rfl (fun K hK => ?_) (AllReady.cons rfl (fun K hK => ?_) AllReady.nil)
            · go_simp
              refine hK _ _ ?_; clear hK K
              refine wpAny_ready (rs := [17]) (by kernel_rfl) (by simp) ?_
              refine AllReady.cons rfl (fun K hK => ?_) AllReady.nil
              go_simp
              refine hK _ _ ?_; clear hK K
              refine wpAny_take (i := 18) (v := ?_) rfl (by kernel_rfl) (by kernel_rfl) (by kernel_rfl) (fun _ _ _ h => h) (Or.inl ⟨by rfl, ?_⟩) ?_
              rotate_left
              · intro w; go_simp; try with_reducible rfl
              refine wpAny_take (i := 19) (v := ?_) rfl (by kernel_rfl) (by kernel_rfl) (by kernel_rfl) (fun _ _ _ h => h) (Or.inl ⟨by rfl, ?_⟩) ?_
              rotate_left
              · intro w; go_simp; try with_reducible rfl
              refine wpAny_take (i := 20) (v := ?_) rfl (by kernel_rfl) (by kernel_rfl) (by kernel_rfl) (fun _ _ _ h => h) (Or.inl ⟨by rfl, ?_⟩) ?_
              rotate_left
              · intro w; go_simp; try with_reducible rfl
              refine wpAny_ready (rs := [21]) (by kernel_rfl) (by simp) ?_
              refine AllReady.cons rfl (fun K hK => ?_) AllReady.nil
              go_simp
              refine hK _ _ ?_; clear hK K
              refine wpAny_done (by kernel_rfl) ?_ _
              rw [HSUM.out]
              go_wp2
              go_roundw
              case rel => exact ⟨j + 1, o.set k (z + x * y), by omega, by go_num, HOL, HO, HV, HL⟩
              case measure => simp [intOf]; omega
            · go_simp
              refine hK _ _ ?_; clear hK K
              refine wpAny_take (i := 18) (v := ?_) rfl (by kernel_rfl) (by kernel_rfl) (by kernel_rfl) (fun _ _ _ h => h) (Or.inl ⟨by rfl, ?_⟩) ?_
              rotate_left
              · intro w; go_simp; try with_reducible rfl
              refine wpAny_ready (rs := [9]) (by kernel_rfl) (by simp) ?_
              refine AllReady.cons rfl (fun K hK => ?_) AllReady.nil
              go_simp
              refine hK _ _ ?_; clear hK K
              refine wpAny_take (i := 19) (v := ?_) rfl (by kernel_rfl) (by kernel_rfl) (by kernel_rfl) (fun _ _ _ h => h) (Or.inl ⟨by rfl, ?_⟩) ?_
              rotate_left
              · intro w; go_simp; try with_reducible rfl
              refine wpAny_take (i := 20) (v := ?_) rfl (by kernel_rfl) (by kernel_rfl) (by kernel_rfl) (fun _ _ _ h => h) (Or.inl ⟨by rfl, ?_⟩) ?_
              rotate_left
              · intro w; go_simp; try with_reducible rfl
              refine wpAny_ready (rs := [21]) (by kernel_rfl) (by simp) ?_
              refine AllReady.cons rfl (fun K hK => ?_) AllReady.nil
              go_simp
              refine hK _ _ ?_; clear hK K
              refine wpAny_done (by kernel_rfl) ?_ _
              rw [HSUM.out]
              go_wp2
              go_roundw
              case rel => exact ⟨j + 1, o.set k (z + x * y), by omega, by go_num, HOL, HO, HV, HL⟩
              case measure => simp [intOf]; omega
          · go_simp
            refine hK _ _ ?_; clear hK K
            refine wpAny_ready (rs := [9, 13]) (by kernel_rfl) (by simp) ?_
            refine AllReady.cons rfl (fun K hK => ?_) (AllReady.cons rfl (fun K hK => ?_) AllReady.nil)
            · go_simp
              refine hK _ _ ?_; clear hK K
              refine wpAny_ready (rs := [13]) (by kernel_rfl) (by simp) ?_
              refine AllReady.cons rfl (fun K hK => ?_) AllReady.nil
              go_simp
              refine hK _ _ ?_; clear hK K
              refine wpAny_take (i := 18) (v := ?_) rfl (by kernel_rfl) (by kernel_rfl) (by kernel_rfl) (fun _ _ _ h => h) (Or.inl ⟨by rfl, ?_⟩) ?_
              rotate_left
              · intro w; go_simp; try with_reducible rfl
              refine wpAny_take (i := 19) (v := ?_) rfl (by kernel_rfl) (by kernel_rfl) (by kernel_rfl) (fun _ _ _ h => h) (Or.inl ⟨by rfl, ?_⟩) ?_
              rotate_left
              · intro w; go_simp; try with_reducible rfl
              refine wpAny_take (i := 20) (v := ?_) rfl (by kernel_rfl) (by kernel_rfl) (by kernel_rfl) (fun _ _ _ h => h) (Or.inl ⟨by rfl, ?_⟩) ?_
              rotate_left
              · intro w; go_simp; try with_reducible rfl
              refine wpAny_ready (rs := [21]) (by kernel_rfl) (by simp) ?_
              refine AllReady.cons rfl (fun K hK => ?_) AllReady.nil
              go_simp
              refine hK _ _ ?_; clear hK K
              refine wpAny_done (by kernel_rfl) ?_ _
              rw [HSUM.out]
              go_wp2
              go_roundw
              case rel => exact ⟨j + 1, o.set k (z + x * y), by omega, by go_num, HOL, HO, HV, HL⟩
              case measure => simp [intOf]; omega
            · go_simp
              refine hK _ _ ?_; clear hK K
              refine wpAny_take (i := 18) (v := ?_) rfl (by kernel_rfl) (by kernel_rfl) (by kernel_rfl) (fun _ _ _ h => h) (Or.inl ⟨by rfl, ?_⟩) ?_
              rotate_left
              · intro w; go_simp; try with_reducible rfl
              refine wpAny_ready (rs := [9]) (by kernel_rfl) (by simp) ?_
              refine AllReady.cons rfl (fun K hK => ?_) AllReady.nil
              go_simp
              refine hK _ _ ?_; clear hK K
              refine wpAny_take (i := 19) (v := ?_) rfl (by kernel_rfl) (by kernel_rfl) (by kernel_rfl) (fun _ _ _ h => h) (Or.inl ⟨by rfl, ?_⟩) ?_
              rotate_left
              · intro w; go_simp; try with_reducible rfl
              refine wpAny_take (i := 20) (v := ?_) rfl (by kernel_rfl) (by kernel_rfl) (by kernel_rfl) (fun _ _ _ h => h) (Or.inl ⟨by rfl, ?_⟩) ?_
              rotate_left
              · intro w; go_simp; try with_reducible rfl
              refine wpAny_ready (rs := [21]) (by kernel_rfl) (by simp) ?_
              refine AllReady.cons rfl (fun K hK => ?_) AllReady.nil
              go_simp
              refine hK _ _ ?_; clear hK K
              refine wpAny_done (by kernel_rfl) ?_ _
              rw [HSUM.out]
              go_wp2
              go_roundw
              case rel => exact ⟨j + 1, o.set k (z + x * y), by omega, by go_num, HOL, HO, HV, HL⟩
              case measure => simp [intOf]; omega
        · have hjn := Lib.hid (show j = nb by omega)
          have hj1 : ¬ (j : Int) < nb := by omega
          have HI := Lib.hid (show i + 1 ≤ na by omega)
          have HV := Lib.hid (show Dg.val o = Dg.val (la.take (i + 1)) * Dg.val lb by
            refine Dg.outer (by rw [HNA.out]; exact hlt) ?_
            rw [hv.out, hjn.out, ← HNB.out, List.take_length, ← HX.out])
          have HL := Lib.hid (show Dg.Le o ((i + 1) * 1300500) from hL.out.mono (by omega))
          clear hlt hj hltj hv hL
          go_wp2
          refine ⟨⟨i + 1, o, HI.out, by go_num, hol, hO, HV, HL⟩, by simp [intOf]; omega⟩
    · have hin := Lib.hid (show i = na by omega)
      have hi1 : ¬ (i : Int) < na := by omega
      have HV := Lib.hid (show Dg.val o = Dg.val la * Dg.val lb by rw [hv.out, hin.out, ← HNA.out, List.take_length])
      have HC := Lib.hid (Dg.Carried.start (hL.out.mono (show i * 1300500 ≤ 26010000 by omega)))
      clear hv hL hlt hi
      obtain ⟨wb, hwb⟩ : ∃ wb, wb = wr := ⟨_, rfl⟩
      rw [← hwb] at hO ⊢
      clear hwb
      go_wp2_with fail
      go_loopw [8] (fun vi wq => ∃ (i : Nat) (o : List Nat), i + 1 ≤ no ∧ vi = .int .i64 i ∧ Hid (o.length = no) ∧ Hid (Out w wq g o) ∧ Hid (Dg.val o = Dg.val la * Dg.val lb) ∧ Hid (Dg.Carried o i 26010000)) (fun vi _ => no - (intOf vi).toNat)
      case atStart => exact ⟨0, o, (by have := HNO.out; omega), rfl, hol, hO, HV, HC⟩
      case round =>
        clear hol hO HV HC
        obtain ⟨i, o, hi, rfl, hol, hO, hv, hC⟩ := hrel
        by_cases hlt : i + 1 < no
        · have hi1 : (i : Int) + 1 < no := by omega
          obtain ⟨k, hk⟩ : ∃ k, k = i + 1 := ⟨_, rfl⟩
          have hkl : i + 1 < o.length := by rw [hol.out]; exact hlt
          obtain ⟨x, hx⟩ : ∃ z, z = o.getD i 0 := ⟨_, rfl⟩
          obtain ⟨z, hz⟩ : ∃ z, z = o.getD k 0 := ⟨_, rfl⟩
          have hx2 : x ≤ 52020000 := by rw [hx]; exact hC.out.2.1
          have hz2 : z ≤ 26010000 := by rw [hz]; exact hC.out.2.2 k (by omega)
          have ci' : wr.cell? ⟨g, i, none⟩ = some (.int .i64 (x : Nat)) := by rw [hx]; exact hO.out.1 i (by omega)
          have ck' : wr.cell? ⟨g, k, none⟩ = some (.int .i64 (z : Nat)) := by rw [hz]; exact hO.out.1 k (by omega)
          have fk' := hO.out.2.1 k
          have hwk : IntKind.i64.wrap ((i : Int) + 1) = (k : Int) := by rw [wrap_of _ (by omega) (by omega)]; omega
          have hkn : (k : Int) < no := by omega
          have hin : (i : Int) < no := by omega
          have HSUM := Lib.hid (wrap_carry z x hz2 hx2)
          have HV := Lib.hid ((Dg.carry_step o i hkl).trans hv.out)
          have HC := Lib.hid (hC.out.step hkl)
          have HO := Lib.hid (hO.out.set k (z + x / 256) (by omega)).drew
          have HOL := Lib.hid (show ((o.set k (z + x / 256)).set i (x % 256)).length = no by rw [List.length_set, List.length_set]; exact hol.out)
          rw [← hk, ← hz, ← hx] at HV HC
          have hil : i < (o.set k (z + x / 256)).length := by rw [List.length_set]; omega
          have HX1 := Lib.hid (show (o.set k (z + x / 256)).getD i 0 = x by rw [Dg.getD_set_other _ _ _ _ (by omega)]; exact hx.symm)
          have HI := Lib.hid (show k + 1 ≤ no by omega)
          have HK := Lib.hid hk
          clear hol hO hv hC hkl hx hz hk
          go_wp2
          refine wp_region_any (by kernel_rfl) ?_
          try (change wpAny _ _ _ _ _ _ _ (World.drew _))
          refine wpAny_take (i := 0) (v := ?_) rfl (by kernel_rfl) (by kernel_rfl) (by kernel_rfl) (fun _ _ _ h => h) (Or.inl ⟨by rfl, ?_⟩) ?_
          rotate_left
          · intro w; go_simp; try with_reducible rfl
          refine wpAny_take (i := 1) (v := ?_) rfl (by kernel_rfl) (by kernel_rfl) (by kernel_rfl) (fun _ _ _ h => h) (Or.inl ⟨by rfl, ?_⟩) ?_
          rotate_left
          · intro w; go_simp; try with_reducible rfl
          refine wpAny_take (i := 2) (v := ?_) rfl (by kernel_rfl) (by kernel_rfl) (by kernel_rfl) (fun _ _ _ h => h) (Or.inl ⟨by rfl, ?_⟩) ?_
          rotate_left
          · intro w; go_simp; try with_reducible rfl
          refine wpAny_take (i := 3) (v := ?_) rfl (by kernel_rfl) (by kernel_rfl) (by kernel_rfl) (fun _ _ _ h => h) (Or.inl ⟨by rfl, ?_⟩) ?_
          rotate_left
          · intro w; go_simp; try with_reducible rfl
          refine wpAny_take (i := 4) (v := ?_) rfl (by kernel_rfl) (by kernel_rfl) (by kernel_rfl) (fun _ _ _ h => h) (Or.inl ⟨by rfl, ?_⟩) ?_
          rotate_left
          · intro w; go_simp; try with_reducible rfl
          refine wpAny_take (i := 5) (v := ?_) rfl (by kernel_rfl) (by kernel_rfl) (by kernel_rfl) (fun _ _ _ h => h) (Or.inl ⟨by rfl, ?_⟩) ?_
          rotate_left
          · intro w; go_simp; try with_reducible rfl
          refine wpAny_take (i := 6) (v := ?_) rfl (by kernel_rfl) (by kernel_rfl) (by kernel_rfl) (fun _ _ _ h => h) (Or.inl ⟨by rfl, ?_⟩) ?_
          rotate_left
          · intro w; go_simp; try with_reducible rfl
          refine wpAny_take (i := 8) (v := ?_) rfl (by kernel_rfl) (by kernel_rfl) (by kernel_rfl) (fun _ _ _ h => h) (Or.inl ⟨by rfl, ?_⟩) ?_
          rotate_left
          · intro w; go_simp; try with_reducible rfl
          refine wpAny_take (i := 9) (v := ?_) rfl (by kernel_rfl) (by kernel_rfl) (by kernel_rfl) (fun _ _ _ h => h) (Or.inl ⟨by rfl, ?_⟩) ?_
          rotate_left
          · intro w; go_simp; try with_reducible rfl
          refine wpAny_take (i := 10) (v := ?_) rfl (by kernel_rfl) (by kernel_rfl) (by kernel_rfl) (fun _ _ _ h => h) (Or.inl ⟨by rfl, ?_⟩) ?_
          rotate_left
          · intro w; go_simp; try with_reducible rfl
          refine wpAny_ready (rs := [7, 11]) (by kernel_rfl) (by simp) ?_
          refine AllReady.cons rfl (fun K hK => ?_) (AllReady.cons rfl (fun K hK => ?_) AllReady.nil)
          · go_simp
            refine hK _ _ ?_; clear hK K
            refine wpAny_ready (rs := [11]) (by kernel_rfl) (by simp) ?_
            refine AllReady.cons rfl (fun K hK => ?_) AllReady.nil
            go_simp
            refine hK _ _ ?_; clear hK K
            refine wpAny_take (i := 12) (v := ?_) rfl (by kernel_rfl) (by kernel_rfl) (by kernel_rfl) (fun _ _ _ h => h) (Or.inl ⟨by rfl, ?_⟩) ?_
            rotate_left
            · intro w; go_simp; try with_reducible rfl
            refine wpAny_take (i := 13) (v := ?_) rfl (by kernel_rfl) (by kernel_rfl) (by kernel_rfl) (fun _ _ _ h => h) (Or.inl ⟨by rfl, ?_⟩) ?_
            rotate_left
            · intro w; go_simp; try with_reducible rfl
            refine wpAny_take (i := 14) (v := ?_) rfl (by kernel_rfl) (by kernel_rfl) (by kernel_rfl) (fun _ _ _ h => h) (Or.inl ⟨by rfl, ?_⟩) ?_
            rotate_left
            · intro w; go_simp; try with_reducible rfl
            refine wpAny_ready (rs := [15]) (by kernel_rfl) (by simp) ?_
            refine AllReady.cons rfl (fun K hK => ?_) AllReady.nil
            go_simp
            refine hK _ _ ?_; clear hK K
            refine wpAny_done (by kernel_rfl) ?_ _
            rw [HSUM.out]
            obtain ⟨W, hW⟩ : ∃ W, W = (wr.setCell ⟨g, k, none⟩ (.int .i64 ((z + x / 256 : Nat) : Int))).drew := ⟨_, rfl⟩
            rw [← hW] at HO ⊢
            clear hW ci' ck' fk'
            have ci' : W.cell? ⟨g, i, none⟩ = some (.int .i64 (x : Nat)) := by have := HO.out.1 i hil; rwa [HX1.out] at this
            have fi' := HO.out.2.1 i
            have HM := Lib.hid (show (x : Int) % 256 = ((x % 256 : Nat) : Int) by omega)
            have HO2 := Lib.hid (HO.out.set i (x % 256) hil)
            go_wp2
            go_roundw
            case rel => exact ⟨k, (o.set k (z + x / 256)).set i (x % 256), HI.out, (by have := HK.out; go_num), HOL, (by rw [HM.out]; exact HO2), HV, HC⟩
            case measure => simp [intOf]; have := HK.out; omega
          · go_simp
            refine hK _ _ ?_; clear hK K
            refine wpAny_take (i := 12) (v := ?_) rfl (by kernel_rfl) (by kernel_rfl) (by kernel_rfl) (fun _ _ _ h => h) (Or.inl ⟨by rfl, ?_⟩) ?_
            rotate_left
            · intro w; go_simp; try with_reducible rfl
            refine wpAny_ready (rs := [7]) (by kernel_rfl) (by simp) ?_
            refine AllReady.cons rfl (fun K hK => ?_) AllReady.nil
            go_simp
            refine hK _ _ ?_; clear hK K
            refine wpAny_take (i := 13) (v := ?_) rfl (by kernel_rfl) (by kernel_rfl) (by kernel_rfl) (fun _ _ _ h => h) (Or.inl ⟨by rfl, ?_⟩) ?_
            rotate_left
            · intro w; go_simp; try with_reducible rfl
            refine wpAny_take (i := 14) (v := ?_) rfl (by kernel_rfl) (by kernel_rfl) (by kernel_rfl) (fun _ _ _ h => h) (Or.inl ⟨by rfl, ?_⟩) ?_
            rotate_left
            · intro w; go_simp; try with_reducible rfl
            refine wpAny_ready (rs := [15]) (by kernel_rfl) (by simp) ?_
            refine AllReady.cons rfl (fun K hK => ?_) AllReady.nil
            go_simp
            refine hK _ _ ?_; clear hK K
            refine wpAny_done (by kernel_rfl) ?_ _
            rw [HSUM.out]
            obtain ⟨W, hW⟩ : ∃ W, W = (wr.setCell ⟨g, k, none⟩ (.int .i64 ((z + x / 256 : Nat) : Int))).drew := ⟨_, rfl⟩
            rw [← hW] at HO ⊢
            clear hW ci' ck' fk'
            have ci' : W.cell? ⟨g, i, none⟩ = some (.int .i64 (x : Nat)) := by have := HO.out.1 i hil; rwa [HX1.out] at this
            have fi' := HO.out.2.1 i
            have HM := Lib.hid (show (x : Int) % 256 = ((x % 256 : Nat) : Int) by omega)
            have HO2 := Lib.hid (HO.out.set i (x % 256) hil)
            go_wp2
            go_roundw
            case rel => exact ⟨k, (o.set k (z + x / 256)).set i (x % 256), HI.out, (by have := HK.out; go_num), HOL, (by rw [HM.out]; exact HO2), HV, HC⟩
            case measure => simp [intOf]; have := HK.out; omega
        · have hin := Lib.hid (show i + 1 = no by omega)
          have hi1 : ¬ (i : Int) + 1 < no := by omega
          have HOK := Lib.hid (hC.out.ok (by rw [hol.out]; exact hin.out) (by
            rw [hv.out, hol.out, HNO.out, ← HNA.out, ← HNB.out, Nat.pow_add]
            exact Nat.mul_lt_mul_of_lt_of_le HOA.out.lt (Nat.le_of_lt HOB.out.lt) (Nat.pow_pos (by decide))))
          clear hlt hC
          go_wp2
          go_ret
          exact ⟨g, ⟨no, rfl⟩, Nat.le_of_eq HG.out.symm, hO.out.2.2.2.1, o, hO.out.1, HOK.out, hol.out, hv.out, hO.out.2.2.1⟩
end Go.Proofs.YtlllcdjcihnkdaaDoor
