/- Walk of the reference's roots, and of the statement on them. -/
import Derived.Test.YtlllcdjcihnkdaaDoorRoot
import Derived.Test.YtlllcdjcihnkdaaDoorRefPrint
namespace Go.Proofs.YtlllcdjcihnkdaaDoor
open Go.RowKit

/-- What the loop has appended when it comes to p. -/
theorem Rt.roots_succ (power p : Nat) : Rt.roots power (p + 1) = Rt.roots power p ++ (if 2 ≤ p ∧ Rt.isPrime p = true then [Rt.rootOf power p % 4294967296] else []) := rfl
theorem Rt.roots_le (power : Nat) : ∀ p, (Rt.roots power p).length ≤ p := by
  intro p
  induction p with
  | zero => exact Nat.le_refl _
  | succ p ih =>
    rw [Rt.roots_succ, List.length_append]
    split <;> simp <;> omega

theorem OwnU.later {B B' : Nat} {w w' : World} {v : Value} {l : List Nat} (h : OwnU B w v l) (hb : Below B' w w') (hB : w.heap.size ≤ B') : OwnU B w' v l := by
  refine ⟨h.1, ?_⟩
  rcases h.2 with h0 | ⟨g, cap, cur, e, hg, hh, r⟩
  · exact .inl h0
  · have hlt : g < w.heap.size := (Array.getElem?_eq_some_iff.1 hh).1
    exact .inr ⟨g, cap, cur, e, hg, by rw [hb.block g (by omega)]; exact hh, r⟩
theorem OwnU.slice {B : Nat} {w : World} {v : Value} {l : List Nat} (h : OwnU B w v l) : ∃ a cap, v = .slice a l.length cap := by
  rcases Nat.eq_zero_or_pos l.length with h0 | h0
  · rcases h.2 with ⟨e, _⟩ | ⟨g, cap, cur, e, _⟩
    · exact ⟨none, 0, by rw [e, h0]⟩
    · exact ⟨_, cap, e⟩
  · obtain ⟨g, cap, e, _⟩ := h.form h0
    exact ⟨_, cap, e⟩

theorem roots_any (n power M : Nat) (w : World) (hw2 : 2 ≤ power) (hw3 : power ≤ 3) (hM2 : 2 ≤ M) (hM : M ≤ 312)
    (htill : ∀ p, p < M → (Rt.roots power p).length < n) (hend : (Rt.roots power M).length = n) (hok : ∀ p, p < M → Rt.IsRoot power p (Rt.rootOf power p)) :
    Calls Tryd.prog 11 #[.int .i64 n, .int .i64 power] w fun e w' => ∃ v, e = .returned v ∧ OwnU w.heap.size w' v (Rt.roots power M) ∧ Below w.heap.size w w' := by
  have HT := Lib.hid htill
  have HE := Lib.hid hend
  have HOK := Lib.hid hok
  clear htill hend hok
  go_enter Tryd.func11, Tryd.ntmps11
  go_wp2
  go_loopw [5, 6] (fun v i wr => ∃ p : Nat, 2 ≤ p ∧ p ≤ M ∧ i = .int .i64 p ∧ Hid (OwnU w.heap.size wr v (Rt.roots power p)) ∧ Hid (Below w.heap.size w wr)) (fun _ i _ => M - (intOf i).toNat)
  case atStart => exact ⟨2, Nat.le_refl _, hM2, rfl, OwnU.nil _ _, Below.refl _ _⟩
  case round =>
    obtain ⟨p, hp2, hp, rfl, hown, hb⟩ := hrel
    obtain ⟨va, cap, hv⟩ := hown.out.slice
    obtain ⟨l, hl⟩ : ∃ l, l = (Rt.roots power p).length := ⟨_, rfl⟩
    have hl400 : l ≤ 400 := by have := Rt.roots_le power p; omega
    have HV := Lib.hid hv
    rw [← hl] at hv
    have HL := Lib.hid hl
    subst hv
    clear hl
    by_cases hlt : l < n
    · have hpM := Lib.hid (show p < M by
        rcases Nat.lt_or_ge p M with h | h
        · exact h
        · have e : p = M := Nat.le_antisymm hp h
          have h1 := HL.out
          have h2 := HE.out
          rw [e] at h1
          omega)
      have hlt' : (l : Int) < n := by omega
      go_wp2_with fail
      refine (prime_any p (by omega) _).mono ?_
      rintro e w1 ⟨rfl, rfl⟩
      by_cases hpr : Rt.isPrime p = true
      · have HR := Lib.hid (show Rt.roots power (p + 1) = Rt.roots power p ++ [Rt.rootOf power p % 4294967296] by rw [Rt.roots_succ, if_pos ⟨hp2, hpr⟩])
        rw [hpr]
        clear hpr hlt hlt'
        go_wp2_with fail
        refine (root_any p power (Rt.rootOf power p) _ (by omega) hw2 hw3 (HOK.out p hpM.out)).mono ?_
        rintro e w2 ⟨rfl, hb2⟩
        have hown2 := hown.out.later hb2 (Nat.le_refl _)
        have hbb := hb.out.trans (hb2.mono hb.out.size)
        have HP1 := Lib.hid (show p + 1 ≤ M from hpM.out)
        have HL4 := Lib.hid (show (Rt.roots power p).length ≤ 400 by rw [← HL.out]; exact hl400)
        rw [HV.out] at hown2 ⊢
        clear hown hb hb2
        go_wp2_with (at_builtin; refine wpList_appU rfl _ _ rfl w.heap.size w _ _ rfl (hown2.alloc _) (hbb.alloc hbb.size _) (by have := hbb.size; simp; omega) ⟨w2.heap.size, 0, none⟩ 1 1 [Rt.rootOf power p % 4294967296] rfl rfl (news_u64 _ _ _ _ (u64s_one_eq _ _ rfl)) (by have := HL4.out; simp; omega) ?_; intro v4 w4 hown4 hb4)
        exact ⟨⟨p + 1, by omega, HP1.out, by go_num, by rw [HR.out]; exact hown4, hb4⟩, by have := HP1.out; simp [intOf]; omega⟩
      · have HR := Lib.hid (show Rt.roots power (p + 1) = Rt.roots power p by rw [Rt.roots_succ, if_neg (fun h => hpr h.2), List.append_nil])
        rw [Bool.not_eq_true] at hpr
        rw [hpr]
        clear hpr hlt hlt'
        go_wp2
        go_roundw
        case rel => exact ⟨p + 1, by omega, hpM.out, by go_num, by rw [HR.out]; exact hown, hb⟩
        case measure => have := hpM.out; simp [intOf]; omega
    · have hpM := Lib.hid (show p = M by
        rcases Nat.lt_or_ge p M with h | h
        · have := HT.out p h
          have := HL.out
          omega
        · exact Nat.le_antisymm hp h)
      have hlt' : ¬ (l : Int) < n := by omega
      go_wp2
      go_ret
      exact ⟨_, rfl, by rw [← hpM.out]; exact hown.out, hb.out⟩

theorem rootsLaw_any (s : ByteArray) (w : World) (hT : Tabs w) :
    Calls Tryd.prog 4 #[.string s] w fun e w' => e = .returned (.bool true) ∧ Below w.heap.size w w' := by
  have HT := Lib.hid hT
  clear hT
  by_cases hs : s.size ≤ 200
  · have hs1 : ¬ ((s.size : Int) > 200) := by omega
    go_enter Tryd.func4, Tryd.ntmps4
    go_wp2_with fail
    refine (adds_any _ HT.out).mono ?_
    rintro e w1 ⟨rfl, hb1⟩
    go_wp2_with fail
    refine (roots_any 8 2 20 _ (by decide) (by decide) (by decide) (by decide) Rt.squares_till (by rw [Rt.squares_are]; rfl) Rt.squares_ok).mono ?_
    rintro e w2 ⟨v2, rfl, hown2, hb2⟩
    rw [Rt.squares_are] at hown2
    obtain ⟨gf, cf, rfl, hf1, hf2⟩ := hown2.form (show 0 < Sha.H0.list.length by decide)
    have hRf := hown2.rw rfl
    clear hown2
    go_wp2_with fail
    refine (roots_any 64 3 312 _ (by decide) (by decide) (by decide) (by decide) Rt.cubes_till (by rw [Rt.cubes_are]; rfl) Rt.cubes_ok).mono ?_
    rintro e w3 ⟨v3, rfl, hown3, hb3⟩
    rw [Rt.cubes_are] at hown3
    obtain ⟨gk, ck, rfl, hk1, hk2⟩ := hown3.form (show 0 < Sha.cubes.length by decide)
    have hRk := hown3.rw rfl
    clear hown3
    have hRf3 := hRf.below hb3 hf2
    have hf3 : gf < w3.heap.size := by have := hb3.size; omega
    have hb12 : Below w.heap.size w w2 := hb1.trans (hb2.mono hb1.size)
    have hb13 : Below w.heap.size w w3 := hb12.trans (hb3.mono hb12.size)
    have HRF := Lib.hid hRf3
    have HRK := Lib.hid hRk
    clear hRf hRf3 hRk
    go_wp2_with fail
    refine (print_any s _ (HT.out.below hb13 (Nat.le_refl _)) (by omega)).mono ?_
    rintro e w4 ⟨rfl, hb4⟩
    go_wp2_with fail
    refine (by_any s _ (by omega) Sha.H0 Sha.H0_ok Sha.cubes rfl Sha.cubes_ok gf gk cf ck (HRF.out.below hb4 hf3) (by have := hb4.size; omega) (HRK.out.below hb4 hk2) (by have := hb4.size; omega)).mono ?_
    rintro e w5 ⟨he, hb5⟩
    obtain rfl : e = .returned (.string ⟨(Sha.print s.data.toList).toArray⟩) := he
    have hb14 : Below w.heap.size w w4 := hb13.trans (hb4.mono hb13.size)
    have hall : Below w.heap.size w w5 := hb14.trans (hb5.mono hb14.size)
    go_wp2
    go_ret
    exact ⟨rfl, hall⟩
  · have hs1 : (200 : Int) < s.size := by omega
    go_enter Tryd.func4, Tryd.ntmps4
    go_wp2_with fail
    refine (adds_any _ HT.out).mono ?_
    rintro e w1 ⟨rfl, hb1⟩
    go_wp2_with fail
    refine (adds_any _ (HT.out.below hb1 (Nat.le_refl _))).mono ?_
    rintro e w2 ⟨rfl, hb2⟩
    go_wp2
    go_ret
    exact ⟨rfl, hb1.trans (hb2.mono hb1.size)⟩
end Go.Proofs.YtlllcdjcihnkdaaDoor
