/- Walks of the disk's small functions. -/
import Derived.Test.YthkblabpiajbhaaDoorSec
namespace Go.Proofs.YthkblabpiajbhaaDoor
open Go.RowKit

theorem down_any (w : World) (F : Nat → Prop) (g : Nat) (d : Dk.Disk) (hd : Sec w F g d) :
    Calls Tryd.prog 16 #[ptr g] w fun e w' => e = .returned (.bool d.off) ∧ w' = w := by
  obtain ⟨f, cf, l, cl, vo, n, pf, pl, ws, T, h1, h2, h3, h4, hp, h5, h6, h6', h7, h8, h9, h10, h11, h12, h13, h14⟩ := hd
  have c4 : w.cell? ⟨g, 4, none⟩ = some (.bool d.off) := h1.blk.cell rfl
  clear h1 h2 h3 h4 hp
  go_enter Tryd.func16, Tryd.ntmps16
  unfold ptr
  go_wp2
  go_ret
  exact ⟨rfl, rfl⟩
theorem down_nil (w : World) :
    Calls Tryd.prog 16 #[.pointer none] w fun e w' => e = .returned (.bool true) ∧ w' = w := by
  go_enter Tryd.func16, Tryd.ntmps16
  go_wp2
  go_ret
  exact ⟨rfl, rfl⟩
theorem size_any (w : World) (F : Nat → Prop) (g : Nat) (d : Dk.Disk) (hd : Sec w F g d) :
    Calls Tryd.prog 15 #[ptr g] w fun e w' => e = .returned (.int .i64 d.firm.length) ∧ w' = w := by
  obtain ⟨f, cf, l, cl, vo, n, pf, pl, ws, T, h1, h2, h3, h4, hp, h5, h6, h6', h7, h8, h9, h10, h11, h12, h13, h14⟩ := hd
  have c0 : w.cell? ⟨g, 0, none⟩ = some (.slice (some ⟨f, 0, none⟩) pf.length cf) := h1.blk.cell rfl
  have hl : d.firm.length = pf.length := by rw [h3, List.length_map]
  rw [hl]
  clear h1 h2 h3 h4 hl hp
  go_enter Tryd.func15, Tryd.ntmps15
  unfold ptr
  go_wp2
  go_ret
  exact ⟨rfl, rfl⟩
theorem has_any (w : World) (F : Nat → Prop) (g : Nat) (d : Dk.Disk) (i : Int) (hd : Sec w F g d) :
    Calls Tryd.prog 44 #[ptr g, .int .i64 i] w fun e w' => e = .returned (.bool (d.has i)) ∧ w' = w := by
  obtain ⟨f, cf, l, cl, vo, n, pf, pl, ws, T, h1, h2, h3, h4, hp, h5, h6, h6', h7, h8, h9, h10, h11, h12, h13, h14⟩ := hd
  have c0 : w.cell? ⟨g, 0, none⟩ = some (.slice (some ⟨f, 0, none⟩) pf.length cf) := h1.blk.cell rfl
  have hl : d.firm.length = pf.length := by rw [h3, List.length_map]
  unfold Dk.Disk.has
  rw [hl]
  clear h1 h2 h3 h4 hl hp
  by_cases hi : 0 ≤ i
  · go_enter Tryd.func44, Tryd.ntmps44
    unfold ptr
    go_wp2
    go_ret
    refine ⟨ret_bool' ?_, rfl⟩
    simp [hi]
  · go_enter Tryd.func44, Tryd.ntmps44
    unfold ptr
    go_wp2
    go_ret
    refine ⟨ret_bool' ?_, rfl⟩
    simp only [Bool.false_eq, Bool.and_eq_false_iff, decide_eq_false_iff_not]
    omega
theorem Sec.fueled {w : World} {F : Nat → Prop} {g : Nat} {d : Dk.Disk} (n : Int) (hd : Sec w F g d) (h1 : -9223372036854775808 ≤ n) (h2 : n ≤ 9223372036854775807) : Sec (w.setCell ⟨g, 3, none⟩ (.int .i64 n)) F g (d.fueled n) ∧ Moved F w F (w.setCell ⟨g, 3, none⟩ (.int .i64 n)) := by
  obtain ⟨f, cf, l, cl, vo, m, pf, pl, ws, T, k1, k2, k3, k4, kp, k5, k6, k6', k7, k8, k9, k10, k11, k12, k13, k14⟩ := hd
  have hb : But (· = g) w (w.setCell ⟨g, 3, none⟩ (.int .i64 n)) := (But.refl _ w).setCell _ _ (fun _ => rfl)
  refine ⟨⟨f, cf, l, cl, vo, n, pf, pl, ws, T, k1.setLeft n, k2.but hb (fun c hc e => (k2 c hc).1.ne k1.blk (by decide) e), k3, k4, kp, rfl, h2, h1, k7, k8, k9, k10, k11, k12, k13, fun k hk => ?_⟩, ?_, fun k hk => .inl hk⟩
  · have := k14 k hk; have := hb.size; omega
  · exact hb.mono (fun k _ e => e ▸ k10)
theorem Sec.dead {w : World} {F : Nat → Prop} {g : Nat} {d : Dk.Disk} (hd : Sec w F g d) : Sec (w.setCell ⟨g, 4, none⟩ (.bool true)) F g d.dead ∧ Moved F w F (w.setCell ⟨g, 4, none⟩ (.bool true)) := by
  obtain ⟨f, cf, l, cl, vo, m, pf, pl, ws, T, k1, k2, k3, k4, kp, k5, k6, k6', k7, k8, k9, k10, k11, k12, k13, k14⟩ := hd
  have hb : But (· = g) w (w.setCell ⟨g, 4, none⟩ (.bool true)) := (But.refl _ w).setCell _ _ (fun _ => rfl)
  refine ⟨⟨f, cf, l, cl, vo, m, pf, pl, ws, T, k1.setDown true, k2.but hb (fun c hc e => (k2 c hc).1.ne k1.blk (by decide) e), k3, k4, kp, k5, k6, k6', k7, k8, k9, k10, k11, k12, k13, fun k hk => ?_⟩, ?_, fun k hk => .inl hk⟩
  · have := k14 k hk; have := hb.size; omega
  · exact hb.mono (fun k _ e => e ▸ k10)
theorem step_any (w : World) (F : Nat → Prop) (g : Nat) (d : Dk.Disk) (hd : Sec w F g d) :
    Calls Tryd.prog 56 #[ptr g] w fun e w' => e = .returned (.bool (decide (d.fuel ≠ 0))) ∧ Sec w' F g (if d.fuel = 0 then d.dead else d.burnt) ∧ Moved F w F w' := by
  have HD := Lib.hid hd
  obtain ⟨f, cf, l, cl, vo, n, pf, pl, ws, T, k1, k2, k3, k4, kp, k5, k6, k6', k7, k8, k9, k10, k11, k12, k13, k14⟩ := hd
  have c3 : w.cell? ⟨g, 3, none⟩ = some (.int .i64 n) := k1.blk.cell rfl
  have f3 : w.frozen? ⟨g, 3, none⟩ = false := k1.blk.frozen 3
  have c4 : w.cell? ⟨g, 4, none⟩ = some (.bool d.off) := k1.blk.cell rfl
  have f4 : w.frozen? ⟨g, 4, none⟩ = false := k1.blk.frozen 4
  have HK := Lib.hid (And.intro k5 (And.intro k2 (And.intro k3 (And.intro k4 (And.intro kp k9)))))
  clear k1 k2 k3 k4 kp k5 k9 k14 k13
  by_cases h0 : n = 0
  · subst h0
    have hf : d.fuel = 0 := by rw [← HK.out.1]; rfl
    rw [if_pos hf]
    go_enter Tryd.func56, Tryd.ntmps56
    unfold ptr
    go_wp2
    go_ret
    exact ⟨ret_bool' (by rw [decide_eq_false]; exact fun h => h hf), HD.out.dead⟩
  · have hf : ¬ d.fuel = 0 := by rw [← HK.out.1]; omega
    rw [if_neg hf]
    by_cases hp : 0 < n
    · have hp' : n > 0 := hp
      have hw : IntKind.i64.wrap (n - 1) = n - 1 := by rw [IntKind.wrap_i64]; omega
      go_enter Tryd.func56, Tryd.ntmps56
      unfold ptr
      go_wp2
      go_ret
      have hq := HD.out.fueled (n - 1) (by omega) (by omega)
      have e : d.fueled (n - 1) = d.burnt := by
        have := HK.out.1
        unfold Dk.Disk.fueled Dk.Disk.burnt
        congr 1
        rw [if_pos (by omega)]
        omega
      rw [e] at hq
      refine ⟨ret_bool' (by rw [decide_eq_true hf]), hq⟩
    · have hp' : ¬ n > 0 := hp
      go_enter Tryd.func56, Tryd.ntmps56
      unfold ptr
      go_wp2
      go_ret
      have e : d.burnt = d := by
        have := HK.out.1
        unfold Dk.Disk.burnt
        rw [if_neg (by omega)]
      rw [e]
      exact ⟨rfl, HD.out, Moved.refl _ _⟩
end Go.Proofs.YthkblabpiajbhaaDoor
