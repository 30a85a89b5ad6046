/- Walks of the log's small functions. -/
import Derived.Test.YthkblabpiajbhaaDoorLog
namespace Go.Proofs.YthkblabpiajbhaaDoor
open Go.RowKit Lib

theorem ldown_nil (w : World) : Calls Tryd.prog 20 #[.pointer none] w fun e w' => e = .returned (.bool true) ∧ w' = w := by
  go_enter Tryd.func20, Tryd.ntmps20
  go_wp2
  go_ret
  exact ⟨rfl, rfl⟩
theorem ldown_any (w : World) (F : Nat → Prop) (b g : Nat) (s : Wl.Lg) (hl : Log w F b g s) :
    Calls Tryd.prog 20 #[ptr b] w fun e w' => e = .returned (.bool s.off) ∧ w' = w := by
  obtain ⟨mb, FD, h⟩ := hl
  have c0 := h.c0
  have c7 := h.c7
  have HS := Lib.hid h.sec
  clear h
  unfold Wl.Lg.off
  cases hd : s.down
  · rw [hd] at c7
    go_enter Tryd.func20, Tryd.ntmps20
    unfold ptr
    go_wp2_with fail
    refine (down_any _ _ _ _ HS.out).mono ?_
    rintro e w1 ⟨rfl, rfl⟩
    go_wp2
    go_ret
    exact ⟨rfl, rfl⟩
  · rw [hd] at c7
    go_enter Tryd.func20, Tryd.ntmps20
    unfold ptr
    go_wp2
    go_ret
    exact ⟨rfl, rfl⟩
theorem homes_nil (w : World) : Calls Tryd.prog 13 #[.pointer none] w fun e w' => e = .returned (.int .i64 0) ∧ w' = w := by
  go_enter Tryd.func13, Tryd.ntmps13
  go_wp2
  go_ret
  exact ⟨rfl, rfl⟩
theorem homes_any (w : World) (F : Nat → Prop) (b g : Nat) (s : Wl.Lg) (hl : Log w F b g s) :
    Calls Tryd.prog 13 #[ptr b] w fun e w' => e = .returned (.int .i64 s.homes) ∧ w' = w := by
  obtain ⟨mb, FD, h⟩ := hl
  have c2 := h.c2
  clear h
  go_enter Tryd.func13, Tryd.ntmps13
  unfold ptr
  go_wp2
  go_ret
  exact ⟨rfl, rfl⟩
def Wl.Lg.has (s : Wl.Lg) (i : Int) : Bool := decide (0 ≤ i) && decide (i < s.homes)
theorem lhas_any (w : World) (F : Nat → Prop) (b g : Nat) (s : Wl.Lg) (i : Int) (hl : Log w F b g s) :
    Calls Tryd.prog 25 #[ptr b, .int .i64 i] w fun e w' => e = .returned (.bool (s.has i)) ∧ w' = w := by
  obtain ⟨mb, FD, h⟩ := hl
  have c2 := h.c2
  clear h
  unfold Wl.Lg.has
  by_cases hi : 0 ≤ i
  · go_enter Tryd.func25, Tryd.ntmps25
    unfold ptr
    go_wp2
    go_ret
    refine ⟨ret_bool' ?_, rfl⟩
    simp [hi]
  · go_enter Tryd.func25, Tryd.ntmps25
    unfold ptr
    go_wp2
    go_ret
    refine ⟨ret_bool' ?_, rfl⟩
    simp only [Bool.false_eq, Bool.and_eq_false_iff, decide_eq_false_iff_not]
    omega
theorem sectorOf_any (w : World) (F : Nat → Prop) (b g : Nat) (s : Wl.Lg) (i : Nat) (hl : Log w F b g s) (hr : s.ring ≤ 4096) (hi : i ≤ 1000000) :
    Calls Tryd.prog 27 #[ptr b, .int .i64 i] w fun e w' => e = .returned (.int .i64 ((1 + s.ring + i : Nat) : Int)) ∧ w' = w := by
  obtain ⟨mb, FD, h⟩ := hl
  have c1 := h.c1
  clear h
  have hr' : (s.ring : Int) ≤ 4096 := by omega
  have hi' : (i : Int) ≤ 1000000 := by omega
  go_enter Tryd.func27, Tryd.ntmps27
  unfold ptr
  go_wp2
  go_ret
  exact ⟨ret_int' (by omega), rfl⟩
theorem sectorOfRing_any (w : World) (F : Nat → Prop) (b g : Nat) (s : Wl.Lg) (i : Nat) (hl : Log w F b g s) (hr : s.ring ≤ 4096) (hr1 : 1 ≤ s.ring) (hi : i ≤ 1000000) :
    Calls Tryd.prog 41 #[ptr b, .int .i64 i] w fun e w' => e = .returned (.int .i64 (Wl.pos s.ring i : Nat)) ∧ w' = w := by
  obtain ⟨mb, FD, h⟩ := hl
  have c1 := h.c1
  clear h
  have hr' : (s.ring : Int) ≤ 4096 := by omega
  have hr1' : (1 : Int) ≤ s.ring := by omega
  have hr0 : ((s.ring : Int) == 0) = false := by rw [beq_eq_false_iff_ne]; omega
  have hi' : (i : Int) ≤ 1000000 := by omega
  have hm : (i : Int) % (s.ring : Int) < 4096 := by have := Int.emod_lt_of_pos (i : Int) (b := (s.ring : Int)) (by omega); omega
  have hm0 : 0 ≤ (i : Int) % (s.ring : Int) := Int.emod_nonneg _ (by omega)
  go_enter Tryd.func41, Tryd.ntmps41
  unfold ptr
  go_wp2
  go_ret
  exact ⟨ret_int' (by unfold Wl.pos; omega), rfl⟩
theorem sizeOf_any (w : World) (n : Nat) (hn : n ≤ 1000000) : Calls Tryd.prog 22 #[.int .i64 n] w fun e w' => e = .returned (.int .i64 (Wl.sizeOf n : Nat)) ∧ w' = w := by
  have hn' : (n : Int) ≤ 1000000 := by omega
  go_enter Tryd.func22, Tryd.ntmps22
  go_wp2
  go_ret
  exact ⟨ret_int' (by unfold Wl.sizeOf; omega), rfl⟩
end Go.Proofs.YthkblabpiajbhaaDoor
