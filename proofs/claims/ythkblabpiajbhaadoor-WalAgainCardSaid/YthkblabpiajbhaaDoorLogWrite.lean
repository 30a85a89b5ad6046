/- Walks of the log's write, flush, held, heldInRing, Read. -/
import Derived.Test.YthkblabpiajbhaaDoorLogSmall
namespace Go.Proofs.YthkblabpiajbhaaDoor
open Go.RowKit Lib

theorem Wl.Lg.with_same (s : Wl.Lg) : s.with (s.down, s.d) = s := by cases s; rfl
set_option maxHeartbeats 1000000 in
theorem lwrite_any (w : World) (F : Nat → Prop) (b g : Nat) (s : Wl.Lg) (i : Nat) (t : ByteArray) (hl : Log w F b g s) (hn : s.d.loose.length ≤ 900000000) :
    Calls Tryd.prog 30 #[ptr b, .int .i64 i, .string t] w fun e w' => e = .returned (.tuple #[]) ∧ ∃ F', Log w' F' b g (s.with (Wl.wr (s.down, s.d) (i, t.data.toList))) ∧ Moved F w F' w' := by
  obtain ⟨mb, FD, h⟩ := hl
  have c0 := h.c0
  have c7 := h.c7
  have HH := Lib.hid h
  clear h
  by_cases hd : s.down = true
  · have HR : s.with (Wl.wr (s.down, s.d) (i, t.data.toList)) = s := by
      rw [hd, Wl.wr_down, ← hd, Wl.Lg.with_same]
    rw [HR]
    clear HR
    rw [hd] at c7
    clear hd
    go_enter Tryd.func30, Tryd.ntmps30
    unfold ptr
    go_wp2
    refine bodyPost_end (results_none rfl _ _ _) rfl ?_
    exact ⟨rfl, F, HH.out.log, Moved.refl _ _⟩
  · have hd' : s.down = false := by simpa using hd
    have HR : s.with (Wl.wr (s.down, s.d) (i, t.data.toList)) = { s with down := decide ((s.d.write i t.data.toList).1 ≠ 0), d := (s.d.write i t.data.toList).2 } := by
      unfold Wl.wr Wl.Lg.with
      rw [hd']
      rfl
    rw [HR]
    rw [hd'] at c7
    have HW := Lib.hid (Lib.hid hd')
    clear HR hd hd'
    go_enter Tryd.func30, Tryd.ntmps30
    unfold ptr
    go_wp2_with fail
    refine (write_any w FD g s.d i t HH.out.sec hn).mono ?_
    rintro e w1 ⟨rfl, FD', hs1, hm1⟩
    obtain ⟨hp, hm⟩ := HH.out.turned hs1 hm1
    have k7 := hp.c7
    have f7 := hp.blk.frozen 7
    have e7 : ({ s with d := (s.d.write i t.data.toList).2 } : Wl.Lg).down = false := HW.out.out
    rw [e7] at k7
    have HP := Lib.hid (And.intro hp hm)
    clear hs1 hm1 hp hm e7
    generalize hq : s.d.write i t.data.toList = q at *
    obtain ⟨c, d'⟩ := q
    simp only at HP ⊢
    have HQ := Lib.hid hq
    clear hq c0 c7
    by_cases hc : c = 0
    · subst hc
      go_wp2
      refine bodyPost_end (results_none rfl _ _ _) rfl ?_
      refine ⟨rfl, _, ?_, HP.out.2⟩
      rw [HQ.out]
      have e : ({ s with down := decide ((0 : Int) ≠ 0), d := d' } : Wl.Lg) = { s with d := d' } := by
        have := HW.out.out
        cases s; simp only at this; subst this; rfl
      rw [e]
      exact HP.out.1.log
    · have hc1 : (c != 0) = true := by rw [bne_iff_ne]; exact hc
      have hc2 : (c == 0) = false := beq_eq_false_iff_ne.2 hc
      have HC := Lib.hid hc
      clear hc
      go_wp2
      refine bodyPost_end (results_none rfl _ _ _) rfl ?_
      rw [HQ.out]
      have hs := HP.out.1.set 7 (.bool true) { s with down := decide (c ≠ 0), d := d' } (by rw [decide_eq_true HC.out]; rfl) rfl rfl
      exact ⟨rfl, _, hs.1.log, HP.out.2.trans hs.2⟩
set_option maxHeartbeats 1000000 in
theorem lflush_any (w : World) (F : Nat → Prop) (b g : Nat) (s : Wl.Lg) (hl : Log w F b g s) :
    Calls Tryd.prog 19 #[ptr b] w fun e w' => e = .returned (.tuple #[]) ∧ ∃ F', Log w' F' b g (s.with (Wl.fl (s.down, s.d))) ∧ Moved F w F' w' := by
  obtain ⟨mb, FD, h⟩ := hl
  have c0 := h.c0
  have c7 := h.c7
  have HH := Lib.hid h
  clear h
  by_cases hd : s.down = true
  · have HR : s.with (Wl.fl (s.down, s.d)) = s := by
      rw [hd, Wl.fl_down, ← hd, Wl.Lg.with_same]
    rw [HR]
    clear HR
    rw [hd] at c7
    clear hd
    go_enter Tryd.func19, Tryd.ntmps19
    unfold ptr
    go_wp2
    refine bodyPost_end (results_none rfl _ _ _) rfl ?_
    exact ⟨rfl, F, HH.out.log, Moved.refl _ _⟩
  · have hd' : s.down = false := by simpa using hd
    have HR : s.with (Wl.fl (s.down, s.d)) = { s with down := decide (s.d.flush.1 ≠ 0), d := s.d.flush.2 } := by
      unfold Wl.fl Wl.Lg.with
      rw [hd']
      rfl
    rw [HR]
    rw [hd'] at c7
    have HW := Lib.hid (Lib.hid hd')
    clear HR hd hd'
    go_enter Tryd.func19, Tryd.ntmps19
    unfold ptr
    go_wp2_with fail
    refine (flush_any w FD g s.d HH.out.sec).mono ?_
    rintro e w1 ⟨rfl, hs1, hm1⟩
    obtain ⟨hp, hm⟩ := HH.out.turned hs1 hm1
    have k7 := hp.c7
    have f7 := hp.blk.frozen 7
    have e7 : ({ s with d := s.d.flush.2 } : Wl.Lg).down = false := HW.out.out
    rw [e7] at k7
    have HP := Lib.hid (And.intro hp hm)
    clear hs1 hm1 hp hm e7
    generalize hq : s.d.flush = q at *
    obtain ⟨c, d'⟩ := q
    simp only at HP ⊢
    have HQ := Lib.hid hq
    clear hq c0 c7
    by_cases hc : c = 0
    · subst hc
      go_wp2
      refine bodyPost_end (results_none rfl _ _ _) rfl ?_
      refine ⟨rfl, _, ?_, HP.out.2⟩
      rw [HQ.out]
      have e : ({ s with down := decide ((0 : Int) ≠ 0), d := d' } : Wl.Lg) = { s with d := d' } := by
        have := HW.out.out
        cases s; simp only at this; subst this; rfl
      rw [e]
      exact HP.out.1.log
    · have hc1 : (c != 0) = true := by rw [bne_iff_ne]; exact hc
      have hc2 : (c == 0) = false := beq_eq_false_iff_ne.2 hc
      have HC := Lib.hid hc
      clear hc
      go_wp2
      refine bodyPost_end (results_none rfl _ _ _) rfl ?_
      rw [HQ.out]
      have hs := HP.out.1.set 7 (.bool true) { s with down := decide (c ≠ 0), d := d' } (by rw [decide_eq_true HC.out]; rfl) rfl rfl
      exact ⟨rfl, _, hs.1.log, HP.out.2.trans hs.2⟩
theorem held_any (w : World) (F : Nat → Prop) (b g : Nat) (s : Wl.Lg) (i : Int) (hl : Log w F b g s) :
    Calls Tryd.prog 33 #[ptr b, .int .i64 i] w fun e w' => e = .returned (.string (bs (s.d.read i).1)) ∧ w' = w := by
  obtain ⟨mb, FD, h⟩ := hl
  have c0 := h.c0
  have HS := Lib.hid h.sec
  clear h
  go_enter Tryd.func33, Tryd.ntmps33
  unfold ptr
  go_wp2_with fail
  refine (read_any w FD g s.d i HS.out).mono ?_
  rintro e w1 ⟨rfl, rfl⟩
  go_wp2
  go_ret
  exact ⟨rfl, rfl⟩
theorem heldInRing_any (w : World) (F : Nat → Prop) (b g : Nat) (s : Wl.Lg) (i : Nat) (hl : Log w F b g s) (hr : s.ring ≤ 4096) (hr1 : 1 ≤ s.ring) (hi : i ≤ 1000000) :
    Calls Tryd.prog 36 #[ptr b, .int .i64 i] w fun e w' => e = .returned (.string (bs (s.d.read (Wl.pos s.ring i : Nat)).1)) ∧ w' = w := by
  have HL := Lib.hid hl
  clear hl
  go_enter Tryd.func36, Tryd.ntmps36
  go_wp2_with fail
  refine (sectorOfRing_any w F b g s i HL.out hr hr1 hi).mono ?_
  rintro e w1 ⟨rfl, rfl⟩
  go_wp2_with fail
  refine (held_any w1 F b g s _ HL.out).mono ?_
  rintro e w2 ⟨rfl, rfl⟩
  go_wp2
  go_ret
  exact ⟨rfl, rfl⟩
/-- What an up disk's sector has. -/
theorem Dk.read_on {d : Dk.Disk} (ho : d.off = false) {i : Nat} (h : i < d.firm.length) : d.read i = (d.now.getD i [], 0) := by
  unfold Dk.Disk.read
  rw [ho, if_neg (by decide), if_pos (by simp [Dk.Disk.has, h])]
  rfl
theorem Dk.read_at {d : Dk.Disk} (ho : d.off = false) {i : Nat} {t : List UInt8} (h : d.now[i]? = some t) : d.read i = (t, 0) := by
  have hl : i < d.firm.length := by
    have := (List.getElem?_eq_some_iff.1 h).1
    rw [Dk.Disk.now, Dk.puts_length] at this
    exact this
  rw [Dk.read_on ho hl, List.getD_eq_getElem?_getD, h]; rfl
end Go.Proofs.YthkblabpiajbhaaDoor
