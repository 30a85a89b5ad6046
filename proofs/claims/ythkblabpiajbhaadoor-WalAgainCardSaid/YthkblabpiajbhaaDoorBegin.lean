/- Walk of begin. -/
import Derived.Test.YthkblabpiajbhaaDoorResume
import Derived.Test.YthkblabpiajbhaaDoorCheck
namespace Go.Proofs.YthkblabpiajbhaaDoor
open Go.RowKit Lib

theorem blank_first (size ring a n : Nat) : Wl.blank (Dk.full (Wl.first size ring a n)) = false := by
  simp [Wl.blank, Dk.full, Wl.first, Wl.title]
set_option maxRecDepth 100000 in
set_option maxHeartbeats 4000000 in
/-- A disk that isn't new: it stays. -/
theorem begin_not (w : World) (F : Nat → Prop) (b g : Nat) (s : Wl.Lg) (hl : Log w F b g s) (hs : 1 ≤ s.d.firm.length) (hb : Wl.blank (s.d.read 0).1 = false) (hlen : (s.d.read 0).1.length ≤ 1000000) :
    Calls Tryd.prog 17 #[ptr b] w fun e w' => e = .returned (.bool false) ∧ Below w.heap.size w w' := by
  have HL := Lib.hid hl
  have HB := Lib.hid (And.intro hb hlen)
  obtain ⟨mb, FD, hp⟩ := hl
  have c0 := hp.c0
  have HP := Lib.hid hp.sec
  have hsI : (1 : Int) ≤ s.d.firm.length := by omega
  have hsI0 : (0 : Int) < s.d.firm.length := by omega
  clear hp hb hlen
  go_enter Tryd.func17, Tryd.ntmps17
  unfold ptr
  go_wp2_with fail
  refine (size_any w FD g s.d HP.out).mono ?_
  rintro e w1 ⟨rfl, rfl⟩
  go_wp2_with fail
  go_loopw [9] (fun i wr => i = .int .i64 0 ∧ wr = w1) (fun _ _ => 0)
  case atStart => exact ⟨rfl, rfl⟩
  case round =>
    obtain ⟨rfl, rfl⟩ := hrel
    go_wp2_with fail
    refine (held_any _ F b g s 0 HL.out).mono ?_
    rintro e w2 ⟨rfl, rfl⟩
    go_wp2_with fail
    refine (wblank_any _ _ (by rw [bs_size]; have := HB.out.2; omega)).mono ?_
    rintro e w3 ⟨rfl, nq, rfl⟩
    rw [bs_list, HB.out.1]
    go_wp2
    go_ret
    exact ⟨rfl, below_drawn _ _⟩
/-- A disk of noughts. -/
def begot (ring size : Nat) : Wl.Lg := ⟨ring, size - 1 - ring, 0, 1, 0, [], false, Dk.fresh size⟩
set_option maxRecDepth 100000 in
set_option maxHeartbeats 4000000 in
theorem begin_new (w : World) (F : Nat → Prop) (b g ring size : Nat) (hl : Log w F b g ⟨ring, size - 1 - ring, 0, 0, 0, [], false, Dk.fresh size⟩) (hr : ring ≤ 4096) (hs : size ≤ 65536) (hs1 : 1 ≤ size) :
    Calls Tryd.prog 17 #[ptr b] w fun e w' => e = .returned (.bool true) ∧ ∃ F', Log w' F' b g ((begot ring size).with (Wl.wr (false, Dk.fresh size) (0, Wl.first size ring 0 1))) ∧ Moved F w F' w' := by
  have HL := Lib.hid hl
  obtain ⟨mb, FD, hp⟩ := hl
  have c0 := hp.c0
  have HP := Lib.hid hp.sec
  have hsI : (size : Int) ≤ 65536 := by omega
  have hlen : (Dk.fresh size).firm.length = size := by simp [Dk.fresh]
  have hrd : ∀ k, k < size → ((Dk.fresh size).read (k : Nat)).1 = Dk.full [] := by
    intro k hk
    rw [Dk.read_at rfl (show (Dk.fresh size).now[k]? = some (Dk.full []) by show (Dk.puts (List.replicate size (Dk.full [])) [])[k]? = _; rw [Dk.puts_nil, List.getElem?_replicate, if_pos hk])]
  have HRD := Lib.hid hrd
  clear hp hrd
  go_enter Tryd.func17, Tryd.ntmps17
  unfold ptr
  go_wp2_with fail
  refine (size_any w FD g _ HP.out).mono ?_
  rintro e w1 ⟨rfl, rfl⟩
  rw [hlen]
  go_wp2_with fail
  go_loopw [9] (fun i wr => ∃ k : Nat, k ≤ size ∧ i = .int .i64 k ∧ Hid (Below w1.heap.size w1 wr)) (fun i _ => size - (Go.RowKit.intOf i).toNat)
  case atStart => exact ⟨0, Nat.zero_le _, rfl, Lib.hid (Below.refl _ _)⟩
  case round =>
    obtain ⟨k, hk, rfl, hB⟩ := hrel
    by_cases hlt : k < size
    · have hI : (k : Int) < size := by omega
      have hkI : (k : Int) ≤ 65536 := by omega
      have hk0 : (0 : Int) ≤ k := by omega
      have HK := Lib.hid hlt
      clear hlt hk
      go_wp2_with fail
      refine (held_any wr F b g _ k (HL.out.below hB.out)).mono ?_
      rintro e w2 ⟨rfl, rfl⟩
      rw [show ((Dk.fresh size).read (k : Nat)).1 = Dk.full [] from HRD.out k HK.out]
      go_wp2_with fail
      refine (wblank_any _ _ (by rw [bs_size, Wl.full_nil]; decide)).mono ?_
      rintro e w3 ⟨rfl, nq, rfl⟩
      rw [bs_list, Wl.blank_nought]
      have HB3 := Lib.hid (hB.out.trans ((below_drawn w2 nq).mono hB.out.size))
      go_wp2
      go_roundw
      case rel => exact ⟨k + 1, HK.out, by go_num, HB3⟩
      case measure => have := HK.out; simp [Go.RowKit.intOf]; omega
    · obtain rfl : size = k := by omega
      have hL := HL.out.below hB.out
      have k3 : wr.cell? ⟨b, 3, none⟩ = some (.int .i64 0) := hL.c3
      have k4 : wr.cell? ⟨b, 4, none⟩ = some (.int .u64 0) := hL.c4
      obtain ⟨mq, FQ, hq⟩ := hL
      have f3 := hq.blk.frozen 3
      have f4 := hq.blk.frozen 4
      have HQ := Lib.hid hq
      clear hq
      go_wp2_with fail
      have s1 := HQ.out.set 3 (.int .i64 0) ⟨ring, size - 1 - ring, 0, 0, 0, [], false, Dk.fresh size⟩ rfl rfl rfl
      have s2 := s1.1.set 4 (.int .u64 1) (begot ring size) rfl rfl rfl
      obtain ⟨Y, hY⟩ : ∃ Y, Y = (wr.setCell ⟨b, 3, none⟩ (.int .i64 0)).setCell ⟨b, 4, none⟩ (.int .u64 1) := ⟨_, rfl⟩
      have hM := s1.2.trans s2.2
      have hL2 := s2.1
      rw [← hY] at hM hL2 ⊢
      have hd7 : But (fun _ => False) Y Y.drew := (But.refl _ Y).drew
      have HY := Lib.hid (show LogP Y.drew F b g mq FQ (begot ring size) ∧ Moved F w1 F Y.drew from ⟨hL2.but hd7 (fun _ _ h => h), (show Moved F w1 F wr from ⟨But.of_below hB.out _, fun _ h => .inl h⟩).trans (hM.trans ⟨hd7.mono (fun _ _ h => h.elim), fun _ h => .inl h⟩)⟩)
      clear s1 s2 hY hM hL2 hd7 k3 k4 f3 f4 c0
      have c0 : Y.drew.cell? ⟨b, 0, none⟩ = some (.pointer (some ⟨g, 0, none⟩)) := HY.out.1.c0
      have c1 : Y.drew.cell? ⟨b, 1, none⟩ = some (.int .i64 ring) := HY.out.1.c1
      have c3 : Y.drew.cell? ⟨b, 3, none⟩ = some (.int .i64 0) := HY.out.1.c3
      have c4 : Y.drew.cell? ⟨b, 4, none⟩ = some (.int .u64 1) := HY.out.1.c4
      go_region_held3 (fun w' => w'.cell? ⟨b, 0, none⟩ = some (.pointer (some ⟨g, 0, none⟩)) ∧ w'.cell? ⟨b, 1, none⟩ = some (.int .i64 ring) ∧ w'.cell? ⟨b, 3, none⟩ = some (.int .i64 0) ∧ w'.cell? ⟨b, 4, none⟩ = some (.int .u64 1))
        (first
          | (exact ⟨c0, c1, c3, c4⟩)
          | (exact ⟨d0, d1, d3, d4⟩)
          | go_keep)
        (first
          | (go_at_call 15; refine (size_any _ FQ g _ HY.out.1.sec).mono ?_; rintro e w4 ⟨rfl, rfl⟩)
          | (go_at_call 31; refine (firstText_any (begot ring size).d.firm.length ring 0 1 _ (by have := hlen; exact (by omega : (Dk.fresh size).firm.length ≤ 1000000)) (by omega) (by omega) (by decide)).mono ?_; rintro e w8 ⟨rfl, hb8⟩; have HL8 := Lib.hid (show LogP w8 F b g mq FQ (begot ring size) ∧ Moved F w1 F w8 from ⟨HY.out.1.below hb8, HY.out.2.trans ⟨But.of_below hb8 _, fun _ h => .inl h⟩⟩); have d0 : w8.cell? ⟨b, 0, none⟩ = some (.pointer (some ⟨g, 0, none⟩)) := HL8.out.1.c0; have d1 : w8.cell? ⟨b, 1, none⟩ = some (.int .i64 ring) := HL8.out.1.c1; have d3 : w8.cell? ⟨b, 3, none⟩ = some (.int .i64 0) := HL8.out.1.c3; have d4 : w8.cell? ⟨b, 4, none⟩ = some (.int .u64 1) := HL8.out.1.c4; clear hb8)
          | (go_at_call 30; refine (lwrite_any _ F b g (begot ring size) 0 _ HL8.out.1.log (by show ([] : List (Nat × List UInt8)).length ≤ _; simp)).mono ?_; rintro e w9 ⟨rfl, F9, hL9, hM9⟩; have HL9 := Lib.hid (show Log w9 F9 b g ((begot ring size).with (Wl.wr (false, Dk.fresh size) (0, Wl.first (begot ring size).d.firm.length ring 0 1))) ∧ Moved F w1 F9 w9 from ⟨hL9, HL8.out.2.trans hM9⟩); obtain ⟨_, _, hp9⟩ := hL9; have d0 : w9.cell? ⟨b, 0, none⟩ = some (.pointer (some ⟨g, 0, none⟩)) := hp9.c0; have d1 : w9.cell? ⟨b, 1, none⟩ = some (.int .i64 ring) := hp9.c1; have d3 : w9.cell? ⟨b, 3, none⟩ = some (.int .i64 0) := hp9.c3; have d4 : w9.cell? ⟨b, 4, none⟩ = some (.int .u64 1) := hp9.c4; clear hp9 hM9))
      clear c0 c1 c3 c4 d0 d1 d3 d4
      go_wp2
      go_ret
      have e1 : (begot ring size).d.firm.length = size := hlen
      rw [e1] at HL9
      exact ⟨rfl, F9, HL9.out⟩
end Go.Proofs.YthkblabpiajbhaaDoor
