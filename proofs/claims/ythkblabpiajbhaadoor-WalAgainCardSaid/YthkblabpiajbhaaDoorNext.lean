/- Walks of isNext, isRing. -/
import Derived.Test.YthkblabpiajbhaaDoorForm6
import Derived.Test.YthkblabpiajbhaaDoorRecord
namespace Go.Proofs.YthkblabpiajbhaaDoor
open Go.RowKit Lib

set_option maxRecDepth 100000 in
set_option maxHeartbeats 2000000 in
theorem isNext_any (w : World) (F : Nat → Prop) (b g : Nat) (s : Wl.Lg) (t : ByteArray) (hl : Log w F b g s) (hr : s.ring ≤ 4096) (ht : t.size = 512) :
    Calls Tryd.prog 35 #[ptr b, .string t] w fun e w' => e = .returned (.bool ((Wl.readHead t.data.toList s.ring).2.2 && decide ((Wl.readHead t.data.toList s.ring).1 = s.num))) ∧ Below w.heap.size w w' := by
  have HL := Lib.hid hl
  have c1 := hl.c1
  clear hl
  obtain ⟨m, n, ok, hq⟩ : ∃ m n ok, Wl.readHead t.data.toList s.ring = (m, n, ok) := ⟨_, _, _, rfl⟩
  rw [hq]
  have HQ := Lib.hid hq
  clear hq
  go_enter Tryd.func35, Tryd.ntmps35
  unfold ptr
  go_wp2_with fail
  refine (readHead_any t s.ring w ht hr).mono ?_
  rintro e w1 ⟨rfl, hb1⟩
  rw [HQ.out]
  have c4 := (HL.out.below hb1).c4
  have HB := Lib.hid hb1
  clear hb1 c1
  simp only at *
  cases ok with
  | false =>
    go_wp2
    go_ret
    exact ⟨rfl, HB.out⟩
  | true =>
    by_cases hm : m = s.num
    · subst hm
      go_wp2
      go_ret
      exact ⟨by simp, HB.out⟩
    · have hmI : ¬ ((m : Int) = s.num) := by omega
      have hmb : ((m : Int) == (s.num : Int)) = false := beq_eq_false_iff_ne.2 hmI
      go_wp2
      go_ret
      exact ⟨by simp [hm], HB.out⟩
/-- What isRing asks of a sector. -/
def ringOk (l : List UInt8) (ring num : Nat) : Prop := Wl.blank l = true ∨ Wl.isPuts l = true ∨ ((Wl.readHead l ring).2.2 = true ∧ (Wl.readHead l ring).1 < num)
set_option maxRecDepth 100000 in
set_option maxHeartbeats 4000000 in
theorem isRing_any (w : World) (F : Nat → Prop) (b g : Nat) (s : Wl.Lg) (hl : Log w F b g s) (hr : s.ring ≤ 4096) (hr1 : 1 ≤ s.ring)
    (ht : ∀ i, i < s.ring → (s.d.read (Wl.pos s.ring i : Nat)).1.length = 512) (hk : ∀ i, i < s.ring → ringOk (s.d.read (Wl.pos s.ring i : Nat)).1 s.ring s.num) :
    Calls Tryd.prog 38 #[ptr b] w fun e w' => e = .returned (.bool true) ∧ Below w.heap.size w w' := by
  have HL := Lib.hid hl
  have HT := Lib.hid ht
  have HK := Lib.hid hk
  have c1 := hl.c1
  have hrI : (s.ring : Int) ≤ 4096 := by omega
  clear hl ht hk
  go_enter Tryd.func38, Tryd.ntmps38
  unfold ptr
  go_wp2
  go_loopw [12] (fun i wr => ∃ k : Nat, k ≤ s.ring ∧ i = .int .i64 k ∧ Hid (Below w.heap.size w wr)) (fun i _ => s.ring - (Go.RowKit.intOf i).toNat)
  case atStart => exact ⟨0, Nat.zero_le _, rfl, Lib.hid (Below.refl _ _)⟩
  case round =>
    obtain ⟨k, hk, rfl, hB⟩ := hrel
    by_cases hlt : k < s.ring
    · have hI : (k : Int) < s.ring := by omega
      have hk0 : (0 : Int) ≤ k := by omega
      have HLr := Lib.hid (HL.out.below hB.out)
      have HI := Lib.hid hlt
      clear c1 hk hlt
      go_wp2_with fail
      refine (heldInRing_any wr F b g s k HLr.out hr hr1 (by omega)).mono ?_
      rintro e w1 ⟨rfl, rfl⟩
      have c1 := HLr.out.c1
      have hlen := HT.out k HI.out
      have hok := HK.out k HI.out
      generalize (s.d.read (Wl.pos s.ring k : Nat)).1 = l at *
      obtain ⟨m, n, ok, hq⟩ : ∃ m n ok, Wl.readHead l s.ring = (m, n, ok) := ⟨_, _, _, rfl⟩
      have HOK := Lib.hid hok
      have HQ := Lib.hid hq
      clear hq hok
      go_wp2_with fail
      refine (readHead_any (bs l) s.ring w1 (by rw [bs_size]; exact hlen) hr).mono ?_
      rintro e w2 ⟨rfl, hb2⟩
      rw [bs_list, HQ.out]
      simp only
      have c4 := (HLr.out.below hb2).c4
      have HB2 := Lib.hid (And.intro (hB.out.trans (hb2.mono hB.out.size)) (HLr.out.below hb2))
      clear hb2 c1
      have hkI : (k : Int) ≤ 4096 := by have := HI.out; omega
      go_wp2_with fail
      refine (wblank_any (bs l) w2 (by rw [bs_size, hlen]; decide)).mono ?_
      rintro e w3 ⟨rfl, nq, rfl⟩
      rw [bs_list]
      have HB3 := Lib.hid (show Below w.heap.size w (w2.drewN nq) from HB2.out.1.trans ((below_drawn w2 nq).mono HB2.out.1.size))
      have c4 : (w2.drewN nq).cell? ⟨b, 4, none⟩ = some (.int .u64 s.num) := c4
      by_cases h1 : Wl.blank l = true
      · rw [h1]
        clear h1 c4 hlen
        go_wp2
        go_roundw
        case rel => exact ⟨k + 1, HI.out, by go_num, HB3⟩
        case measure => have := HI.out; simp [Go.RowKit.intOf]; omega
      · have h1' : Wl.blank l = false := by simpa using h1
        rw [h1']
        clear h1' hlen
        go_wp2_with fail
        refine (isPuts_any (bs l) _).mono ?_
        rintro e w4 ⟨rfl, rfl⟩
        rw [bs_list]
        by_cases h2 : Wl.isPuts l = true
        · rw [h2]
          clear h1 h2 c4
          go_wp2
          go_roundw
          case rel => exact ⟨k + 1, HI.out, by go_num, HB3⟩
          case measure => have := HI.out; simp [Go.RowKit.intOf]; omega
        · have h2' : Wl.isPuts l = false := by simpa using h2
          rw [h2']
          have h3 : ok = true ∧ m < s.num := by
            rcases HOK.out with h | h | h
            · exact absurd h h1
            · exact absurd h h2
            · rw [HQ.out] at h; exact h
          obtain ⟨rfl, h4⟩ := h3
          have h4I : (m : Int) < s.num := by omega
          clear h1 h2 h2' h4
          go_wp2
          go_roundw
          case rel => exact ⟨k + 1, HI.out, by go_num, HB3⟩
          case measure => have := HI.out; simp [Go.RowKit.intOf]; omega
    · obtain rfl : k = s.ring := by omega
      go_wp2
      go_ret
      exact ⟨rfl, hB.out⟩
end Go.Proofs.YthkblabpiajbhaaDoor
