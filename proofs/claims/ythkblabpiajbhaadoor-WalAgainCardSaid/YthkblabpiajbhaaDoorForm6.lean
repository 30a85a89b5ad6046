/- Walk of readFirst, at a first sector that a log has written. -/
import Derived.Test.YthkblabpiajbhaaDoorForm5
namespace Go.Proofs.YthkblabpiajbhaaDoor
open Go.RowKit Lib

theorem first_read (size ring a n : Nat) (h3 : a < 2 ^ 64) (h4 : n < 2 ^ 64) : Wl.dec (((Dk.full (Wl.first size ring a n)).drop 30).take 8) = a ∧ Wl.dec (((Dk.full (Wl.first size ring a n)).drop 38).take 8) = n := by
  have e : Dk.full (Wl.first size ring a n) = (Wl.title ++ (Wl.enc 8 size ++ Wl.enc 8 ring)) ++ (Wl.enc 8 a ++ (Wl.enc 8 n ++ List.replicate (512 - 46) 0)) := by
    unfold Dk.full
    rw [Wl.first_length]
    unfold Wl.first
    simp only [List.append_assoc]
  have hl : (Wl.title ++ (Wl.enc 8 size ++ Wl.enc 8 ring)).length = 30 := by simp [Wl.enc_length, Wl.title]
  have e1 : (Dk.full (Wl.first size ring a n)).drop 30 = Wl.enc 8 a ++ (Wl.enc 8 n ++ List.replicate (512 - 46) 0) := by rw [e, List.drop_left' hl]
  have e2 : (Dk.full (Wl.first size ring a n)).drop 38 = Wl.enc 8 n ++ List.replicate (512 - 46) 0 := by
    rw [show (38 : Nat) = 30 + 8 from rfl, ← List.drop_drop, e1, List.drop_left' (Wl.enc_length 8 a)]
  rw [e1, e2, List.take_left' (Wl.enc_length 8 a), List.take_left' (Wl.enc_length 8 n)]
  exact ⟨Wl.dec_enc 8 a (by omega), Wl.dec_enc 8 n (by omega)⟩
theorem rest_a (s : ByteArray) : ((s.extract 30 s.size).extract 0 8).data.toList = (s.data.toList.drop 30).take 8 := by
  rw [ext_take, bs_list, ext_drop]
theorem rest_n (s : ByteArray) : ((s.extract 30 s.size).extract 8 16).data.toList = (s.data.toList.drop 38).take 8 := by
  rw [ByteArray.data_extract, Array.toList_extract, List.extract_eq_take_drop, ext_drop, List.drop_drop]
set_option maxRecDepth 100000 in
set_option maxHeartbeats 2000000 in
theorem readFirst_any (size ring a n : Nat) (w : World) (h1 : size ≤ 1000000) (hr : ring ≤ 4096) (h3 : a < ring) (h4 : 1 ≤ n) (h5 : n < 2 ^ 60) :
    Calls Tryd.prog 34 #[.string (bs (Dk.full (Wl.first size ring a n))), .int .i64 size, .int .i64 ring] w fun e w' => e = .returned (.tuple #[.agg #[.int .i64 a, .int .u64 n], .bool true]) ∧ Below w.heap.size w w' := by
  obtain ⟨s, hs⟩ : ∃ s, s = bs (Dk.full (Wl.first size ring a n)) := ⟨_, rfl⟩
  rw [← hs]
  have hsz : s.size = 512 := by rw [hs, bs_size]; exact Dk.full_length _ (by rw [Wl.first_length]; decide)
  obtain ⟨f1, f2⟩ := first_read size ring a n (by omega) (by omega)
  have hl : s.data.toList = Dk.full (Wl.first size ring a n) := by rw [hs]; rfl
  rw [← hl] at f1 f2
  have HH := Lib.hid (show Wl.holds s.data.toList (Wl.first size ring a n) = true by rw [hl]; exact Wl.holds_full _)
  have HF := Lib.hid (And.intro f1 (And.intro f2 hsz))
  have HB := Lib.hid (And.intro h1 (And.intro h3 (And.intro h4 h5)))
  have hsI : (512 : Int) ≤ s.size := by omega
  have hsJ : (s.size : Int) ≤ 512 := by omega
  have hr1 : (s.extract 30 s.size).size = 482 := by rw [ByteArray.size_extract]; omega
  have hr1I : (482 : Int) ≤ (s.extract 30 s.size).size := by omega
  have hr1J : ((s.extract 30 s.size).size : Int) ≤ 482 := by omega
  have hnb : ((n : Int) == 0) = false := by rw [beq_eq_false_iff_ne]; omega
  have har : (a : Int) < ring := by omega
  have hrI : (ring : Int) ≤ 4096 := by omega
  have hnI : (n : Int) ≤ 1152921504606846976 := by omega
  have han : ¬ ring ≤ a := by omega
  clear hs f1 f2 hl hsz h1 hr h3 h4 h5
  go_enter Tryd.func34, Tryd.ntmps34
  go_wp2
  go_quiet ((go_at_call 51; exact Calls.quiet_of_same (numberOf_any _ _ (by rw [ByteArray.size_extract]; omega))))
  rw [rest_a s, rest_n s, HF.out.1, HF.out.2.1]
  clear hr1 hr1I hr1J hsI hsJ
  go_wp2
  obtain ⟨q, hq⟩ : ∃ q, w.heap.size = q := ⟨_, rfl⟩
  obtain ⟨V, hV⟩ : ∃ V, V = (((w.alloc (.cells #[.int .i64 0, .int .u64 0] 55)).drewN nq).alloc (.cells #[.int .i64 a, .int .u64 n] 55)) := ⟨_, rfl⟩
  rw [← hV, hq]
  have hbW : Below w.heap.size w V := by rw [hV]; exact (((Below.refl _ _).alloc (Nat.le_refl _) _).trans ((below_drawn (w.alloc (.cells #[.int .i64 0, .int .u64 0] 55)) nq).mono (by simp))).alloc (by simp) _
  have b1 : Blk V (q + 1) 55 [.int .i64 a, .int .u64 n] := by
    have := Blk.new ((w.alloc (.cells #[.int .i64 0, .int .u64 0] 55)).drewN nq) #[.int .i64 a, .int .u64 n] 55
    rw [hV, ← hq]; simpa using this
  have b0 : Blk V q 55 [.int .i64 0, .int .u64 0] := by
    rw [hV, ← hq]; exact ((Blk.new w #[.int .i64 0, .int .u64 0] 55).drewN nq).alloc _
  have hVs : q + 2 ≤ V.heap.size := by rw [hV, ← hq]; simp
  have q0 : V.cell? ⟨q, 0, none⟩ = some (.int .i64 0) := b0.cell rfl
  have q1 : V.cell? ⟨q, 1, none⟩ = some (.int .u64 0) := b0.cell rfl
  have q2 : V.frozen? ⟨q, 0, none⟩ = false := b0.frozen 0
  have q3 : V.frozen? ⟨q, 1, none⟩ = false := b0.frozen 1
  have p0 : V.cell? ⟨q + 1, 0, none⟩ = some (.int .i64 a) := b1.cell rfl
  have p1 : V.cell? ⟨q + 1, 1, none⟩ = some (.int .u64 n) := b1.cell rfl
  have HBW := Lib.hid (And.intro hbW (And.intro b0 (And.intro b1 hq)))
  clear hV hbW b0 b1 hq
  go_region_held3 (fun w' => w'.cell? ⟨q + 1, 0, none⟩ = some (.int .i64 a) ∧ w'.cell? ⟨q + 1, 1, none⟩ = some (.int .u64 n))
    (first
      | (exact ⟨by assumption, by assumption⟩)
      | go_keep)
    (first
      | (go_at_call 31; refine (firstText_any size ring a n _ HB.out.1 (by have := HB.out; omega) (by have := HB.out; omega) (by have := HB.out; omega)).mono ?_; rintro e w1 ⟨rfl, hb1⟩; have c11 : w1.cell? ⟨q + 1, 0, none⟩ = some (.int .i64 a) := (hb1.cell (p := ⟨q + 1, 0, none⟩) (by simp; omega)).trans (by first | assumption | simp [*]); have c12 : w1.cell? ⟨q + 1, 1, none⟩ = some (.int .u64 n) := (hb1.cell (p := ⟨q + 1, 1, none⟩) (by simp; omega)).trans (by first | assumption | simp [*]); have e0 := hb1.cell (p := ⟨q, 0, none⟩) (by simp; omega); have e1 := hb1.cell (p := ⟨q, 1, none⟩) (by simp; omega); have g0 := hb1.frozen (p := ⟨q, 0, none⟩) (by simp; omega); have g1 := hb1.frozen (p := ⟨q, 1, none⟩) (by simp; omega))
      | (go_at_call 52; refine (holds_any s _ _ (by have := HF.out.2.2; omega)).mono ?_; rintro e w2 ⟨rfl, m, rfl⟩))
  rw [bs_list, HH.out]
  have HB2 := Lib.hid (show Below w.heap.size w (((w1.drewN m).setCell ⟨q, 0, none⟩ (.int .i64 a)).setCell ⟨q, 1, none⟩ (.int .u64 n)) by
    have hV := HBW.out.1
    have hq := HBW.out.2.2.2
    have hw1 : Below w.heap.size w w1 := hV.drew.trans (hb1.mono hV.size)
    exact ((hw1.trans ((below_drawn w1 m).mono hw1.size)).setCell (p := ⟨q, 0, none⟩) (by show _ ≤ q; omega) _).setCell (p := ⟨q, 1, none⟩) (by show _ ≤ q; omega) _)
  clear hb1
  go_wp2
  refine bodyPost_ret (v := .tuple #[.agg #[.int .i64 a, .int .u64 n], .bool true]) ?_ rfl ⟨rfl, HB2.out⟩
  simp [results, Tryd.results34, go_sem, e0, e1, q0, q1]
end Go.Proofs.YthkblabpiajbhaaDoor
