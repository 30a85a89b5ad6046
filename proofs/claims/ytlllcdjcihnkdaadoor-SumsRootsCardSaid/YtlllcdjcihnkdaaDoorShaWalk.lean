/- Walks of the fingerprint's parts. -/
import Derived.Test.YtlllcdjcihnkdaaDoorBytes
import Derived.Test.YtlllcdjcihnkdaaDoorShaMath
import Derived.Test.YtlllcdjcihnkdaaDoorBlock
import Derived.Lib.Hide
import Derived.Deep.QuietTactic
import Derived.BigQuiet
import Derived.Deep.RegionHeld3
import Derived.Outline
import Derived.Laws.BitsAllLaws
namespace Go.Proofs.YtlllcdjcihnkdaaDoor
open Go.RowKit

theorem rotl_any (x : Nat) (I : Int) (i : Nat) (hI : I = -(i : Int)) (hx : x < 4294967296) (hi : 1 ≤ i) (hi' : i ≤ 31) (w : World) :
    Calls Tryd.prog 40 #[.int .u32 x, .int .i64 I] w fun e w' => e = .returned (.int .u32 (Sha.rotr x i : Nat)) ∧ w = w' := by
  subst hI
  obtain ⟨n, hn⟩ : ∃ n, n = 32 - i := ⟨_, rfl⟩
  have h1 : 1 ≤ n := by omega
  have h2 : n ≤ 31 := by omega
  have hk := Sha.count i n hi hi' hn
  have hb := Sha.rot_bits x i n hx hi hi' hn
  clear hn
  go_enter Tryd.func40, Tryd.ntmps40
  go_wp2
  go_ret
  exact ⟨rfl, rfl⟩

theorem rotl_gen (x : Nat) (I : Int) (hx : x < 4294967296) (hi : I ≤ -1) (hi' : -31 ≤ I) (w : World) :
    Calls Tryd.prog 40 #[.int .u32 x, .int .i64 I] w fun e w' => e = .returned (.int .u32 (Sha.rotr x (-I).toNat : Nat)) ∧ w' = w :=
  (rotl_any x I (-I).toNat (by omega) hx (by omega) (by omega) w).mono fun _ _ ⟨a, b⟩ => ⟨a, b.symm⟩

theorem turned_any (x : Nat) (I J K : Int) (i j k : Nat) (hI : I = i) (hJ : J = j) (hK : K = k) (hx : x < 4294967296) (hi : 1 ≤ i) (hi' : i ≤ 31) (hj : 1 ≤ j) (hj' : j ≤ 31) (hk : 1 ≤ k) (hk' : k ≤ 31) (w : World) :
    Calls Tryd.prog 33 #[.int .u32 x, .int .i64 I, .int .i64 J, .int .i64 K] w fun e w' => e = .returned (.int .u32 (Sha.great x i j k : Nat)) ∧ w = w' := by
  subst hI hJ hK
  have hb := Lib.hid (show ((Sha.great x i j k : Nat) : Int) = bits BinOp.xor IntKind.u32 (bits BinOp.xor IntKind.u32 (Sha.rotr x i : Nat) (Sha.rotr x j : Nat)) (Sha.rotr x k : Nat) by
    have r1 := Sha.rotr_lt x i hx (by omega)
    have r2 := Sha.rotr_lt x j hx (by omega)
    have r3 := Sha.rotr_lt x k hx (by omega)
    rw [u32_xor_nat _ _ r1 r2, u32_xor_nat _ _ (Sha.xor_lt r1 r2) r3]
    rfl)
  go_enter Tryd.func33, Tryd.ntmps33
  go_wp2_with fail
  refine (rotl_any x _ i rfl hx hi hi' _).mono ?_
  rintro e w' ⟨rfl, rfl⟩
  go_wp2_with fail
  refine (rotl_any x _ j rfl hx hj hj' _).mono ?_
  rintro e w' ⟨rfl, rfl⟩
  go_wp2_with fail
  refine (rotl_any x _ k rfl hx hk hk' _).mono ?_
  rintro e w' ⟨rfl, rfl⟩
  go_wp2
  go_ret
  exact ⟨ret_int hb.out.symm, rfl⟩

theorem turned_gen (x : Nat) (I J K : Int) (hx : x < 4294967296) (hi : 1 ≤ I ∧ I ≤ 31 ∧ 1 ≤ J ∧ J ≤ 31 ∧ 1 ≤ K ∧ K ≤ 31) (w : World) :
    Calls Tryd.prog 33 #[.int .u32 x, .int .i64 I, .int .i64 J, .int .i64 K] w fun e w' => e = .returned (.int .u32 (Sha.great x I.toNat J.toNat K.toNat : Nat)) ∧ w' = w :=
  (turned_any x I J K I.toNat J.toNat K.toNat (by omega) (by omega) (by omega) hx (by omega) (by omega) (by omega) (by omega) (by omega) (by omega) w).mono fun _ _ ⟨h1, h2⟩ => ⟨h1, h2.symm⟩

theorem shifted_any (x : Nat) (I J K : Int) (i j k : Nat) (hI : I = i) (hJ : J = j) (hK : K = k) (hx : x < 4294967296) (hi : 1 ≤ i) (hi' : i ≤ 31) (hj : 1 ≤ j) (hj' : j ≤ 31) (hk : 1 ≤ k) (hk' : k ≤ 31) (w : World) :
    Calls Tryd.prog 39 #[.int .u32 x, .int .i64 I, .int .i64 J, .int .i64 K] w fun e w' => e = .returned (.int .u32 (Sha.small x i j k : Nat)) ∧ ∃ n, w' = w.drewN n := by
  subst hI hJ hK
  have hb := Lib.hid (show ((Sha.small x i j k : Nat) : Int) = bits BinOp.xor IntKind.u32 (bits BinOp.xor IntKind.u32 (Sha.rotr x i : Nat) (Sha.rotr x j : Nat)) ((x : Int) / 2 ^ k) by
    have r1 := Sha.rotr_lt x i hx (by omega)
    have r2 := Sha.rotr_lt x j hx (by omega)
    have r3 := Sha.shr_lt x k hx
    have e : ((x : Int) / 2 ^ k) = ((x / 2 ^ k : Nat) : Int) := by simp
    rw [e, u32_xor_nat _ _ r1 r2, u32_xor_nat _ _ (Sha.xor_lt r1 r2) r3]
    rfl)
  go_enter Tryd.func39, Tryd.ntmps39
  go_wp2_with fail
  go_quiet ((go_at_call 40; exact Calls.quiet_of_same (rotl_gen x _ hx (by omega) (by omega) _)))
  go_wp2
  go_ret
  exact ⟨ret_int hb.out.symm, nq, rfl⟩

theorem shifted_gen (x : Nat) (I J K : Int) (hx : x < 4294967296) (hi : 1 ≤ I ∧ I ≤ 31 ∧ 1 ≤ J ∧ J ≤ 31 ∧ 1 ≤ K ∧ K ≤ 31) (w : World) :
    Calls Tryd.prog 39 #[.int .u32 x, .int .i64 I, .int .i64 J, .int .i64 K] w fun e w' => e = .returned (.int .u32 (Sha.small x I.toNat J.toNat K.toNat : Nat)) ∧ ∃ n, w' = w.drewN n :=
  shifted_any x I J K I.toNat J.toNat K.toNat (by omega) (by omega) (by omega) hx (by omega) (by omega) (by omega) (by omega) (by omega) (by omega) w

theorem sched_size (s : ByteArray) : (u32s (Sha.sched s)).toArray.size = 64 := by
  rw [List.size_toArray, u32s_length, Sha.sched_length]
theorem info_64 : (Tryd.prog.info? 50).map (·.size) = some 64 := by kernel_rfl
theorem sched_info (s : ByteArray) : (Tryd.prog.info? 50).map (·.size) = some (u32s (Sha.sched s)).toArray.size := by
  rw [sched_size, info_64]
theorem sched_old (s : ByteArray) (n : Nat) (l : List Nat) (h : l.length + n = 64) : (u32s (Sha.fill l n)).length = (u32s (Sha.sched s)).toArray.size := by
  rw [u32s_length, Sha.fill_length, sched_size, h]
set_option maxHeartbeats 800000 in
theorem schedule_any (s : ByteArray) (w : World) (hs : s.size = 64) :
    Calls Tryd.prog 32 #[.string s] w fun e w' => e = .returned (.agg (u32s (Sha.sched s)).toArray) ∧ Below w.heap.size w w' := by
  have hs' := Lib.hid hs
  have hsz : (64 : Int) ≤ s.size := by omega
  clear hs
  go_enter Tryd.func32, Tryd.ntmps32
  go_wp2
  go_loopw [4, 5] (fun i q wr => ∃ k : Nat, k ≤ 16 ∧ i = .int .i64 k ∧ Blk wr (w.heap.size + 1) 50 (u32s (Sha.fill (Sha.words k s) (64 - k))) ∧ Blk wr w.heap.size 50 (u32s (Sha.fill [] 64)) ∧ Below w.heap.size w wr) (fun i _ _ => 16 - (intOf i).toNat)
  case atStart => exact ⟨0, Nat.zero_le _, rfl, by
      have h := Blk.new (w.alloc (.cells (u32s (Sha.fill [] 64)).toArray 50)) 50 (u32s (Sha.fill [] 64)).toArray
      have e : (w.alloc (.cells (u32s (Sha.fill [] 64)).toArray 50)).heap.size = w.heap.size + 1 := by simp
      rw [e] at h
      exact h, (Blk.new w 50 (u32s (Sha.fill [] 64)).toArray).alloc _, ((Below.refl _ _).alloc (Nat.le_refl _) _).alloc (by simp) _⟩
  case round =>
    obtain ⟨k, hk, rfl, hloc, hres, hb⟩ := hrel
    by_cases hlt : k < 16
    · have i0 : 4 * k < s.size := by omega
      have i1 : 4 * k + 1 < s.size := by omega
      have i2 : 4 * k + 2 < s.size := by omega
      have i3 : 4 * k + 3 < s.size := by omega
      have hcell := hloc.cell (j := k) (u32s_get _ k (by rw [Sha.fill_length, Sha.words_length]; omega))
      have hfree := hloc.free k
      have j0 : (0 : Int) ≤ 4 * k := by omega
      have j0' : 4 * (k : Int) < s.size := by omega
      have j1 : (0 : Int) ≤ 4 * k + 1 := by omega
      have j1' : 4 * (k : Int) + 1 < s.size := by omega
      have j2 : (0 : Int) ≤ 4 * k + 2 := by omega
      have j2' : 4 * (k : Int) + 2 < s.size := by omega
      have j3 : (0 : Int) ≤ 4 * k + 3 := by omega
      have j3' : 4 * (k : Int) + 3 < s.size := by omega
      have e0 := fun p => congrArg UInt8.toNat (Sha.byte_at s (4 * k) (4 * k) (by omega) p)
      have e1 := fun p => congrArg UInt8.toNat (Sha.byte_at s (4 * k + 1) (4 * k + 1) (by omega) p)
      have e2 := fun p => congrArg UInt8.toNat (Sha.byte_at s (4 * k + 2) (4 * k + 2) (by omega) p)
      have e3 := fun p => congrArg UInt8.toNat (Sha.byte_at s (4 * k + 3) (4 * k + 3) (by omega) p)
      obtain ⟨v0, hv0⟩ : ∃ v, v = (s.data.toList.getD (4 * k) 0).toNat := ⟨_, rfl⟩
      obtain ⟨v1, hv1⟩ : ∃ v, v = (s.data.toList.getD (4 * k + 1) 0).toNat := ⟨_, rfl⟩
      obtain ⟨v2, hv2⟩ : ∃ v, v = (s.data.toList.getD (4 * k + 2) 0).toNat := ⟨_, rfl⟩
      obtain ⟨v3, hv3⟩ : ∃ v, v = (s.data.toList.getD (4 * k + 3) 0).toNat := ⟨_, rfl⟩
      have hw := Lib.hid (show Sha.wordAt s k = v0 * 16777216 + v1 * 65536 + v2 * 256 + v3 by rw [hv0, hv1, hv2, hv3]; rfl)
      have u0 : (v0 : Int) ≤ 255 := by have := (s.data.toList.getD (4 * k) 0).toNat_lt; omega
      have u1 : (v1 : Int) ≤ 255 := by have := (s.data.toList.getD (4 * k + 1) 0).toNat_lt; omega
      have u2 : (v2 : Int) ≤ 255 := by have := (s.data.toList.getD (4 * k + 2) 0).toNat_lt; omega
      have u3 : (v3 : Int) ≤ 255 := by have := (s.data.toList.getD (4 * k + 3) 0).toNat_lt; omega
      rw [← hv0] at e0
      rw [← hv1] at e1
      rw [← hv2] at e2
      rw [← hv3] at e3
      clear hv0 hv1 hv2 hv3 i0 i1 i2 i3
      have k64 : (k : Int) < 64 := by omega
      have hf := Sha.four v0 v1 v2 v3 (by omega) (by omega) (by omega) (by omega)
      rw [← hw.out] at hf
      have m0 := Sha.wrap_u32_in (v0 : Int) (by omega) (by omega)
      have m1 := Sha.wrap_u32_in (v1 : Int) (by omega) (by omega)
      have m2 := Sha.wrap_u32_in (v2 : Int) (by omega) (by omega)
      have m3 := Sha.wrap_u32_in (v3 : Int) (by omega) (by omega)
      have n0 := Sha.wrap_u32_in ((v0 : Int) * 16777216) (by omega) (by omega)
      have n1 := Sha.wrap_u32_in ((v1 : Int) * 65536) (by omega) (by omega)
      have n2 := Sha.wrap_u32_in ((v2 : Int) * 256) (by omega) (by omega)
      have w1 : IntKind.i64.wrap (4 * (k : Int) + 1) = 4 * k + 1 := IntWalk.i64_in _ (by omega)
      have w2 : IntKind.i64.wrap (4 * (k : Int) + 2) = 4 * k + 2 := IntWalk.i64_in _ (by omega)
      have w3 : IntKind.i64.wrap (4 * (k : Int) + 3) = 4 * k + 3 := IntWalk.i64_in _ (by omega)
      go_wp2
      refine wp_region_any (by kernel_rfl) ?_
      try (change wpAny _ _ _ _ _ _ _ (World.drew _))
      refine wpAny_take (i := 0) (v := ?_) rfl (by kernel_rfl) (by kernel_rfl) (by kernel_rfl) (fun _ _ _ h => h) (Or.inl ⟨by rfl, ?_⟩) ?_
      rotate_left
      · intro w; go_simp; try with_reducible rfl
      refine wpAny_take (i := 1) (v := ?_) rfl (by kernel_rfl) (by kernel_rfl) (by kernel_rfl) (fun _ _ _ h => h) (Or.inl ⟨by rfl, ?_⟩) ?_
      rotate_left
      · intro w; go_simp; try with_reducible rfl
      refine wpAny_take (i := 2) (v := ?_) rfl (by kernel_rfl) (by kernel_rfl) (by kernel_rfl) (fun _ _ _ h => h) (Or.inl ⟨by rfl, ?_⟩) ?_
      rotate_left
      · intro w; go_simp; try with_reducible rfl
      refine wpAny_take (i := 3) (v := ?_) rfl (by kernel_rfl) (by kernel_rfl) (by kernel_rfl) (fun _ _ _ h => h) (Or.inl ⟨by rfl, ?_⟩) ?_
      rotate_left
      · intro w; go_simp; try with_reducible rfl
      refine wpAny_take (i := 4) (v := ?_) rfl (by kernel_rfl) (by kernel_rfl) (by kernel_rfl) (fun _ _ _ h => h) (Or.inl ⟨by rfl, ?_⟩) ?_
      rotate_left
      · intro w; go_simp; try with_reducible rfl
      refine wpAny_take (i := 5) (v := ?_) rfl (by kernel_rfl) (by kernel_rfl) (by kernel_rfl) (fun _ _ _ h => h) (Or.inl ⟨by rfl, ?_⟩) ?_
      rotate_left
      · intro w; go_simp; try with_reducible rfl
      refine wpAny_take (i := 6) (v := ?_) rfl (by kernel_rfl) (by kernel_rfl) (by kernel_rfl) (fun _ _ _ h => h) (Or.inl ⟨by rfl, ?_⟩) ?_
      rotate_left
      · intro w; go_simp; try with_reducible rfl
      refine wpAny_take (i := 7) (v := ?_) rfl (by kernel_rfl) (by kernel_rfl) (by kernel_rfl) (fun _ _ _ h => h) (Or.inl ⟨by rfl, ?_⟩) ?_
      rotate_left
      · intro w; go_simp; try with_reducible rfl
      refine wpAny_take (i := 8) (v := ?_) rfl (by kernel_rfl) (by kernel_rfl) (by kernel_rfl) (fun _ _ _ h => h) (Or.inl ⟨by rfl, ?_⟩) ?_
      rotate_left
      · intro w; go_simp; try with_reducible rfl
      refine wpAny_take (i := 9) (v := ?_) rfl (by kernel_rfl) (by kernel_rfl) (by kernel_rfl) (fun _ _ _ h => h) (Or.inl ⟨by rfl, ?_⟩) ?_
      rotate_left
      · intro w; go_simp; try with_reducible rfl
      refine wpAny_take (i := 10) (v := ?_) rfl (by kernel_rfl) (by kernel_rfl) (by kernel_rfl) (fun _ _ _ h => h) (Or.inl ⟨by rfl, ?_⟩) ?_
      rotate_left
      · intro w; go_simp; try with_reducible rfl
      refine wpAny_take (i := 11) (v := ?_) rfl (by kernel_rfl) (by kernel_rfl) (by kernel_rfl) (fun _ _ _ h => h) (Or.inl ⟨by rfl, ?_⟩) ?_
      rotate_left
      · intro w; go_simp; try with_reducible rfl
      refine wpAny_take (i := 12) (v := ?_) rfl (by kernel_rfl) (by kernel_rfl) (by kernel_rfl) (fun _ _ _ h => h) (Or.inl ⟨by rfl, ?_⟩) ?_
      rotate_left
      · intro w; go_simp; try with_reducible rfl
      refine wpAny_take (i := 13) (v := ?_) rfl (by kernel_rfl) (by kernel_rfl) (by kernel_rfl) (fun _ _ _ h => h) (Or.inl ⟨by rfl, ?_⟩) ?_
      rotate_left
      · intro w; go_simp; try with_reducible rfl
      refine wpAny_take (i := 14) (v := ?_) rfl (by kernel_rfl) (by kernel_rfl) (by kernel_rfl) (fun _ _ _ h => h) (Or.inl ⟨by rfl, ?_⟩) ?_
      rotate_left
      · intro w; go_simp; try with_reducible rfl
      refine wpAny_take (i := 15) (v := ?_) rfl (by kernel_rfl) (by kernel_rfl) (by kernel_rfl) (fun _ _ _ h => h) (Or.inl ⟨by rfl, ?_⟩) ?_
      rotate_left
      · intro w; go_simp; try with_reducible rfl
      refine wpAny_take (i := 16) (v := ?_) rfl (by kernel_rfl) (by kernel_rfl) (by kernel_rfl) (fun _ _ _ h => h) (Or.inl ⟨by rfl, ?_⟩) ?_
      rotate_left
      · intro w; go_simp; try with_reducible rfl
      refine wpAny_take (i := 17) (v := ?_) rfl (by kernel_rfl) (by kernel_rfl) (by kernel_rfl) (fun _ _ _ h => h) (Or.inl ⟨by rfl, ?_⟩) ?_
      rotate_left
      · intro w; go_simp; try with_reducible rfl
      refine wpAny_take (i := 18) (v := ?_) rfl (by kernel_rfl) (by kernel_rfl) (by kernel_rfl) (fun _ _ _ h => h) (Or.inl ⟨by rfl, ?_⟩) ?_
      rotate_left
      · intro w; go_simp; try with_reducible rfl
      refine wpAny_take (i := 19) (v := ?_) rfl (by kernel_rfl) (by kernel_rfl) (by kernel_rfl) (fun _ _ _ h => h) (Or.inl ⟨by rfl, ?_⟩) ?_
      rotate_left
      · intro w; go_simp; try with_reducible rfl
      refine wpAny_take (i := 20) (v := ?_) rfl (by kernel_rfl) (by kernel_rfl) (by kernel_rfl) (fun _ _ _ h => h) (Or.inl ⟨by rfl, ?_⟩) ?_
      rotate_left
      · intro w; go_simp; try with_reducible rfl
      refine wpAny_take (i := 21) (v := ?_) rfl (by kernel_rfl) (by kernel_rfl) (by kernel_rfl) (fun _ _ _ h => h) (Or.inl ⟨by rfl, ?_⟩) ?_
      rotate_left
      · intro w; go_simp; try with_reducible rfl
      refine wpAny_take (i := 22) (v := ?_) rfl (by kernel_rfl) (by kernel_rfl) (by kernel_rfl) (fun _ _ _ h => h) (Or.inl ⟨by rfl, ?_⟩) ?_
      rotate_left
      · intro w; go_simp; try with_reducible rfl
      refine wpAny_take (i := 23) (v := ?_) rfl (by kernel_rfl) (by kernel_rfl) (by kernel_rfl) (fun _ _ _ h => h) (Or.inl ⟨by rfl, ?_⟩) ?_
      rotate_left
      · intro w; go_simp; try with_reducible rfl
      refine wpAny_take (i := 24) (v := ?_) rfl (by kernel_rfl) (by kernel_rfl) (by kernel_rfl) (fun _ _ _ h => h) (Or.inl ⟨by rfl, ?_⟩) ?_
      rotate_left
      · intro w; go_simp; try with_reducible rfl
      refine wpAny_take (i := 25) (v := ?_) rfl (by kernel_rfl) (by kernel_rfl) (by kernel_rfl) (fun _ _ _ h => h) (Or.inl ⟨by rfl, ?_⟩) ?_
      rotate_left
      · intro w; go_simp; try with_reducible rfl
      refine wpAny_take (i := 26) (v := ?_) rfl (by kernel_rfl) (by kernel_rfl) (by kernel_rfl) (fun _ _ _ h => h) (Or.inl ⟨by rfl, ?_⟩) ?_
      rotate_left
      · intro w; go_simp; try with_reducible rfl
      refine wpAny_ready (rs := [27]) (by kernel_rfl) (by simp) ?_
      refine AllReady.cons rfl (fun K hK => ?_) AllReady.nil
      go_simp
      refine hK _ _ ?_; clear hK K
      refine wpAny_done (by kernel_rfl) ?_ _
      clear w1 w2 w3 m0 m1 m2 m3 n0 n1 n2
      have hset := hloc.set k (.int .u32 (Sha.wordAt s k : Nat))
      rw [u32s_set] at hset
      have hfs := Sha.fill_set (Sha.words k s) (63 - k) (Sha.wordAt s k)
      rw [Sha.words_length, show 63 - k + 1 = 64 - k by omega] at hfs
      rw [hfs] at hset
      have H1 := Lib.hid hset
      have H2 := Lib.hid (hres.setOther ⟨w.heap.size + 1, k, none⟩ (.int .u32 (Sha.wordAt s k : Nat)) (by simp))
      clear hset hfs hf
      go_wp2
      go_roundw
      case rel => exact ⟨k + 1, by omega, by go_num, by rw [show 64 - (k + 1) = 63 - k by omega]; exact H1.out.drew, H2.out.drew, (hb.setCell (by simp) _).drew⟩
      case measure => simp [intOf]; omega
    · have K16 := Lib.hid (show k = 16 by omega)
      rw [K16.out] at hloc
      clear hk
      obtain ⟨w0, rfl⟩ : ∃ w0 : World, w0 = wr := ⟨_, rfl⟩
      go_wp2
      go_loopw [6] (fun i wr => ∃ n : Nat, n ≤ 48 ∧ i = .int .i64 ((n + 16 : Nat) : Int) ∧ Blk wr (w.heap.size + 1) 50 (u32s (Sha.fill (Sha.ext n (Sha.words 16 s)) (48 - n))) ∧ Blk wr w.heap.size 50 (u32s (Sha.fill [] 64)) ∧ Below w.heap.size w wr) (fun i _ => 64 - (intOf i).toNat)
      case atStart => exact ⟨0, Nat.zero_le _, rfl, hloc, hres, hb⟩
      case round =>
        obtain ⟨n, hn, rfl, hloc, hres, hb⟩ := hrel
        obtain ⟨k, hk⟩ : ∃ k, k = n + 16 := ⟨_, rfl⟩
        rw [← hk]
        by_cases hlt : n < 48
        · obtain ⟨l, hl⟩ : ∃ l, l = Sha.ext n (Sha.words 16 s) := ⟨_, rfl⟩
          have hlen : l.length = k := by rw [hl, Sha.ext_length, Sha.words_length, hk]; omega
          have hl32 : ∀ x ∈ l, x < 4294967296 := by rw [hl]; exact Sha.ext_lt _ _ (Sha.words_lt _ _)
          rw [← hl] at hloc
          have cellAt : ∀ j, j < k → wr.cell? ⟨w.heap.size + 1, j, none⟩ = some (.int .u32 ((l.getD j 0 : Nat) : Int)) := fun j hj => by
            rw [hloc.cell (u32s_get _ j (by rw [Sha.fill_length]; omega)), Sha.fill_get _ _ _ (by omega)]
          obtain ⟨p16, q16⟩ : ∃ p, p = k - 16 := ⟨_, rfl⟩
          obtain ⟨p15, q15⟩ : ∃ p, p = k - 15 := ⟨_, rfl⟩
          obtain ⟨p7, q7⟩ : ∃ p, p = k - 7 := ⟨_, rfl⟩
          obtain ⟨p2, q2⟩ : ∃ p, p = k - 2 := ⟨_, rfl⟩
          have c16 := cellAt p16 (by omega)
          have c15 := cellAt p15 (by omega)
          have c7 := cellAt p7 (by omega)
          have c2 := cellAt p2 (by omega)
          have ck := hloc.cell (j := k) (u32s_get _ k (by rw [Sha.fill_length]; omega))
          have hfree := hloc.free k
          obtain ⟨a, ha⟩ : ∃ a, a = l.getD p16 0 := ⟨_, rfl⟩
          obtain ⟨b, hbb⟩ : ∃ a, a = l.getD p15 0 := ⟨_, rfl⟩
          obtain ⟨c, hc⟩ : ∃ a, a = l.getD p7 0 := ⟨_, rfl⟩
          obtain ⟨d, hd⟩ : ∃ a, a = l.getD p2 0 := ⟨_, rfl⟩
          have ha32 : a < 4294967296 := by rw [ha]; exact Sha.getD_lt l hl32 _
          have hb32 : b < 4294967296 := by rw [hbb]; exact Sha.getD_lt l hl32 _
          have hc32 : c < 4294967296 := by rw [hc]; exact Sha.getD_lt l hl32 _
          have hd32 : d < 4294967296 := by rw [hd]; exact Sha.getD_lt l hl32 _
          rw [← ha] at c16
          rw [← hbb] at c15
          rw [← hc] at c7
          rw [← hd] at c2
          have hnext := Sha.next_of l k a b c d hlen (by rw [ha, q16]) (by rw [hbb, q15]) (by rw [hc, q7]) (by rw [hd, q2])
          have hset := hloc.set k (.int .u32 (Sha.next l : Nat))
          rw [u32s_set] at hset
          have hfs := Sha.fill_set l (47 - n) (Sha.next l)
          rw [hlen, show 47 - n + 1 = 48 - n by omega] at hfs
          rw [hfs] at hset
          have H1 := Lib.hid hset
          have H2 := Lib.hid (hres.setOther ⟨w.heap.size + 1, k, none⟩ (.int .u32 (Sha.next l : Nat)) (by simp))
          have HL := Lib.hid hl
          have HK := Lib.hid hk
          have hsum := Sha.add4 a (Sha.small b 7 18 3) c (Sha.small d 17 19 10)
          rw [← hnext] at hsum
          have k64 : (k : Int) < 64 := by omega
          have l16 : (p16 : Int) < 64 := by omega
          have l15 : (p15 : Int) < 64 := by omega
          have l7 : (p7 : Int) < 64 := by omega
          have l2 : (p2 : Int) < 64 := by omega
          have s16 : IntKind.i64.wrap ((k : Int) - 16) = p16 := by rw [IntWalk.i64_in _ (by omega)]; omega
          have s15 : IntKind.i64.wrap ((k : Int) - 15) = p15 := by rw [IntWalk.i64_in _ (by omega)]; omega
          have s7 : IntKind.i64.wrap ((k : Int) - 7) = p7 := by rw [IntWalk.i64_in _ (by omega)]; omega
          have s2 : IntKind.i64.wrap ((k : Int) - 2) = p2 := by rw [IntWalk.i64_in _ (by omega)]; omega
          have d16 : ¬ p16 = k := by omega
          have d15 : ¬ p15 = k := by omega
          have d7 : ¬ p7 = k := by omega
          have d2 : ¬ p2 = k := by omega
          have f16 : ¬ k = p16 := by omega
          have f15 : ¬ k = p15 := by omega
          have f7 : ¬ k = p7 := by omega
          have f2 : ¬ k = p2 := by omega
          clear hset hfs hnext hl hk hlen hl32 cellAt q16 q15 q7 q2 ha hbb hc hd
          have CK := ck
          go_wp2
          go_region_held3 (fun w' => w'.cell? ⟨w.heap.size + 1, p16, none⟩ = some (.int .u32 a) ∧ w'.cell? ⟨w.heap.size + 1, p15, none⟩ = some (.int .u32 b) ∧ w'.cell? ⟨w.heap.size + 1, p7, none⟩ = some (.int .u32 c) ∧ w'.cell? ⟨w.heap.size + 1, p2, none⟩ = some (.int .u32 d))
            (first
              | go_keep
              | (refine ⟨cell_set_off ?_ d16, cell_set_off ?_ d15, cell_set_off ?_ d7, cell_set_off ?_ d2⟩ <;> simp [*]))
            ((go_at_call 39; refine (shifted_gen _ _ _ _ (by assumption) (by decide) _).mono ?_; rintro e w' ⟨rfl, m, rfl⟩))
          all_goals
            go_wp2
            go_roundw
            case rel =>
              have HH : n + 1 ≤ 48 ∧ Value.int .i64 ((k : Int) + 1) = .int .i64 ((n + 1 + 16 : Nat) : Int) ∧ Blk (wr.setCell ⟨w.heap.size + 1, k, none⟩ (.int .u32 (Sha.next l : Nat))) (w.heap.size + 1) 50 (u32s (Sha.fill (Sha.ext (n + 1) (Sha.words 16 s)) (48 - (n + 1)))) :=
                ⟨by omega, by rw [HK.out]; go_num, by rw [show 48 - (n + 1) = 47 - n by omega, Sha.ext_succ, ← HL.out]; exact H1.out⟩
              first
                | exact ⟨n + 1, HH.1, HH.2.1, HH.2.2, H2.out, (below_drewN hb _).setCell (by simp) _⟩
            case measure => simp [intOf]; omega
        · obtain rfl : n = 48 := by omega
          obtain rfl : k = 64 := by omega
          clear hlt hn
          have hfin : Blk wr (w.heap.size + 1) 50 (u32s (Sha.sched s)) := by
            have h := hloc
            rw [show (48 : Nat) - 48 = 0 from rfl, Sha.fill_zero, ← Sha.sched_eq] at h
            exact h
          have HI := Lib.hid (sched_info s)
          go_wp2_with (first | (refine wpList_load_row rfl _ _ rfl (w.heap.size + 1) rfl _ _ _ _ hfin Tryd.underlying50 rfl HI.out ?_) | (refine wpList_store_blk rfl _ _ _ rfl w.heap.size _ _ _ rfl rfl hres (sched_old s 64 [] rfl) HI.out (u32s_one _) ?_; intro w1 hres1 hg1 hs1))
          refine bodyPost_ret (v := .agg (u32s (Sha.sched s)).toArray) (results_cell_row rfl _ _ w.heap.size _ _ _ _ rfl hres1 Tryd.underlying50 rfl HI.out) rfl ⟨rfl, hb.grown hg1 hb.size (fun k hk => by cases hk; exact Nat.le_refl _)⟩
end Go.Proofs.YtlllcdjcihnkdaaDoor
