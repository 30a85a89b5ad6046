/- Walk of the fingerprint. -/
import Derived.Test.YtlllcdjcihnkdaaDoorShaPrint
namespace Go.Proofs.YtlllcdjcihnkdaaDoor
open Go.RowKit

theorem v8s_one (v : Sha.V8) : (v8s v).all (·.oneCell') = true := by simp [v8s, Value.oneCell']

theorem v8s_len (v u : Sha.V8) : (v8s v).toList.length = (v8s u).size := rfl
theorem v8s_info (v : Sha.V8) : (Tryd.prog.info? 35).map (·.size) = some (v8s v).size := info_8

theorem ending_hid (r : ByteArray) (z : Nat) (hr : r.size ≤ 63) (hz : z ≤ 1000000000) (w : World) :
    Calls Tryd.prog 20 #[.string r, .int .u64 z] w fun e w' => ∃ E : ByteArray, e = .returned (.string E) ∧ Hid (E.data.toList = Sha.pad r.data.toList (8 * z)) ∧ E.size ≤ 200 ∧ Below w.heap.size w w' :=
  (ending_any r z hr hz w).mono fun _ _ ⟨h1, h2⟩ => ⟨_, h1, rfl, by
    have hl : r.data.toList.length = r.size := Array.length_toList
    have := Sha.pad_le r.data.toList (8 * z) (by omega)
    show (Sha.pad r.data.toList (8 * z)).length ≤ 200
    exact this, h2⟩

set_option maxRecDepth 100000 in
set_option maxHeartbeats 800000 in
theorem print_any (s : ByteArray) (w : World) (hT : Tabs w) (hs : s.size ≤ 1000000000) :
    Calls Tryd.prog 9 #[.string s] w fun e w' => e = .returned (.string ⟨(Sha.print s.data.toList).toArray⟩) ∧ Below w.heap.size w w' := by
  have HT := Lib.hid hT
  clear hT
  have hsl : s.data.toList.length = s.size := Array.length_toList
  have HSL := Lib.hid hsl
  clear hsl
  go_enter Tryd.func9, Tryd.ntmps9
  go_wp2
  obtain ⟨m, hm⟩ : ∃ m, m = s.size / 64 := ⟨_, rfl⟩
  have hm' : (s.size : Int) - (s.size : Int) % 64 = ((64 * m : Nat) : Int) := by omega
  obtain ⟨wh, hwh⟩ : ∃ wh, wh = 64 * m := ⟨_, rfl⟩
  rw [← hwh] at hm'
  rw [hm']
  have HM := Lib.hid hm
  have HW := Lib.hid hwh
  have hwle : wh ≤ s.size := by omega
  clear hm hwh hm'
  go_loopw [5] (fun i wr => ∃ (k p : Nat) (v : Sha.V8), k ≤ m ∧ Hid (p = 64 * k) ∧ i = .int .i64 p ∧ Hid (v = Sha.state Sha.cubeAt Sha.H0 (Sha.message s.data.toList) k) ∧ v.ok ∧ Blk wr w.heap.size 35 (v8s v).toList ∧ Below w.heap.size w wr ∧ w.heap.size < wr.heap.size) (fun i _ => s.size - (intOf i).toNat)
  case atStart => exact ⟨0, 0, Sha.H0, Nat.zero_le _, rfl, rfl, rfl, Sha.H0_ok, Blk.new w 35 (v8s Sha.H0), (Below.refl _ _).alloc (Nat.le_refl _) _, by simp⟩
  case round =>
    obtain ⟨k, p, v, hk, hp, rfl, hv, ok, hblk, hb, hz⟩ := hrel
    by_cases hlt : k < m
    · have hpl : p < wh := by have := hp.out; have := HW.out; omega
      obtain ⟨p2, hp2⟩ : ∃ p2, p2 = p + 64 := ⟨_, rfl⟩
      have hp2le : p2 ≤ s.size := by have := hp.out; have := HW.out; omega
      have hpp : p ≤ p2 := by omega
      have hsz : (s.extract p p2).size = 64 := by rw [ByteArray.size_extract]; omega
      have hsch : Sha.sched (s.extract p p2) = Sha.schedL (Sha.message s.data.toList) k := by
        rw [hp2, hp.out]
        exact Sha.sched_whole s k (by have := HM.out; omega)
      have HN := Lib.hid (show Sha.mix Sha.cubeAt (Sha.sched (s.extract p p2)) v = Sha.state Sha.cubeAt Sha.H0 (Sha.message s.data.toList) (k + 1) by rw [Sha.state_succ, ← hv.out, hsch])
      have HP2 := Lib.hid hp2
      have HSZ := Lib.hid hsz
      have w64 : IntKind.i64.wrap ((p : Int) + 64) = (p2 : Int) := by rw [IntWalk.i64_in _ (by omega)]; omega
      have i0 : (0 : Int) ≤ p := by omega
      have i1 : (p : Int) ≤ p2 := by omega
      have i2 : (p2 : Int) ≤ s.size := by omega
      clear hsch hp2 hsz
      obtain ⟨a, b, c, d, e, f, g, h⟩ := v
      have c0 := hblk.cell (j := 0) rfl
      have c1 := hblk.cell (j := 1) rfl
      have c2 := hblk.cell (j := 2) rfl
      have c3 := hblk.cell (j := 3) rfl
      have c4 := hblk.cell (j := 4) rfl
      have c5 := hblk.cell (j := 5) rfl
      have c6 := hblk.cell (j := 6) rfl
      have c7 := hblk.cell (j := 7) rfl
      go_wp2
      refine wp_region_any (by kernel_rfl) ?_
      try (change wpAny _ _ _ _ _ _ _ (World.drew _))
      refine wpAny_take (i := 1) (v := ?_) rfl (by kernel_rfl) (by kernel_rfl) (by kernel_rfl) (fun _ _ _ h => h) (Or.inl ⟨by rfl, ?_⟩) ?_
      rotate_left
      · intro w; go_simp; try with_reducible rfl
      refine wpAny_take (i := 2) (v := ?_) rfl (by kernel_rfl) (by kernel_rfl) (by kernel_rfl) (fun _ _ _ h => h) (Or.inl ⟨by rfl, ?_⟩) ?_
      rotate_left
      · intro w; go_simp; try with_reducible rfl
      refine wpAny_take (i := 3) (v := ?_) rfl (by kernel_rfl) (by kernel_rfl) (by kernel_rfl) (fun _ _ _ h => h) (Or.inl ⟨by rfl, ?_⟩) ?_
      rotate_left
      · intro w; go_simp; try with_reducible rfl
      refine wpAny_take (i := 4) (v := ?_) rfl (by kernel_rfl) (by kernel_rfl) (by kernel_rfl) (fun _ _ _ h => h) (Or.inl ⟨by rfl, ?_⟩) ?_
      rotate_left
      · intro w; go_simp; try with_reducible rfl
      refine wpAny_take (i := 5) (v := ?_) rfl (by kernel_rfl) (by kernel_rfl) (by kernel_rfl) (fun _ _ _ h => h) (Or.inl ⟨by rfl, ?_⟩) ?_
      rotate_left
      · intro w; go_simp; try with_reducible rfl
      refine wpAny_ready (rs := [0]) (by kernel_rfl) (by simp) ?_
      refine AllReady.cons rfl (fun K hK => ?_) AllReady.nil
      go_simp
      refine hK _ _ ?_; clear hK K
      refine wpAny_ready (rs := [6]) (by kernel_rfl) (by simp) ?_
      refine AllReady.cons rfl (fun K hK => ?_) AllReady.nil
      go_simp
      refine (mix_any a b c d e f g h ok (s.extract p p2) _ (HT.out.below hb.drew (Nat.le_refl _)) HSZ.out).mono ?_; rintro en w1 ⟨rfl, hb1⟩
      refine hK _ _ ?_; clear hK K
      have hblk1 := hblk.drew.below hb1 hz
      have hok2 := Lib.hid (Sha.mix_ok Sha.cubeAt (Sha.sched (s.extract p p2)) ⟨a, b, c, d, e, f, g, h⟩)
      clear c0 c1 c2 c3 c4 c5 c6 c7
      refine wpAny_ready (rs := [7]) (by kernel_rfl) (by simp) ?_
      refine AllReady.cons rfl (fun K hK => ?_) AllReady.nil
      refine step_store_blk rfl _ _ _ rfl w.heap.size _ _ _ rfl rfl hblk1 (v8s_len _ _) (v8s_info _) (v8s_one _) ?_; intro w2 hblk2 hg2 hs2
      refine hK _ _ ?_; clear hK K
      refine wpAny_done (by kernel_rfl) ?_ _
      clear w64
      go_wp2
      go_roundw
      case rel => exact ⟨k + 1, p2, _, by omega, (by have h1 := HP2.out; have h2 := hp.out; show p2 = 64 * (k + 1); omega), by have := HP2.out; go_num, HN.out, hok2.out, hblk2, hb.drew.trans ((hb1.mono (Nat.le_of_lt hz)).trans ((Below.refl _ _).grown hg2 (by have := hb1.size; simp at this; omega) (fun k hk => by have := Option.some.inj hk; omega))), by rw [hs2]; exact Nat.lt_of_lt_of_le hz hb1.size⟩
      case measure => have := HP2.out; simp [intOf]; omega
    · have hkm := Lib.hid (show k = m by omega)
      have hpw := Lib.hid (show p = wh by have := hp.out; have := HW.out; have := hkm.out; omega)
      have hpw2 : ¬ p < wh := by have := hpw.out; omega
      have hwl : (wh : Int) ≤ s.size := by omega
      have hrs : (s.extract wh s.size).size ≤ 63 := by rw [ByteArray.size_extract]; have := HM.out; have := HW.out; omega
      have hsz64 : (s.size : Int) < 18446744073709551616 := by omega
      obtain ⟨w0, rfl⟩ : ∃ w0 : World, w0 = wr := ⟨_, rfl⟩
      go_wp2_with fail
      refine (ending_hid (s.extract wh s.size) s.size hrs hs _).mono ?_
      rintro en w1 ⟨E, rfl, hE, hEsz, hb1⟩
      have hE' : E.data.toList = Sha.pad (s.data.toList.drop (64 * m)) (8 * s.data.toList.length) := by
        rw [hE.out, Sha.end_drop, HW.out, HSL.out]
      have hm64 : 64 * m ≤ s.data.toList.length := by rw [HSL.out]; have := HW.out; omega
      have hbl := Sha.message_blocks s.data.toList m E hm64 hE'
      obtain ⟨q, hq⟩ : ∃ q, q = E.size / 64 := ⟨_, rfl⟩
      have HQ := Lib.hid hq
      have HBL := Lib.hid hbl
      have hsched := Lib.hid (fun (i : Nat) (hi : 64 * i + 64 ≤ E.size) => Sha.sched_end s.data.toList m i E hm64 hE' hi)
      have hblk1 := hblk.below hb1 hz
      have hbb1 := hb.trans (hb1.mono (Nat.le_of_lt hz))
      have hzz1 := Nat.lt_of_lt_of_le hz hb1.size
      have hv1 := Lib.hid (show v = Sha.state Sha.cubeAt Sha.H0 (Sha.message s.data.toList) (m + 0) by rw [hv.out, hkm.out]; rfl)
      have hEq : E.size = 64 * q := by have := hbl.2; omega
      have HEQ := Lib.hid hEq
      clear hE hE' hbl hq hb1 hblk hb hz hv hpw2 hwl hEq
      go_wp2_with fail
      go_loopw [7] (fun i wr => ∃ (k p : Nat) (v : Sha.V8), k ≤ q ∧ Hid (p = 64 * k) ∧ i = .int .i64 p ∧ Hid (v = Sha.state Sha.cubeAt Sha.H0 (Sha.message s.data.toList) (m + k)) ∧ v.ok ∧ Blk wr w.heap.size 35 (v8s v).toList ∧ Below w.heap.size w wr ∧ w.heap.size < wr.heap.size) (fun i _ => E.size - (intOf i).toNat)
      case atStart => exact ⟨0, 0, v, Nat.zero_le _, rfl, rfl, hv1, ok, hblk1, hbb1, hzz1⟩
      clear hblk1 hbb1 hzz1 hv1 ok
      case round =>
        obtain ⟨k, p, v, hk, hp, rfl, hv, ok, hblk, hb, hz⟩ := hrel
        by_cases hlt : k < q
        · have hpl : p < E.size := by have := hp.out; have := HEQ.out; omega
          obtain ⟨p2, hp2⟩ : ∃ p2, p2 = p + 64 := ⟨_, rfl⟩
          have hp2le : p2 ≤ E.size := by have := hp.out; have := HEQ.out; omega
          have hpp : p ≤ p2 := by omega
          have hsz : (E.extract p p2).size = 64 := by rw [ByteArray.size_extract]; omega
          have hsch : Sha.sched (E.extract p p2) = Sha.schedL (Sha.message s.data.toList) (m + k) := by
            rw [hp2, hp.out]
            exact hsched.out k (by have := HEQ.out; omega)
          have HN := Lib.hid (show Sha.mix Sha.cubeAt (Sha.sched (E.extract p p2)) v = Sha.state Sha.cubeAt Sha.H0 (Sha.message s.data.toList) (m + (k + 1)) by rw [← Nat.add_assoc, Sha.state_succ, ← hv.out, hsch])
          have HP2 := Lib.hid hp2
          have HSZ := Lib.hid hsz
          have w64 : IntKind.i64.wrap ((p : Int) + 64) = (p2 : Int) := by rw [IntWalk.i64_in _ (by omega)]; omega
          have i0 : (0 : Int) ≤ p := by omega
          have i1 : (p : Int) ≤ p2 := by omega
          have i2 : (p2 : Int) ≤ E.size := by omega
          clear hsch hp2 hsz
          obtain ⟨a, b, c, d, e, f, g, h⟩ := v
          have c0 := hblk.cell (j := 0) rfl
          have c1 := hblk.cell (j := 1) rfl
          have c2 := hblk.cell (j := 2) rfl
          have c3 := hblk.cell (j := 3) rfl
          have c4 := hblk.cell (j := 4) rfl
          have c5 := hblk.cell (j := 5) rfl
          have c6 := hblk.cell (j := 6) rfl
          have c7 := hblk.cell (j := 7) rfl
          go_wp2
          refine wp_region_any (by kernel_rfl) ?_
          try (change wpAny _ _ _ _ _ _ _ (World.drew _))
          refine wpAny_take (i := 1) (v := ?_) rfl (by kernel_rfl) (by kernel_rfl) (by kernel_rfl) (fun _ _ _ h => h) (Or.inl ⟨by rfl, ?_⟩) ?_
          rotate_left
          · intro w; go_simp; try with_reducible rfl
          refine wpAny_take (i := 2) (v := ?_) rfl (by kernel_rfl) (by kernel_rfl) (by kernel_rfl) (fun _ _ _ h => h) (Or.inl ⟨by rfl, ?_⟩) ?_
          rotate_left
          · intro w; go_simp; try with_reducible rfl
          refine wpAny_take (i := 3) (v := ?_) rfl (by kernel_rfl) (by kernel_rfl) (by kernel_rfl) (fun _ _ _ h => h) (Or.inl ⟨by rfl, ?_⟩) ?_
          rotate_left
          · intro w; go_simp; try with_reducible rfl
          refine wpAny_take (i := 4) (v := ?_) rfl (by kernel_rfl) (by kernel_rfl) (by kernel_rfl) (fun _ _ _ h => h) (Or.inl ⟨by rfl, ?_⟩) ?_
          rotate_left
          · intro w; go_simp; try with_reducible rfl
          refine wpAny_take (i := 5) (v := ?_) rfl (by kernel_rfl) (by kernel_rfl) (by kernel_rfl) (fun _ _ _ h => h) (Or.inl ⟨by rfl, ?_⟩) ?_
          rotate_left
          · intro w; go_simp; try with_reducible rfl
          refine wpAny_ready (rs := [0]) (by kernel_rfl) (by simp) ?_
          refine AllReady.cons rfl (fun K hK => ?_) AllReady.nil
          go_simp
          refine hK _ _ ?_; clear hK K
          refine wpAny_ready (rs := [6]) (by kernel_rfl) (by simp) ?_
          refine AllReady.cons rfl (fun K hK => ?_) AllReady.nil
          go_simp
          refine (mix_any a b c d e f g h ok (E.extract p p2) _ (HT.out.below hb.drew (Nat.le_refl _)) HSZ.out).mono ?_; rintro en w1 ⟨rfl, hb1⟩
          refine hK _ _ ?_; clear hK K
          have hblk1 := hblk.drew.below hb1 hz
          have hok2 := Lib.hid (Sha.mix_ok Sha.cubeAt (Sha.sched (E.extract p p2)) ⟨a, b, c, d, e, f, g, h⟩)
          clear c0 c1 c2 c3 c4 c5 c6 c7
          refine wpAny_ready (rs := [7]) (by kernel_rfl) (by simp) ?_
          refine AllReady.cons rfl (fun K hK => ?_) AllReady.nil
          refine step_store_blk rfl _ _ _ rfl w.heap.size _ _ _ rfl rfl hblk1 (v8s_len _ _) (v8s_info _) (v8s_one _) ?_; intro w2 hblk2 hg2 hs2
          refine hK _ _ ?_; clear hK K
          refine wpAny_done (by kernel_rfl) ?_ _
          clear w64
          go_wp2
          go_roundw
          case rel => exact ⟨k + 1, p2, _, by omega, (by have h1 := HP2.out; have h2 := hp.out; show p2 = 64 * (k + 1); omega), by have := HP2.out; go_num, HN.out, hok2.out, hblk2, hb.drew.trans ((hb1.mono (Nat.le_of_lt hz)).trans ((Below.refl _ _).grown hg2 (by have := hb1.size; simp at this; omega) (fun k hk => by have := Option.some.inj hk; omega))), by rw [hs2]; exact Nat.lt_of_lt_of_le hz hb1.size⟩
          case measure => have := HP2.out; simp [intOf]; omega
        · have hkq := Lib.hid (show k = q by omega)
          have hpw2 : ¬ p < E.size := by have := hp.out; have := HEQ.out; have := hkq.out; omega
          have HF := Lib.hid (show Sha.spellTo v.list 8 = Sha.print s.data.toList by
            rw [hv.out, hkq.out, HQ.out, ← HBL.out.1]; rfl)
          obtain ⟨a, b, c, d, e, f, g, h⟩ := v
          have c0 := hblk.cell (j := 0) rfl
          have c1 := hblk.cell (j := 1) rfl
          have c2 := hblk.cell (j := 2) rfl
          have c3 := hblk.cell (j := 3) rfl
          have c4 := hblk.cell (j := 4) rfl
          have c5 := hblk.cell (j := 5) rfl
          have c6 := hblk.cell (j := 6) rfl
          have c7 := hblk.cell (j := 7) rfl
          obtain ⟨w5, rfl⟩ : ∃ w5 : World, w5 = wr := ⟨_, rfl⟩
          go_wp2_with fail
          refine (spell_any ⟨a, b, c, d, e, f, g, h⟩ ok _).mono ?_
          rintro en w6 ⟨rfl, hb6⟩
          go_wp2
          go_ret
          exact ⟨ret_str (by rw [HF.out]), hb.trans (hb6.mono (Nat.le_of_lt hz))⟩
end Go.Proofs.YtlllcdjcihnkdaaDoor
