/- Walks of the fingerprint: a block. -/
import Derived.Test.YtlllcdjcihnkdaaDoorShaWalk
import Derived.Test.YtlllcdjcihnkdaaDoorCrcWalk
namespace Go.Proofs.YtlllcdjcihnkdaaDoor
open Go.RowKit

/-- Eight numbers as cells. -/
def v8s (v : Sha.V8) : Array Value := #[.int .u32 v.a, .int .u32 v.b, .int .u32 v.c, .int .u32 v.d, .int .u32 v.e, .int .u32 v.f, .int .u32 v.g, .int .u32 v.h]

theorem schedule_hid (s : ByteArray) (w : World) (hs : s.size = 64) :
    Calls Tryd.prog 32 #[.string s] w fun e w' => ∃ L : List Value, e = .returned (.agg L.toArray) ∧ Hid (L = u32s (Sha.sched s)) ∧ Below w.heap.size w w' :=
  (schedule_any s w hs).mono fun _ _ ⟨h1, h2⟩ => ⟨_, h1, rfl, h2⟩

theorem info_8 : (Tryd.prog.info? 35).map (·.size) = some 8 := by kernel_rfl
theorem sum_cells (a b c d e f g h : Nat) (v : Sha.V8) (s : ByteArray) (hv : v = Sha.rounds Sha.cubeAt (Sha.sched s) ⟨a, b, c, d, e, f, g, h⟩ 64) :
    [Value.int .u32 (((a : Int) + v.a) % 4294967296), .int .u32 (((b : Int) + v.b) % 4294967296), .int .u32 (((c : Int) + v.c) % 4294967296), .int .u32 (((d : Int) + v.d) % 4294967296),
      .int .u32 (((e : Int) + v.e) % 4294967296), .int .u32 (((f : Int) + v.f) % 4294967296), .int .u32 (((g : Int) + v.g) % 4294967296), .int .u32 (((h : Int) + v.h) % 4294967296)] =
      (v8s (Sha.mix Sha.cubeAt (Sha.sched s) ⟨a, b, c, d, e, f, g, h⟩)).toList := by
  rw [Sha.mix_eq, ← hv]
  simp [v8s, Sha.addV]
set_option maxRecDepth 100000 in
set_option maxHeartbeats 800000 in
theorem mix_any (a b c d e f g h : Nat) (hv : (Sha.V8.mk a b c d e f g h).ok) (s : ByteArray) (w : World) (hT : Tabs w) (hs : s.size = 64) :
    Calls Tryd.prog 19 #[.agg #[.int .u32 a, .int .u32 b, .int .u32 c, .int .u32 d, .int .u32 e, .int .u32 f, .int .u32 g, .int .u32 h], .string s] w fun en w' =>
      en = .returned (.agg (v8s (Sha.mix Sha.cubeAt (Sha.sched s) ⟨a, b, c, d, e, f, g, h⟩))) ∧ Below w.heap.size w w' := by
  have HT := Lib.hid hT
  have HV := Lib.hid hv
  have HS := Lib.hid hs
  clear hT hv hs
  go_enter Tryd.func19, Tryd.ntmps19
  go_wp2_with fail
  refine (schedule_hid s _ HS.out).mono ?_
  rintro e w1 ⟨L, rfl, hL, hb1⟩
  have hlen := Lib.hid (show L.toArray.size = 64 by rw [hL.out]; exact sched_size s)
  go_wp2_with (refine wpList_store_blk rfl _ _ _ rfl w1.heap.size _ _ _ rfl rfl (Blk.new _ _ _) (by rw [hlen.out]; rfl) (by rw [hlen.out]; exact info_64) (by rw [hL.out]; exact u32s_one _) ?_; intro w2 hres1 hg1 hs1)
  have hz1 : w.heap.size + 2 ≤ w1.heap.size := by have := hb1.size; simp at this; omega
  have hin : Blk w2 w.heap.size 35 (v8s ⟨a, b, c, d, e, f, g, h⟩).toList :=
    ((((Blk.new w 35 (v8s ⟨a, b, c, d, e, f, g, h⟩)).alloc _).below hb1 (by simp; omega)).alloc _).grown hg1 (fun hh => by have := Option.some.inj hh; omega)
  have hout : Blk w2 (w.heap.size + 1) 35 (u32s [0, 0, 0, 0, 0, 0, 0, 0]) := by
    have hn := Blk.new (w.alloc (.cells (v8s ⟨a, b, c, d, e, f, g, h⟩) 35)) 35 (u32s [0, 0, 0, 0, 0, 0, 0, 0]).toArray
    rw [show (w.alloc (.cells (v8s ⟨a, b, c, d, e, f, g, h⟩) 35)).heap.size = w.heap.size + 1 by simp] at hn
    exact ((hn.below hb1 (by simp)).alloc _).grown hg1 (fun hh => by have := Option.some.inj hh; omega)
  have hb2 : Below w.heap.size w w2 := ((((Below.refl _ _).alloc (Nat.le_refl _) _).alloc (by simp) _).trans (hb1.mono (by simp; omega))).trans (((Below.refl _ _).alloc (by omega) _).grown hg1 (by simp; omega) (by intro k hk; cases hk; omega))
  have hz2 : w1.heap.size < w2.heap.size := by rw [hs1]; simp
  clear hlen hg1 hs1 hb1
  have c0 := hin.cell (j := 0) rfl
  have c1 := hin.cell (j := 1) rfl
  have c2 := hin.cell (j := 2) rfl
  have c3 := hin.cell (j := 3) rfl
  have c4 := hin.cell (j := 4) rfl
  have c5 := hin.cell (j := 5) rfl
  have c6 := hin.cell (j := 6) rfl
  have c7 := hin.cell (j := 7) rfl
  go_quiet (fail)
  go_wp2
  go_quiet (fail)
  go_wp2
  clear c0 c1 c2 c3 c4 c5 c6 c7
  go_loopw [6, 7, 8, 9, 10, 11, 12, 13, 14, 15, 16, 17, 18] (fun sa sb sc sd se sf sg sh i _ _ _ _ wr => ∃ (n : Nat) (v : Sha.V8), n ≤ 64 ∧ i = .int .i64 n ∧ Hid (v = Sha.rounds Sha.cubeAt (Sha.sched s) ⟨a, b, c, d, e, f, g, h⟩ n) ∧ v.ok ∧
      sa = .int .u32 v.a ∧ sb = .int .u32 v.b ∧ sc = .int .u32 v.c ∧ sd = .int .u32 v.d ∧ se = .int .u32 v.e ∧ sf = .int .u32 v.f ∧ sg = .int .u32 v.g ∧ sh = .int .u32 v.h ∧
      Blk wr w1.heap.size 50 L ∧ Blk wr w.heap.size 35 (v8s ⟨a, b, c, d, e, f, g, h⟩).toList ∧ Blk wr (w.heap.size + 1) 35 (u32s [0, 0, 0, 0, 0, 0, 0, 0]) ∧ Below w.heap.size w wr)
    (fun _ _ _ _ _ _ _ _ i _ _ _ _ _ => 64 - (intOf i).toNat)
  case atStart => exact ⟨0, ⟨a, b, c, d, e, f, g, h⟩, Nat.zero_le _, rfl, (Sha.rounds_zero _ _ _).symm, HV.out, rfl, rfl, rfl, rfl, rfl, rfl, rfl, rfl, hres1, hin, hout, below_drewN (below_drewN hb2 _) _⟩
  case round =>
    obtain ⟨n, v, hn, rfl, hv, ok, rfl, rfl, rfl, rfl, rfl, rfl, rfl, rfl, hws, hin, hout, hb⟩ := hrel
    have hT := HT.out.below hb (Nat.le_refl _)
    by_cases hlt : n < 64
    · obtain ⟨x, hx⟩ : ∃ x, x = (Sha.sched s).getD n 0 := ⟨_, rfl⟩
      obtain ⟨k, hk⟩ : ∃ k, k = Sha.cubeAt n := ⟨_, rfl⟩
      have hx32 : x < 4294967296 := by rw [hx]; exact Sha.getD_lt _ (Sha.sched_lt s) _
      have hk32 : k < 4294967296 := by rw [hk]; exact Sha.cubeAt_lt n
      have cw : wr.cell? ⟨w1.heap.size, n, none⟩ = some (.int .u32 x) := hws.cell (by rw [hL.out, hx]; exact u32s_get _ n (by rw [Sha.sched_length]; exact hlt))
      have ck := hT.cube n hlt
      rw [← hk] at ck
      have HN := Lib.hid (show Sha.rounds Sha.cubeAt (Sha.sched s) ⟨a, b, c, d, e, f, g, h⟩ (n + 1) = Sha.rnd k x v by rw [Sha.rounds_succ, ← hv.out, ← hk, ← hx])
      obtain ⟨T, U, D, A, hT32, hU32, hD32, hA32, eT, eU, eD, eA, hr⟩ := Sha.round_way k x v
      have HR := Lib.hid hr
      have HOK := Lib.hid (Sha.rnd_ok k x ok)
      clear hr hx hk hT
      obtain ⟨p, q, r, t, u, y, z, o⟩ := v
      obtain ⟨op, oq, or, ot, ou, oy, oz, oo⟩ := ok
      simp only at op oq or ot ou oy oz oo eT eU eD eA ⊢
      have b1 := Sha.ch_bits u y z ou oy oz
      have b2 := Sha.maj_bits p q r op oq or
      have a2 := Sha.add2 (Sha.great p 2 13 22) (Sha.maj p q r)
      rw [eU] at a2
      have a2' := Sha.two_form (Sha.great p 2 13 22) (Sha.maj p q r)
      rw [eU] at a2'
      have a3' := Sha.two_form t T
      rw [eD] at a3'
      have a4' := Sha.two_form T U
      rw [eA] at a4'
      have HTT := Lib.hid (show ((o : Int) + (Sha.great u 6 11 25 : Nat) + (Sha.ch u y z : Nat) + k + x) % 4294967296 = T by omega)
      have H3 := Lib.hid a3'
      have H4 := Lib.hid a4'
      clear eT eU eD eA a3' a4'
      have n64 : (n : Int) < 64 := by omega
      go_wp2_with fail
      go_quiet ((go_at_call 33; exact Calls.quiet_of_same (turned_gen _ _ _ _ ou (by decide) _)))
      go_wp2_with (go_at_call 33; refine (turned_gen _ _ _ _ op (by decide) _).mono ?_; rintro en w' ⟨rfl, rfl⟩)
      refine ⟨⟨n + 1, ⟨A, p, q, r, D, u, y, z⟩, by omega, by go_num, (HN.out.trans HR.out).symm, by rw [← HR.out]; exact HOK.out, ?_, rfl, rfl, rfl, ?_, rfl, rfl, rfl, hws, hin, hout, below_drewN hb _⟩, by simp [intOf]; omega⟩
      · show Value.int _ _ = .int _ (A : Int)
        rw [HTT.out, H4.out]
      · show Value.int _ _ = .int _ (D : Int)
        rw [HTT.out, H3.out]
    · obtain rfl : n = 64 := by omega
      have c0 := hin.cell (j := 0) rfl
      have c1 := hin.cell (j := 1) rfl
      have c2 := hin.cell (j := 2) rfl
      have c3 := hin.cell (j := 3) rfl
      have c4 := hin.cell (j := 4) rfl
      have c5 := hin.cell (j := 5) rfl
      have c6 := hin.cell (j := 6) rfl
      have c7 := hin.cell (j := 7) rfl
      have E := Lib.hid (sum_cells a b c d e f g h v s hv.out)
      go_wp2_with (refine wpList_store_blk rfl _ _ _ rfl (w.heap.size + 1) _ _ _ rfl rfl hout rfl info_8 (by simp [Value.oneCell']) ?_; intro w4 hres4 hg4 hs4)
      rw [E.out] at hres4
      refine bodyPost_ret (v := .agg (v8s (Sha.mix Sha.cubeAt (Sha.sched s) ⟨a, b, c, d, e, f, g, h⟩))) (results_cell_row rfl _ _ (w.heap.size + 1) _ _ _ _ rfl hres4 Tryd.underlying35 rfl info_8) rfl ⟨rfl, hb.grown hg4 hb.size (fun k hk => by have := Option.some.inj hk; omega)⟩
end Go.Proofs.YtlllcdjcihnkdaaDoor
