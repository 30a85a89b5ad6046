/- Walks of the fingerprint: its ends. -/
import Derived.Test.YtlllcdjcihnkdaaDoorShaMix
import Derived.Test.YtlllcdjcihnkdaaDoorHexWalk
namespace Go.Proofs.YtlllcdjcihnkdaaDoor
open Go.RowKit

theorem index_fin (v : Sha.V8) (w : World) : ∀ n : Nat, n < 8 → (Instr.index 35 (.agg (v8s v)) (.int .i64 (n : Int))).run Tryd.prog w = .ok (.int .u32 ((v.list.getD n 0 : Nat) : Int)) w := by
  intro n hn
  match n, hn with
  | 0, _ => rfl
  | 1, _ => rfl
  | 2, _ => rfl
  | 3, _ => rfl
  | 4, _ => rfl
  | 5, _ => rfl
  | 6, _ => rfl
  | 7, _ => rfl

theorem spell_any (v : Sha.V8) (hv : v.ok) (w : World) :
    Calls Tryd.prog 21 #[.agg (v8s v)] w fun e w' => e = .returned (.string ⟨(Sha.spellTo v.list 8).toArray⟩) ∧ Below w.heap.size w w' := by
  obtain ⟨a, b, c, d, e, f, g, h⟩ := v
  have HV := Lib.hid hv
  clear hv
  show Calls Tryd.prog 21 #[.agg #[.int .u32 a, .int .u32 b, .int .u32 c, .int .u32 d, .int .u32 e, .int .u32 f, .int .u32 g, .int .u32 h]] w _
  go_enter Tryd.func21, Tryd.ntmps21
  have hblk := Blk.new w 35 (v8s ⟨a, b, c, d, e, f, g, h⟩)
  go_wp2_with (at_make; refine wpList_mk rfl _ _ rfl (w.heap.size + 1) _ _ 32 rfl rfl (by rfl) (by omega) (Below.refl _ _) (by simp) ?_; intro v0 w0 hown0 hb0; have hblk0 := hblk.below hb0 (by omega); have c0 := hblk0.cell (j := 0) rfl; have c1 := hblk0.cell (j := 1) rfl; have c2 := hblk0.cell (j := 2) rfl; have c3 := hblk0.cell (j := 3) rfl; have c4 := hblk0.cell (j := 4) rfl; have c5 := hblk0.cell (j := 5) rfl; have c6 := hblk0.cell (j := 6) rfl; have c7 := hblk0.cell (j := 7) rfl)
  have hbase : Below w.heap.size w w0 := ((Below.refl _ _).alloc (Nat.le_refl _) _).trans (hb0.mono (by omega))
  have hz : w.heap.size + 1 ≤ w0.heap.size := by have := hb0.size; simp at this; omega
  clear c0 c1 c2 c3 c4 c5 c6 c7 hblk hblk0 hb0
  go_loopw [3, 5, 8] (fun o x i wr => ∃ k : Nat, k ≤ 8 ∧ i = .int .i64 k ∧ OwnB (w.heap.size + 1) wr o (Sha.spellTo (Sha.V8.list ⟨a, b, c, d, e, f, g, h⟩) k) ∧ Below w.heap.size w wr ∧ w.heap.size + 1 ≤ wr.heap.size) (fun _ _ i _ => 8 - (intOf i).toNat)
  case atStart => exact ⟨0, Nat.zero_le _, rfl, hown0, hbase, hz⟩
  case round =>
    obtain ⟨k, hk, rfl, hown, hb, hz⟩ := hrel
    by_cases hlt : k < 8
    · obtain ⟨x, hx⟩ : ∃ x, x = (Sha.V8.list ⟨a, b, c, d, e, f, g, h⟩).getD k 0 := ⟨_, rfl⟩
      have hx32 : x < 4294967296 := by rw [hx]; exact Sha.getD_lt _ HV.out.list _
      have hix := fun w' => index_fin ⟨a, b, c, d, e, f, g, h⟩ w' k hlt
      rw [← hx] at hix
      simp only [v8s] at hix
      have hl : (Sha.spellTo (Sha.V8.list ⟨a, b, c, d, e, f, g, h⟩) k).length ≤ 100 := by rw [Sha.spellTo_length]; omega
      have HX := Lib.hid (show Sha.spellTo (Sha.V8.list ⟨a, b, c, d, e, f, g, h⟩) (k + 1) = Sha.spellTo (Sha.V8.list ⟨a, b, c, d, e, f, g, h⟩) k ++ Sha.bytes4 x by rw [hx]; rfl)
      clear hx
      go_wp2_with (at_builtin; refine wpList_app rfl _ _ rfl (w.heap.size + 1) wr _ _ rfl (hown.alloc _) ((Below.refl _ _).alloc hz _) (by simp; omega) ⟨wr.heap.size, 0, none⟩ 4 4 (Sha.bytes4 x) rfl rfl (news_four _ _ _ _ _ _ _ _ _ _ (Sha.b0 x hx32) (Sha.b1 x) (Sha.b2 x) (Sha.b3 x)) (by omega) ?_; intro v' w1 hown' hb')
      refine ⟨⟨k + 1, by omega, by go_num, by rw [HX.out]; exact hown', hb.trans (hb'.mono (by omega)), Nat.le_trans hz hb'.size⟩, by simp [intOf]; omega⟩
    · have hk8 := Lib.hid (show k = 8 by omega)
      have hst := run_str hown
      go_wp2
      go_ret
      exact ⟨ret_str (by rw [hk8.out]), hb⟩

set_option maxRecDepth 100000 in
set_option maxHeartbeats 400000 in
/-- The ending of a text. -/
theorem ending_any (r : ByteArray) (z : Nat) (hr : r.size ≤ 63) (hz : z ≤ 1000000000) (w : World) :
    Calls Tryd.prog 20 #[.string r, .int .u64 z] w fun e w' => e = .returned (.string ⟨(Sha.pad r.data.toList (8 * z)).toArray⟩) ∧ Below w.heap.size w w' := by
  have hrl : r.data.toList.length = r.size := Array.length_toList
  have hl1 : r.data.toList.length ≤ 63 := by rw [hrl]; exact hr
  have HRL := Lib.hid hrl
  clear hrl
  go_enter Tryd.func20, Tryd.ntmps20
  go_wp2_with (first | (at_make; refine wpList_mk rfl _ _ rfl w.heap.size w _ 128 rfl rfl (by rfl) (by omega) (Below.refl _ _) (Nat.le_refl _) ?_; intro v0 w0 hown0 hb0) | (at_builtin; refine wpList_appStr rfl _ _ rfl w.heap.size w _ _ rfl hown0 hb0 hb0.size r rfl (by simp; omega) ?_; intro v1 w1 hown1 hb1; rw [List.nil_append] at hown1) | (at_builtin; refine wpList_app rfl _ _ rfl w.heap.size w _ _ rfl (hown1.alloc _) (hb1.alloc hb1.size _) (by have := hb1.size; simp; omega) ⟨w1.heap.size, 0, none⟩ 1 1 [128] rfl rfl (news_one _ _ _ _ rfl) (by omega) ?_; intro v2 w2 hown2 hb2))
  have hn : r.data.toList.length + 1 + Sha.zs r.data.toList.length ≤ 200 := by have := Sha.zs_le r.data.toList.length; omega
  have HN := Lib.hid hn
  clear hown0 hb0 hown1 hb1
  go_loopw [5] (fun v wr => ∃ k : Nat, k ≤ Sha.zs r.data.toList.length ∧ OwnB w.heap.size wr v (Sha.zeros r.data.toList k) ∧ Below w.heap.size w wr) (fun v _ => 300 - lenOf v)
  case atStart => exact ⟨0, Nat.zero_le _, hown2, hb2⟩
  case round =>
    obtain ⟨k, hk, hown, hb⟩ := hrel
    have hzl := Sha.zeros_length r.data.toList k
    obtain ⟨g, cap, rfl⟩ := hown.form (by omega)
    obtain ⟨n, hn0⟩ : ∃ n, n = (Sha.zeros r.data.toList k).length := ⟨_, rfl⟩
    rw [← hn0] at hown ⊢
    have hnle : n ≤ 200 := by omega
    have hnn : n = r.data.toList.length + 1 + k := by omega
    have HNN := Lib.hid hnn
    have HZ := Lib.hid hn0
    clear hn hnn hn0 hzl
    by_cases hlt : k < Sha.zs r.data.toList.length
    · have hne : ((n : Int) % 64 != 56) = true := by have h1 := Sha.zs_no _ _ hlt; rw [← HNN.out] at h1; rw [bne_iff_ne]; omega
      have hzl : (Sha.zeros r.data.toList k).length ≤ 200 := by rw [← HZ.out]; exact hnle
      go_wp2_with (at_builtin; refine wpList_app rfl _ _ rfl w.heap.size w _ _ rfl (hown.alloc _) (hb.alloc hb.size _) (by have := hb.size; simp; omega) ⟨wr.heap.size, 0, none⟩ 1 1 [0] rfl rfl (news_one _ _ _ _ rfl) (by omega) ?_; intro v2 w2 hown2 hb2)
      rw [Sha.zeros_snoc] at hown2
      refine ⟨⟨k + 1, by omega, hown2, hb2⟩, ?_⟩
      have h1 := hown2.len
      rw [Sha.zeros_length] at h1
      show 300 - lenOf v2 < 300 - n
      have := HNN.out
      omega
    · have HK := Lib.hid (show k = Sha.zs r.data.toList.length by omega)
      have hne : ((n : Int) % 64 != 56) = false := by
        have h1 := Sha.zs_yes r.data.toList.length
        rw [← HK.out, ← HNN.out] at h1
        rw [bne_eq_false_iff_eq]
        omega
      clear hlt hk
      go_wp2_with fail
      obtain ⟨b, hb8⟩ : ∃ b : Nat, b = 8 * z := ⟨_, rfl⟩
      have hb8' : (z : Int) * 8 = (b : Int) := by omega
      rw [hb8']
      have hble : (b : Int) < 18446744073709551616 := by omega
      have hbn : b ≤ 8000000000 := by omega
      have HB := Lib.hid hb8
      clear hb8 hb8' hz hne
      obtain ⟨w3, rfl⟩ : ∃ w3 : World, w3 = wr := ⟨_, rfl⟩
      have hzl : (Sha.zeros r.data.toList k).length ≤ 200 := by rw [← HZ.out]; exact hnle
      go_loopw [5, 7] (fun v i wr => ∃ j : Nat, j ≤ 8 ∧ i = .int .i64 (56 - 8 * (j : Int)) ∧ OwnB w.heap.size wr v (Sha.zeros r.data.toList k ++ Sha.len8 b j) ∧ Below w.heap.size w wr) (fun _ i _ => (intOf i + 8).toNat)
      case atStart => exact ⟨0, Nat.zero_le _, rfl, by rw [show Sha.len8 b 0 = [] from rfl, List.append_nil]; have h := hown; rw [HZ.out] at h; first | exact hown | exact h, hb⟩
      case round =>
        obtain ⟨j, hj, rfl, hown, hb⟩ := hrel
        by_cases hlt : j < 8
        · obtain ⟨p, hp⟩ : ∃ p : Nat, p = 56 - 8 * j := ⟨_, rfl⟩
          have hp' : (56 - 8 * (j : Int)) = (p : Int) := by omega
          rw [hp']
          have hple : p ≤ 56 := by omega
          have hjp : j ≤ 7 := by omega
          have HL := Lib.hid (show Sha.len8 b (j + 1) = Sha.len8 b j ++ [UInt8.ofNat (b / 2 ^ p)] by rw [hp]; rfl)
          have hlen : (Sha.zeros r.data.toList k ++ Sha.len8 b j).length ≤ 300 := by rw [List.length_append, Sha.len8_length]; omega
          have HP := Lib.hid hp
          have HP' := Lib.hid hp'
          clear hp hp'
          have h8 := Sha.shr8 b p
          have H8 := Lib.hid h8
          clear h8
          go_wp2_with (at_builtin; refine wpList_app rfl _ _ rfl w.heap.size w _ _ rfl (hown.alloc _) (hb.alloc hb.size _) (by have := hb.size; simp; omega) ⟨wr.heap.size, 0, none⟩ 1 1 [UInt8.ofNat (b / 2 ^ p)] rfl rfl (news_one _ _ _ _ H8.out) (by omega) ?_; intro v4 w4 hown4 hb4)
          refine ⟨⟨j + 1, by omega, by have := HP.out; go_num, by rw [HL.out, ← List.append_assoc]; exact hown4, hb4⟩, by have := HP.out; simp [intOf]; omega⟩
        · have hj8 := Lib.hid (show j = 8 by omega)
          have hst := run_str hown
          have hnp : (56 - 8 * (j : Int)) = -8 := by omega
          rw [hnp]
          clear hnp hlt hj
          go_wp2
          go_ret
          exact ⟨ret_str (by rw [hj8.out, HB.out, HK.out]; rfl), hb⟩
end Go.Proofs.YtlllcdjcihnkdaaDoor
