/- Walks of the statements on chunks. -/
import Derived.Test.YtaahbankiidgkaaCutRef
import Derived.Laws.MakeOwn
namespace Go.Proofs.Ytaahbankiidgkaa
open Go.RowKit Fx

theorem Ct.chunks_count (l : List UInt8) : (Ct.chunks l).length ≤ l.length + 1 := by
  unfold Ct.chunks Ct.rest
  have := feed_count l []
  rw [List.length_append]
  split <;> simp <;> omega
theorem forty : Ct.chunks (List.replicate 40 0) = [List.replicate 16 0, List.replicate 16 0, List.replicate 8 0] := by decide +kernel
theorem abc_feed : Ct.feed [] [97, 98, 99] = ([], [97, 98, 99]) := by decide +kernel

theorem info_of {P : Program} {E : TypeId} {size bytes : Nat} {z : Value} (hi : (P.info? E).map (fun i => (i.zero, i.size, i.bytes)) = some (some z, size, bytes)) :
    ∃ i, P.info? E = some i ∧ i.zero = some z ∧ i.size = size ∧ i.bytes = bytes := by
  cases h : P.info? E with
  | none => rw [h] at hi; cases hi
  | some i =>
    rw [h] at hi
    simp only [Option.map_some, Option.some.injEq, Prod.mk.injEq] at hi
    exact ⟨i, rfl, hi.1, hi.2.1, hi.2.2⟩
theorem made_one (v : Value) (n : Nat) : madeCells #[v] n = (List.replicate n v).toArray := by
  apply Array.ext
  · simp [madeCells]
  · intro k h1 h2
    simp [madeCells, Nat.mod_one]
/-- make([]byte, n): so many noughts. -/
theorem make_zeros (w : World) (n : Nat) (hn : n ≤ 1000000) : (Instr.makeSlice 32 (.int .i64 n) (.int .i64 n)).run Try.prog w = .ok (.slice (some ⟨w.heap.size, 0, none⟩) n n) (w.alloc (.cells (List.replicate n (.int .u8 0)).toArray 5)) := by
  obtain ⟨i, hi, hz, hs, hb⟩ := info_of (P := Try.prog) (E := 5) (size := 1) (bytes := 1) (z := .int .u8 0) (by kernel_rfl)
  have := run_make (P := Try.prog) w 32 5 i (.int .u8 0) Try.underlying32 hi hz .i64 .i64 n n (by omega) (by omega) (by rw [hb]; omega) (by omega)
  rw [this, hs, Int.toNat_natCast, Nat.mul_one, show (Value.int IntKind.u8 0).cells = #[.int .u8 0] from rfl, made_one]
/-- string of them. -/
theorem zeros_back (w : World) (n c : Nat) : (convert 32 9 (.slice (some ⟨w.heap.size, 0, none⟩) n c)).run Try.prog (w.alloc (.cells (List.replicate n (.int .u8 0)).toArray 5)) = .ok (.string (bs (List.replicate n 0))) (w.alloc (.cells (List.replicate n (.int .u8 0)).toArray 5)) := by
  have hblk := Blk.new w (List.replicate n (.int .u8 0)).toArray 5
  have := run_convert_bytes_back (P := Try.prog) (w.alloc (.cells (List.replicate n (.int .u8 0)).toArray 5)) 32 9 5 ⟨w.heap.size, 0, none⟩ c (List.replicate n 0) (by kernel_rfl) (by kernel_rfl) (by kernel_rfl) (by
    intro j hj
    rw [show (⟨w.heap.size, 0, none⟩ : Addr).add j = ⟨w.heap.size, j, none⟩ by unfold Addr.add; split <;> simp_all]
    refine hblk.cell ?_
    rw [List.length_replicate] at hj
    rw [List.getElem?_replicate, if_pos hj, List.getElem_replicate]
    rfl)
  rw [List.length_replicate] at this
  exact this

set_option maxRecDepth 100000 in
set_option maxHeartbeats 1000000 in
theorem awake_any (w : World) :
    Calls Try.prog 7 #[] w fun e w' => e = .returned (.bool true) ∧ Below w.heap.size w w' := by
  have hmk : (Instr.makeSlice 32 (.int .i64 40) (.int .i64 40)).run Try.prog w = .ok (.slice (some ⟨w.heap.size, 0, none⟩) 40 40) (w.alloc (.cells (List.replicate 40 (.int .u8 0)).toArray 5)) := make_zeros w 40 (by decide)
  have hcv := zeros_back w 40 40
  have HB0 : Below w.heap.size w (w.alloc (.cells (List.replicate 40 (.int .u8 0)).toArray 5)) := (Below.refl _ _).alloc (Nat.le_refl _) _
  generalize (w.alloc (.cells (List.replicate 40 (.int .u8 0)).toArray 5)) = w0 at *
  have H40 : (bs (List.replicate 40 0)).data.toList = List.replicate 40 0 := rfl
  have H40s : (bs (List.replicate 40 0)).size ≤ 1000000 := by decide +kernel
  generalize bs (List.replicate 40 0) = z40 at *
  have HZ := Lib.hid H40
  clear H40
  go_enter Try.func7, Try.ntmps7
  go_wp2_with fail
  refine (cut_any z40 _ H40s).mono ?_
  rintro e w1 ⟨v1, rfl, ho1, hb1⟩
  rw [HZ.out, forty] at ho1
  go_wp2_with fail
  refine (new_any _).mono ?_
  rintro e w2 ⟨rfl, hc2, hb2, hl2⟩
  have ho2 := ho1.below hb2 (Nat.le_refl _)
  go_wp2_with fail
  refine (feed_any _ _ _ _ hc2 Ct.Held.nil (by decide)).mono ?_
  rintro e w3 ⟨v3, rfl, ho3, hc3, hb3⟩
  rw [show (ByteArray.mk #[97, 98, 99]).data.toList = [97, 98, 99] from rfl, abc_feed] at ho3 hc3
  have ho3' : OwnS w0.heap.size w3 v1 [List.replicate 16 0, List.replicate 16 0, List.replicate 8 0] := ho2.but hb3 (fun g' hg' e => by have := (ho1.block g' hg').2; omega)
  obtain ⟨a3, cap3, rfl, _⟩ := Own.slice ho3
  have hbA : Below w.heap.size w w3 := by
    have h1 := HB0.trans (hb1.mono HB0.size)
    have h2 := h1.trans (hb2.mono h1.size)
    exact h2.trans (hb3.below (Nat.le_trans h1.size (Nat.le_of_lt hl2)) (fun k hk e => by have := h1.size; omega))
  obtain ⟨g1, cap1, rfl, hg1, hg1', _⟩ := Own.form ho3' (by decide)
  have hr := ho3'.reads
  obtain ⟨_, _, e1, _, hr⟩ := hr
  injection e1 with e1 _ _
  subst e1
  obtain ⟨_, _, e2, _, hr⟩ := hr 0 (by decide)
  injection e2 with e2
  injection e2 with e2 e3
  subst e2 e3
  have c0 := hr 0 (by decide)
  have c2 := hr 2 (by decide)
  have hs0 : (bs (List.replicate 16 (0 : UInt8))).size = 16 := by decide +kernel
  have hs2 : (bs (List.replicate 8 (0 : UInt8))).size = 8 := by decide +kernel
  simp only [List.getElem_cons_zero, List.getElem_cons_succ] at c0 c2
  generalize bs (List.replicate 16 (0 : UInt8)) = x16 at c0 hs0
  generalize bs (List.replicate 8 (0 : UInt8)) = x8 at c2 hs2
  clear hr ho1 ho2 ho3 ho3'
  go_wp2_with fail
  refine (end_any _ _ _ hc3).mono ?_
  rintro e w4 ⟨rfl, hc4, hb4⟩
  go_wp2_with fail
  refine (end_any _ _ _ hc4).mono ?_
  rintro e w5 ⟨rfl, hc5, hb5⟩
  go_wp2
  go_ret
  exact ⟨rfl, hbA.trans ((hb4.trans hb5 (fun i _ hi => hi)).below hbA.size (fun k hk e => by have := hb1.size; have := HB0.size; omega))⟩

theorem cutCuts_any (s : ByteArray) (w : World) :
    Calls Try.prog 3 #[.string s] w fun e w' => e = .returned (.bool true) ∧ Below w.heap.size w w' := by
  go_enter Try.func3, Try.ntmps3
  go_wp2_with fail
  refine (awake_any _).mono ?_
  rintro e w1 ⟨rfl, hb1⟩
  by_cases hs : s.size ≤ 3000
  · have hs1 : ¬ ((s.size : Int) > 3000) := by omega
    go_wp2_with fail
    refine (cut_any s _ (by omega)).mono ?_
    rintro e w2 ⟨v2, rfl, ho2, hb2⟩
    go_wp2_with fail
    refine (refCut_any s _ (by omega)).mono ?_
    rintro e w3 ⟨v3, rfl, ho3, hb3⟩
    have hcnt := Ct.chunks_count s.data.toList
    have hr2 := ho2.reads.below hb3
    have hr3 := ho3.reads
    generalize Ct.chunks s.data.toList = C at *
    go_wp2_with fail
    refine (same_any _ _ _ _ _ hr2 hr3 (by rw [show s.data.toList.length = s.size from Array.length_toList] at hcnt; omega)).mono ?_
    rintro e w4 ⟨rfl, hb4⟩
    have hd : decide (C = C) = true := by simp
    rw [hd]
    go_wp2
    go_ret
    have h2 := hb1.trans (hb2.mono hb1.size)
    have h3 := h2.trans (hb3.mono h2.size)
    exact ⟨rfl, h3.trans (hb4.mono h3.size)⟩
  · have hs1 : (s.size : Int) > 3000 := by omega
    go_wp2
    go_ret
    exact ⟨rfl, hb1⟩
end Go.Proofs.Ytaahbankiidgkaa
