/- Walk of the statement CutBehind. -/
import Derived.Test.YtaahbankiidgkaaCutWhole
namespace Go.Proofs.Ytaahbankiidgkaa
open Go.RowKit Fx

theorem Reads.cellAt {w : World} {v : Value} {l : List (List UInt8)} (h : Reads w v l) {k : Nat} (hk : k < l.length) :
    ∃ g o cap, v = .slice (some ⟨g, o, none⟩) l.length cap ∧ l.length ≤ cap ∧ g < w.heap.size ∧ ∀ j (hj : j < l.length), w.cell? ⟨g, o + j, none⟩ = some (.string (bs l[j])) := by
  obtain ⟨a, cap, e, hc, hi⟩ := h
  obtain ⟨g, o, rfl, hg, hx⟩ := hi k hk
  exact ⟨g, o, cap, e, hc, hg, hx⟩
/-- l[:k]. -/
theorem Reads.upto {w : World} {g o n cap : Nat} {l : List (List UInt8)} (k : Nat) (hn : n = l.length) (hk : k ≤ n) (hc : n ≤ cap) (hg : g < w.heap.size)
    (hx : ∀ j (hj : j < l.length), w.cell? ⟨g, o + j, none⟩ = some (.string (bs l[j]))) : Reads w (.slice (some ⟨g, o, none⟩) k cap) (l.take k) := by
  subst hn
  refine ⟨_, cap, by rw [List.length_take, Nat.min_eq_left hk], by rw [List.length_take]; omega, fun i _ => ⟨g, o, rfl, hg, fun j hj => ?_⟩⟩
  rw [List.getElem_take]
  exact hx j (by rw [List.length_take] at hj; omega)

theorem bs_start (x y : List UInt8) : (bs (x ++ y)).extract 0 (bs x).size = bs x := by
  rw [ext_take, bs_size, bs_list, List.take_left]

set_option maxRecDepth 100000 in
set_option maxHeartbeats 2000000 in
theorem cutBehind_any (a b : ByteArray) (w : World) :
    Calls Try.prog 6 #[.string a, .string b] w fun e w' => e = .returned (.bool true) ∧ Below w.heap.size w w' := by
  go_enter Try.func6, Try.ntmps6
  go_wp2_with fail
  refine (awake_any _).mono ?_
  rintro e w1 ⟨rfl, hb1⟩
  by_cases hs : a.size ≤ 1500 ∧ b.size ≤ 1500
  · obtain ⟨hsa, hsb⟩ := hs
    have hs1 : ¬ ((a.size : Int) > 1500) := by omega
    have hs2 : ¬ ((b.size : Int) > 1500) := by omega
    go_wp2_with fail
    refine (cut_any a _ (by omega)).mono ?_
    rintro e w2 ⟨v2, rfl, ho2, hb2⟩
    go_wp2_with fail
    refine (cut_any (a ++ b) _ (by rw [ByteArray.size_append]; omega)).mono ?_
    rintro e w3 ⟨v3, rfl, ho3, hb3⟩
    have hr2 := ho2.reads.below hb3
    have hr3 := ho3.reads
    clear ho2 ho3
    have hbA := (hb1.trans (hb2.mono hb1.size))
    have hbB := hbA.trans (hb3.mono hbA.size)
    have hcnt := Ct.chunks_count a.data.toList
    have hcnt3 := Ct.chunks_count (a ++ b).data.toList
    rw [show a.data.toList.length = a.size from Array.length_toList] at hcnt
    rw [show (a ++ b).data.toList.length = (a ++ b).size from Array.length_toList, ByteArray.size_append] at hcnt3
    have HBE := fun k hk => Lib.hid (Ct.chunks_behind a.data.toList b.data.toList k hk)
    rw [show a.data.toList ++ b.data.toList = (a ++ b).data.toList by simp] at HBE
    generalize Ct.chunks a.data.toList = C at *
    generalize Ct.chunks (a ++ b).data.toList = M at *
    by_cases hC0 : C = []
    · subst hC0
      obtain ⟨al, capl, rfl, _⟩ := hr2
      clear HBE
      rw [List.length_nil]
      go_wp2
      go_ret
      exact ⟨rfl, hbB⟩
    · obtain ⟨k, hk⟩ : ∃ k, C.length = k + 1 := ⟨C.length - 1, by have := List.length_pos_iff.2 hC0; omega⟩
      obtain ⟨h1, h2, z, h3⟩ := (HBE k hk).out
      clear HBE hC0
      obtain ⟨gl, ol, capl, rfl, hcl, hgl, hxl⟩ := hr2.cellAt (show k < C.length by omega)
      obtain ⟨gm, om, capm, rfl, hcm, hgm, hxm⟩ := hr3.cellAt h1
      rw [List.getD_eq_getElem?_getD, List.getD_eq_getElem?_getD, List.getElem?_eq_getElem h1, List.getElem?_eq_getElem (show k < C.length by omega), Option.getD_some, Option.getD_some] at h3
      have cl := hxl k (by omega)
      have cm := hxm k h1
      rw [h3] at cm
      have HXL := Lib.hid (Reads.upto k rfl (show k ≤ C.length by omega) hcl hgl hxl)
      have HXM := Lib.hid (Reads.upto k rfl (show k ≤ M.length by omega) hcm hgm hxm)
      have H2 := Lib.hid h2
      have hst : ((bs (C[k] ++ z)).extract 0 (bs C[k]).size) = bs C[k] := bs_start _ _
      have hge : (bs C[k]).size ≤ (bs (C[k] ++ z)).size := by rw [bs_size, bs_size, List.length_append]; omega
      generalize bs C[k] = X at *
      generalize bs (C[k] ++ z) = Y at *
      clear hr2 hr3 hxl hxm h2 h3
      rw [hk] at hcl hcnt ⊢
      have HK := Lib.hid hk
      clear hk
      have hkn : (k : Int) < (k : Int) + 1 := by omega
      have hkn' : (k : Int) ≤ (k : Int) + 1 := by omega
      have hmk : (M.length : Int) > k := by omega
      have hmk' : (k : Int) ≤ M.length := by omega
      have hn0 : ((k : Int) + 1 == 0) = false := by rw [beq_eq_false_iff_ne]; omega
      have hgeI : (Y.size : Int) ≥ X.size := by omega
      have hcmI : (k : Int) ≤ capm := by omega
      have hclI : (k : Int) ≤ capl := by omega
      have hc1 : ¬ capm = 0 := by omega
      have hc2 : ¬ capl = 0 := by omega
      have hk1000 : (C.take k).length ≤ 1000000000 := by rw [List.length_take]; omega
      have hsame : ∀ q, Calls Try.prog 8 #[.slice (some ⟨gm, om, none⟩) k capm, .slice (some ⟨gl, ol, none⟩) k capl] (w3.drewN q) fun e w' => e = .returned (.bool true) ∧ ∃ m, w' = (w3.drewN q).drewN m := by
        intro q
        refine (same_quiet _ _ (M.take k) (C.take k) (w3.drewN q) (Reads.below (w := w3) HXM.out (below_drawn w3 q)) (Reads.below (w := w3) HXL.out (below_drawn w3 q)) (by rw [H2.out]; exact hk1000)).mono ?_
        rintro e w' ⟨he, hm⟩
        rw [he, H2.out]
        exact ⟨by simp, hm⟩
      have HSAME := Lib.hid hsame
      clear hsame
      go_wp2_with fail
      go_quiet ((go_at_call 8; exact Calls.quiet_of (HSAME.out _)))
      go_wp2
      go_ret
      exact ⟨rfl, hbB.trans (below_drawn w3 nq |>.mono hbB.size)⟩
  · go_wp2
    all_goals first
      | exfalso; omega
      | (go_ret; exact ⟨rfl, hb1⟩)
end Go.Proofs.Ytaahbankiidgkaa
