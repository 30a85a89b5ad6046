/- Walk of the reference's Same. -/
import Derived.Test.YtaahbankiidgkaaCutTop
namespace Go.Proofs.Ytaahbankiidgkaa
open Go.RowKit Fx

/-- v reads as the texts l. -/
def Reads (w : World) (v : Value) (l : List (List UInt8)) : Prop :=
  ∃ (a : Option Addr) (cap : Nat), v = .slice a l.length cap ∧ l.length ≤ cap ∧ ∀ i (hi : i < l.length), ∃ g o, a = some ⟨g, o, none⟩ ∧ g < w.heap.size ∧ ∀ j (hj : j < l.length), w.cell? ⟨g, o + j, none⟩ = some (.string (bs l[j]))
theorem OwnS.reads {B : Nat} {w : World} {v : Value} {l : List (List UInt8)} (h : OwnS B w v l) : Reads w v l := by
  obtain ⟨a, cap, e, hc⟩ := Own.slice h
  rw [List.length_map] at e hc
  refine ⟨a, cap, e, hc, fun i hi => ?_⟩
  obtain ⟨g, cap', e', hB, hg, _⟩ := Own.form h (by rw [List.length_map]; omega)
  rw [List.length_map] at e'
  rw [e] at e'
  injection e' with e1 _ e3
  subst e1 e3 e
  refine ⟨g, 0, rfl, hg, fun j hj => ?_⟩
  have hl := Own.lies (show Own strElem 9 B w (.slice (some ⟨g, 0, none⟩) l.length cap) (l.map bs) from h)
  refine hl j _ ?_
  rw [show strElem.cells (l.map bs) = (l.map bs).map (fun s => Value.string s) from oneElem_cells _ _ _]
  simp [hj]
theorem Reads.below {w w' : World} {v : Value} {l : List (List UInt8)} (h : Reads w v l) (hb : Below w.heap.size w w') : Reads w' v l := by
  obtain ⟨a, cap, e, hc, hi⟩ := h
  refine ⟨a, cap, e, hc, fun i hil => ?_⟩
  obtain ⟨g, o, e1, e2, e3⟩ := hi i hil
  exact ⟨g, o, e1, Nat.lt_of_lt_of_le e2 hb.size, fun j hj => (hb.cell (p := ⟨g, o + j, none⟩) e2).trans (e3 j hj)⟩

theorem bs_toList (a : List UInt8) : (bs a).toList = a := by
  rw [ByteArray.toList_eq]; rfl


set_option maxHeartbeats 1000000 in
theorem same_quiet (va vb : Value) (la lb : List (List UInt8)) (w : World) (ha : Reads w va la) (hb : Reads w vb lb) (hs : la.length ≤ 1000000000) :
    Calls Try.prog 8 #[va, vb] w fun e w' => e = .returned (.bool (decide (la = lb))) ∧ ∃ m, w' = w.drewN m := by
  obtain ⟨aa, capa, rfl, hca, hla⟩ := ha
  obtain ⟨ab, capb, rfl, hcb, hlb⟩ := hb
  by_cases hn : la.length = lb.length
  · have hn' : (la.length : Int) = lb.length := by omega
    go_enter Try.func8, Try.ntmps8
    go_wp2
    go_loopw [5] (fun i wr => ∃ k : Nat, k ≤ la.length ∧ i = .int .i64 k ∧ la.take k = lb.take k ∧ ∃ m, wr = w.drewN m) (fun i _ => la.length - (intOf i).toNat)
    case atStart => exact ⟨0, Nat.zero_le _, rfl, rfl, 0, rfl⟩
    case round =>
      obtain ⟨k, hk, rfl, heq, m, hwr⟩ := hrel
      have HW := Lib.hid hwr
      by_cases hlt : k < la.length
      · obtain ⟨ga, oa, rfl, hga, hxa⟩ := hla k hlt
        obtain ⟨gb, ob, rfl, hgb, hxb⟩ := hlb k (by omega)
        have ca : wr.cell? ⟨ga, oa + k, none⟩ = some (.string (bs la[k])) := by rw [hwr]; exact hxa k hlt
        have cb : wr.cell? ⟨gb, ob + k, none⟩ = some (.string (bs (lb[k]'(by omega)))) := by rw [hwr]; exact hxb k (by omega)
        clear hwr hla hlb hxa hxb
        have hltI : (k : Int) < la.length := by omega
        have hltI' : (k : Int) < lb.length := by omega
        go_wp2_with fail
        go_quiet (fail)
        by_cases hq : la[k] = lb[k]'(by omega)
        · have he' : ((bs la[k]).toList == (bs (lb[k]'(by omega))).toList) = true := by rw [hq]; simp
          rw [he']
          go_wp2
          go_roundw
          case rel =>
            refine ⟨k + 1, by omega, by go_num, ?_, m + nq, by rw [HW.out, World.drewN_drewN]⟩
            rw [List.take_succ_eq_append_getElem hlt, List.take_succ_eq_append_getElem (by omega), heq, hq]
          case measure => simp [intOf]; omega
        · have he' : ((bs la[k]).toList == (bs (lb[k]'(by omega))).toList) = false := by
            rw [beq_eq_false_iff_ne]
            rw [bs_toList, bs_toList]
            exact hq
          rw [he']
          go_wp2
          go_ret
          refine ⟨ret_bool ?_, m + nq, by rw [HW.out, World.drewN_drewN]⟩
          symm
          rw [decide_eq_false_iff_not]
          intro h
          subst h
          exact hq rfl
      · clear hwr
        go_wp2
        go_ret
        refine ⟨ret_bool ?_, m, HW.out⟩
        symm
        rw [decide_eq_true_iff]
        rw [List.take_of_length_le (by omega), List.take_of_length_le (by omega)] at heq
        exact heq
  · go_enter Try.func8, Try.ntmps8
    have hn' : ¬ (la.length : Int) = lb.length := by omega
    go_wp2
    go_ret
    exact ⟨ret_bool (by simp; intro h; exact hn (by rw [h])), 0, rfl⟩
theorem below_drawn (w : World) (m : Nat) : Below w.heap.size w (w.drewN m) := ⟨rfl, rfl, rfl, Nat.le_refl _, fun _ _ => rfl⟩
theorem same_any (va vb : Value) (la lb : List (List UInt8)) (w : World) (ha : Reads w va la) (hb : Reads w vb lb) (hs : la.length ≤ 1000000000) :
    Calls Try.prog 8 #[va, vb] w fun e w' => e = .returned (.bool (decide (la = lb))) ∧ Below w.heap.size w w' :=
  (same_quiet va vb la lb w ha hb hs).mono fun _ _ ⟨he, m, hm⟩ => ⟨he, hm ▸ below_drawn w m⟩
end Go.Proofs.Ytaahbankiidgkaa
