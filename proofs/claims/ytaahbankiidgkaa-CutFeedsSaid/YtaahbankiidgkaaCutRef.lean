/- Walk of the reference's Cut. -/
import Derived.Test.YtaahbankiidgkaaCutSame
namespace Go.Proofs.Ytaahbankiidgkaa
open Go.RowKit Fx

def boolOf : Value → Nat | .bool true => 0 | _ => 1

/-- The last window of a beginning of N bytes. -/
theorem win8 (t : ByteArray) (N : Nat) (h1 : N ≤ t.size) : Ct.last8 (t.data.toList.take N) = (t.extract (N - 8) N).data.toList := by
  unfold Ct.last8
  have h1' : N ≤ t.data.size := h1
  rw [List.length_take, Array.length_toList, Nat.min_eq_left h1', ByteArray.data_extract, Array.toList_extract, List.extract_eq_take_drop, List.drop_take]
theorem ends_at (t : ByteArray) (N : Nat) (h1 : N ≤ t.size) : Ct.ends (t.data.toList.take N) = (decide (N = 128) || (decide (16 ≤ N) && decide (((T (t.extract (N - 8) N)).1 + 3 * (T (t.extract (N - 8) N)).2) % 16 = 0))) := by
  unfold Ct.ends Ct.cell T
  have h1' : N ≤ t.data.size := h1
  rw [win8 t N h1, List.length_take, Array.length_toList, Nat.min_eq_left h1']

theorem ext_drop (t : ByteArray) (n : Nat) : (t.extract n t.size).data.toList = t.data.toList.drop n := by
  rw [ByteArray.data_extract, Array.toList_extract, List.extract_eq_take_drop]
  exact List.take_of_length_le (by rw [List.length_drop, Array.length_toList]; exact Nat.le_refl _)
theorem ext_take (t : ByteArray) (n : Nat) : t.extract 0 n = bs (t.data.toList.take n) := by
  apply ByteArray.ext
  apply Array.ext'
  rw [ByteArray.data_extract, Array.toList_extract, List.extract_eq_take_drop]
  rfl

/-- What the inner loop knows: n bytes; does a chunk end behind them? -/
def Inner (t : ByteArray) (n : Nat) (d : Bool) : Prop :=
  n ≤ t.size ∧ n ≤ 128 ∧ (d = false → n < t.size ∧ n < 128 ∧ ∀ m, m ≤ n → Ct.ends (t.data.toList.take m) = false) ∧ (d = true → 1 ≤ n ∧ (∀ m, m < n → Ct.ends (t.data.toList.take m) = false) ∧ (Ct.ends (t.data.toList.take n) = true ∨ n = t.size))
theorem Inner.zero (t : ByteArray) (hp : 0 < t.size) : Inner t 0 false :=
  ⟨Nat.zero_le _, by decide, fun _ => ⟨hp, by decide, fun m hm => by rw [show m = 0 by omega, List.take_zero]; exact Ct.ends_nil⟩, fun h => Bool.noConfusion h⟩
theorem Inner.yes {t : ByteArray} {n : Nat} (h : Inner t n false) (he : Ct.ends (t.data.toList.take (n + 1)) = true ∨ n + 1 = t.size) : Inner t (n + 1) true := by
  obtain ⟨h1, h2, h3⟩ := h.2.2.1 rfl
  exact ⟨h1, h2, fun h => Bool.noConfusion h, fun _ => ⟨by omega, fun m hm => h3 m (by omega), he⟩⟩
theorem Inner.no {t : ByteArray} {n : Nat} (h : Inner t n false) (hs : n + 1 ≠ t.size) (h128 : n + 1 ≠ 128) (he : Ct.ends (t.data.toList.take (n + 1)) = false) : Inner t (n + 1) false := by
  obtain ⟨h1, h2, h3⟩ := h.2.2.1 rfl
  refine ⟨h1, h2, fun _ => ⟨by omega, by omega, fun m hm => ?_⟩, fun h => Bool.noConfusion h⟩
  rcases Nat.lt_or_ge n m with hmn | hmn
  · rw [show m = n + 1 by omega]; exact he
  · exact h3 m hmn

set_option maxRecDepth 100000 in
set_option maxHeartbeats 4000000 in
theorem refCut_any (s : ByteArray) (w : World) (hs : s.size ≤ 1000000) :
    Calls Try.prog 10 #[.string s] w fun e w' => ∃ v, e = .returned v ∧ OwnS w.heap.size w' v (Ct.chunks s.data.toList) ∧ Below w.heap.size w w' := by
  go_enter Try.func10, Try.ntmps10
  go_wp2
  go_loopw [0, 3, 4, 5] (fun r v _ _ wr => ∃ (q : Nat) (t : ByteArray) (o : List (List UInt8)), q + t.size = s.size ∧ r = .string t ∧ OwnS w.heap.size wr v o ∧ o.length ≤ q ∧ Hid (Ct.chunks s.data.toList = o ++ Ct.chunks t.data.toList) ∧ Below w.heap.size w wr) (fun r _ _ _ _ => match r with | .string t => t.size | _ => 0)
  case atStart => exact ⟨0, s, [], Nat.zero_add _, rfl, Own.nil _ _ _ _, Nat.le_refl _, Lib.hid rfl, Below.refl _ _⟩
  case round =>
    obtain ⟨q, t, o, hq, rfl, hown, hol, hch, hb⟩ := hrel
    have HQ := Lib.hid hq
    have hts : t.size ≤ 1000000 := by omega
    clear hq
    by_cases hpos : 0 < t.size
    · have hposI : (t.size : Int) > 0 := by omega
      go_wp2_with fail
      obtain ⟨w0, hw0⟩ : ∃ w0, w0 = wr := ⟨_, rfl⟩
      rw [← hw0] at hown hb ⊢
      clear hw0
      go_loopw [4, 5] (fun nn dd wq => ∃ (n : Nat) (d : Bool), nn = .int .i64 n ∧ dd = .bool d ∧ Hid (Inner t n d) ∧ Below w0.heap.size w0 wq) (fun nn dd _ => t.size - (intOf nn).toNat + boolOf dd)
      case atStart => exact ⟨0, false, rfl, rfl, Lib.hid (Inner.zero t hpos), Below.refl _ _⟩
      case round =>
        obtain ⟨n, d, rfl, rfl, hI, hbq⟩ := hrel
        cases d with
        | true =>
          have hn := hI.out.1
          have hnI : (n : Int) ≤ t.size := by omega
          have hon := hown.below hbq (Nat.le_refl _)
          have hbw := hb.trans (hbq.mono hb.size)
          have HCH := Lib.hid (show Ct.chunks t.data.toList = t.data.toList.take n :: Ct.chunks (t.extract n t.size).data.toList by
            obtain ⟨h1, h2, h3⟩ := hI.out.2.2.2 rfl
            have hl : t.data.toList.length = t.size := Array.length_toList
            rw [Ct.chunks_first t.data.toList n h1 (by rw [hl]; exact hn) h2 (by rw [hl]; exact h3)]
            congr 1
            rw [ext_drop])
          have HP := Lib.hid (hI.out.2.2.2 rfl).1
          clear hI hb hbq hown
          go_wp2_with (at_builtin; refine Hid.out ?_)
          refine Lib.hid ?_
          refine wpList_app stringST rfl _ _ rfl rfl (hon.alloc _) (by have := hbw.size; simp; omega) wr.heap.size 0 1 1 [t.extract 0 n] rfl rfl (lies_new _ _) (by rw [List.length_map]; have := HQ.out; omega) ?_
          intro v' w4 hown4 hg4
          have hown5 : OwnS w.heap.size w4 v' (o ++ [t.data.toList.take n]) := by
            show Own _ _ _ _ _ _
            rw [List.map_append, List.map_singleton, ← ext_take]
            exact hown4
          have hb5 : Below w.heap.size w w4 := (hbw.alloc hbw.size _).grown hg4 (by have := hbw.size; simp; omega) (fun k hk => (hon.block k hk).1)
          clear hown4 hg4 hon hbw
          go_wp2
          go_roundw
          case rel =>
            refine ⟨q + n, _, _, ?_, rfl, hown5, ?_, ?_, hb5⟩
            · have := HQ.out
              rw [ByteArray.size_extract]
              omega
            · rw [List.length_append, List.length_singleton]
              have := HP.out
              omega
            · refine Lib.hid ?_
              rw [hch.out, HCH.out, List.append_assoc]
              rfl
          case measure =>
            have := HP.out
            show (t.extract n t.size).size < t.size
            rw [ByteArray.size_extract]
            omega
        | false =>
          obtain ⟨hn1, hn2, _⟩ := hI.out.2.2.1 rfl
          have hn2I : (n : Int) < 128 := by omega
          have HE := Lib.hid (ends_at t (n + 1) hn1)
          have hk2 : (n : Int) + 1 = ((n + 1 : Nat) : Int) := rfl
          have HY := fun h => Lib.hid (hI.out.yes h)
          have HNO := fun h1 h2 h3 => Lib.hid (hI.out.no h1 h2 h3)
          have hms : t.size - (n + 1) + 1 < t.size - n + 1 := by omega
          clear hI
          generalize hN : n + 1 = N at *
          have hN16 : (N : Int) ≤ 128 := by omega
          by_cases hA : N = t.size
          · have hAI : (N : Int) = t.size := by omega
            go_wp2
            go_roundw
            case rel => exact ⟨N, true, by go_num, rfl, HY (.inr hA), hbq⟩
            case measure => simp [intOf, boolOf] <;> omega
          · have hAI : ¬ (N : Int) = t.size := by omega
            have hA1 : ((N : Int) == (t.size : Int)) = false := by simpa using hAI
            by_cases hB : N = 128
            · have hBI : (N : Int) = 128 := by omega
              go_wp2
              go_roundw
              case rel => exact ⟨N, true, by go_num, rfl, HY (.inl (by rw [HE.out]; simp [hB])), hbq⟩
              case measure => simp [intOf, boolOf] <;> omega
            · have hBI : ¬ (N : Int) = 128 := by omega
              have hB1 : ((N : Int) == 128) = false := by simpa using hBI
              by_cases hC : 16 ≤ N
              · have hCI : (N : Int) ≥ 16 := by omega
                have hsl : ∀ w, (Instr.slice 9 (.string t) (some (.int .i64 ((N : Int) - 8))) (some (.int .i64 (N : Int))) none).run Try.prog w = .ok (.string (t.extract (N - 8) N)) w := by
                  intro w
                  have := run_slice_string (P := Try.prog) w 9 t .i64 .i64 ((N : Int) - 8) (N : Int) Try.underlying9 (by omega) (by omega) (by omega)
                  rw [this]
                  congr 2
                  rw [show ((N : Int) - 8).toNat = N - 8 by omega, Int.toNat_natCast]
                have hbd := T_bound (t.extract (N - 8) N)
                have hsz : (t.extract (N - 8) N).size ≤ 8 := by rw [ByteArray.size_extract]; omega
                go_wp2_with fail
                refine (refSum_any (t.extract (N - 8) N) _ (by omega)).mono ?_
                rintro e w1 ⟨rfl, hb1⟩
                have hbd1 : (T (t.extract (N - 8) N)).1.natAbs ≤ 2040 := by omega
                have hbd2 : (T (t.extract (N - 8) N)).2.natAbs ≤ 2040 := by omega
                generalize T (t.extract (N - 8) N) = Z at *
                clear hsl hbd hsz
                go_wp2_with fail
                refine (refCell_any Z.1 Z.2 16 (by omega) (by omega) (by decide) (by decide) _).mono ?_
                rintro e w2 ⟨rfl, hb2⟩
                have hbq2 : Below w0.heap.size w0 w2 := (hbq.trans (hb1.mono hbq.size)).trans (hb2.mono (Nat.le_trans hbq.size hb1.size))
                clear hbd1 hbd2
                by_cases hZ : (Z.1 + 3 * Z.2) % 16 = 0
                · go_wp2
                  go_roundw
                  case rel => exact ⟨N, true, by go_num, rfl, HY (.inl (by rw [HE.out]; simp [hZ, hC])), hbq2⟩
                  case measure => simp [intOf, boolOf] <;> omega
                · have hZ1 : ((Z.1 + 3 * Z.2) % 16 == 0) = false := by simpa using hZ
                  go_wp2
                  go_roundw
                  case rel => exact ⟨N, false, by go_num, rfl, HNO hA hB (by rw [HE.out]; simp [hZ, hB]), hbq2⟩
                  case measure => simp [intOf, boolOf] <;> omega
              · have hCI : ¬ (N : Int) ≥ 16 := by omega
                go_wp2
                go_roundw
                case rel => exact ⟨N, false, by go_num, rfl, HNO hA hB (by rw [HE.out]; simp [hC, hB]), hbq⟩
                case measure => simp [intOf, boolOf] <;> omega
    · have hposI : ¬ (t.size : Int) > 0 := by omega
      have ht0 : t.data.toList = [] := by
        apply List.eq_nil_of_length_eq_zero
        rw [Array.length_toList]
        show t.size = 0
        omega
      go_wp2
      go_ret
      refine ⟨_, rfl, ?_, hb⟩
      rw [hch.out, ht0, Ct.chunks_nil, List.append_nil]
      exact hown
end Go.Proofs.Ytaahbankiidgkaa
