/- Walks of pack's Part and Cut. -/
import Derived.Test.YtlpillpfahkjdaaDoorPkRef
import Derived.Lib.Bytealg
import Derived.Lib.IndexLaws
namespace Go.Proofs.YtlpillpfahkjdaaDoor
open Go.RowKit Lib

namespace Pk
theorem cut_index (s : Text) : (Lib.indexByte s 0 = -1 ∧ cut s = none) ∨ ∃ o : Nat, Lib.indexByte s 0 = o ∧ o < s.length ∧ cut s = some (s.take o, s.drop (o + 1)) := by
  rcases (by omega : Lib.indexByte s 0 < 0 ∨ 0 ≤ Lib.indexByte s 0) with h | h
  · have h1 := Lib.indexByte_ge s 0
    have h2 : Lib.indexByte s 0 = -1 := by omega
    refine .inl ⟨h2, (cut_none s).2 fun hm => ?_⟩
    obtain ⟨k, hk⟩ := List.getElem?_of_mem hm
    exact Lib.indexByte_none h2 k hk
  · obtain ⟨o, ho⟩ : ∃ o : Nat, Lib.indexByte s 0 = o := ⟨(Lib.indexByte s 0).toNat, by omega⟩
    obtain ⟨h1, h2⟩ := Lib.indexByte_some ho
    have hlt : o < s.length := by
      rcases Nat.lt_or_ge o s.length with h' | h'
      · exact h'
      · rw [List.getElem?_eq_none h'] at h1; cases h1
    refine .inr ⟨o, ho, hlt, cut_at s o (fun hm => ?_) hlt h1⟩
    obtain ⟨k, hk⟩ := List.getElem?_of_mem hm
    have hk' : k < o := by
      rcases Nat.lt_or_ge k o with h' | h'
      · exact h'
      · rw [List.getElem?_eq_none (by rw [List.length_take]; omega)] at hk; cases hk
    rw [List.getElem?_take, if_pos hk'] at hk
    exact h2 k hk' hk
end Pk
theorem lindexByte_any (s : ByteArray) (w : World) : Calls Tryd.prog 41 #[.string s, .int .u8 0] w fun e w' => e = .returned (.int .i64 (Lib.indexByte s.data.toList 0)) ∧ w' = w := by
  go_enter Tryd.func41, Tryd.ntmps41
  go_wp2
  rw [run_callFunc_extern Tryd.func46 (by kernel_rfl) (by kernel_rfl) (by kernel_rfl) (e := Extern.BytealgIndexByte.indexByte) (by kernel_rfl), Lib.run_indexByteString]
  simp only [Result.andThen]
  rw [Oper.upon_value]
  go_wp2
  go_ret
  exact ⟨rfl, rfl⟩
set_option maxRecDepth 100000 in
set_option maxHeartbeats 2000000 in
theorem lindex_any (s : ByteArray) (w : World) : Calls Tryd.prog 50 #[.string s, .string ⟨#[0]⟩] w fun e w' => e = .returned (.int .i64 (Lib.indexByte s.data.toList 0)) ∧ w' = w := by
  by_cases hs : s = ⟨#[0]⟩
  · subst hs
    have HV : Lib.indexByte (⟨#[0]⟩ : ByteArray).data.toList 0 = 0 := by decide
    rw [HV]
    clear HV
    go_enter Tryd.func50, Tryd.ntmps50
    go_wp2
    go_ret
    exact ⟨rfl, rfl⟩
  · have hq : ([(0 : UInt8)] == s.toList) = false := by
      rw [beq_eq_false_iff_ne]
      intro e
      apply hs
      apply ByteArray.ext
      apply Array.ext'
      rw [ByteArray.toList_eq] at e
      exact e.symm
    have HI := Lib.hid (fun W => lindexByte_any s W)
    go_enter Tryd.func50, Tryd.ntmps50
    go_wp2_with fail
    refine (HI.out _).mono ?_
    rintro e w1 ⟨rfl, rfl⟩
    go_wp2
    go_ret
    exact ⟨rfl, rfl⟩
theorem index_any (s : ByteArray) (w : World) {i : Int} (HI : Hid (∀ W, Calls Tryd.prog 50 #[.string s, .string ⟨#[0]⟩] W fun e w' => e = .returned (.int .i64 i) ∧ w' = W)) : Calls Tryd.prog 49 #[.string s, .string ⟨#[0]⟩] w fun e w' => e = .returned (.int .i64 i) ∧ w' = w := by
  go_enter Tryd.func49, Tryd.ntmps49
  go_wp2_with fail
  refine (HI.out _).mono ?_
  rintro e w1 ⟨rfl, rfl⟩
  go_wp2
  go_ret
  exact ⟨rfl, rfl⟩
theorem contains_any (s : ByteArray) (w : World) : Calls Tryd.prog 45 #[.string s, .string ⟨#[0]⟩] w fun e w' => e = .returned (.bool (Pk.cut s.data.toList).isSome) ∧ w' = w := by
  have HI := Lib.hid (fun W => lindex_any s W)
  have hc := Pk.cut_index s.data.toList
  generalize Lib.indexByte s.data.toList 0 = i at *
  rcases hc with ⟨rfl, hc⟩ | ⟨o, rfl, _, hc⟩ <;> rw [hc] <;> clear hc
  · go_enter Tryd.func45, Tryd.ntmps45
    go_wp2_with fail
    refine (index_any s w HI).mono ?_
    rintro e w1 ⟨rfl, rfl⟩
    go_wp2
    go_ret
    exact ⟨rfl, rfl⟩
  · go_enter Tryd.func45, Tryd.ntmps45
    go_wp2_with fail
    refine (index_any s w HI).mono ?_
    rintro e w1 ⟨rfl, rfl⟩
    go_wp2
    go_ret
    exact ⟨rfl, rfl⟩
theorem part_any (s : ByteArray) (w : World) (hs : s.size ≤ 1000000) : Calls Tryd.prog 39 #[.string s] w fun e w' => e = .returned (.tuple (if (Pk.cut s.data.toList).isSome = true then #[.string ⟨#[]⟩, .bool false] else #[.string (bs (s.data.toList ++ [0])), .bool true])) ∧ w' = w := by
  have hsI : (s.size : Int) ≤ 1000000 := by omega
  have HI := Lib.hid (fun W => contains_any s W)
  have happ : s ++ ⟨#[0]⟩ = bs (s.data.toList ++ [0]) := by
    rw [← bs_append, bs_data]; rfl
  rw [← happ]
  clear happ
  have hsum : s.size + (⟨#[0]⟩ : ByteArray).size ≤ 9223372036854775807 := by show s.size + 1 ≤ _; omega
  cases hc : (Pk.cut s.data.toList).isSome with
  | true =>
    rw [hc] at HI
    rw [if_pos rfl]
    clear hc
    go_enter Tryd.func39, Tryd.ntmps39
    go_wp2_with fail
    refine (HI.out _).mono ?_
    rintro e w1 ⟨rfl, rfl⟩
    go_wp2
    go_ret2
    exact ⟨rfl, rfl⟩
  | false =>
    rw [hc] at HI
    rw [if_neg (by decide)]
    clear hc
    go_enter Tryd.func39, Tryd.ntmps39
    go_wp2_with fail
    refine (HI.out _).mono ?_
    rintro e w1 ⟨rfl, rfl⟩
    go_wp2
    go_ret2
    exact ⟨rfl, rfl⟩
set_option maxHeartbeats 1000000 in
theorem lcut_any (s : ByteArray) (w : World) (hs : s.size ≤ 1000000) : Calls Tryd.prog 48 #[.string s, .string ⟨#[0]⟩] w fun e w' => e = .returned (match Pk.cut s.data.toList with | some (x, y) => .tuple #[.string (bs x), .string (bs y), .bool true] | none => .tuple #[.string s, .string ⟨#[]⟩, .bool false]) ∧ Below w.heap.size w w' := by
  have hsI : (s.size : Int) ≤ 1000000 := by omega
  have HI := Lib.hid (fun W => lindex_any s W)
  have hc := Pk.cut_index s.data.toList
  generalize Lib.indexByte s.data.toList 0 = i at *
  rcases hc with ⟨rfl, hc⟩ | ⟨o, rfl, hlt, hc⟩ <;> rw [hc] <;> clear hc
  · go_enter Tryd.func48, Tryd.ntmps48
    go_wp2_with fail
    refine (HI.out _).mono ?_
    rintro e w1 ⟨rfl, rfl⟩
    go_wp2
    go_ret3
    exact ⟨rfl, Below.refl _ _⟩
  · have hlt' : o < s.size := by simpa using hlt
    have hoI : (o : Int) < s.size := by omega
    have h1I : ((o : Int) + 1) ≤ s.size := by omega
    have hoI2 : (o : Int) ≤ 1000000 := by omega
    have e2 : s.extract (o + 1) s.size = bs (s.data.toList.drop (o + 1)) := by
      apply ByteArray.ext; apply Array.ext'; rw [ext_drop]; rfl
    have HV := Lib.hid (show (Value.tuple #[.string (bs (s.data.toList.take o)), .string (bs (s.data.toList.drop (o + 1))), .bool true]) = .tuple #[.string (s.extract 0 o), .string (s.extract (o + 1) s.size), .bool true] by rw [ext_take, e2])
    clear e2 hlt
    go_enter Tryd.func48, Tryd.ntmps48
    go_wp2_with fail
    refine (HI.out _).mono ?_
    rintro e w1 ⟨rfl, rfl⟩
    go_wp2_with fail
    go_region
    go_wp2
    go_ret3
    exact ⟨congrArg Ending.returned HV.out.symm, below_drawn _ 1⟩
theorem scut_any (s : ByteArray) (V : Value) (w : World) (HI : Hid (∀ W, Calls Tryd.prog 48 #[.string s, .string ⟨#[0]⟩] W fun e w' => e = .returned V ∧ Below W.heap.size W w')) (a b c : Value) (hV : V = .tuple #[a, b, c]) : Calls Tryd.prog 44 #[.string s, .string ⟨#[0]⟩] w fun e w' => e = .returned V ∧ Below w.heap.size w w' := by
  subst hV
  go_enter Tryd.func44, Tryd.ntmps44
  go_wp2_with fail
  refine (HI.out _).mono ?_
  rintro e w1 ⟨rfl, hb⟩
  have HB := Lib.hid hb
  clear hb
  go_wp2
  go_ret3
  exact ⟨rfl, HB.out⟩
set_option maxHeartbeats 1000000 in
theorem pcut_any (s : ByteArray) (w : World) (hs : s.size ≤ 1000000) : Calls Tryd.prog 35 #[.string s] w fun e w' => e = .returned (cutv (Pk.cut s.data.toList)) ∧ Below w.heap.size w w' := by
  have HI := Lib.hid (fun W => lcut_any s W hs)
  have hl : s.data.toList.length = s.size := Array.length_toList
  rcases Pk.cut_index s.data.toList with ⟨_, hc⟩ | ⟨o, _, hlt, hc⟩
  · rw [hc] at HI ⊢
    clear hc
    simp only at HI
    go_enter Tryd.func35, Tryd.ntmps35
    go_wp2_with fail
    refine (scut_any s _ w HI _ _ _ rfl).mono ?_
    rintro e w1 ⟨rfl, hb⟩
    have HB := Lib.hid hb
    clear hb
    go_wp2
    go_ret3
    exact ⟨rfl, HB.out⟩
  · rw [hc] at HI ⊢
    clear hc
    simp only at HI
    have HC1 := Lib.hid (fun W => clone_any (bs (s.data.toList.take o)) W (by rw [bs_size, List.length_take]; omega))
    have HC2 := Lib.hid (fun W => clone_any (bs (s.data.toList.drop (o + 1))) W (by rw [bs_size, List.length_drop]; omega))
    have HV := Lib.hid (show cutv (some (s.data.toList.take o, s.data.toList.drop (o + 1))) = .tuple #[.string (bs (s.data.toList.take o)), .string (bs (s.data.toList.drop (o + 1))), .bool true] from rfl)
    generalize bs (s.data.toList.take o) = X at *
    generalize bs (s.data.toList.drop (o + 1)) = Y at *
    go_enter Tryd.func35, Tryd.ntmps35
    go_wp2_with fail
    refine (scut_any s _ w HI _ _ _ rfl).mono ?_
    rintro e w1 ⟨rfl, hb⟩
    have HB := Lib.hid hb
    clear hb
    go_wp2_with fail
    refine (HC1.out _).mono ?_
    rintro e w2 ⟨rfl, hb2⟩
    have HB2 := Lib.hid (HB.out.trans (hb2.mono HB.out.size))
    clear hb2
    go_wp2_with fail
    refine (HC2.out _).mono ?_
    rintro e w3 ⟨rfl, hb3⟩
    have HB3 := Lib.hid (HB2.out.trans (hb3.mono HB2.out.size))
    clear hb3
    go_wp2
    go_ret3
    exact ⟨congrArg Ending.returned HV.out.symm, HB3.out⟩
end Go.Proofs.YtlpillpfahkjdaaDoor
