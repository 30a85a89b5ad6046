/- Walks of Trim, blank, holds, headText, firstText. -/
import Derived.Test.YthkblabpiajbhaaDoorForm2
import Derived.Deep.RegionHeld3
namespace Go.Proofs.YthkblabpiajbhaaDoor
open Go.RowKit Lib

theorem CutR.le {l t : List UInt8} {c : UInt8} (h : CutR l c t) : t.length ≤ l.length := by
  obtain ⟨m, _, rfl, _⟩ := h
  rw [List.length_take]; exact Nat.min_le_right _ _
set_option maxRecDepth 100000 in
set_option maxHeartbeats 1000000 in
theorem trim_any (s : ByteArray) (w : World) (hs : s.size ≤ 9223372036854775807) :
    Calls Tryd.prog 50 #[.string s, .string ⟨#[0]⟩] w fun e w' => (∃ t : ByteArray, e = .returned (.string t) ∧ (t.data.toList = [] ↔ Wl.blank s.data.toList = true)) ∧ ∃ n, w' = w.drewN n := by
  by_cases h0 : s.size = 0
  · have hd : s.data.toList = [] := List.eq_nil_of_length_eq_zero (by rw [Array.length_toList]; exact h0)
    have hs1 : s.toList.isEmpty = true := by rw [ByteArray.toList_eq, hd]; rfl
    have hs2 : s.toList = [] := by rw [ByteArray.toList_eq, hd]
    have HD := Lib.hid hd
    clear hd h0
    go_enter Tryd.func50, Tryd.ntmps50
    go_wp2
    go_ret
    refine ⟨⟨s, rfl, ?_⟩, 0, rfl⟩
    rw [HD.out]; exact ⟨fun _ => rfl, fun _ => rfl⟩
  · have hs1 : s.toList.isEmpty = false := by
      rw [ByteArray.toList_eq, List.isEmpty_eq_false_iff]
      intro h
      apply h0
      have := congrArg List.length h
      rw [Array.length_toList] at this
      exact this
    have hs2 : (!s.toList.isEmpty) = true := by rw [hs1]; rfl
    go_enter Tryd.func50, Tryd.ntmps50
    go_wp2
    go_region_held3 (fun _ => True) (exact trivial)
      (first
        | (go_at_call 62; refine (trimRight_any s 0 _ hs).mono ?_; rintro e w1 ⟨⟨t, rfl, ht⟩, rfl⟩)
        | (go_at_call 61; refine (trimLeft_any t 0 _ ?_).mono ?_; (have := ht.le; rw [Array.length_toList, Array.length_toList] at this; exact Nat.le_trans this hs); rintro e w2 ⟨⟨u, rfl, hu⟩, rfl⟩))
    all_goals (go_wp2; go_ret; exact ⟨⟨u, rfl, cut_both ht hu⟩, 1, rfl⟩)
theorem wblank_any (s : ByteArray) (w : World) (hs : s.size ≤ 9223372036854775807) :
    Calls Tryd.prog 32 #[.string s] w fun e w' => e = .returned (.bool (Wl.blank s.data.toList)) ∧ ∃ n, w' = w.drewN n := by
  go_enter Tryd.func32, Tryd.ntmps32
  go_wp2_with fail
  refine (trim_any s w hs).mono ?_
  rintro e w1 ⟨⟨t, rfl, ht⟩, n, rfl⟩
  have HB := Lib.hid (show t.toList.isEmpty = Wl.blank s.data.toList by
    rw [ByteArray.toList_eq, Bool.eq_iff_iff, List.isEmpty_iff]; exact ht)
  clear ht
  go_wp2
  go_ret
  refine ⟨ret_bool' ?_, n, rfl⟩
  rw [← HB.out]
theorem holds_any (s t : ByteArray) (w : World) (hs : s.size ≤ 9223372036854775807) :
    Calls Tryd.prog 52 #[.string s, .string t] w fun e w' => e = .returned (.bool (Wl.holds s.data.toList t.data.toList)) ∧ ∃ n, w' = w.drewN n := by
  have HH := Lib.hid (show Wl.holds s.data.toList t.data.toList = (Wl.starts s.data.toList t.data.toList && Wl.blank (s.data.toList.drop t.size)) from rfl)
  cases hp : Wl.starts s.data.toList t.data.toList
  · have HP := Lib.hid hp
    clear hp
    go_enter Tryd.func52, Tryd.ntmps52
    go_wp2_with fail
    refine (hasPrefix_any s t w).mono ?_
    rintro e w1 ⟨rfl, rfl⟩
    rw [HP.out]
    go_wp2
    go_ret
    refine ⟨ret_bool' ?_, 0, rfl⟩
    rw [HH.out, HP.out]; rfl
  · have hle : t.size ≤ s.size := by
      have := (List.isPrefixOf_iff_prefix.1 (show t.data.toList.isPrefixOf s.data.toList = true from hp)).length_le
      rwa [Array.length_toList, Array.length_toList] at this
    have hleI : (t.size : Int) ≤ s.size := by omega
    have HP := Lib.hid hp
    have hsz : (s.extract t.size s.size).size ≤ 9223372036854775807 := by rw [ByteArray.size_extract]; omega
    clear hp
    go_enter Tryd.func52, Tryd.ntmps52
    go_wp2_with fail
    refine (hasPrefix_any s t w).mono ?_
    rintro e w1 ⟨rfl, rfl⟩
    rw [HP.out]
    go_wp2_with fail
    refine (wblank_any _ w1 hsz).mono ?_
    rintro e w2 ⟨rfl, n, rfl⟩
    rw [ext_drop]
    go_wp2
    go_ret
    refine ⟨ret_bool' ?_, n, rfl⟩
    rw [HH.out, HP.out, Bool.true_and]
end Go.Proofs.YthkblabpiajbhaaDoor
