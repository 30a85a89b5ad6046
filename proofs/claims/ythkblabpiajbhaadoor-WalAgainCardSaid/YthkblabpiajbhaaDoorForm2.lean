/- Walks of what reads numbers out of bytes, and of texts' beginnings and ends. -/
import Derived.Test.YthkblabpiajbhaaDoorForm
import Derived.Test.YthkblabpiajbhaaDoorSec
namespace Go.Proofs.YthkblabpiajbhaaDoor
open Go.RowKit Lib

theorem take_snoc (s : ByteArray) (k : Nat) (h : k < s.size) : s.data.toList.take (k + 1) = s.data.toList.take k ++ [s[k]] := by
  rw [List.take_succ_eq_append_getElem (by simpa using h)]; rfl
theorem or_byte (a b : Nat) (ha : a < 2 ^ 56) (hb : b < 256) : bits .or .u64 ((a : Int) * 256) (b : Int) = ((a * 256 + b : Nat) : Int) := by
  have h1 : (BitVec.ofInt 64 ((a : Int) * 256)).toNat = a * 256 := by
    rw [BitVec.toNat_ofInt]; omega
  have h2 : (BitVec.ofInt 64 (b : Int)).toNat = b := by
    rw [BitVec.toNat_ofInt]; omega
  have key : (BitVec.ofInt 64 ((a : Int) * 256) ||| BitVec.ofInt 64 (b : Int)).toNat = a * 256 + b := by
    rw [BitVec.toNat_or, h1, h2, show a * 256 = a <<< 8 from by rw [Nat.shiftLeft_eq], ← Nat.shiftLeft_add_eq_or_of_lt (by omega : b < 2 ^ 8)]
  show IntKind.u64.wrap ((BitVec.ofInt 64 ((a : Int) * 256) ||| BitVec.ofInt 64 (b : Int)).toNat : Nat) = _
  rw [key, IntKind.wrap_u64]
  omega
set_option maxHeartbeats 1000000 in
theorem numberOf_any (s : ByteArray) (w : World) (hs : s.size ≤ 8) :
    Calls Tryd.prog 51 #[.string s] w fun e w' => e = .returned (.int .u64 (Wl.dec s.data.toList : Nat)) ∧ w' = w := by
  have hsI : (s.size : Int) ≤ 8 := by omega
  go_enter Tryd.func51, Tryd.ntmps51
  go_wp2
  go_loop [3, 4] (fun n i => ∃ k : Nat, k ≤ s.size ∧ i = .int .i64 k ∧ n = .int .u64 (Wl.dec (s.data.toList.take k) : Nat)) (fun _ i => s.size - (intOf i).toNat)
  case atStart => exact ⟨0, Nat.zero_le _, rfl, rfl⟩
  case round =>
    obtain ⟨k, hk, rfl, rfl⟩ := hrel
    by_cases hlt : k < s.size
    · have hb := s[k].toNat_lt
      have hd : Wl.dec (s.data.toList.take k) < 2 ^ 56 := by
        have h1 := Wl.dec_snoc_lt (s.data.toList.take k)
        have h2 : (s.data.toList.take k).length = k := by rw [List.length_take, Array.length_toList]; exact Nat.min_eq_left hk
        rw [h2] at h1
        have h3 : 256 ^ k ≤ 256 ^ 7 := Nat.pow_le_pow_right (by decide) (by omega)
        have h4 : (256 : Nat) ^ 7 = 2 ^ 56 := by decide
        omega
      have HS := Lib.hid (show Wl.dec (s.data.toList.take (k + 1)) = Wl.dec (s.data.toList.take k) * 256 + s[k].toNat by rw [take_snoc s k hlt, Wl.dec_append])
      have HO := Lib.hid (or_byte _ _ hd hb)
      generalize Wl.dec (s.data.toList.take k) = a at *
      have haI : (a : Int) < 72057594037927936 := by omega
      have ha0 : (0 : Int) ≤ a := by omega
      clear hd
      go_wp2
      go_round
      case rel => exact ⟨k + 1, by omega, by go_num, by rw [HO.out, HS.out]⟩
      case measure => simp [intOf]; omega
    · have hke : k = s.size := by omega
      subst hke
      go_wp2
      go_ret
      refine ⟨?_, rfl⟩
      rw [List.take_of_length_le (by rw [Array.length_toList]; exact Nat.le_refl _)]
      rfl

/-! ### Beginnings and ends. -/
def Wl.starts (s p : Wl.Text) : Bool := p.isPrefixOf s
theorem starts_take (s p : ByteArray) : ((s.extract 0 p.size).toList == p.toList) = Wl.starts s.data.toList p.data.toList := by
  rw [ByteArray.toList_eq, ByteArray.toList_eq, ByteArray.data_extract, Array.toList_extract, List.extract_eq_take_drop, Bool.eq_iff_iff, beq_iff_eq]
  unfold Wl.starts
  rw [List.isPrefixOf_iff_prefix, List.prefix_iff_eq_take, Nat.sub_zero, List.drop_zero, Array.length_toList]
  exact ⟨fun h => h.symm, fun h => h.symm⟩
def strLen : Value → Nat
  | .string t => t.size
  | _ => 0
theorem hasPrefix0_any (s p : ByteArray) (w : World) :
    Calls Tryd.prog 85 #[.string s, .string p] w fun e w' => e = .returned (.bool (Wl.starts s.data.toList p.data.toList)) ∧ w' = w := by
  by_cases h : p.size ≤ s.size
  · have hI : (p.size : Int) ≤ s.size := by omega
    go_enter Tryd.func85, Tryd.ntmps85
    go_wp2
    go_ret
    exact ⟨ret_bool' (starts_take s p), rfl⟩
  · have hI : ¬ (p.size : Int) ≤ s.size := by omega
    have HP : Wl.starts s.data.toList p.data.toList = false := by
      rw [Bool.eq_false_iff]
      unfold Wl.starts
      intro hp
      have := (List.isPrefixOf_iff_prefix.1 hp).length_le
      rw [Array.length_toList, Array.length_toList] at this
      exact h this
    rw [HP]
    clear HP
    go_enter Tryd.func85, Tryd.ntmps85
    go_wp2
    go_ret
    exact ⟨rfl, rfl⟩
theorem hasPrefix_any (s p : ByteArray) (w : World) :
    Calls Tryd.prog 68 #[.string s, .string p] w fun e w' => e = .returned (.bool (Wl.starts s.data.toList p.data.toList)) ∧ w' = w := by
  go_enter Tryd.func68, Tryd.ntmps68
  go_wp2_with fail
  refine (hasPrefix0_any s p _).mono ?_
  rintro e w1 ⟨rfl, rfl⟩
  go_wp2
  go_ret
  exact ⟨rfl, rfl⟩
theorem isPuts_any (s : ByteArray) (w : World) :
    Calls Tryd.prog 55 #[.string s] w fun e w' => e = .returned (.bool (Wl.isPuts s.data.toList)) ∧ w' = w := by
  go_enter Tryd.func55, Tryd.ntmps55
  go_wp2_with fail
  refine (hasPrefix_any s _ _).mono ?_
  rintro e w1 ⟨rfl, rfl⟩
  go_wp2
  go_ret
  exact ⟨rfl, rfl⟩
/-- t is l without the c's behind it; before it. -/
def CutR (l : List UInt8) (c : UInt8) (t : List UInt8) : Prop := ∃ m, m ≤ l.length ∧ t = l.take m ∧ (∀ i, m ≤ i → i < l.length → l[i]? = some c) ∧ (0 < m → l[m - 1]? ≠ some c)
def CutL (l : List UInt8) (c : UInt8) (t : List UInt8) : Prop := ∃ m, m ≤ l.length ∧ t = l.drop m ∧ (∀ i, i < m → l[i]? = some c) ∧ (m < l.length → l[m]? ≠ some c)
theorem cut_both {l t u : List UInt8} (h1 : CutR l 0 t) (h2 : CutL t 0 u) : u = [] ↔ Wl.blank l = true := by
  obtain ⟨m, hm, rfl, ha, hb⟩ := h1
  obtain ⟨j, hj, rfl, hc, hd⟩ := h2
  rw [List.length_take, Nat.min_eq_left hm] at hj hd
  unfold Wl.blank
  rw [List.all_eq_true, List.drop_eq_nil_iff, List.length_take, Nat.min_eq_left hm]
  constructor
  · intro hmj
    have hm0 : m = 0 := by
      rcases Nat.eq_zero_or_pos m with h | h
      · exact h
      · exfalso
        have := hc (m - 1) (by omega)
        rw [List.getElem?_take_of_lt (by omega)] at this
        exact hb h this
    intro x hx
    obtain ⟨i, hi, rfl⟩ := List.mem_iff_getElem.1 hx
    have := ha i (by omega) hi
    rw [List.getElem?_eq_getElem hi] at this
    injection this with this
    rw [this]; rfl
  · intro hall
    have hz : ∀ i, i < l.length → l[i]? = some 0 := fun i hi => by
      rw [List.getElem?_eq_getElem hi]
      have := hall _ (List.getElem_mem hi)
      rw [beq_iff_eq] at this
      rw [this]
    have hm0 : m = 0 := by
      rcases Nat.eq_zero_or_pos m with h | h
      · exact h
      · exact absurd (hz (m - 1) (by omega)) (hb h)
    omega
theorem get_eq (t : ByteArray) (k : Nat) (h : k < t.size) : t.data.toList[k]? = some t[k] := by
  rw [List.getElem?_eq_getElem (by rw [Array.length_toList]; exact h)]; rfl
theorem byte_eq {a b : UInt8} (h : ((a.toNat : Int) == (b.toNat : Int)) = true) : a = b := by
  rw [beq_iff_eq] at h
  exact UInt8.toNat_inj.1 (by omega)
theorem byte_ne {a b : UInt8} (h : ((a.toNat : Int) == (b.toNat : Int)) = false) : a ≠ b := by
  rintro rfl
  rw [beq_self_eq_true] at h
  cases h
set_option maxHeartbeats 1000000 in
theorem trimRight_any (s : ByteArray) (c : UInt8) (w : World) (hs : s.size ≤ 9223372036854775807) :
    Calls Tryd.prog 62 #[.string s, .int .u8 c.toNat] w fun e w' => (∃ t : ByteArray, e = .returned (.string t) ∧ CutR s.data.toList c t.data.toList) ∧ w' = w := by
  go_enter Tryd.func62, Tryd.ntmps62
  go_wp2
  go_loop [0] (fun v => ∃ t : ByteArray, v = .string t ∧ Hid (t.data.toList = s.data.toList.take t.size) ∧ t.size ≤ s.size ∧ Hid (∀ i, t.size ≤ i → i < s.size → s.data.toList[i]? = some c)) strLen
  case atStart => exact ⟨s, rfl, Lib.hid (by rw [List.take_of_length_le (by rw [Array.length_toList]; exact Nat.le_refl _)]), Nat.le_refl _, Lib.hid fun i h1 h2 => by omega⟩
  case round =>
    obtain ⟨t, rfl, ht, hts, hc⟩ := hrel
    by_cases h0 : 0 < t.size
    · have h0I : (0 : Int) < t.size := by omega
      have hk : t.size - 1 < t.size := by omega
      have hkI : (t.size : Int) - 1 = ((t.size - 1 : Nat) : Int) := by omega
      have hti : (t.size : Int) ≤ 9223372036854775807 := by omega
      have HG := Lib.hid (get_eq t (t.size - 1) hk)
      go_wp2
      · have he := byte_eq ‹_›
        have hsz : (t.extract 0 (t.size - 1)).size = t.size - 1 := by rw [ext_take, bs_size, List.length_take, Array.length_toList]; show min _ t.size = _; omega
        refine ⟨⟨_, rfl, Lib.hid ?_, by omega, Lib.hid fun i h1 h2 => ?_⟩, by change (t.extract 0 (t.size - 1)).size < t.size; omega⟩
        · rw [hsz, ext_take, bs_list, ht.out, List.take_take, Nat.min_eq_left (by omega)]
        · rcases Nat.lt_or_ge i t.size with hi | hi
          · have hie : i = t.size - 1 := by omega
            have h5 := HG.out
            rw [ht.out, List.getElem?_take_of_lt hk] at h5
            rw [hie, h5, he]
          · exact hc.out i hi h2
      · have hne := byte_ne ‹_›
        go_ret
        refine ⟨⟨t, rfl, t.size, by rw [Array.length_toList]; exact hts, ht.out, fun i h1 h2 => hc.out i h1 (by rw [Array.length_toList] at h2; exact h2), fun _ h5 => hne ?_⟩, rfl⟩
        have h6 := HG.out
        rw [ht.out, List.getElem?_take_of_lt hk, h5] at h6
        injection h6 with h6
        exact h6.symm
    · have h0I : ¬ (0 : Int) < t.size := by omega
      go_wp2
      go_ret
      exact ⟨⟨t, rfl, t.size, by rw [Array.length_toList]; exact hts, ht.out, fun i h1 h2 => hc.out i h1 (by rw [Array.length_toList] at h2; exact h2), fun h => absurd h h0⟩, rfl⟩
set_option maxHeartbeats 1000000 in
theorem trimLeft_any (s : ByteArray) (c : UInt8) (w : World) (hs : s.size ≤ 9223372036854775807) :
    Calls Tryd.prog 61 #[.string s, .int .u8 c.toNat] w fun e w' => (∃ t : ByteArray, e = .returned (.string t) ∧ CutL s.data.toList c t.data.toList) ∧ w' = w := by
  go_enter Tryd.func61, Tryd.ntmps61
  go_wp2
  go_loop [0] (fun v => ∃ t : ByteArray, v = .string t ∧ Hid (t.data.toList = s.data.toList.drop (s.size - t.size)) ∧ t.size ≤ s.size ∧ Hid (∀ i, i < s.size - t.size → s.data.toList[i]? = some c)) strLen
  case atStart => exact ⟨s, rfl, Lib.hid (by rw [Nat.sub_self, List.drop_zero]), Nat.le_refl _, Lib.hid fun i h1 => by omega⟩
  case round =>
    obtain ⟨t, rfl, ht, hts, hc⟩ := hrel
    by_cases h0 : 0 < t.size
    · have h0I : (0 : Int) < t.size := by omega
      have h1I : (1 : Int) ≤ t.size := by omega
      have HG := Lib.hid (get_eq t 0 h0)
      go_wp2
      · have he := byte_eq ‹_›
        have hdl : (t.extract 1 t.size).data.toList = t.data.toList.drop 1 := ext_drop t 1
        have hsz : (t.extract 1 t.size).size = t.size - 1 := by rw [ByteArray.size_extract]; omega
        refine ⟨⟨_, rfl, Lib.hid ?_, by omega, Lib.hid fun i h1 => ?_⟩, by change (t.extract 1 t.size).size < t.size; omega⟩
        · rw [hdl, hsz, ht.out, List.drop_drop]
          congr 1
          omega
        · rcases Nat.lt_or_ge i (s.size - t.size) with hi | hi
          · exact hc.out i hi
          · have hie : i = s.size - t.size := by omega
            have h5 := HG.out
            rw [ht.out, List.getElem?_drop, Nat.add_zero] at h5
            rw [hie, h5, he]
      · have hne := byte_ne ‹_›
        go_ret
        refine ⟨⟨t, rfl, s.size - t.size, by rw [Array.length_toList]; exact Nat.sub_le _ _, ht.out, fun i h1 => hc.out i h1, fun _ h5 => hne ?_⟩, rfl⟩
        have h6 := HG.out
        rw [ht.out, List.getElem?_drop, Nat.add_zero, h5] at h6
        injection h6 with h6
        exact h6.symm
    · have h0I : ¬ (0 : Int) < t.size := by omega
      go_wp2
      go_ret
      refine ⟨⟨t, rfl, s.size - t.size, by rw [Array.length_toList]; exact Nat.sub_le _ _, ht.out, fun i h1 => hc.out i h1, fun h => ?_⟩, rfl⟩
      rw [Array.length_toList] at h
      have : s.size = s.data.size := rfl
      omega
end Go.Proofs.YthkblabpiajbhaaDoor
