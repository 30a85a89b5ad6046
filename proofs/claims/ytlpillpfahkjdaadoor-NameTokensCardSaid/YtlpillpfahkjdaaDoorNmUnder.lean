/- Walks of name's Under, and of the reference's. -/
import Derived.Test.YtlpillpfahkjdaaDoorNmName
import Derived.Test.YtlpillpfahkjdaaDoorPkField2
namespace Go.Proofs.YtlpillpfahkjdaaDoor
open Go.RowKit Lib

namespace Nm
theorem under_zero {kind : UInt8} {parts : List Pk.Text} {k : Nat} (hk : k < parts.length) (h : (Pk.cut parts[k]).isSome = true) : under kind parts = [] := by
  unfold under
  rw [if_pos]
  exact List.any_eq_true.2 ⟨_, List.getElem_mem hk, by rw [has_zero]; exact h⟩
theorem under_all {kind : UInt8} {parts : List Pk.Text} (h : ∀ p ∈ parts, Pk.cut p = none) : under kind parts = kind :: parts.flatMap (· ++ [0]) :=
  under_ok fun p hp => (Pk.cut_none p).1 (h p hp)
theorem take_none {parts : List Pk.Text} {k : Nat} (hk : k < parts.length) (h : ∀ p ∈ parts.take k, Pk.cut p = none) (h2 : Pk.cut parts[k] = none) : ∀ p ∈ parts.take (k + 1), Pk.cut p = none := by
  intro p hp
  rw [List.take_succ_eq_append_getElem hk] at hp
  rcases List.mem_append.1 hp with hp | hp
  · exact h p hp
  · rw [List.mem_singleton.1 hp]; exact h2
theorem take_text {parts : List Pk.Text} {k : Nat} (hk : k < parts.length) (kind : UInt8) : (kind :: (parts.take k).flatMap (· ++ [0])) ++ (parts[k] ++ [0]) = kind :: (parts.take (k + 1)).flatMap (· ++ [0]) := by
  rw [List.take_succ_eq_append_getElem hk, List.flatMap_append, List.flatMap_singleton, List.cons_append]
theorem take_len {parts : List Pk.Text} (hp : ∀ i (hi : i < parts.length), parts[i].length ≤ 10000) : ∀ k, k ≤ parts.length → ((parts.take k).flatMap (· ++ [0])).length ≤ 10001 * k
  | 0, _ => by simp
  | k + 1, h => by
    have ih := take_len hp k (by omega)
    have := hp k (by omega)
    rw [List.take_succ_eq_append_getElem (show k < parts.length by omega), List.flatMap_append, List.flatMap_singleton, List.length_append, List.length_append, List.length_singleton]
    omega
end Nm
theorem own_kind (w : World) (c : UInt8) : OwnY w.heap.size (w.alloc (.cells #[.int .u8 c.toNat] 5)) (.slice (some ⟨w.heap.size, 0, none⟩) 1 1) [c] :=
  World.ownsRow_lit w #[.int .u8 c.toNat] 1 (Nat.le_refl _) (by decide) rfl
set_option maxHeartbeats 1000000 in
theorem under_any (kind : UInt8) (v : Value) (parts : List Pk.Text) (w : World) (hr : Reads w v parts) (hp : ∀ i (hi : i < parts.length), parts[i].length ≤ 10000) (hl : parts.length ≤ 100) :
    Calls Tryd.prog 27 #[.int .u8 kind.toNat, v] w fun e w' => e = .returned (.string (bs (Nm.under kind parts))) ∧ Below w.heap.size w w' := by
  obtain ⟨a, cap, rfl, hcap, hcells⟩ := hr
  have HC := Lib.hid hcells
  have HP := Lib.hid hp
  obtain ⟨L, hL⟩ : ∃ L, L = parts.length := ⟨_, rfl⟩
  have HL := Lib.hid hL
  have hLI : (L : Int) ≤ 100 := by omega
  have HO1 := Lib.hid (own_kind w kind)
  have HB1 := Lib.hid (show Below w.heap.size w (w.alloc (.cells #[.int .u8 kind.toNat] 5)) from (Below.refl _ _).alloc (Nat.le_refl _) _)
  rw [← hL]
  clear hcells hp hL
  generalize (kind.toNat : Int) = K at *
  go_enter Tryd.func27, Tryd.ntmps27
  go_wp2_with fail
  go_loopw [5, 14] (fun u i wr => ∃ k : Nat, k ≤ L ∧ i = .int .i64 k ∧ Hid (∀ p ∈ parts.take k, Pk.cut p = none) ∧ Hid (OwnY w.heap.size wr u (kind :: (parts.take k).flatMap (· ++ [0]))) ∧ Hid (Below w.heap.size w wr)) (fun _ i _ => L - (RowKit.intOf i).toNat)
  case atStart => exact ⟨0, Nat.zero_le _, rfl, Lib.hid (fun p h => by cases h), HO1, HB1⟩
  case round =>
    obtain ⟨k, hk', rfl, HA, HO, HB⟩ := hrel
    by_cases hlt : k < L
    · have hltI : (k : Int) < L := by omega
      have hk1 : k < parts.length := by have := HL.out; omega
      obtain ⟨g, o, rfl, hg, hc⟩ := HC.out k hk1
      have c0 : wr.cell? ⟨g, o + k, none⟩ = some (.string (bs parts[k])) := (HB.out.cell (p := ⟨g, o + k, none⟩) hg).trans (hc k hk1)
      have hpk := HP.out k hk1
      have HPT := Lib.hid (fun W => part_any (bs parts[k]) W (by rw [bs_size]; omega))
      rw [bs_list] at HPT
      obtain ⟨X, hX⟩ : ∃ X, X = bs parts[k] := ⟨_, rfl⟩
      rw [← hX] at c0 HPT
      clear hX
      have HK := Lib.hid hpk
      clear hc hpk
      cases hz : (Pk.cut parts[k]).isSome with
      | true =>
        rw [hz, if_pos rfl] at HPT
        have HZ := Lib.hid (Nm.under_zero (kind := kind) hk1 hz)
        clear hz
        go_wp2_with fail
        refine (HPT.out _).mono ?_
        rintro e w1 ⟨rfl, rfl⟩
        go_wp2
        go_ret
        exact ⟨by rw [HZ.out]; rfl, HB.out⟩
      | false =>
        rw [hz, if_neg (by decide)] at HPT
        have HN := Lib.hid (Nm.take_none hk1 HA.out (by cases e : Pk.cut parts[k] with | none => rfl | some p => rw [e] at hz; cases hz))
        have HT := Lib.hid (Nm.take_text hk1 kind)
        have HLN := Lib.hid (Nm.take_len HP.out k (by omega))
        clear hz
        obtain ⟨Y, hY⟩ : ∃ Y, Y = bs (parts[k] ++ [0]) := ⟨_, rfl⟩
        have HY := Lib.hid hY
        rw [← hY] at HPT
        clear hY
        go_wp2_with fail
        refine (HPT.out _).mono ?_
        rintro e w1 ⟨rfl, rfl⟩
        go_wp2_with (at_builtin; refine Hid.out ?_)
        refine Lib.hid ?_
        refine wpList_app_text rfl _ _ rfl rfl HO.out HB.out.size (parts[k] ++ [0]) (congrArg Value.string HY.out) (by rw [List.length_cons, List.length_append, List.length_singleton]; have := HLN.out; have := HK.out; omega) ?_
        intro v' w4 ho4 hg4
        rw [HT.out] at ho4
        have HO4 := Lib.hid ho4
        have HB4 := Lib.hid (below_grownOwn HB.out HO.out (Nat.le_refl _) hg4)
        clear ho4 hg4 c0
        go_wp2
        go_roundw
        case rel => exact ⟨k + 1, by omega, by go_num, HN, HO4, HB4⟩
        case measure => simp [RowKit.intOf]; omega
    · have hke : k = L := by omega
      subst hke
      have hbk := OwnY.back HO.out
      have HV := Lib.hid (show kind :: (parts.take k).flatMap (· ++ [0]) = Nm.under kind parts by
        have h1 := HA.out
        rw [HL.out, List.take_length] at h1 ⊢
        exact (Nm.under_all h1).symm)
      rw [HV.out] at hbk
      go_wp2
      go_ret
      exact ⟨rfl, HB.out⟩
theorem one_backK (w : World) (c : UInt8) : (convert 47 9 (.slice (some ⟨w.heap.size, 0, none⟩) 1 1)).run Tryd.prog (w.alloc (.cells #[.int .u8 c.toNat] 5)) = .ok (.string (bs [c])) (w.alloc (.cells #[.int .u8 c.toNat] 5)) :=
  OwnY.back (own_kind w c)
end Go.Proofs.YtlpillpfahkjdaaDoor
