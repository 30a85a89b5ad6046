/- Walk of pack's Read. -/
import Derived.Test.YtlpillpfahkjdaaDoorPkTop
namespace Go.Proofs.YtlpillpfahkjdaaDoor
open Go.RowKit Lib

/-- What Read answers. -/
def ReadTo (o : Option (List Pk.Fd)) (B : Nat) (e : Ending) (w' : World) : Prop := match o with
  | some l => ∃ v', e = .returned (.tuple #[v', .bool true]) ∧ Own fdElem 36 B w' v' l
  | none => e = .returned (.tuple #[.slice none 0 0, .bool false])
namespace Pk
theorem rds_step (acc : List Fd) (k s : Text) (i : Nat) (h1 : i < k.length) : rds acc (k.drop i) s = match fieldOf k[i] s with
    | none => none
    | some p => rds (acc ++ [p.1]) (k.drop (i + 1)) p.2 := by
  rw [List.drop_eq_getElem_cons h1, rds]
  cases fieldOf k[i] s <;> rfl
theorem fieldOf_len {c : UInt8} {s t : Text} {f : Fd} (h : fieldOf c s = some (f, t)) : t.length ≤ s.length ∧ f.s.length ≤ s.length ∧ (width c ≤ 8 → f.n < 2 ^ 64) := by
  unfold fieldOf at h
  split at h
  · injection h with h; injection h with e1 e2; subst e1 e2; exact ⟨by simp, by simp, fun _ => by show 0 < 2 ^ 64; decide⟩
  · split at h
    · split at h
      · cases h
      · split at h
        · cases h
        · injection h with h; injection h with e1 e2; subst e1 e2
          refine ⟨by simp <;> omega, by simp <;> omega, fun _ => by show 0 < 2 ^ 64; decide⟩
    · split at h
      · cases h
      · injection h with h; injection h with e1 e2; subst e1 e2
        refine ⟨by simp, by simp, fun hw => ?_⟩
        have h1 := Wl.dec_snoc_lt (s.take (width c))
        have h2 : (s.take (width c)).length ≤ 8 := by rw [List.length_take]; omega
        have h3 : 256 ^ (s.take (width c)).length ≤ 256 ^ 8 := Nat.pow_le_pow_right (by decide) h2
        exact Nat.lt_of_lt_of_le h1 (Nat.le_trans h3 (by decide))
theorem rds_good : ∀ (k : Text) (acc l : List Fd) (s : Text) (M : Nat), s.length ≤ M → rds acc k s = some l → (∀ f ∈ acc, f.n < 2 ^ 64 ∧ f.s.length ≤ M) → ∀ f ∈ l, f.n < 2 ^ 64 ∧ f.s.length ≤ M
  | [], acc, l, s, M, _, h, ha => by
    simp only [rds] at h
    split at h
    · injection h with h; subst h; exact ha
    · cases h
  | c :: k, acc, l, s, M, hs, h, ha => by
    rw [rds] at h
    split at h
    · cases h
    · next f t hf =>
      have hl := fieldOf_len hf
      refine rds_good k _ l t M (by omega) h fun f' hf' => ?_
      rcases List.mem_append.1 hf' with h' | h'
      · exact ha f' h'
      · rw [List.mem_singleton.1 h']
        exact ⟨hl.2.2 (width_le c), by omega⟩
theorem read_good {k s : Text} {l : List Fd} (h : read k s = some l) : ∀ f ∈ l, f.n < 2 ^ 64 ∧ f.s.length ≤ s.length := by
  unfold read at h
  split at h
  · exact rds_good k [] l s s.length (Nat.le_refl _) h (fun f hf => by cases hf)
  · cases h
end Pk

set_option maxHeartbeats 2000000 in
theorem read_any (ks : ByteArray) (s : List UInt8) (w : World) (hk : ks.size ≤ 100) (hs : s.length ≤ 1000000) :
    Calls Tryd.prog 18 #[.string ks, .string (bs s)] w fun e w' => ReadTo (Pk.read ks.data.toList s) w.heap.size e w' ∧ Below w.heap.size w w' := by
  have hkI : (ks.size : Int) ≤ 100 := by omega
  have HLEN := Lib.hid (show ks.data.toList.length = ks.size from Array.length_toList)
  have hsz := bs_size s
  cases hrt : Pk.right ks.data.toList with
  | false =>
    have HV : Pk.read ks.data.toList s = none := by unfold Pk.read; rw [if_neg (by rw [hrt]; decide)]
    rw [HV]
    have HRI := Lib.hid (show ∀ W, Calls Tryd.prog 29 #[.string ks] W fun e w' => e = .returned (.bool false) ∧ w' = W from fun W => by have := right_any ks W (by omega); rw [hrt] at this; exact this)
    clear HV hrt
    go_enter Tryd.func18, Tryd.ntmps18
    go_wp2_with fail
    refine (HRI.out _).mono ?_
    rintro e w1 ⟨rfl, rfl⟩
    go_wp2
    go_ret2
    exact ⟨rfl, Below.refl _ _⟩
  | true =>
    have HRI := Lib.hid (show ∀ W, Calls Tryd.prog 29 #[.string ks] W fun e w' => e = .returned (.bool true) ∧ w' = W from fun W => by have := right_any ks W (by omega); rw [hrt] at this; exact this)
    by_cases hln : ks.size ≤ s.length + 1
    · have HV : Pk.read ks.data.toList s = Pk.rds [] ks.data.toList s := by unfold Pk.read; rw [if_pos hrt]
      rw [HV]
      have HRT := Lib.hid hrt
      have HS := Lib.hid hs
      obtain ⟨X, hX⟩ : ∃ X, X = bs s := ⟨_, rfl⟩
      have HX := Lib.hid hX
      rw [← hX] at hsz ⊢
      have hlnI : decide ((X.size : Int) + 1 < ks.size) = false := by rw [decide_eq_false_iff_not]; omega
      have hXI : (X.size : Int) ≤ 1000000 := by omega
      clear HV hrt hln hX hsz hs
      go_enter Tryd.func18, Tryd.ntmps18
      go_wp2_with fail
      refine (HRI.out _).mono ?_
      rintro e w1 ⟨rfl, rfl⟩
      go_wp2_with (at_make; refine Hid.out ?_)
      refine Lib.hid ?_
      refine wpList_make0 fdST rfl _ _ rfl w1.heap.size (Nat.le_refl _) ks.size ks.size rfl rfl rfl (by omega) ?_
      intro w2 ho2 hg2
      have HO2 := Lib.hid (And.intro ho2 ((Below.refl _ w1).trans ((But.ofGrown hg2).below (Nat.le_refl _) (fun k _ e => by cases e))))
      generalize (Value.slice (some ⟨w1.heap.size, 0, none⟩) 0 ks.size) = u2 at *
      clear ho2 hg2
      go_wp2_with fail
      go_loopw [1, 6, 7] (fun sv u i wr => ∃ k : Nat, k ≤ ks.size ∧ i = .int .i64 k ∧ ∃ (acc : List Pk.Fd) (t : List UInt8), sv = .string (bs t) ∧ Hid (t.length ≤ s.length ∧ Pk.rds [] ks.data.toList s = Pk.rds acc (ks.data.toList.drop k) t ∧ acc.length = k) ∧ Hid (Own fdElem 36 w1.heap.size wr u acc) ∧ Hid (Below w1.heap.size w1 wr)) (fun _ _ i _ => ks.size - (RowKit.intOf i).toNat)
      case atStart => exact ⟨0, Nat.zero_le _, rfl, [], s, by rw [HX.out], Lib.hid ⟨Nat.le_refl _, rfl, rfl⟩, Lib.hid HO2.out.1, Lib.hid HO2.out.2⟩
      case round =>
        obtain ⟨k, hk', rfl, acc, t, rfl, HA, HO, HB⟩ := hrel
        by_cases hlt : k < ks.size
        · have hltI : (k : Int) < ks.size := by omega
          have hlet := Pk.right_letter ks.data.toList k hlt HRT.out
          change Pk.letter ks[k] true = true at hlet
          have HST := Lib.hid (HA.out.2.1.trans (Pk.rds_step acc ks.data.toList t k hlt))
          change Hid (_ = match Pk.fieldOf ks[k] t with | none => none | some p => _) at HST
          have HFF := Lib.hid (fun W => firstField_any ks[k] t W hlet (by have := HA.out.1; have := HS.out; omega))
          clear hlet
          cases hff : Pk.fieldOf ks[k] t with
          | none =>
            rw [hff] at HST HFF
            change Hid (_ = none) at HST
            clear hff
            unfold fres fdV at HFF
            simp only at HFF
            go_wp2_with fail
            refine (HFF.out _).mono ?_
            rintro e w3 ⟨rfl, hb3⟩
            have HB3 := Lib.hid (HB.out.trans (hb3.mono HB.out.size))
            clear hb3
            go_wp2
            go_ret2
            exact ⟨by rw [HST.out]; exact rfl, HB3.out.alloc HB3.out.size _⟩
          | some p =>
            obtain ⟨f, t'⟩ := p
            rw [hff] at HST HFF
            change Hid (_ = Pk.rds (acc ++ [f]) (ks.data.toList.drop (k + 1)) t') at HST
            have HFL := Lib.hid (Pk.fieldOf_len hff)
            clear hff
            unfold fres fdV at HFF
            simp only at HFF
            obtain ⟨n, fs⟩ := f
            obtain ⟨Y, hY⟩ : ∃ Y, Y = bs fs := ⟨_, rfl⟩
            have HY := Lib.hid hY
            simp only [← hY] at HFF
            clear hY
            go_wp2_with fail
            refine (HFF.out _).mono ?_
            rintro e w3 ⟨rfl, hb3⟩
            have HB3 := Lib.hid (HB.out.trans (hb3.mono HB.out.size))
            have HO3 := Lib.hid (HO.out.below hb3 (Nat.le_refl _))
            clear hb3
            go_wp2_with (at_builtin; refine Hid.out ?_)
            refine Lib.hid ?_
            have hsz3 := HB3.out.size
            refine wpList_app fdST rfl _ _ rfl rfl ((HO3.out.alloc _).alloc _) (by simp; omega) (w3.heap.size + 1) 0 1 1 [⟨n, fs⟩] rfl rfl (Lies.of_blk (cs := [.int .u64 n, .string Y]) (by
              have := Blk.new (w3.alloc (.cells #[.int .u64 n, .string Y] 36)) #[.int .u64 n, .string Y] 36
              rw [World.size_alloc] at this
              exact this) (by rw [HY.out]; rfl)) (by have := HA.out.2.2; omega) ?_
            intro v' w4 ho4 hg4
            have H4 := Lib.hid (And.intro ho4 (((HB3.out.alloc HB3.out.size _).alloc (by simp; omega) _).trans ((But.ofGrown hg4).below (by simp; omega) (fun i hi e => by have := (HO3.out.block i e).1; omega))))
            clear ho4 hg4 hsz3
            go_wp2
            go_roundw
            case rel => exact ⟨k + 1, by omega, by go_num, acc ++ [⟨n, fs⟩], t', rfl, Lib.hid ⟨by have := HA.out.1; have := HFL.out.1; omega, HST.out, by rw [List.length_append, HA.out.2.2]; rfl⟩, Lib.hid H4.out.1, Lib.hid H4.out.2⟩
            case measure => simp [RowKit.intOf]; omega
        · have hke : k = ks.size := by omega
          subst hke
          have HE := Lib.hid (show Pk.rds [] ks.data.toList s = if t = [] then some acc else none by
            rw [HA.out.2.1, List.drop_of_length_le (by rw [HLEN.out]; exact Nat.le_refl _)]
            rfl)
          by_cases ht : t = []
          · have HE1 := Lib.hid (HE.out.trans (if_pos ht))
            clear HE
            subst ht
            have hem : (bs ([] : List UInt8)).toList.isEmpty = true := by rw [bs_toList]; rfl
            go_wp2
            go_ret2
            exact ⟨by rw [HE1.out]; exact ⟨_, rfl, HO.out⟩, HB.out⟩
          · have hne : (bs t).toList.isEmpty = false := by
              rw [bs_toList]
              cases t with
              | nil => exact absurd rfl ht
              | cons _ _ => rfl
            have hne2 : ¬ bs t = ⟨#[]⟩ := fun e => ht ((bs_nil_iff t).1 e)
            go_wp2
            go_ret2
            exact ⟨by rw [HE.out, if_neg ht]; exact rfl, HB.out⟩
    · have HV : Pk.read ks.data.toList s = none := by
        cases hr : Pk.read ks.data.toList s with
        | none => rfl
        | some l => exact absurd (Pk.read_len hr).1 (by rw [HLEN.out]; exact hln)
      rw [HV]
      obtain ⟨X, hX⟩ : ∃ X, X = bs s := ⟨_, rfl⟩
      rw [← hX] at hsz ⊢
      have hlnI : (ks.size : Int) > (X.size : Int) + 1 := by omega
      have hXI : (X.size : Int) ≤ 1000000 := by omega
      clear HV hrt hln hX hsz hs
      go_enter Tryd.func18, Tryd.ntmps18
      go_wp2_with fail
      refine (HRI.out _).mono ?_
      rintro e w1 ⟨rfl, rfl⟩
      go_wp2
      go_ret2
      exact ⟨rfl, Below.refl _ _⟩
end Go.Proofs.YtlpillpfahkjdaaDoor
