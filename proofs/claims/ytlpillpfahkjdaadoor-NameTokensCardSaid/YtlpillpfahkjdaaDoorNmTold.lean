/- Walks of name's Token and Told, and of the reference's. -/
import Derived.Test.YtlpillpfahkjdaaDoorNmToken
import Derived.Test.YtlpillpfahkjdaaDoorNmCrc
import Derived.Test.YtlpillpfahkjdaaDoorPkAwake
import Derived.Test.YtlpillpfahkjdaaDoorPkRef
import Derived.Test.YtlpillpfahkjdaaDoorRawWalk
import Derived.Deep.RegionHeld3
namespace Go.Proofs.YtlpillpfahkjdaaDoor
open Go.RowKit Lib

namespace Nm
theorem dig_fin : ∀ n : Fin 256, 0 ≤ Hx.val (UInt8.ofNat n.val) → Hx.dig (Hx.val (UInt8.ofNat n.val)).toNat = UInt8.ofNat n.val := by decide +kernel
theorem dig_val (c : UInt8) (h : 0 ≤ Hx.val c) : Hx.dig (Hx.val c).toNat = c := by
  have := dig_fin ⟨c.toNat, c.toNat_lt⟩
  simp only [UInt8.ofNat_toNat] at this
  exact this h
theorem hex_raw : ∀ (n : Nat) (l r : List UInt8), l.length ≤ n → Hx.raw l = some r → Hx.hex r = l
  | _, [], r, _, h => by
    rw [Hx.raw] at h
    injection h with h; subst h; rfl
  | _, [_], _, _, h => by
    rw [Hx.raw] at h; cases h
  | 0, _ :: _ :: _, _, hn, _ => by simp at hn
  | n + 1, a :: b :: t, r, hn, h => by
    rw [Hx.raw] at h
    split at h
    · cases h
    · next hv =>
      cases e : Hx.raw t with
      | none => rw [e] at h; cases h
      | some m =>
        rw [e] at h
        injection h with h
        have ih := hex_raw n t m (by simp at hn; omega) e
        rw [← h, Hx.hex, ih]
        have ha : 0 ≤ Hx.val a := by omega
        have hb : 0 ≤ Hx.val b := by omega
        have la := Hx.val_le a
        have lb := Hx.val_le b
        have hp : (Hx.pair (Hx.val a) (Hx.val b)).toNat = 16 * (Hx.val a).toNat + (Hx.val b).toNat := by
          unfold Hx.pair
          rw [UInt8.toNat_ofNat']; omega
        rw [hp, show (16 * (Hx.val a).toNat + (Hx.val b).toNat) / 16 = (Hx.val a).toNat by omega, show (16 * (Hx.val a).toNat + (Hx.val b).toNat) % 16 = (Hx.val b).toNat by omega, dig_val a ha, dig_val b hb]
theorem crc_lt (s : List UInt8) : Crc.crc s < 4294967296 := by unfold Crc.crc; omega
theorem write_hr (s : Pk.Text) : Pk.write [104, 114] [⟨Crc.crc s, []⟩, ⟨0, s⟩] = some (Wl.enc 4 (Crc.crc s) ++ s) := by
  have h1 : Pk.ftext 104 ⟨Crc.crc s, []⟩ = some (Wl.enc 4 (Crc.crc s)) := by
    unfold Pk.ftext
    rw [show Pk.width 104 = 4 from rfl, if_pos (by decide), if_pos ⟨rfl, crc_lt s⟩]
  have h2 : Pk.ftext 114 ⟨0, s⟩ = some s := by
    unfold Pk.ftext
    rw [show Pk.width 114 = 0 from rfl, if_neg (by decide), if_neg (by simp), if_pos rfl]
  unfold Pk.write
  rw [if_pos ⟨rfl, rfl⟩]
  simp only [Pk.wrs, h1, h2, List.nil_append]
theorem read_hr (s : Pk.Text) : Pk.read [104, 114] s = if s.length < 4 then none else some [⟨Wl.dec (s.take 4), []⟩, ⟨0, s.drop 4⟩] := by
  unfold Pk.read
  rw [if_pos (show Pk.right [104, 114] = true from rfl)]
  have h1 : Pk.fieldOf 104 s = if s.length < 4 then none else some (⟨Wl.dec (s.take 4), []⟩, s.drop 4) := by
    unfold Pk.fieldOf
    rw [show Pk.width 104 = 4 from rfl, if_neg (by decide), if_neg (by decide)]
  have h2 : ∀ t : Pk.Text, Pk.fieldOf 114 t = some (⟨0, t⟩, []) := fun t => by
    unfold Pk.fieldOf
    rw [if_pos rfl]
  simp only [Pk.rds, h1]
  by_cases h : s.length < 4
  · rw [if_pos h, if_pos h]
  · rw [if_neg h, if_neg h]
    simp [h2]
/-- What a token tells, by its digits. -/
theorem told_digits (v : Pk.Text) : told v = match Hx.raw v with
    | none => none
    | some r => if r.length < 4 then none else if Wl.dec (r.take 4) = Crc.crc (r.drop 4) then some (r.drop 4) else none := by
  unfold told
  cases h : Hx.raw v with
  | none => rfl
  | some r =>
    simp only
    by_cases h4 : r.length < 4
    · rw [if_pos h4, if_pos h4]
    · rw [if_neg h4, if_neg h4]
      have hv := hex_raw v.length v r (Nat.le_refl _) h
      have htl : (r.take 4).length = 4 := by rw [List.length_take]; omega
      by_cases hc : Wl.dec (r.take 4) = Crc.crc (r.drop 4)
      · rw [if_pos hc, if_pos]
        unfold token
        rw [← hc, Pk.enc_dec 4 _ htl, ← Hx.hex_append, List.take_append_drop, hv]
      · rw [if_neg hc, if_neg]
        intro e
        apply hc
        have h2 := raw_token (r.drop 4)
        rw [e, h] at h2
        injection h2 with h2
        have h3 : Wl.dec (r.take 4) = Wl.dec ((Wl.enc 4 (Crc.crc (r.drop 4)) ++ r.drop 4).take 4) := congrArg (fun l => Wl.dec (l.take 4)) h2
        rw [List.take_left' (Wl.enc_length _ _), Wl.dec_enc 4 _ (crc_lt _)] at h3
        exact h3
end Nm
def tokV (o : Option Pk.Text) : Value := match o with
  | some s => .tuple #[.string (bs s), .bool true]
  | none => .tuple #[.string ⟨#[]⟩, .bool false]
set_option maxHeartbeats 1000000 in
theorem token_any (s : ByteArray) (w : World) (hT : Nibs w) (hs : s.size ≤ 10000) : Calls Tryd.prog 5 #[.string s] w fun e w' => e = .returned (.string (bs (Nm.token s.data.toList))) ∧ Below w.heap.size w w' := by
  have hsl : s.data.toList.length = s.size := Array.length_toList
  have HN := Lib.hid hT
  have HCK := Lib.hid (fun W h => ncheck_any s W h (by omega))
  have hcl := Nm.crc_lt s.data.toList
  have hw : IntKind.u64.wrap (Crc.crc s.data.toList : Nat) = (Crc.crc s.data.toList : Int) := by rw [IntKind.wrap_u64]; omega
  have hrd : ∀ W : World, RdF (W.alloc (.cells (fdElem.cells [(⟨Crc.crc s.data.toList, []⟩ : Pk.Fd), ⟨0, s.data.toList⟩]).toArray 36)) (.slice (some ⟨W.heap.size, 0, none⟩) 2 2) [⟨Crc.crc s.data.toList, []⟩, ⟨0, s.data.toList⟩] := fun W => rdF_new W [⟨Crc.crc s.data.toList, []⟩, ⟨0, s.data.toList⟩] (fun i hi => by
    have h2 : i = 0 ∨ i = 1 := by simp at hi; omega
    rcases h2 with rfl | rfl
    · show Crc.crc s.data.toList < _; omega
    · show 0 < _; decide)
  have HW1 := Lib.hid (fun W => write_any ⟨#[104, 114]⟩ _ _ _ (by decide) (show 2 ≤ _ by decide) (hrd W) (fun i hi => by
    have h2 : i = 0 ∨ i = 1 := by simp at hi; omega
    rcases h2 with rfl | rfl
    · exact Nat.zero_le _
    · show s.data.toList.length ≤ _; omega))
  rw [show (⟨#[104, 114]⟩ : ByteArray).data.toList = [104, 114] from rfl, Nm.write_hr] at HW1
  unfold wres at HW1
  simp only at HW1
  have HHX := Lib.hid (fun W => hex_any (bs (Wl.enc 4 (Crc.crc s.data.toList) ++ s.data.toList)) W (by rw [bs_size, List.length_append, Wl.enc_length]; omega))
  have hv : Hx.hex (bs (Wl.enc 4 (Crc.crc s.data.toList) ++ s.data.toList)).data.toList = Nm.token s.data.toList := by
    rw [bs_list, Hx.hex_append]; rfl
  rw [hv] at HHX
  generalize Nm.token s.data.toList = T at *
  change Hid (∀ W, Calls Tryd.prog 16 _ W fun e w' => e = .returned (.string (bs T)) ∧ Below W.heap.size W w') at HHX
  generalize bs (Wl.enc 4 (Crc.crc s.data.toList) ++ s.data.toList) = R at *
  clear hv hrd hsl hT hcl
  generalize Crc.crc s.data.toList = c at *
  go_enter Tryd.func5, Tryd.ntmps5
  go_wp2_with fail
  refine (HCK.out _ HN.out).mono ?_
  rintro e w1 ⟨rfl, rfl⟩
  go_wp2_with fail
  refine (HW1.out _).mono ?_
  rintro e w2 ⟨rfl, hb2⟩
  have HB2 := Lib.hid (((Below.refl _ w1).alloc (Nat.le_refl _) _).trans (hb2.mono (by simp)))
  clear hb2
  go_wp2_with fail
  refine (HHX.out _).mono ?_
  rintro e w3 ⟨rfl, hb3⟩
  have HB3 := Lib.hid (HB2.out.trans (hb3.mono HB2.out.size))
  clear hb3
  go_wp2
  go_ret
  exact ⟨rfl, HB3.out⟩
set_option maxHeartbeats 1000000 in
theorem refToken_any (s : ByteArray) (w : World) (hs : s.size ≤ 10000) : Calls Tryd.prog 8 #[.string s] w fun e w' => e = .returned (.string (bs (Nm.token s.data.toList))) ∧ Below w.heap.size w w' := by
  have hsl : s.data.toList.length = s.size := Array.length_toList
  have HCK := Lib.hid (fun W => refCheck_any s W (by omega))
  have hcl := Nm.crc_lt s.data.toList
  have hw : IntKind.u64.wrap (Crc.crc s.data.toList : Nat) = (Crc.crc s.data.toList : Int) := by rw [IntKind.wrap_u64]; omega
  have HNU := Lib.hid (fun W => refNumber_any (Crc.crc s.data.toList) 4 W (by omega) (by decide))
  have HH1 := Lib.hid (fun W => refHex_any (bs (Wl.enc 4 (Crc.crc s.data.toList))) W (by rw [bs_size, Wl.enc_length]; decide))
  have HH2 := Lib.hid (fun W => refHex_any s W (by omega))
  have HV := Lib.hid (show bs (Hx.hex (Wl.enc 4 (Crc.crc s.data.toList))) ++ bs (Hx.hex s.data.toList) = bs (Nm.token s.data.toList) by rw [bs_append]; rfl)
  have hsum : (bs (Hx.hex (Wl.enc 4 (Crc.crc s.data.toList)))).size + (bs (Hx.hex s.data.toList)).size ≤ 9223372036854775807 := by
    rw [bs_size, bs_size, Hx.hex_length, Hx.hex_length, Wl.enc_length]; omega
  rw [bs_list] at HH1
  change Hid (∀ W, Calls Tryd.prog 20 _ W fun e w' => e = .returned (.string (bs (Hx.hex (Wl.enc 4 (Crc.crc s.data.toList))))) ∧ Below W.heap.size W w') at HH1
  change Hid (∀ W, Calls Tryd.prog 20 _ W fun e w' => e = .returned (.string (bs (Hx.hex s.data.toList))) ∧ Below W.heap.size W w') at HH2
  generalize bs (Nm.token s.data.toList) = T at *
  generalize bs (Hx.hex s.data.toList) = X at *
  generalize bs (Hx.hex (Wl.enc 4 (Crc.crc s.data.toList))) = Y at *
  generalize bs (Wl.enc 4 (Crc.crc s.data.toList)) = Z at *
  clear hsl hcl
  generalize Crc.crc s.data.toList = c at *
  go_enter Tryd.func8, Tryd.ntmps8
  go_wp2_with fail
  refine (HCK.out _).mono ?_
  rintro e w1 ⟨rfl, rfl⟩
  go_wp2_with fail
  refine (HNU.out _).mono ?_
  rintro e w2 ⟨rfl, hb2⟩
  have HB2 := Lib.hid hb2
  clear hb2
  go_wp2_with fail
  refine (HH1.out _).mono ?_
  rintro e w3 ⟨rfl, hb3⟩
  have HB3 := Lib.hid (HB2.out.trans (hb3.mono HB2.out.size))
  clear hb3
  go_wp2_with fail
  refine (HH2.out _).mono ?_
  rintro e w4 ⟨rfl, hb4⟩
  have HB4 := Lib.hid (HB3.out.trans (hb4.mono HB3.out.size))
  clear hb4
  go_wp2
  go_ret
  exact ⟨by rw [← HV.out]; rfl, HB4.out⟩
set_option maxRecDepth 100000 in
set_option maxHeartbeats 2000000 in
theorem ntold_any (v : ByteArray) (w : World) (hT : Nibs w) (hs : v.size ≤ 10000) : Calls Tryd.prog 6 #[.string v] w fun e w' => e = .returned (tokV (Nm.told v.data.toList)) ∧ Below w.heap.size w w' := by
  have HN := Lib.hid hT
  have hvl : v.data.toList.length = v.size := Array.length_toList
  rw [Nm.told_digits]
  have HRW := Lib.hid (fun W => raw_any v W (by omega))
  clear hT
  cases hr : Hx.raw v.data.toList with
  | none =>
    rw [Hx.rawV_none hr] at HRW
    have HRD := Lib.hid (fun W => read_any ⟨#[104, 114]⟩ [] W (by decide) (by decide))
    rw [show (⟨#[104, 114]⟩ : ByteArray).data.toList = [104, 114] from rfl, Nm.read_hr, if_pos (by decide), show bs [] = ⟨#[]⟩ from rfl] at HRD
    clear hr hvl hs HN
    go_enter Tryd.func6, Tryd.ntmps6
    go_wp2_with fail
    refine (HRW.out _).mono ?_
    rintro e w1 ⟨rfl, hb1⟩
    have HB1 := Lib.hid hb1
    clear hb1
    go_wp2_with fail
    refine (HRD.out _).mono ?_
    rintro e w2 ⟨he, hb2⟩
    have he' : e = .returned (.tuple #[.slice none 0 0, .bool false]) := he
    subst he'
    have HB2 := Lib.hid (HB1.out.trans (hb2.mono HB1.out.size))
    clear hb2 he
    go_wp2_with (refine wp_region_any (by kernel_rfl) ?_; refine Hid.out ?_)
    refine Lib.hid ?_
    try (change wpAny _ _ _ _ _ _ _ (World.drew _))
    refine wpAny_take (i := 0) (v := ?_) (by simp only [List.getElem?_toArray, List.getElem?_cons_zero]; exact rfl) (by kernel_rfl) (by kernel_rfl) (by kernel_rfl) (by exact fun _ _ _ h => h) (Or.inl ⟨by rfl, ?_⟩) ?_
    rotate_left
    · intro w; go_simp; try with_reducible rfl
    refine wpAny_take (i := 1) (v := ?_) (by simp only [List.getElem?_toArray, List.getElem?_cons_succ, List.getElem?_cons_zero]; exact rfl) (by kernel_rfl) (by kernel_rfl) (by kernel_rfl) (by exact fun _ _ _ h => h) (Or.inl ⟨by rfl, ?_⟩) ?_
    rotate_left
    · intro w; go_simp; try with_reducible rfl
    refine wpAny_take (i := 2) (v := ?_) (by simp only [List.getElem?_toArray, List.getElem?_cons_succ, List.getElem?_cons_zero]; exact rfl) (by kernel_rfl) (by kernel_rfl) (by kernel_rfl) (by exact fun _ _ _ h => h) (Or.inl ⟨by rfl, ?_⟩) ?_
    rotate_left
    · intro w; go_simp; try with_reducible rfl
    try simp only [Act.put, List.setIfInBounds_toArray, List.set_cons_succ, List.set_cons_zero]
    refine wpAny_take (i := 3) (v := undef) (by simp only [List.getElem?_toArray, List.getElem?_cons_succ, List.getElem?_cons_zero]; exact rfl) (by kernel_rfl) (by kernel_rfl) (by kernel_rfl) (by exact fun _ _ _ h => h) (Or.inr ⟨by rfl, rfl⟩) ?_
    refine wpAny_take (i := 4) (v := undef) (by simp only [List.getElem?_toArray, List.getElem?_cons_succ, List.getElem?_cons_zero]; exact rfl) (by kernel_rfl) (by kernel_rfl) (by kernel_rfl) (by exact fun _ _ _ h => h) (Or.inr ⟨by rfl, rfl⟩) ?_
    try simp only [Act.put, List.setIfInBounds_toArray, List.set_cons_succ, List.set_cons_zero]
    refine wpAny_take (i := 5) (v := undef) (by simp only [List.getElem?_toArray, List.getElem?_cons_succ, List.getElem?_cons_zero]; exact rfl) (by kernel_rfl) (by kernel_rfl) (by kernel_rfl) (by exact fun _ _ _ h => h) (Or.inr ⟨by rfl, rfl⟩) ?_
    refine wpAny_take (i := 6) (v := undef) (by simp only [List.getElem?_toArray, List.getElem?_cons_succ, List.getElem?_cons_zero]; exact rfl) (by kernel_rfl) (by kernel_rfl) (by kernel_rfl) (by exact fun _ _ _ h => h) (Or.inr ⟨by rfl, rfl⟩) ?_
    try simp only [Act.put, List.setIfInBounds_toArray, List.set_cons_succ, List.set_cons_zero]
    refine wpAny_take (i := 7) (v := undef) (by simp only [List.getElem?_toArray, List.getElem?_cons_succ, List.getElem?_cons_zero]; exact rfl) (by kernel_rfl) (by kernel_rfl) (by kernel_rfl) (by exact fun _ _ _ h => h) (Or.inr ⟨by rfl, rfl⟩) ?_
    refine wpAny_take (i := 8) (v := undef) (by simp only [List.getElem?_toArray, List.getElem?_cons_succ, List.getElem?_cons_zero]; exact rfl) (by kernel_rfl) (by kernel_rfl) (by kernel_rfl) (by exact fun _ _ _ h => h) (Or.inr ⟨by rfl, rfl⟩) ?_
    try simp only [Act.put, List.setIfInBounds_toArray, List.set_cons_succ, List.set_cons_zero]
    refine wpAny_take (i := 9) (v := undef) (by simp only [List.getElem?_toArray, List.getElem?_cons_succ, List.getElem?_cons_zero]; exact rfl) (by kernel_rfl) (by kernel_rfl) (by kernel_rfl) (by exact fun _ _ _ h => h) (Or.inr ⟨by rfl, rfl⟩) ?_
    refine wpAny_take (i := 10) (v := undef) (by simp only [List.getElem?_toArray, List.getElem?_cons_succ, List.getElem?_cons_zero]; exact rfl) (by kernel_rfl) (by kernel_rfl) (by kernel_rfl) (by exact fun _ _ _ h => h) (Or.inr ⟨by rfl, rfl⟩) ?_
    try simp only [Act.put, List.setIfInBounds_toArray, List.set_cons_succ, List.set_cons_zero]
    refine wpAny_take (i := 11) (v := undef) (by simp only [List.getElem?_toArray, List.getElem?_cons_succ, List.getElem?_cons_zero]; exact rfl) (by kernel_rfl) (by kernel_rfl) (by kernel_rfl) (by exact fun _ _ _ h => h) (Or.inr ⟨by rfl, rfl⟩) ?_
    refine wpAny_take (i := 12) (v := undef) (by simp only [List.getElem?_toArray, List.getElem?_cons_succ, List.getElem?_cons_zero]; exact rfl) (by kernel_rfl) (by kernel_rfl) (by kernel_rfl) (by exact fun _ _ _ h => h) (Or.inr ⟨by rfl, rfl⟩) ?_
    try simp only [Act.put, List.setIfInBounds_toArray, List.set_cons_succ, List.set_cons_zero]
    refine wpAny_take (i := 13) (v := undef) (by simp only [List.getElem?_toArray, List.getElem?_cons_succ, List.getElem?_cons_zero]; exact rfl) (by kernel_rfl) (by kernel_rfl) (by kernel_rfl) (by exact fun _ _ _ h => h) (Or.inr ⟨by rfl, rfl⟩) ?_
    try simp only [Act.put, List.setIfInBounds_toArray, List.set_cons_succ, List.set_cons_zero]
    refine wpAny_take (i := 14) (v := ?_) (by simp only [List.getElem?_toArray, List.getElem?_cons_succ, List.getElem?_cons_zero]; exact rfl) (by kernel_rfl) (by kernel_rfl) (by kernel_rfl) (by exact fun _ _ _ h => h) (Or.inl ⟨by rfl, ?_⟩) ?_
    rotate_left
    · intro w; go_simp; try with_reducible rfl
    refine wpAny_done (by kernel_rfl) ?_ _
    try simp only [Act.put, List.setIfInBounds_toArray, List.set_cons_succ, List.set_cons_zero]
    go_wp2
    go_ret2
    exact ⟨rfl, HB2.out.drew⟩
  | some r =>
    rw [Hx.rawV_some hr] at HRW
    have hrl : r.length ≤ 10000 := by
      have h := Nm.hex_raw _ _ _ (Nat.le_refl _) hr
      have h2 := congrArg List.length h
      rw [Hx.hex_length] at h2
      omega
    have HRD := Lib.hid (fun W => read_any ⟨#[104, 114]⟩ r W (by decide) (by omega))
    rw [show (⟨#[104, 114]⟩ : ByteArray).data.toList = [104, 114] from rfl, Nm.read_hr] at HRD
    change Hid (∀ W, Calls Tryd.prog 17 _ W fun e w' => e = .returned (.tuple #[.string (bs r), .bool true]) ∧ Below W.heap.size W w') at HRW
    simp only
    by_cases h4 : r.length < 4
    · rw [if_pos h4] at HRD ⊢
      generalize bs r = R at *
      clear hr hvl hs h4 hrl HN
      go_enter Tryd.func6, Tryd.ntmps6
      go_wp2_with fail
      refine (HRW.out _).mono ?_
      rintro e w1 ⟨rfl, hb1⟩
      have HB1 := Lib.hid hb1
      clear hb1
      go_wp2_with fail
      refine (HRD.out _).mono ?_
      rintro e w2 ⟨he, hb2⟩
      have he' : e = .returned (.tuple #[.slice none 0 0, .bool false]) := he
      subst he'
      have HB2 := Lib.hid (HB1.out.trans (hb2.mono HB1.out.size))
      clear hb2 he
      go_wp2_with (refine wp_region_any (by kernel_rfl) ?_; refine Hid.out ?_)
      refine Lib.hid ?_
      try (change wpAny _ _ _ _ _ _ _ (World.drew _))
      refine wpAny_take (i := 0) (v := ?_) (by simp only [List.getElem?_toArray, List.getElem?_cons_zero]; exact rfl) (by kernel_rfl) (by kernel_rfl) (by kernel_rfl) (by exact fun _ _ _ h => h) (Or.inl ⟨by rfl, ?_⟩) ?_
      rotate_left
      · intro w; go_simp; try with_reducible rfl
      refine wpAny_take (i := 1) (v := ?_) (by simp only [List.getElem?_toArray, List.getElem?_cons_succ, List.getElem?_cons_zero]; exact rfl) (by kernel_rfl) (by kernel_rfl) (by kernel_rfl) (by exact fun _ _ _ h => h) (Or.inl ⟨by rfl, ?_⟩) ?_
      rotate_left
      · intro w; go_simp; try with_reducible rfl
      refine wpAny_take (i := 2) (v := ?_) (by simp only [List.getElem?_toArray, List.getElem?_cons_succ, List.getElem?_cons_zero]; exact rfl) (by kernel_rfl) (by kernel_rfl) (by kernel_rfl) (by exact fun _ _ _ h => h) (Or.inl ⟨by rfl, ?_⟩) ?_
      rotate_left
      · intro w; go_simp; try with_reducible rfl
      try simp only [Act.put, List.setIfInBounds_toArray, List.set_cons_succ, List.set_cons_zero]
      refine wpAny_take (i := 3) (v := undef) (by simp only [List.getElem?_toArray, List.getElem?_cons_succ, List.getElem?_cons_zero]; exact rfl) (by kernel_rfl) (by kernel_rfl) (by kernel_rfl) (by exact fun _ _ _ h => h) (Or.inr ⟨by rfl, rfl⟩) ?_
      refine wpAny_take (i := 4) (v := undef) (by simp only [List.getElem?_toArray, List.getElem?_cons_succ, List.getElem?_cons_zero]; exact rfl) (by kernel_rfl) (by kernel_rfl) (by kernel_rfl) (by exact fun _ _ _ h => h) (Or.inr ⟨by rfl, rfl⟩) ?_
      try simp only [Act.put, List.setIfInBounds_toArray, List.set_cons_succ, List.set_cons_zero]
      refine wpAny_take (i := 5) (v := undef) (by simp only [List.getElem?_toArray, List.getElem?_cons_succ, List.getElem?_cons_zero]; exact rfl) (by kernel_rfl) (by kernel_rfl) (by kernel_rfl) (by exact fun _ _ _ h => h) (Or.inr ⟨by rfl, rfl⟩) ?_
      refine wpAny_take (i := 6) (v := undef) (by simp only [List.getElem?_toArray, List.getElem?_cons_succ, List.getElem?_cons_zero]; exact rfl) (by kernel_rfl) (by kernel_rfl) (by kernel_rfl) (by exact fun _ _ _ h => h) (Or.inr ⟨by rfl, rfl⟩) ?_
      try simp only [Act.put, List.setIfInBounds_toArray, List.set_cons_succ, List.set_cons_zero]
      refine wpAny_take (i := 7) (v := undef) (by simp only [List.getElem?_toArray, List.getElem?_cons_succ, List.getElem?_cons_zero]; exact rfl) (by kernel_rfl) (by kernel_rfl) (by kernel_rfl) (by exact fun _ _ _ h => h) (Or.inr ⟨by rfl, rfl⟩) ?_
      refine wpAny_take (i := 8) (v := undef) (by simp only [List.getElem?_toArray, List.getElem?_cons_succ, List.getElem?_cons_zero]; exact rfl) (by kernel_rfl) (by kernel_rfl) (by kernel_rfl) (by exact fun _ _ _ h => h) (Or.inr ⟨by rfl, rfl⟩) ?_
      try simp only [Act.put, List.setIfInBounds_toArray, List.set_cons_succ, List.set_cons_zero]
      refine wpAny_take (i := 9) (v := undef) (by simp only [List.getElem?_toArray, List.getElem?_cons_succ, List.getElem?_cons_zero]; exact rfl) (by kernel_rfl) (by kernel_rfl) (by kernel_rfl) (by exact fun _ _ _ h => h) (Or.inr ⟨by rfl, rfl⟩) ?_
      refine wpAny_take (i := 10) (v := undef) (by simp only [List.getElem?_toArray, List.getElem?_cons_succ, List.getElem?_cons_zero]; exact rfl) (by kernel_rfl) (by kernel_rfl) (by kernel_rfl) (by exact fun _ _ _ h => h) (Or.inr ⟨by rfl, rfl⟩) ?_
      try simp only [Act.put, List.setIfInBounds_toArray, List.set_cons_succ, List.set_cons_zero]
      refine wpAny_take (i := 11) (v := undef) (by simp only [List.getElem?_toArray, List.getElem?_cons_succ, List.getElem?_cons_zero]; exact rfl) (by kernel_rfl) (by kernel_rfl) (by kernel_rfl) (by exact fun _ _ _ h => h) (Or.inr ⟨by rfl, rfl⟩) ?_
      refine wpAny_take (i := 12) (v := undef) (by simp only [List.getElem?_toArray, List.getElem?_cons_succ, List.getElem?_cons_zero]; exact rfl) (by kernel_rfl) (by kernel_rfl) (by kernel_rfl) (by exact fun _ _ _ h => h) (Or.inr ⟨by rfl, rfl⟩) ?_
      try simp only [Act.put, List.setIfInBounds_toArray, List.set_cons_succ, List.set_cons_zero]
      refine wpAny_take (i := 13) (v := undef) (by simp only [List.getElem?_toArray, List.getElem?_cons_succ, List.getElem?_cons_zero]; exact rfl) (by kernel_rfl) (by kernel_rfl) (by kernel_rfl) (by exact fun _ _ _ h => h) (Or.inr ⟨by rfl, rfl⟩) ?_
      try simp only [Act.put, List.setIfInBounds_toArray, List.set_cons_succ, List.set_cons_zero]
      refine wpAny_take (i := 14) (v := ?_) (by simp only [List.getElem?_toArray, List.getElem?_cons_succ, List.getElem?_cons_zero]; exact rfl) (by kernel_rfl) (by kernel_rfl) (by kernel_rfl) (by exact fun _ _ _ h => h) (Or.inl ⟨by rfl, ?_⟩) ?_
      rotate_left
      · intro w; go_simp; try with_reducible rfl
      refine wpAny_done (by kernel_rfl) ?_ _
      try simp only [Act.put, List.setIfInBounds_toArray, List.set_cons_succ, List.set_cons_zero]
      go_wp2
      go_ret2
      exact ⟨rfl, HB2.out.drew⟩
    · rw [if_neg h4] at HRD ⊢
      have hdl : (r.drop 4).length ≤ 10000 := by rw [List.length_drop]; omega
      obtain ⟨t, ht⟩ : ∃ t, t = r.drop 4 := ⟨_, rfl⟩
      rw [← ht] at HRD hdl ⊢
      generalize Wl.dec (r.take 4) = d at *
      have HCK := Lib.hid (fun W h => ncheck_any (bs t) W h (by rw [bs_size]; omega))
      rw [bs_list] at HCK
      have hcl := Nm.crc_lt t
      have hw : IntKind.u64.wrap (Crc.crc t : Nat) = (Crc.crc t : Int) := by rw [IntKind.wrap_u64]; omega
      generalize Crc.crc t = c at *
      generalize bs r = R at *
      clear hr hvl hs h4 hrl hdl ht hcl
      by_cases hc : d = c
      · rw [if_pos hc]
        subst hc
        go_enter Tryd.func6, Tryd.ntmps6
        go_wp2_with fail
        refine (HRW.out _).mono ?_
        rintro e w1 ⟨rfl, hb1⟩
        have HB1 := Lib.hid hb1
        clear hb1
        go_wp2_with fail
        refine (HRD.out _).mono ?_
        rintro e w2 ⟨⟨v2, rfl, ho2⟩, hb2⟩
        have HB2 := Lib.hid (HB1.out.trans (hb2.mono HB1.out.size))
        obtain ⟨g, cap, hv, _, _, hcap⟩ := Own.form ho2 (Nat.succ_pos 1)
        have hl2 : Lies fdElem w2 g 0 _ := Own.lies (cap := cap) (n := 2) (by rw [show (2 : Nat) = ([⟨d, []⟩, ⟨0, t⟩] : List Pk.Fd).length from rfl, ← hv]; exact ho2)
        have c0 : w2.cell? ⟨g, 0, none⟩ = some (.int .u64 d) := by
          have := hl2.at 0 0 (by decide) (Nat.succ_pos _) (.int .u64 d) rfl
          simpa [fdElem] using this
        have c1 : w2.cell? ⟨g, 3, none⟩ = some (.string (bs t)) := by
          have := hl2.at 1 1 (by decide) (Nat.lt_succ_self _) (.string (bs t)) rfl
          simpa [fdElem] using this
        have hv' : v2 = .slice (some ⟨g, 0, none⟩) 2 cap := hv
        have HN2 := Lib.hid (HN.out.below HB2.out)
        have HCC := Lib.hid (And.intro c0 c1)
        clear hb2 ho2 hl2 hv
        subst hv'
        go_wp2_with (refine wp_region_held_drew (S := (fun X => X.cell? ⟨g, 0, none⟩ = some (.int .u64 d) ∧ X.cell? ⟨g, 3, none⟩ = some (.string (bs t)))) (by kernel_rfl) ?_ (fun hS => ?_); focus skip; rotate_left; refine Hid.out ?_)
        refine Lib.hid ?_
        · first | trivial | exact ⟨c0, c1⟩
        refine wpAnyH_take (i := 0) (v := ?_) (by simp only [List.getElem?_toArray, List.getElem?_cons_zero]; exact rfl) (by kernel_rfl) (by kernel_rfl) (by kernel_rfl) (by exact fun _ _ _ h => h) (Or.inl ⟨by rfl, ?_⟩) hS ?_
        rotate_left
        · intro w hSw; obtain ⟨c0, c1⟩ := hSw; go_simp; try with_reducible rfl
        refine wpAnyH_take (i := 1) (v := ?_) (by simp only [List.getElem?_toArray, List.getElem?_cons_succ, List.getElem?_cons_zero]; exact rfl) (by kernel_rfl) (by kernel_rfl) (by kernel_rfl) (by exact fun _ _ _ h => h) (Or.inl ⟨by rfl, ?_⟩) hS ?_
        rotate_left
        · intro w hSw; obtain ⟨c0, c1⟩ := hSw; go_simp; try with_reducible rfl
        refine wpAnyH_take (i := 2) (v := ?_) (by simp only [List.getElem?_toArray, List.getElem?_cons_succ, List.getElem?_cons_zero]; exact rfl) (by kernel_rfl) (by kernel_rfl) (by kernel_rfl) (by exact fun _ _ _ h => h) (Or.inl ⟨by rfl, ?_⟩) hS ?_
        rotate_left
        · intro w hSw; obtain ⟨c0, c1⟩ := hSw; go_simp; try with_reducible rfl
        refine wpAnyH_take (i := 3) (v := ?_) (by simp only [List.getElem?_toArray, List.getElem?_cons_succ, List.getElem?_cons_zero]; exact rfl) (by kernel_rfl) (by kernel_rfl) (by kernel_rfl) (by exact fun _ _ _ h => h) (Or.inl ⟨by rfl, ?_⟩) hS ?_
        rotate_left
        · intro w hSw; obtain ⟨c0, c1⟩ := hSw; go_simp; try with_reducible rfl
        refine wpAnyH_take (i := 4) (v := ?_) (by simp only [List.getElem?_toArray, List.getElem?_cons_succ, List.getElem?_cons_zero]; exact rfl) (by kernel_rfl) (by kernel_rfl) (by kernel_rfl) (by exact fun _ _ _ h => h) (Or.inl ⟨by rfl, ?_⟩) hS ?_
        rotate_left
        · intro w hSw; obtain ⟨c0, c1⟩ := hSw; go_simp; try with_reducible rfl
        refine wpAnyH_take (i := 5) (v := ?_) (by simp only [List.getElem?_toArray, List.getElem?_cons_succ, List.getElem?_cons_zero]; exact rfl) (by kernel_rfl) (by kernel_rfl) (by kernel_rfl) (by exact fun _ _ _ h => h) (Or.inl ⟨by rfl, ?_⟩) hS ?_
        rotate_left
        · intro w hSw; obtain ⟨c0, c1⟩ := hSw; go_simp; try with_reducible rfl
        refine wpAnyH_take (i := 6) (v := ?_) (by simp only [List.getElem?_toArray, List.getElem?_cons_succ, List.getElem?_cons_zero]; exact rfl) (by kernel_rfl) (by kernel_rfl) (by kernel_rfl) (by exact fun _ _ _ h => h) (Or.inl ⟨by rfl, ?_⟩) hS ?_
        rotate_left
        · intro w hSw; obtain ⟨c0, c1⟩ := hSw; go_simp; try with_reducible rfl
        try simp only [Act.put, List.setIfInBounds_toArray, List.set_cons_succ, List.set_cons_zero]
        refine wpAnyH_take (i := 7) (v := ?_) (by simp only [List.getElem?_toArray, List.getElem?_cons_succ, List.getElem?_cons_zero]; exact rfl) (by kernel_rfl) (by kernel_rfl) (by kernel_rfl) (by exact fun _ _ _ h => h) (Or.inl ⟨by rfl, ?_⟩) hS ?_
        rotate_left
        · intro w hSw; obtain ⟨c0, c1⟩ := hSw; go_simp; try with_reducible rfl
        refine wpAnyH_take (i := 8) (v := ?_) (by simp only [List.getElem?_toArray, List.getElem?_cons_succ, List.getElem?_cons_zero]; exact rfl) (by kernel_rfl) (by kernel_rfl) (by kernel_rfl) (by exact fun _ _ _ h => h) (Or.inl ⟨by rfl, ?_⟩) hS ?_
        rotate_left
        · intro w hSw; obtain ⟨c0, c1⟩ := hSw; go_simp; try with_reducible rfl
        refine wpAnyH_take (i := 9) (v := ?_) (by simp only [List.getElem?_toArray, List.getElem?_cons_succ, List.getElem?_cons_zero]; exact rfl) (by kernel_rfl) (by kernel_rfl) (by kernel_rfl) (by exact fun _ _ _ h => h) (Or.inl ⟨by rfl, ?_⟩) hS ?_
        rotate_left
        · intro w hSw; obtain ⟨c0, c1⟩ := hSw; go_simp; try with_reducible rfl
        refine wpAnyH_take (i := 10) (v := ?_) (by simp only [List.getElem?_toArray, List.getElem?_cons_succ, List.getElem?_cons_zero]; exact rfl) (by kernel_rfl) (by kernel_rfl) (by kernel_rfl) (by exact fun _ _ _ h => h) (Or.inl ⟨by rfl, ?_⟩) hS ?_
        rotate_left
        · intro w hSw; obtain ⟨c0, c1⟩ := hSw; go_simp; try with_reducible rfl
        try simp only [Act.put, List.setIfInBounds_toArray, List.set_cons_succ, List.set_cons_zero]
        refine wpAnyH_ready (rs := [11]) (by kernel_rfl) (by simp) ?_
        refine AllReadyH.cons rfl (fun K hK => ?_) AllReadyH.nil
        go_simp
        refine (HCK.out _ (show Nibs (World.drew _) from HN2.out)).mono ?_
        rintro e w3 ⟨rfl, rfl⟩
        refine hK.out _ _ (by first | trivial | exact HCC.out) (fun hS => ?_); clear hK K
        refine wpAnyH_take (i := 12) (v := ?_) (by simp only [List.getElem?_toArray, List.getElem?_cons_succ, List.getElem?_cons_zero]; exact rfl) (by kernel_rfl) (by kernel_rfl) (by kernel_rfl) (by exact fun _ _ _ h => h) (Or.inl ⟨by rfl, ?_⟩) hS ?_
        rotate_left
        · intro w hSw; obtain ⟨c0, c1⟩ := hSw; go_simp; try with_reducible rfl
        refine wpAnyH_take (i := 13) (v := ?_) (by simp only [List.getElem?_toArray, List.getElem?_cons_succ, List.getElem?_cons_zero]; exact rfl) (by kernel_rfl) (by kernel_rfl) (by kernel_rfl) (by exact fun _ _ _ h => h) (Or.inl ⟨by rfl, ?_⟩) hS ?_
        rotate_left
        · intro w hSw; obtain ⟨c0, c1⟩ := hSw; go_simp; try with_reducible rfl
        refine wpAnyH_take (i := 14) (v := ?_) (by simp only [List.getElem?_toArray, List.getElem?_cons_succ, List.getElem?_cons_zero]; exact rfl) (by kernel_rfl) (by kernel_rfl) (by kernel_rfl) (by exact fun _ _ _ h => h) (Or.inl ⟨by rfl, ?_⟩) hS ?_
        rotate_left
        · intro w hSw; obtain ⟨c0, c1⟩ := hSw; go_simp; try with_reducible rfl
        refine wpAnyH_done (by kernel_rfl) ?_ _
        try simp only [Act.put, List.setIfInBounds_toArray, List.set_cons_succ, List.set_cons_zero]
        go_wp2
        go_ret2
        exact ⟨rfl, HB2.out.drew⟩
      · rw [if_neg hc]
        have hcI : ((d : Int) != c) = true := by rw [bne_iff_ne]; omega
        clear hc
        go_enter Tryd.func6, Tryd.ntmps6
        go_wp2_with fail
        refine (HRW.out _).mono ?_
        rintro e w1 ⟨rfl, hb1⟩
        have HB1 := Lib.hid hb1
        clear hb1
        go_wp2_with fail
        refine (HRD.out _).mono ?_
        rintro e w2 ⟨⟨v2, rfl, ho2⟩, hb2⟩
        have HB2 := Lib.hid (HB1.out.trans (hb2.mono HB1.out.size))
        obtain ⟨g, cap, hv, _, _, hcap⟩ := Own.form ho2 (Nat.succ_pos 1)
        have hl2 : Lies fdElem w2 g 0 _ := Own.lies (cap := cap) (n := 2) (by rw [show (2 : Nat) = ([⟨d, []⟩, ⟨0, t⟩] : List Pk.Fd).length from rfl, ← hv]; exact ho2)
        have c0 : w2.cell? ⟨g, 0, none⟩ = some (.int .u64 d) := by
          have := hl2.at 0 0 (by decide) (Nat.succ_pos _) (.int .u64 d) rfl
          simpa [fdElem] using this
        have c1 : w2.cell? ⟨g, 3, none⟩ = some (.string (bs t)) := by
          have := hl2.at 1 1 (by decide) (Nat.lt_succ_self _) (.string (bs t)) rfl
          simpa [fdElem] using this
        have hv' : v2 = .slice (some ⟨g, 0, none⟩) 2 cap := hv
        have HN2 := Lib.hid (HN.out.below HB2.out)
        have HCC := Lib.hid (And.intro c0 c1)
        clear hb2 ho2 hl2 hv
        subst hv'
        go_wp2_with (refine wp_region_held_drew (S := (fun X => X.cell? ⟨g, 0, none⟩ = some (.int .u64 d) ∧ X.cell? ⟨g, 3, none⟩ = some (.string (bs t)))) (by kernel_rfl) ?_ (fun hS => ?_); focus skip; rotate_left; refine Hid.out ?_)
        refine Lib.hid ?_
        · first | trivial | exact ⟨c0, c1⟩
        refine wpAnyH_take (i := 0) (v := ?_) (by simp only [List.getElem?_toArray, List.getElem?_cons_zero]; exact rfl) (by kernel_rfl) (by kernel_rfl) (by kernel_rfl) (by exact fun _ _ _ h => h) (Or.inl ⟨by rfl, ?_⟩) hS ?_
        rotate_left
        · intro w hSw; obtain ⟨c0, c1⟩ := hSw; go_simp; try with_reducible rfl
        refine wpAnyH_take (i := 1) (v := ?_) (by simp only [List.getElem?_toArray, List.getElem?_cons_succ, List.getElem?_cons_zero]; exact rfl) (by kernel_rfl) (by kernel_rfl) (by kernel_rfl) (by exact fun _ _ _ h => h) (Or.inl ⟨by rfl, ?_⟩) hS ?_
        rotate_left
        · intro w hSw; obtain ⟨c0, c1⟩ := hSw; go_simp; try with_reducible rfl
        refine wpAnyH_take (i := 2) (v := ?_) (by simp only [List.getElem?_toArray, List.getElem?_cons_succ, List.getElem?_cons_zero]; exact rfl) (by kernel_rfl) (by kernel_rfl) (by kernel_rfl) (by exact fun _ _ _ h => h) (Or.inl ⟨by rfl, ?_⟩) hS ?_
        rotate_left
        · intro w hSw; obtain ⟨c0, c1⟩ := hSw; go_simp; try with_reducible rfl
        refine wpAnyH_take (i := 3) (v := ?_) (by simp only [List.getElem?_toArray, List.getElem?_cons_succ, List.getElem?_cons_zero]; exact rfl) (by kernel_rfl) (by kernel_rfl) (by kernel_rfl) (by exact fun _ _ _ h => h) (Or.inl ⟨by rfl, ?_⟩) hS ?_
        rotate_left
        · intro w hSw; obtain ⟨c0, c1⟩ := hSw; go_simp; try with_reducible rfl
        refine wpAnyH_take (i := 4) (v := ?_) (by simp only [List.getElem?_toArray, List.getElem?_cons_succ, List.getElem?_cons_zero]; exact rfl) (by kernel_rfl) (by kernel_rfl) (by kernel_rfl) (by exact fun _ _ _ h => h) (Or.inl ⟨by rfl, ?_⟩) hS ?_
        rotate_left
        · intro w hSw; obtain ⟨c0, c1⟩ := hSw; go_simp; try with_reducible rfl
        refine wpAnyH_take (i := 5) (v := ?_) (by simp only [List.getElem?_toArray, List.getElem?_cons_succ, List.getElem?_cons_zero]; exact rfl) (by kernel_rfl) (by kernel_rfl) (by kernel_rfl) (by exact fun _ _ _ h => h) (Or.inl ⟨by rfl, ?_⟩) hS ?_
        rotate_left
        · intro w hSw; obtain ⟨c0, c1⟩ := hSw; go_simp; try with_reducible rfl
        refine wpAnyH_take (i := 6) (v := ?_) (by simp only [List.getElem?_toArray, List.getElem?_cons_succ, List.getElem?_cons_zero]; exact rfl) (by kernel_rfl) (by kernel_rfl) (by kernel_rfl) (by exact fun _ _ _ h => h) (Or.inl ⟨by rfl, ?_⟩) hS ?_
        rotate_left
        · intro w hSw; obtain ⟨c0, c1⟩ := hSw; go_simp; try with_reducible rfl
        try simp only [Act.put, List.setIfInBounds_toArray, List.set_cons_succ, List.set_cons_zero]
        refine wpAnyH_take (i := 7) (v := ?_) (by simp only [List.getElem?_toArray, List.getElem?_cons_succ, List.getElem?_cons_zero]; exact rfl) (by kernel_rfl) (by kernel_rfl) (by kernel_rfl) (by exact fun _ _ _ h => h) (Or.inl ⟨by rfl, ?_⟩) hS ?_
        rotate_left
        · intro w hSw; obtain ⟨c0, c1⟩ := hSw; go_simp; try with_reducible rfl
        refine wpAnyH_take (i := 8) (v := ?_) (by simp only [List.getElem?_toArray, List.getElem?_cons_succ, List.getElem?_cons_zero]; exact rfl) (by kernel_rfl) (by kernel_rfl) (by kernel_rfl) (by exact fun _ _ _ h => h) (Or.inl ⟨by rfl, ?_⟩) hS ?_
        rotate_left
        · intro w hSw; obtain ⟨c0, c1⟩ := hSw; go_simp; try with_reducible rfl
        refine wpAnyH_take (i := 9) (v := ?_) (by simp only [List.getElem?_toArray, List.getElem?_cons_succ, List.getElem?_cons_zero]; exact rfl) (by kernel_rfl) (by kernel_rfl) (by kernel_rfl) (by exact fun _ _ _ h => h) (Or.inl ⟨by rfl, ?_⟩) hS ?_
        rotate_left
        · intro w hSw; obtain ⟨c0, c1⟩ := hSw; go_simp; try with_reducible rfl
        refine wpAnyH_take (i := 10) (v := ?_) (by simp only [List.getElem?_toArray, List.getElem?_cons_succ, List.getElem?_cons_zero]; exact rfl) (by kernel_rfl) (by kernel_rfl) (by kernel_rfl) (by exact fun _ _ _ h => h) (Or.inl ⟨by rfl, ?_⟩) hS ?_
        rotate_left
        · intro w hSw; obtain ⟨c0, c1⟩ := hSw; go_simp; try with_reducible rfl
        try simp only [Act.put, List.setIfInBounds_toArray, List.set_cons_succ, List.set_cons_zero]
        refine wpAnyH_ready (rs := [11]) (by kernel_rfl) (by simp) ?_
        refine AllReadyH.cons rfl (fun K hK => ?_) AllReadyH.nil
        go_simp
        refine (HCK.out _ (show Nibs (World.drew _) from HN2.out)).mono ?_
        rintro e w3 ⟨rfl, rfl⟩
        refine hK.out _ _ (by first | trivial | exact HCC.out) (fun hS => ?_); clear hK K
        refine wpAnyH_take (i := 12) (v := ?_) (by simp only [List.getElem?_toArray, List.getElem?_cons_succ, List.getElem?_cons_zero]; exact rfl) (by kernel_rfl) (by kernel_rfl) (by kernel_rfl) (by exact fun _ _ _ h => h) (Or.inl ⟨by rfl, ?_⟩) hS ?_
        rotate_left
        · intro w hSw; obtain ⟨c0, c1⟩ := hSw; go_simp; try with_reducible rfl
        refine wpAnyH_take (i := 13) (v := ?_) (by simp only [List.getElem?_toArray, List.getElem?_cons_succ, List.getElem?_cons_zero]; exact rfl) (by kernel_rfl) (by kernel_rfl) (by kernel_rfl) (by exact fun _ _ _ h => h) (Or.inl ⟨by rfl, ?_⟩) hS ?_
        rotate_left
        · intro w hSw; obtain ⟨c0, c1⟩ := hSw; go_simp; try with_reducible rfl
        refine wpAnyH_take (i := 14) (v := ?_) (by simp only [List.getElem?_toArray, List.getElem?_cons_succ, List.getElem?_cons_zero]; exact rfl) (by kernel_rfl) (by kernel_rfl) (by kernel_rfl) (by exact fun _ _ _ h => h) (Or.inl ⟨by rfl, ?_⟩) hS ?_
        rotate_left
        · intro w hSw; obtain ⟨c0, c1⟩ := hSw; go_simp; try with_reducible rfl
        refine wpAnyH_done (by kernel_rfl) ?_ _
        try simp only [Act.put, List.setIfInBounds_toArray, List.set_cons_succ, List.set_cons_zero]
        go_wp2
        go_ret2
        exact ⟨rfl, HB2.out.drew⟩
end Go.Proofs.YtlpillpfahkjdaaDoor
