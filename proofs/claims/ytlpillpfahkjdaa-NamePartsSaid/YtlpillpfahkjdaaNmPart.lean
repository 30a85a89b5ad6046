/- Walks of name's PartKey, and of the reference's. -/
import Derived.Test.YtlpillpfahkjdaaNmKey
namespace Go.Proofs.Ytlpillpfahkjdaa
open Go.RowKit Lib

namespace Nm
/-- The key of an upload's part. -/
def pkey (u : Nat) (p : Int) : Pk.Text := if 0 ≤ p ∧ p ≤ 255 then 112 :: (Wl.enc 8 u ++ [UInt8.ofNat p.toNat]) else []
theorem enc_one (n : Nat) : Wl.enc 1 n = [UInt8.ofNat n] := by
  rw [Pk.enc_cons, Nat.pow_zero, Nat.div_one]; rfl
theorem write_p (u q : Nat) (hu : u < 2 ^ 64) : Pk.write [98, 110, 98] [⟨112, []⟩, ⟨u, []⟩, ⟨q, []⟩] = if q < 256 then some (112 :: (Wl.enc 8 u ++ [UInt8.ofNat q])) else none := by
  have hb : ∀ n : Nat, Pk.ftext 98 ⟨n, []⟩ = if n < 256 then some [UInt8.ofNat n] else none := fun n => by
    unfold Pk.ftext
    rw [show Pk.width 98 = 1 from rfl, if_pos (by decide), enc_one]
    by_cases h : n < 256
    · rw [if_pos ⟨rfl, h⟩, if_pos h]
    · rw [if_neg (fun e => h e.2), if_neg h]
  have hn : Pk.ftext 110 ⟨u, []⟩ = some (Wl.enc 8 u) := by
    unfold Pk.ftext
    rw [show Pk.width 110 = 8 from rfl, if_pos (by decide), if_pos ⟨rfl, by exact hu⟩]
  unfold Pk.write
  rw [if_pos ⟨rfl, rfl⟩]
  simp only [Pk.wrs, hb, hn, List.nil_append]
  rw [if_pos (by decide)]
  by_cases h : q < 256
  · rw [if_pos h, if_pos h]; rfl
  · rw [if_neg h, if_neg h]
theorem pkey_write (u : Nat) (p : Int) (hu : u < 2 ^ 64) (hp : -9223372036854775808 ≤ p ∧ p ≤ 9223372036854775807) : Pk.write [98, 110, 98] [⟨112, []⟩, ⟨u, []⟩, ⟨(p % 18446744073709551616).toNat, []⟩] = if 0 ≤ p ∧ p ≤ 255 then some (pkey u p) else none := by
  rw [write_p u _ hu]
  unfold pkey
  by_cases h : 0 ≤ p ∧ p ≤ 255
  · rw [if_pos h, if_pos h, if_pos (by omega), show (p % 18446744073709551616).toNat = p.toNat by omega]
  · rw [if_neg h, if_neg (by omega)]
end Nm
set_option maxHeartbeats 1000000 in
theorem partKey_any (u : Nat) (p : Int) (w : World) (hu : u < 2 ^ 64) (hp : -9223372036854775808 ≤ p ∧ p ≤ 9223372036854775807) : Calls Try.prog 26 #[.int .u64 u, .int .i64 p] w fun e w' => e = .returned (.string (bs (Nm.pkey u p))) ∧ Below w.heap.size w w' := by
  obtain ⟨q, hq⟩ : ∃ q : Nat, q = (p % 18446744073709551616).toNat := ⟨_, rfl⟩
  have hqI : IntKind.u64.wrap p = (q : Int) := by rw [IntKind.wrap_u64]; omega
  have hql : q < 2 ^ 64 := by omega
  have HW1 := Lib.hid (fun W => write_any ⟨#[98, 110, 98]⟩ (.slice (some ⟨W.heap.size, 0, none⟩) 3 3) [⟨112, []⟩, ⟨u, []⟩, ⟨q, []⟩] _ (by decide) (show 3 ≤ _ by decide) (rdF_new W [⟨112, []⟩, ⟨u, []⟩, ⟨q, []⟩] (fun i hi => by
    have h3 : i = 0 ∨ i = 1 ∨ i = 2 := by simp at hi; omega
    rcases h3 with rfl | rfl | rfl
    · show 112 < _; decide
    · exact hu
    · exact hql)) (fun i hi => by
    have h3 : i = 0 ∨ i = 1 ∨ i = 2 := by simp at hi; omega
    rcases h3 with rfl | rfl | rfl <;> exact Nat.zero_le _))
  have hwr := Nm.pkey_write u p hu hp
  rw [← hq] at hwr
  rw [show (⟨#[98, 110, 98]⟩ : ByteArray).data.toList = [98, 110, 98] from rfl, hwr] at HW1
  obtain ⟨b, hV⟩ : ∃ b, wres (if 0 ≤ p ∧ p ≤ 255 then some (Nm.pkey u p) else none) = .tuple #[.string (bs (Nm.pkey u p)), .bool b] := by
    by_cases h : 0 ≤ p ∧ p ≤ 255
    · rw [if_pos h]; exact ⟨_, rfl⟩
    · rw [if_neg h]
      unfold Nm.pkey
      rw [if_neg h]; exact ⟨_, rfl⟩
  rw [hV] at HW1
  generalize bs (Nm.pkey u p) = T at *
  clear hwr hV hq hql hu hp
  go_enter Try.func26, Try.ntmps26
  go_wp2_with fail
  refine (HW1.out _).mono ?_
  rintro e w1 ⟨rfl, hb1⟩
  have HB1 := Lib.hid (((Below.refl _ w).alloc (Nat.le_refl _) _).trans (hb1.mono (by simp)))
  clear hb1
  go_wp2
  go_ret
  exact ⟨rfl, HB1.out⟩
theorem own_q {w W : World} (h : Below w.heap.size w W) (q : Nat) : Below w.heap.size w (W.alloc (.cells #[.int .u8 (IntKind.u8.wrap q)] 5)) ∧ OwnY 0 (W.alloc (.cells #[.int .u8 (IntKind.u8.wrap q)] 5)) (.slice (some ⟨W.heap.size, 0, none⟩) 1 1) [UInt8.ofNat q] := by
  refine ⟨h.alloc h.size _, ?_⟩
  have e : IntKind.u8.wrap (q : Int) = ((UInt8.ofNat q).toNat : Int) := by rw [IntKind.wrap_u8, UInt8.toNat_ofNat']; omega
  rw [e]
  exact (own_kind W (UInt8.ofNat q)).mono (Nat.zero_le _)
set_option maxHeartbeats 1000000 in
theorem refPartKey_any (u : Nat) (p : Int) (w : World) (hu : u < 2 ^ 64) : Calls Try.prog 27 #[.int .u64 u, .int .i64 p] w fun e w' => e = .returned (.string (bs (Nm.pkey u p))) ∧ Below w.heap.size w w' := by
  by_cases h0 : 0 ≤ p
  · have h0I : ¬ p < 0 := by omega
    by_cases h1 : p ≤ 255
    · have h1I : ¬ p > 255 := by omega
      obtain ⟨q, rfl⟩ : ∃ q : Nat, p = q := ⟨p.toNat, by omega⟩
      have HN := Lib.hid (fun W => refNumber_any u 8 W hu (by decide))
      have hv : Nm.pkey u (q : Int) = [112] ++ Wl.enc 8 u ++ [UInt8.ofNat q] := by
        unfold Nm.pkey
        rw [if_pos ⟨h0, h1⟩, Int.toNat_natCast]; rfl
      have HV := Lib.hid (show (⟨#[112]⟩ : ByteArray) ++ bs (Wl.enc 8 u) ++ bs [UInt8.ofNat q] = bs (Nm.pkey u (q : Int)) by
        rw [hv, ← bs_append, ← bs_append]; rfl)
      have s1 : (⟨#[112]⟩ : ByteArray).size + (bs (Wl.enc 8 u)).size ≤ 9223372036854775807 := by
        rw [bs_size, Wl.enc_length]; show 1 + 8 ≤ _; decide
      have s2 : ((⟨#[112]⟩ : ByteArray) ++ bs (Wl.enc 8 u)).size + (bs [UInt8.ofNat q]).size ≤ 9223372036854775807 := by
        rw [ByteArray.size_append, bs_size, bs_size, Wl.enc_length]; show 1 + 8 + 1 ≤ _; decide
      have s3 : ¬ 9223372036854775807 < 1 + (bs (Wl.enc 8 u)).size := by
        rw [bs_size, Wl.enc_length]; decide
      have s4 : ¬ 9223372036854775807 < 1 + (bs (Wl.enc 8 u)).size + (bs [UInt8.ofNat q]).size := by
        rw [bs_size, bs_size, Wl.enc_length]; show ¬ _ < 1 + 8 + 1; decide
      have HC := Lib.hid (Below.refl w.heap.size w).drew
      generalize bs (Nm.pkey u (q : Int)) = T at *
      generalize bs (Wl.enc 8 u) = X at *
      clear hv hu
      go_enter Try.func27, Try.ntmps27
      go_wp2_with (refine wp_region_any (by kernel_rfl) ?_; refine Hid.out ?_)
      refine Lib.hid ?_
      try (change wpAny _ _ _ _ _ _ _ (World.drew _))
      generalize w.drew = W at HC ⊢
      refine wpAny_take (i := 0) (v := ?_) (by simp only [List.getElem?_toArray, List.getElem?_cons_zero]; exact rfl) (by kernel_rfl) (by kernel_rfl) (by kernel_rfl) (by exact fun _ _ _ h => h) (Or.inl ⟨by rfl, ?_⟩) ?_
      rotate_left
      · intro w; go_simp; try with_reducible rfl
      refine wpAny_take (i := 3) (v := ?_) (by simp only [List.getElem?_toArray, List.getElem?_cons_succ, List.getElem?_cons_zero]; exact rfl) (by kernel_rfl) (by kernel_rfl) (by kernel_rfl) (by exact fun _ _ _ h => h) (Or.inl ⟨by rfl, ?_⟩) ?_
      rotate_left
      · intro w; go_simp; try with_reducible rfl
      refine wpAny_take (i := 4) (v := ?_) (by simp only [List.getElem?_toArray, List.getElem?_cons_succ, List.getElem?_cons_zero]; exact rfl) (by kernel_rfl) (by kernel_rfl) (by kernel_rfl) (by exact fun _ _ _ h => h) (Or.inl ⟨by rfl, ?_⟩) ?_
      rotate_left
      · intro w; go_simp; try with_reducible rfl
      try simp only [Act.put, List.setIfInBounds_toArray, List.set_cons_succ, List.set_cons_zero]
      refine wpAny_ready (rs := [1, 5]) (by kernel_rfl) (by simp) ?_
      refine AllReady.cons rfl (fun K hK => ?_) (AllReady.cons rfl (fun K hK => ?_) AllReady.nil)
      · go_simp
        refine (HN.out _).mono ?_
        rintro e w1 ⟨rfl, hb1⟩
        have HC := Lib.hid (HC.out.trans (hb1.mono HC.out.size))
        try have HO := Lib.hid (HO.out.below hb1 (Nat.le_refl _))
        clear hb1
        refine hK _ _ ?_; clear hK K
        refine wpAny_take (i := 2) (v := ?_) (by simp only [List.getElem?_toArray, List.getElem?_cons_succ, List.getElem?_cons_zero]; exact rfl) (by kernel_rfl) (by kernel_rfl) (by kernel_rfl) (by exact fun _ _ _ h => h) (Or.inl ⟨by rfl, ?_⟩) ?_
        rotate_left
        · intro w; go_simp; try with_reducible rfl
        try simp only [Act.put, List.setIfInBounds_toArray, List.set_cons_succ, List.set_cons_zero]
        refine wpAny_ready (rs := [5]) (by kernel_rfl) (by simp) ?_
        refine AllReady.cons rfl (fun K hK => ?_) AllReady.nil
        go_simp
        have HT := own_q HC.out q
        have HC := Lib.hid HT.1
        have HO := Lib.hid HT.2
        clear HT
        refine hK _ _ ?_; clear hK K
        refine wpAny_ready (rs := [6]) (by kernel_rfl) (by simp) ?_
        refine AllReady.cons rfl (fun K hK => ?_) AllReady.nil
        have hconv := OwnY.back HO.out
        go_simp
        refine hK _ _ ?_; clear hK K hconv
        refine wpAny_take (i := 7) (v := ?_) (by simp only [List.getElem?_toArray, List.getElem?_cons_succ, List.getElem?_cons_zero]; exact rfl) (by kernel_rfl) (by kernel_rfl) (by kernel_rfl) (by exact fun _ _ _ h => h) (Or.inl ⟨by rfl, ?_⟩) ?_
        rotate_left
        · intro w; go_simp; try with_reducible rfl
        refine wpAny_take (i := 8) (v := ?_) (by simp only [List.getElem?_toArray, List.getElem?_cons_succ, List.getElem?_cons_zero]; exact rfl) (by kernel_rfl) (by kernel_rfl) (by kernel_rfl) (by exact fun _ _ _ h => h) (Or.inl ⟨by rfl, ?_⟩) ?_
        rotate_left
        · intro w; go_simp; try with_reducible rfl
        refine wpAny_done (by kernel_rfl) ?_ _
        try simp only [Act.put, List.setIfInBounds_toArray, List.set_cons_succ, List.set_cons_zero]
        go_wp2
        go_ret
        exact ⟨congrArg (fun x => Ending.returned (Value.string x)) HV.out, HC.out⟩
      · go_simp
        have HT := own_q HC.out q
        have HC := Lib.hid HT.1
        have HO := Lib.hid HT.2
        clear HT
        refine hK _ _ ?_; clear hK K
        refine wpAny_ready (rs := [1, 6]) (by kernel_rfl) (by simp) ?_
        refine AllReady.cons rfl (fun K hK => ?_) (AllReady.cons rfl (fun K hK => ?_) AllReady.nil)
        · go_simp
          refine (HN.out _).mono ?_
          rintro e w1 ⟨rfl, hb1⟩
          have HC := Lib.hid (HC.out.trans (hb1.mono HC.out.size))
          try have HO := Lib.hid (HO.out.below hb1 (Nat.le_refl _))
          clear hb1
          refine hK _ _ ?_; clear hK K
          refine wpAny_take (i := 2) (v := ?_) (by simp only [List.getElem?_toArray, List.getElem?_cons_succ, List.getElem?_cons_zero]; exact rfl) (by kernel_rfl) (by kernel_rfl) (by kernel_rfl) (by exact fun _ _ _ h => h) (Or.inl ⟨by rfl, ?_⟩) ?_
          rotate_left
          · intro w; go_simp; try with_reducible rfl
          try simp only [Act.put, List.setIfInBounds_toArray, List.set_cons_succ, List.set_cons_zero]
          refine wpAny_ready (rs := [6]) (by kernel_rfl) (by simp) ?_
          refine AllReady.cons rfl (fun K hK => ?_) AllReady.nil
          have hconv := OwnY.back HO.out
          go_simp
          refine hK _ _ ?_; clear hK K hconv
          refine wpAny_take (i := 7) (v := ?_) (by simp only [List.getElem?_toArray, List.getElem?_cons_succ, List.getElem?_cons_zero]; exact rfl) (by kernel_rfl) (by kernel_rfl) (by kernel_rfl) (by exact fun _ _ _ h => h) (Or.inl ⟨by rfl, ?_⟩) ?_
          rotate_left
          · intro w; go_simp; try with_reducible rfl
          refine wpAny_take (i := 8) (v := ?_) (by simp only [List.getElem?_toArray, List.getElem?_cons_succ, List.getElem?_cons_zero]; exact rfl) (by kernel_rfl) (by kernel_rfl) (by kernel_rfl) (by exact fun _ _ _ h => h) (Or.inl ⟨by rfl, ?_⟩) ?_
          rotate_left
          · intro w; go_simp; try with_reducible rfl
          refine wpAny_done (by kernel_rfl) ?_ _
          try simp only [Act.put, List.setIfInBounds_toArray, List.set_cons_succ, List.set_cons_zero]
          go_wp2
          go_ret
          exact ⟨congrArg (fun x => Ending.returned (Value.string x)) HV.out, HC.out⟩
        · have hconv := OwnY.back HO.out
          go_simp
          refine hK _ _ ?_; clear hK K hconv
          refine wpAny_ready (rs := [1]) (by kernel_rfl) (by simp) ?_
          refine AllReady.cons rfl (fun K hK => ?_) AllReady.nil
          go_simp
          refine (HN.out _).mono ?_
          rintro e w1 ⟨rfl, hb1⟩
          have HC := Lib.hid (HC.out.trans (hb1.mono HC.out.size))
          try have HO := Lib.hid (HO.out.below hb1 (Nat.le_refl _))
          clear hb1
          refine hK _ _ ?_; clear hK K
          refine wpAny_take (i := 2) (v := ?_) (by simp only [List.getElem?_toArray, List.getElem?_cons_succ, List.getElem?_cons_zero]; exact rfl) (by kernel_rfl) (by kernel_rfl) (by kernel_rfl) (by exact fun _ _ _ h => h) (Or.inl ⟨by rfl, ?_⟩) ?_
          rotate_left
          · intro w; go_simp; try with_reducible rfl
          try simp only [Act.put, List.setIfInBounds_toArray, List.set_cons_succ, List.set_cons_zero]
          refine wpAny_take (i := 7) (v := ?_) (by simp only [List.getElem?_toArray, List.getElem?_cons_succ, List.getElem?_cons_zero]; exact rfl) (by kernel_rfl) (by kernel_rfl) (by kernel_rfl) (by exact fun _ _ _ h => h) (Or.inl ⟨by rfl, ?_⟩) ?_
          rotate_left
          · intro w; go_simp; try with_reducible rfl
          refine wpAny_take (i := 8) (v := ?_) (by simp only [List.getElem?_toArray, List.getElem?_cons_succ, List.getElem?_cons_zero]; exact rfl) (by kernel_rfl) (by kernel_rfl) (by kernel_rfl) (by exact fun _ _ _ h => h) (Or.inl ⟨by rfl, ?_⟩) ?_
          rotate_left
          · intro w; go_simp; try with_reducible rfl
          refine wpAny_done (by kernel_rfl) ?_ _
          try simp only [Act.put, List.setIfInBounds_toArray, List.set_cons_succ, List.set_cons_zero]
          go_wp2
          go_ret
          exact ⟨congrArg (fun x => Ending.returned (Value.string x)) HV.out, HC.out⟩
    · have h1I : p > 255 := by omega
      have hv : Nm.pkey u p = [] := by unfold Nm.pkey; rw [if_neg (by omega)]
      rw [hv]
      clear hv
      go_enter Try.func27, Try.ntmps27
      go_wp2
      go_ret
      exact ⟨rfl, Below.refl _ _⟩
  · have h0I : p < 0 := by omega
    have hv : Nm.pkey u p = [] := by unfold Nm.pkey; rw [if_neg (by omega)]
    rw [hv]
    clear hv
    go_enter Try.func27, Try.ntmps27
    go_wp2
    go_ret
    exact ⟨rfl, Below.refl _ _⟩
end Go.Proofs.Ytlpillpfahkjdaa
