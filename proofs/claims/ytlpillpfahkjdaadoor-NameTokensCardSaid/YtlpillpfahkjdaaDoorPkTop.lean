/- Walks of pack's Write, of rows of fields that lie anywhere. -/
import Derived.Test.YtlpillpfahkjdaaDoorPkField2
import Derived.Test.YtlpillpfahkjdaaDoorPkFirst
namespace Go.Proofs.YtlpillpfahkjdaaDoor
open Go.RowKit Lib

/-- v reads as the fields l. -/
def RdF (w : World) (v : Value) (l : List Pk.Fd) : Prop :=
  ∃ (a : Option Addr) (cap : Nat), v = .slice a l.length cap ∧ l.length ≤ cap ∧ ∀ i (_ : i < l.length), l[i].n < 2 ^ 64 ∧ ∃ g o, a = some ⟨g, o, none⟩ ∧ g < w.heap.size ∧
    ∀ j (hj : j < l.length), w.cell? ⟨g, o + j * 2, none⟩ = some (.int .u64 l[j].n) ∧ w.cell? ⟨g, o + j * 2 + 1, none⟩ = some (.string (bs l[j].s))
theorem RdF.below {w w' : World} {v : Value} {l : List Pk.Fd} (h : RdF w v l) (hb : Below w.heap.size w w') : RdF w' v l := by
  obtain ⟨a, cap, rfl, hc, hi⟩ := h
  refine ⟨a, cap, rfl, hc, fun i hil => ?_⟩
  obtain ⟨h0, g, o, rfl, e2, e3⟩ := hi i hil
  exact ⟨h0, g, o, rfl, Nat.lt_of_lt_of_le e2 hb.size, fun j hj => ⟨(hb.cell (p := ⟨g, o + j * 2, none⟩) e2).trans (e3 j hj).1, (hb.cell (p := ⟨g, o + j * 2 + 1, none⟩) e2).trans (e3 j hj).2⟩⟩
theorem rdF_own {B : Nat} {w : World} {v : Value} {l : List Pk.Fd} (h : Own fdElem 36 B w v l) (hn : ∀ f ∈ l, f.n < 2 ^ 64) : RdF w v l := by
  obtain ⟨a, cap, e, hc⟩ := Own.slice h
  refine ⟨a, cap, e, hc, fun i hi => ⟨hn _ (List.getElem_mem hi), ?_⟩⟩
  obtain ⟨g, cap', e', _, hg, _⟩ := Own.form h (by omega)
  have hl : Lies fdElem w g 0 l := Own.lies (cap := cap') (n := l.length) (by rw [← e']; exact h)
  rw [e] at e'
  injection e' with e1 e2 e3
  refine ⟨g, 0, e1, hg, fun j hj => ⟨?_, ?_⟩⟩
  · have := hl.at j 0 (by decide) hj (.int .u64 l[j].n) rfl
    simpa [fdElem] using this
  · have := hl.at j 1 (by decide) hj (.string (bs l[j].s)) rfl
    simpa [fdElem, Nat.add_assoc] using this
namespace Pk
theorem right_letter : ∀ (l : Text) (k : Nat) (h : k < l.length), right l = true → letter l[k] true = true
  | c :: r, 0, _, hr => by
    simp only [right, Bool.and_eq_true] at hr
    have := hr.1
    unfold letter at this ⊢
    simp only [Bool.or_eq_true, Bool.and_eq_true, List.getElem_cons_zero, Bool.and_true] at this ⊢
    rcases this with h | h
    · exact .inl h
    · exact .inr h.1
  | c :: r, k + 1, h, hr => by
    simp only [right, Bool.and_eq_true] at hr
    exact right_letter r k (by simpa using h) hr.2
theorem ftext_len {c : UInt8} {f : Fd} {t : Text} (h : ftext c f = some t) : t.length ≤ f.s.length + 8 := by
  unfold ftext at h
  have hw := width_le c
  split at h
  · split at h
    · injection h with h; subst h; rw [Wl.enc_length]; omega
    · cases h
  · split at h
    · cases h
    · split at h
      · injection h with h; subst h; omega
      · split at h
        · cases h
        · injection h with h; subst h; rw [List.length_append, Wl.enc_length]; omega
theorem wrs_step (acc k : Text) (l : List Fd) (i : Nat) (h1 : i < k.length) (h2 : i < l.length) : wrs acc (k.drop i) (l.drop i) = match ftext k[i] l[i] with
    | none => none
    | some a => wrs (acc ++ a) (k.drop (i + 1)) (l.drop (i + 1)) := by
  rw [List.drop_eq_getElem_cons h1, List.drop_eq_getElem_cons h2, wrs]
  cases ftext k[i] l[i] <;> rfl
end Pk
def wres (o : Option Pk.Text) : Value := match o with
  | some t => .tuple #[.string (bs t), .bool true]
  | none => .tuple #[.string ⟨#[]⟩, .bool false]

set_option maxHeartbeats 2000000 in
theorem write_any (ks : ByteArray) (v : Value) (l : List Pk.Fd) (w : World) (hk : ks.size ≤ 100) (hll : l.length ≤ 9223372036854775807) (hr : RdF w v l) (hs : ∀ i (h : i < l.length), l[i].s.length ≤ 10000) :
    Calls Tryd.prog 14 #[.string ks, v] w fun e w' => e = .returned (wres (Pk.write ks.data.toList l)) ∧ Below w.heap.size w w' := by
  have hkI : (ks.size : Int) ≤ 100 := by omega
  have hllI : (l.length : Int) ≤ 9223372036854775807 := by omega
  obtain ⟨a, cap, rfl, hcap, hcells⟩ := hr
  have HC := Lib.hid hcells
  have HSS := Lib.hid hs
  have HLEN := Lib.hid (show ks.data.toList.length = ks.size from Array.length_toList)
  clear hcells hs
  cases hrt : Pk.right ks.data.toList with
  | false =>
    have HV : Pk.write ks.data.toList l = none := by unfold Pk.write; rw [if_neg (by rw [hrt]; exact fun e => by cases e.1)]
    rw [HV]
    have HRI := Lib.hid (show ∀ W, Calls Tryd.prog 29 #[.string ks] W fun e w' => e = .returned (.bool false) ∧ w' = W from fun W => by have := right_any ks W (by omega); rw [hrt] at this; exact this)
    clear HV hrt
    go_enter Tryd.func14, Tryd.ntmps14
    go_wp2_with fail
    refine (HRI.out _).mono ?_
    rintro e w1 ⟨rfl, rfl⟩
    go_wp2
    go_ret2
    exact ⟨rfl, Below.refl _ _⟩
  | true =>
    have HRI := Lib.hid (show ∀ W, Calls Tryd.prog 29 #[.string ks] W fun e w' => e = .returned (.bool true) ∧ w' = W from fun W => by have := right_any ks W (by omega); rw [hrt] at this; exact this)
    by_cases hln : l.length = ks.size
    · have HV : Pk.write ks.data.toList l = Pk.wrs [] ks.data.toList l := by unfold Pk.write; rw [if_pos ⟨hrt, by rw [HLEN.out, hln]⟩]
      rw [HV]
      have HRT := Lib.hid hrt
      have hlnI : ((l.length : Int) != ks.size) = false := by rw [bne_eq_false_iff_eq]; omega
      have HLN := Lib.hid hln
      obtain ⟨L, hL⟩ : ∃ L, L = l.length := ⟨_, rfl⟩
      have HL := Lib.hid hL
      rw [← hL] at hlnI hllI ⊢
      clear HV hrt hln hL
      go_enter Tryd.func14, Tryd.ntmps14
      go_wp2_with fail
      refine (HRI.out _).mono ?_
      rintro e w1 ⟨rfl, rfl⟩
      go_wp2_with fail
      go_loopw [6, 21] (fun u i wr => ∃ k : Nat, k ≤ L ∧ i = .int .i64 k ∧ ∃ acc : List UInt8, Hid (acc.length ≤ k * 10008 ∧ Pk.wrs [] ks.data.toList l = Pk.wrs acc (ks.data.toList.drop k) (l.drop k)) ∧ Hid (OwnY w1.heap.size wr u acc) ∧ Hid (Below w1.heap.size w1 wr)) (fun _ i _ => L - (RowKit.intOf i).toNat)
      case atStart => exact ⟨0, Nat.zero_le _, rfl, [], Lib.hid ⟨Nat.zero_le _, rfl⟩, Lib.hid (Own.nil _ _ _ _), Lib.hid (Below.refl _ _)⟩
      case round =>
        obtain ⟨k, hk', rfl, acc, HA, HO, HB⟩ := hrel
        by_cases hlt : k < L
        · have hltI : (k : Int) < L := by omega
          have hk1 : k < l.length := by have := HL.out; omega
          have hk2 : k < ks.size := by have := HL.out; have := HLN.out; omega
          have hk2I : (k : Int) < ks.size := by omega
          obtain ⟨hn, g, o, rfl, hg, hc⟩ := HC.out k hk1
          have c0 : wr.cell? ⟨g, o + k * 2, none⟩ = some (.int .u64 l[k].n) := (HB.out.cell (p := ⟨g, o + k * 2, none⟩) hg).trans (hc k hk1).1
          have c1 : wr.cell? ⟨g, o + k * 2 + 1, none⟩ = some (.string (bs l[k].s)) := (HB.out.cell (p := ⟨g, o + k * 2 + 1, none⟩) hg).trans (hc k hk1).2
          have HST := Lib.hid (HA.out.2.trans (Pk.wrs_step acc ks.data.toList l k hk2 hk1))
          have hlet := Pk.right_letter ks.data.toList k hk2 HRT.out
          have hsk := HSS.out k hk1
          obtain ⟨f, hf⟩ : ∃ f, f = l[k] := ⟨_, rfl⟩
          rw [← hf] at hn c0 c1 hsk HST
          change Hid (_ = match Pk.ftext ks[k] f with | none => none | some a => _) at HST
          change Pk.letter ks[k] true = true at hlet
          obtain ⟨X, hX⟩ : ∃ X, X = bs f.s := ⟨_, rfl⟩
          rw [← hX] at c1
          have hfv : fdV f = .agg #[.int .u64 f.n, .string X] := by rw [hX]; rfl
          have HN := Lib.hid (show f.n < 2 ^ 64 ∧ f.s.length ≤ 10000 ∧ Pk.letter ks[k] true = true from ⟨hn, hsk, hlet⟩)
          clear hc hf hX hn hsk hlet
          cases hft : Pk.ftext ks[k] f with
          | none =>
            have HFI := Lib.hid (show ∀ W, Calls Tryd.prog 30 #[.int .u8 ks[k].toNat, .agg #[.int .u64 f.n, .string X]] W fun e w' => e = .returned (.bool false) ∧ Below W.heap.size W w' from fun W => by have := fits_any ks[k] f W HN.out.2.2 HN.out.1 (by have := HN.out; omega); rw [hft, hfv] at this; exact this)
            rw [hft] at HST
            clear hft hfv
            go_wp2_with (refine wp_region_any (by kernel_rfl) ?_; refine Hid.out ?_)
            refine Lib.hid ?_
            try (change wpAny _ _ _ _ _ _ _ (World.drew _))
            refine wpAny_take (i := 0) (v := ?_) (by simp only [List.getElem?_toArray, List.getElem?_cons_zero]; exact rfl) (by kernel_rfl) (by kernel_rfl) (by kernel_rfl) (by exact fun _ _ _ h => h) (Or.inl ⟨by rfl, ?_⟩) ?_
            rotate_left
            · intro w; go_simp; try with_reducible rfl
            refine wpAny_take (i := 1) (v := ?_) (by simp only [List.getElem?_toArray, List.getElem?_cons_succ, List.getElem?_cons_zero]; exact rfl) (by kernel_rfl) (by kernel_rfl) (by kernel_rfl) (by exact fun _ _ _ h => h) (Or.inl ⟨by rfl, ?_⟩) ?_
            rotate_left
            · intro w; go_simp; try with_reducible rfl
            refine wpAny_take (i := 2) (v := ?_) (by simp only [List.getElem?_toArray, List.getElem?_cons_succ, List.getElem?_cons_zero]; exact rfl) (by kernel_rfl) (by kernel_rfl) (by kernel_rfl) (by exact fun _ _ _ h => h) (Or.inl ⟨by rfl, ?_⟩) ?_
            rotate_left
            · intro w; go_simp; try with_reducible rfl
            refine wpAny_ready (rs := [3]) (by kernel_rfl) (by simp) ?_
            refine AllReady.cons rfl (fun K hK => ?_) AllReady.nil
            go_simp
            refine hK _ _ ?_; clear hK K
            refine wpAny_ready (rs := [4]) (by kernel_rfl) (by simp) ?_
            refine AllReady.cons rfl (fun K hK => ?_) AllReady.nil
            go_simp
            refine (HFI.out _).mono ?_; rintro e w3 ⟨rfl, hb3⟩
            refine hK _ _ ?_; clear hK K
            refine wpAny_ready (rs := [5]) (by kernel_rfl) (by simp) ?_
            refine AllReady.cons rfl (fun K hK => ?_) AllReady.nil
            go_simp
            refine hK _ _ ?_; clear hK K
            refine wpAny_done (by kernel_rfl) ?_ _
            clear c0 c1
            go_wp2
            go_ret2
            have hB3 : Below w1.heap.size w1 w3 := (HB.out.trans ((Below.refl _ wr).alloc HB.out.size _).drew).trans (hb3.mono (by have := HB.out.size; simp; omega))
            exact ⟨by rw [HST.out]; rfl, hB3⟩
          | some t =>
            have HFI := Lib.hid (show ∀ W, Calls Tryd.prog 30 #[.int .u8 ks[k].toNat, .agg #[.int .u64 f.n, .string X]] W fun e w' => e = .returned (.bool true) ∧ Below W.heap.size W w' from fun W => by have := fits_any ks[k] f W HN.out.2.2 HN.out.1 (by have := HN.out; omega); rw [hft, hfv] at this; exact this)
            have HTL := Lib.hid (Pk.ftext_len hft)
            have hacc : acc.length ≤ 1000800 := by have := HA.out.1; omega
            have HAP := Lib.hid (show ∀ W u, OwnY w1.heap.size W u acc → w1.heap.size ≤ W.heap.size → Calls Tryd.prog 31 #[u, .int .u8 ks[k].toNat, .agg #[.int .u64 f.n, .string X]] W fun e w' => ∃ v', e = .returned v' ∧ OwnY w1.heap.size w' v' (acc ++ t) ∧ Below w1.heap.size W w' from fun W u h1 h2 => by
              have := appendField_any ks[k] f t w1.heap.size W u acc hft HN.out.2.2 h1 h2 (by omega) HN.out.1 (by have := HN.out; omega); rw [hfv] at this; exact this)
            rw [hft] at HST
            clear hft hfv hacc
            go_wp2_with (refine wp_region_any (by kernel_rfl) ?_; refine Hid.out ?_)
            refine Lib.hid ?_
            try (change wpAny _ _ _ _ _ _ _ (World.drew _))
            refine wpAny_take (i := 0) (v := ?_) (by simp only [List.getElem?_toArray, List.getElem?_cons_zero]; exact rfl) (by kernel_rfl) (by kernel_rfl) (by kernel_rfl) (by exact fun _ _ _ h => h) (Or.inl ⟨by rfl, ?_⟩) ?_
            rotate_left
            · intro w; go_simp; try with_reducible rfl
            refine wpAny_take (i := 1) (v := ?_) (by simp only [List.getElem?_toArray, List.getElem?_cons_succ, List.getElem?_cons_zero]; exact rfl) (by kernel_rfl) (by kernel_rfl) (by kernel_rfl) (by exact fun _ _ _ h => h) (Or.inl ⟨by rfl, ?_⟩) ?_
            rotate_left
            · intro w; go_simp; try with_reducible rfl
            refine wpAny_take (i := 2) (v := ?_) (by simp only [List.getElem?_toArray, List.getElem?_cons_succ, List.getElem?_cons_zero]; exact rfl) (by kernel_rfl) (by kernel_rfl) (by kernel_rfl) (by exact fun _ _ _ h => h) (Or.inl ⟨by rfl, ?_⟩) ?_
            rotate_left
            · intro w; go_simp; try with_reducible rfl
            refine wpAny_ready (rs := [3]) (by kernel_rfl) (by simp) ?_
            refine AllReady.cons rfl (fun K hK => ?_) AllReady.nil
            go_simp
            refine hK _ _ ?_; clear hK K
            refine wpAny_ready (rs := [4]) (by kernel_rfl) (by simp) ?_
            refine AllReady.cons rfl (fun K hK => ?_) AllReady.nil
            go_simp
            refine (HFI.out _).mono ?_; rintro e w3 ⟨rfl, hb3⟩
            refine hK _ _ ?_; clear hK K
            refine wpAny_ready (rs := [5]) (by kernel_rfl) (by simp) ?_
            refine AllReady.cons rfl (fun K hK => ?_) AllReady.nil
            go_simp
            refine hK _ _ ?_; clear hK K
            refine wpAny_done (by kernel_rfl) ?_ _
            clear c0 c1
            have hB3 : Below w1.heap.size w1 w3 := (HB.out.trans ((Below.refl _ wr).alloc HB.out.size _).drew).trans (hb3.mono (by have := HB.out.size; simp; omega))
            have hblk : Blk w3 wr.heap.size 36 [.int .u64 f.n, .string X] := (Blk.new wr #[.int .u64 f.n, .string X] 36).drew.below hb3 (by simp)
            have c0 := hblk.cell (j := 0) rfl
            have c1 := hblk.cell (j := 1) rfl
            have ho3 : OwnY w1.heap.size w3 u6 acc := (HO.out.alloc _).drew.below hb3 (by simp)
            have H3 := Lib.hid (And.intro hB3 ho3)
            clear hb3 hblk hB3 ho3
            go_wp2_with (refine wp_region_any (by kernel_rfl) ?_; refine Hid.out ?_)
            refine Lib.hid ?_
            try (change wpAny _ _ _ _ _ _ _ (World.drew _))
            refine wpAny_take (i := 0) (v := ?_) (by simp only [List.getElem?_toArray, List.getElem?_cons_zero]; exact rfl) (by kernel_rfl) (by kernel_rfl) (by kernel_rfl) (by exact fun _ _ _ h => h) (Or.inl ⟨by rfl, ?_⟩) ?_
            rotate_left
            · intro w; go_simp; try with_reducible rfl
            refine wpAny_take (i := 1) (v := ?_) (by simp only [List.getElem?_toArray, List.getElem?_cons_succ, List.getElem?_cons_zero]; exact rfl) (by kernel_rfl) (by kernel_rfl) (by kernel_rfl) (by exact fun _ _ _ h => h) (Or.inl ⟨by rfl, ?_⟩) ?_
            rotate_left
            · intro w; go_simp; try with_reducible rfl
            refine wpAny_take (i := 2) (v := ?_) (by simp only [List.getElem?_toArray, List.getElem?_cons_succ, List.getElem?_cons_zero]; exact rfl) (by kernel_rfl) (by kernel_rfl) (by kernel_rfl) (by exact fun _ _ _ h => h) (Or.inl ⟨by rfl, ?_⟩) ?_
            rotate_left
            · intro w; go_simp; try with_reducible rfl
            refine wpAny_take (i := 3) (v := ?_) (by simp only [List.getElem?_toArray, List.getElem?_cons_succ, List.getElem?_cons_zero]; exact rfl) (by kernel_rfl) (by kernel_rfl) (by kernel_rfl) (by exact fun _ _ _ h => h) (Or.inl ⟨by rfl, ?_⟩) ?_
            rotate_left
            · intro w; go_simp; try with_reducible rfl
            refine wpAny_ready (rs := [4]) (by kernel_rfl) (by simp) ?_
            refine AllReady.cons rfl (fun K hK => ?_) AllReady.nil
            go_simp
            refine hK _ _ ?_; clear hK K
            refine wpAny_ready (rs := [5]) (by kernel_rfl) (by simp) ?_
            refine AllReady.cons rfl (fun K hK => ?_) AllReady.nil
            go_simp
            refine (HAP.out _ _ H3.out.2.drew H3.out.1.size).mono ?_; rintro e w4 ⟨v4, rfl, ho4, hb4⟩
            refine hK _ _ ?_; clear hK K
            refine wpAny_ready (rs := [6]) (by kernel_rfl) (by simp) ?_
            refine AllReady.cons rfl (fun K hK => ?_) AllReady.nil
            go_simp
            refine hK _ _ ?_; clear hK K
            refine wpAny_done (by kernel_rfl) ?_ _
            have H4 := Lib.hid (And.intro ho4 (H3.out.1.drew.trans hb4))
            clear ho4 hb4 c0 c1
            go_wp2
            go_roundw
            case rel => exact ⟨k + 1, by omega, by go_num, acc ++ t, Lib.hid ⟨by rw [List.length_append]; have := HA.out.1; have := HTL.out; have := HN.out.2.1; omega, HST.out⟩, Lib.hid H4.out.1, Lib.hid H4.out.2⟩
            case measure => simp [RowKit.intOf]; omega
        · have hke : k = L := by omega
          subst hke
          have hbk := HO.out.back
          have HZ := Lib.hid (show Pk.wrs [] ks.data.toList l = some acc by
            rw [HA.out.2, List.drop_of_length_le (by rw [HLEN.out]; have := HL.out; have := HLN.out; omega), List.drop_of_length_le (by have := HL.out; omega)]
            rfl)
          go_wp2
          go_ret2
          exact ⟨by rw [HZ.out]; rfl, HB.out⟩
    · have HV : Pk.write ks.data.toList l = none := by unfold Pk.write; rw [if_neg (by rw [HLEN.out]; exact fun e => hln e.2.symm)]
      rw [HV]
      have hlnI : ((l.length : Int) != ks.size) = true := by rw [bne_iff_ne]; omega
      clear HV hrt hln
      go_enter Tryd.func14, Tryd.ntmps14
      go_wp2_with fail
      refine (HRI.out _).mono ?_
      rintro e w1 ⟨rfl, rfl⟩
      go_wp2
      go_ret2
      exact ⟨rfl, Below.refl _ _⟩
end Go.Proofs.YtlpillpfahkjdaaDoor
