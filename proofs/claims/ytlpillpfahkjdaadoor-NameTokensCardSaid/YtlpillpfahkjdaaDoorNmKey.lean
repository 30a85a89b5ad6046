/- Walks of name's keys, and of the reference's. -/
import Derived.Test.YtlpillpfahkjdaaDoorNmNum
import Derived.Test.YtlpillpfahkjdaaDoorPkFalls
namespace Go.Proofs.YtlpillpfahkjdaaDoor
open Go.RowKit Lib

theorem reads_lit (w : World) (l : List Pk.Text) : Reads (w.alloc (.cells (l.map fun s => Value.string (bs s)).toArray 9)) (.slice (some ⟨w.heap.size, 0, none⟩) l.length l.length) l := by
  have hB := Blk.new w (l.map fun s => Value.string (bs s)).toArray 9
  refine ⟨_, _, rfl, Nat.le_refl _, fun i _ => ⟨w.heap.size, 0, rfl, by simp, fun j hj => ?_⟩⟩
  rw [Nat.zero_add]
  refine hB.cell ?_
  rw [List.getElem?_map, List.getElem?_eq_getElem hj]; rfl
/-- Under, of texts in a row just made. -/
theorem under_one (kind : UInt8) (b : ByteArray) (W : World) (hb : b.size ≤ 10000) : Calls Tryd.prog 27 #[.int .u8 kind.toNat, .slice (some ⟨W.heap.size, 0, none⟩) 1 1] (W.alloc (.cells #[.string b] 9)) fun e w' => e = .returned (.string (bs (Nm.under kind [b.data.toList]))) ∧ Below (W.alloc (.cells #[.string b] 9)).heap.size (W.alloc (.cells #[.string b] 9)) w' :=
  under_any kind _ [b.data.toList] _ (reads_lit W [b.data.toList]) (by
    intro i hi
    have h0 : i = 0 := by simp at hi; omega
    subst h0
    show b.data.toList.length ≤ _
    rw [Array.length_toList]; exact hb) (show 1 ≤ 100 by decide)
theorem under_two (kind : UInt8) (b i : ByteArray) (W : World) (hb : b.size ≤ 10000) (hi : i.size ≤ 10000) : Calls Tryd.prog 27 #[.int .u8 kind.toNat, .slice (some ⟨W.heap.size, 0, none⟩) 2 2] (W.alloc (.cells #[.string b, .string i] 9)) fun e w' => e = .returned (.string (bs (Nm.under kind [b.data.toList, i.data.toList]))) ∧ Below (W.alloc (.cells #[.string b, .string i] 9)).heap.size (W.alloc (.cells #[.string b, .string i] 9)) w' :=
  under_any kind _ [b.data.toList, i.data.toList] _ (reads_lit W [b.data.toList, i.data.toList]) (by
    intro k hk
    have h0 : k = 0 ∨ k = 1 := by simp at hk; omega
    rcases h0 with rfl | rfl
    · show b.data.toList.length ≤ _
      rw [Array.length_toList]; exact hb
    · show i.data.toList.length ≤ _
      rw [Array.length_toList]; exact hi) (show 2 ≤ 100 by decide)
namespace Nm
theorem under_key {kind : UInt8} {b i t : Pk.Text} (hb : bucket b = true) (hi : item i = true) : under kind [b, i] ++ t = key kind b i t := by
  rw [key_some hb hi, under_ok (by
    intro p hp
    rcases List.mem_cons.1 hp with rfl | hp
    · exact bucket_zero hb
    · rw [List.mem_singleton.1 hp]; exact item_zero hi)]
  simp
theorem under_len {kind : UInt8} {b i : Pk.Text} (hb : bucket b = true) (hi : item i = true) : (under kind [b, i]).length ≤ 67 := by
  have h := key_len (kind := kind) (b := b) (i := i) (t := [0, 0, 0, 0, 0, 0, 0, 0]) rfl
  rw [← under_key hb hi, List.length_append] at h
  omega
/-- A bucket's key. -/
def bkey (b : Pk.Text) : Pk.Text := if bucket b then under 98 [b] else []
end Nm
set_option maxHeartbeats 1000000 in
theorem nwrite_any (kind : UInt8) (b i t : ByteArray) (w : World) (ht : t.size ≤ 8) : Calls Tryd.prog 25 #[.int .u8 kind.toNat, .string b, .string i, .string t] w fun e w' => e = .returned (.string (bs (Nm.key kind b.data.toList i.data.toList t.data.toList))) ∧ Below w.heap.size w w' := by
  have HBK := Lib.hid (fun W => bucket_any b W)
  have HIT := Lib.hid (fun W => item_any i W)
  have hbl : b.data.toList.length = b.size := Array.length_toList
  have hil : i.data.toList.length = i.size := Array.length_toList
  cases hb : Nm.bucket b.data.toList with
  | false =>
    rw [hb] at HBK
    rw [Nm.key_none (by rw [hb]; exact fun h => by cases h.1)]
    clear hb hbl hil ht
    generalize (kind.toNat : Int) = K at *
    go_enter Tryd.func25, Tryd.ntmps25
    go_wp2_with fail
    refine (HBK.out _).mono ?_
    rintro e w1 ⟨rfl, rfl⟩
    go_wp2
    go_ret
    exact ⟨rfl, Below.refl _ _⟩
  | true =>
    rw [hb] at HBK
    cases hi : Nm.item i.data.toList with
    | false =>
      rw [hi] at HIT
      rw [Nm.key_none (by rw [hi]; exact fun h => by cases h.2)]
      clear hi hb hbl hil ht
      generalize (kind.toNat : Int) = K at *
      go_enter Tryd.func25, Tryd.ntmps25
      go_wp2_with fail
      refine (HBK.out _).mono ?_
      rintro e w1 ⟨rfl, rfl⟩
      go_wp2_with fail
      refine (HIT.out _).mono ?_
      rintro e w2 ⟨rfl, rfl⟩
      go_wp2
      go_ret
      exact ⟨rfl, Below.refl _ _⟩
    | true =>
      rw [hi] at HIT
      have h1 := Nm.bucket_len hb
      have h2 := Nm.item_len hi
      have HU := Lib.hid (fun W => under_two kind b i W (by omega) (by omega))
      have HV := Lib.hid (show bs (Nm.under kind [b.data.toList, i.data.toList]) ++ t = bs (Nm.key kind b.data.toList i.data.toList t.data.toList) by
        rw [← Nm.under_key hb hi, ← bs_append, bs_data])
      have hlen : (bs (Nm.under kind [b.data.toList, i.data.toList])).size + t.size ≤ 9223372036854775807 := by
        rw [bs_size]; have := Nm.under_len (kind := kind) hb hi; omega
      generalize bs (Nm.under kind [b.data.toList, i.data.toList]) = X at *
      clear hi hb hbl hil ht h1 h2
      generalize (kind.toNat : Int) = K at *
      go_enter Tryd.func25, Tryd.ntmps25
      go_wp2_with fail
      refine (HBK.out _).mono ?_
      rintro e w1 ⟨rfl, rfl⟩
      go_wp2_with fail
      refine (HIT.out _).mono ?_
      rintro e w2 ⟨rfl, rfl⟩
      go_wp2_with fail
      refine (HU.out _).mono ?_
      rintro e w3 ⟨rfl, hb3⟩
      have HB3 := Lib.hid (((Below.refl _ w2).alloc (Nat.le_refl _) _).trans (hb3.mono (by simp)))
      clear hb3
      go_wp2
      go_ret
      exact ⟨by rw [← HV.out]; rfl, HB3.out⟩
theorem versionKey_any (b i : ByteArray) (n : Nat) (w : World) (hn : n < 2 ^ 64) : Calls Tryd.prog 10 #[.string b, .string i, .int .u64 n] w fun e w' => e = .returned (.string (bs (Nm.key 118 b.data.toList i.data.toList (Wl.enc 8 (Pk.neg n))))) ∧ Below w.heap.size w w' := by
  have HF := Lib.hid (fun W => falls_any n W hn)
  have HWR := Lib.hid (fun W => nwrite_any 118 b i (bs (Wl.enc 8 (Pk.neg n))) W (by rw [bs_size, Wl.enc_length]; decide))
  rw [show ((118 : UInt8).toNat : Int) = 118 from rfl, bs_list] at HWR
  generalize Wl.enc 8 (Pk.neg n) = T at *
  generalize bs T = X at *
  go_enter Tryd.func10, Tryd.ntmps10
  go_wp2_with fail
  refine (HF.out _).mono ?_
  rintro e w1 ⟨rfl, hb1⟩
  have HB1 := Lib.hid hb1
  clear hb1
  go_wp2_with fail
  refine (HWR.out _).mono ?_
  rintro e w2 ⟨rfl, hb2⟩
  have HB2 := Lib.hid (HB1.out.trans (hb2.mono HB1.out.size))
  clear hb2
  go_wp2
  go_ret
  exact ⟨rfl, HB2.out⟩
theorem bucketKey_any (b : ByteArray) (w : World) : Calls Tryd.prog 11 #[.string b] w fun e w' => e = .returned (.string (bs (Nm.bkey b.data.toList))) ∧ Below w.heap.size w w' := by
  have HBK := Lib.hid (fun W => bucket_any b W)
  have hbl : b.data.toList.length = b.size := Array.length_toList
  unfold Nm.bkey
  cases hb : Nm.bucket b.data.toList with
  | false =>
    rw [hb] at HBK
    rw [if_neg (by decide)]
    clear hb hbl
    go_enter Tryd.func11, Tryd.ntmps11
    go_wp2_with fail
    refine (HBK.out _).mono ?_
    rintro e w1 ⟨rfl, rfl⟩
    go_wp2
    go_ret
    exact ⟨rfl, Below.refl _ _⟩
  | true =>
    rw [hb] at HBK
    rw [if_pos rfl]
    have h1 := Nm.bucket_len hb
    have HU := Lib.hid (fun W => under_one 98 b W (by omega))
    rw [show ((98 : UInt8).toNat : Int) = 98 from rfl] at HU
    generalize bs (Nm.under 98 [b.data.toList]) = X at *
    clear hb hbl h1
    go_enter Tryd.func11, Tryd.ntmps11
    go_wp2_with fail
    refine (HBK.out _).mono ?_
    rintro e w1 ⟨rfl, rfl⟩
    go_wp2_with fail
    refine (HU.out _).mono ?_
    rintro e w3 ⟨rfl, hb3⟩
    have HB3 := Lib.hid (((Below.refl _ w1).alloc (Nat.le_refl _) _).trans (hb3.mono (by simp)))
    clear hb3
    go_wp2
    go_ret
    exact ⟨rfl, HB3.out⟩
namespace Nm
theorem neg_sub (n : Nat) (hn : n < 2 ^ 64) : (18446744073709551615 : Int) - (n : Int) = (Pk.neg n : Nat) := by
  unfold Pk.neg; omega
end Nm
end Go.Proofs.YtlpillpfahkjdaaDoor
