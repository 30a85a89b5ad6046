/- Bytes in digits: plain lists. -/
import Derived.WalkKit
import Derived.Lib.Bytealg
namespace Go.Proofs.YtlpillpfahkjdaaDoor.Hx

/-- The digit of a number below 16. -/
def dig (n : Nat) : UInt8 := ([48, 49, 50, 51, 52, 53, 54, 55, 56, 57, 97, 98, 99, 100, 101, 102] : List UInt8).getD n 0
/-- The two digits of each byte. -/
def hex : List UInt8 → List UInt8
  | [] => []
  | c :: r => dig (c.toNat / 16) :: dig (c.toNat % 16) :: hex r
theorem hex_length (l : List UInt8) : (hex l).length = 2 * l.length := by
  induction l with
  | nil => rfl
  | cons c r ih => simp only [hex, List.length_cons, ih]; omega
theorem hex_append (a b : List UInt8) : hex (a ++ b) = hex a ++ hex b := by
  induction a with
  | nil => rfl
  | cons c r ih => simp only [List.cons_append, hex, ih]
theorem hex_snoc (l : List UInt8) (c : UInt8) : hex (l ++ [c]) = hex l ++ [dig (c.toNat / 16), dig (c.toNat % 16)] := by
  rw [hex_append]; rfl
theorem take_snoc (s : ByteArray) (k : Nat) (h : k < s.size) : s.data.toList.take (k + 1) = s.data.toList.take k ++ [s[k]] := by
  rw [List.take_succ_eq_append_getElem (by simpa using h)]; rfl

theorem take_all (s : ByteArray) (k : Nat) (h : ¬ k < s.size) : s.data.toList.take k = s.data.toList :=
  List.take_of_length_le (by rw [Array.length_toList]; exact Nat.le_of_not_lt h)
theorem and15 (c : UInt8) : bits BinOp.and IntKind.u8 (c.toNat) 15 = (c.toNat : Int) % 16 := by
  have h := u8_and_nat c.toNat 15 c.toNat_lt (by decide)
  have e : c.toNat &&& 15 = c.toNat % 16 := Nat.and_two_pow_sub_one_eq_mod c.toNat 4
  rw [e] at h
  simpa using h
theorem idx_fin : ∀ n : Fin 16, (⟨#[48, 49, 50, 51, 52, 53, 54, 55, 56, 57, 97, 98, 99, 100, 101, 102]⟩ : ByteArray)[n.val]'n.isLt = dig n.val := by decide +kernel
theorem dig_idx (n : Nat) (i : Int) (hi : i = n) (h : n < 16) (p : i.toNat < (⟨#[48, 49, 50, 51, 52, 53, 54, 55, 56, 57, 97, 98, 99, 100, 101, 102]⟩ : ByteArray).size) :
    (⟨#[48, 49, 50, 51, 52, 53, 54, 55, 56, 57, 97, 98, 99, 100, 101, 102]⟩ : ByteArray)[i.toNat]'p = dig n := by
  subst hi
  exact idx_fin ⟨n, h⟩
/-- Bytes as cells. -/
def bc (l : List UInt8) : List Value := l.map fun c => Value.int .u8 (c.toNat : Int)
theorem bc_length (l : List UInt8) : (bc l).length = l.length := by simp [bc]
theorem bc_append (a b : List UInt8) : bc (a ++ b) = bc a ++ bc b := by simp [bc]
/-- The number of a digit; below 0: none. -/
def val (c : UInt8) : Int := if 48 ≤ c.toNat ∧ c.toNat ≤ 57 then (c.toNat : Int) - 48 else if 97 ≤ c.toNat ∧ c.toNat ≤ 102 then (c.toNat : Int) - 87 else -1
theorem dig_fin : ∀ n : Fin 16, (⟨#[48, 49, 50, 51, 52, 53, 54, 55, 56, 57, 97, 98, 99, 100, 101, 102]⟩ : ByteArray).extract n.val (n.val + 1) = ⟨#[dig n.val]⟩ := by decide +kernel
theorem dig_ex (n : Nat) (h : n < 16) : (⟨#[48, 49, 50, 51, 52, 53, 54, 55, 56, 57, 97, 98, 99, 100, 101, 102]⟩ : ByteArray).extract n (n + 1) = ⟨#[dig n]⟩ := dig_fin ⟨n, h⟩
theorem hex_step (l : List UInt8) (c : UInt8) : ((⟨(hex l).toArray⟩ : ByteArray) ++ (⟨#[48, 49, 50, 51, 52, 53, 54, 55, 56, 57, 97, 98, 99, 100, 101, 102]⟩ : ByteArray).extract (c.toNat / 16) (c.toNat / 16 + 1) ++
    (⟨#[48, 49, 50, 51, 52, 53, 54, 55, 56, 57, 97, 98, 99, 100, 101, 102]⟩ : ByteArray).extract (c.toNat % 16) (c.toNat % 16 + 1)) = ⟨(hex l ++ [dig (c.toNat / 16), dig (c.toNat % 16)]).toArray⟩ := by
  have hc := c.toNat_lt
  rw [dig_ex _ (by omega), dig_ex _ (by omega)]
  apply ByteArray.ext
  simp

def sixteen : List UInt8 := [48, 49, 50, 51, 52, 53, 54, 55, 56, 57, 97, 98, 99, 100, 101, 102]
theorem idx_val (c : UInt8) : Lib.indexByte [48, 49, 50, 51, 52, 53, 54, 55, 56, 57, 97, 98, 99, 100, 101, 102] c = val c := by
  have h : ∀ n : Fin 256, Lib.indexByte [48, 49, 50, 51, 52, 53, 54, 55, 56, 57, 97, 98, 99, 100, 101, 102] (UInt8.ofNat n.val) = val (UInt8.ofNat n.val) := by decide +kernel
  have := h ⟨c.toNat, c.toNat_lt⟩
  simpa using this
theorem val_ge (c : UInt8) : -1 ≤ val c := by unfold val; (repeat' split) <;> omega
theorem val_le (c : UInt8) : val c ≤ 15 := by unfold val; (repeat' split) <;> omega
/-- The byte of two digits' numbers. -/
def pair (a b : Int) : UInt8 := UInt8.ofNat (16 * a.toNat + b.toNat)
/-- The bytes that digits stand for. -/
def raw : List UInt8 → Option (List UInt8)
  | [] => some []
  | [_] => none
  | a :: b :: r => if val a < 0 ∨ val b < 0 then none else (raw r).map fun l => pair (val a) (val b) :: l
theorem or_fin : ∀ a b : Fin 16, bits BinOp.or IntKind.i64 ((a.val : Int) * 16) (b.val : Int) % 256 = ((UInt8.ofNat (16 * a.val + b.val)).toNat : Int) := by decide +kernel
theorem or_val (a b : Int) (ha : 0 ≤ a) (ha' : a ≤ 15) (hb : 0 ≤ b) (hb' : b ≤ 15) : bits BinOp.or IntKind.i64 (a * 16) b % 256 = ((pair a b).toNat : Int) := by
  have h := or_fin ⟨a.toNat, by omega⟩ ⟨b.toNat, by omega⟩
  have e1 : ((a.toNat : Nat) : Int) = a := by omega
  have e2 : ((b.toNat : Nat) : Int) = b := by omega
  simp only [e1, e2] at h
  exact h
theorem sum_val (a b : Int) (ha : 0 ≤ a) (ha' : a ≤ 15) (hb : 0 ≤ b) (hb' : b ≤ 15) : (16 * a + b) = ((pair a b).toNat : Int) := by
  unfold pair
  rw [UInt8.toNat_ofNat']
  omega
theorem str_snoc (l : List UInt8) (x : UInt8) : ((⟨l.toArray⟩ : ByteArray) ++ ⟨#[x]⟩) = ⟨(l ++ [x]).toArray⟩ := by
  apply ByteArray.ext
  simp
/-- What Raw hands back. -/
def rawV (l : List UInt8) : Value := .tuple #[.string ⟨((raw l).getD []).toArray⟩, .bool (raw l).isSome]
theorem raw_odd : ∀ (n : Nat) (l : List UInt8), l.length = 2 * n + 1 → raw l = none
  | 0, [_], _ => rfl
  | n + 1, a :: b :: r, h => by
    rw [raw, raw_odd n r (by simp at h; omega)]
    simp
theorem rawV_none {l : List UInt8} (h : raw l = none) : rawV l = .tuple #[.string ⟨#[]⟩, .bool false] := by simp [rawV, h]
theorem rawV_some {l r : List UInt8} (h : raw l = some r) : rawV l = .tuple #[.string ⟨r.toArray⟩, .bool true] := by simp [rawV, h]
theorem drop_two (s : ByteArray) (k : Nat) (h : k + 1 < s.size) : s.data.toList.drop k = s[k] :: s[k + 1] :: s.data.toList.drop (k + 2) := by
  have hl : s.data.toList.length = s.size := Array.length_toList
  rw [List.drop_eq_getElem_cons (by omega), List.drop_eq_getElem_cons (by omega)]
  rfl
theorem drop_one (s : ByteArray) (k : Nat) (h : k + 1 = s.size) : s.data.toList.drop k = [s[k]] := by
  have hl : s.data.toList.length = s.size := Array.length_toList
  rw [List.drop_eq_getElem_cons (by omega), List.drop_eq_nil_of_le (by omega)]
  rfl
/-- What a loop over pairs has when it is at place k. -/
def RawAt (s : ByteArray) (k : Nat) (l : List UInt8) : Prop := raw s.data.toList = (raw (s.data.toList.drop k)).map (fun r => l ++ r) ∧ 2 * l.length = k
theorem rawAt_zero (s : ByteArray) : RawAt s 0 [] := by
  refine ⟨?_, rfl⟩
  rw [List.drop_zero]
  cases raw s.data.toList <;> rfl
theorem rawAt_bad {s : ByteArray} {k : Nat} {l : List UInt8} (h : RawAt s k l) (hk : k + 1 < s.size) (hb : val s[k] < 0 ∨ val s[k + 1] < 0) : raw s.data.toList = none := by
  rw [h.1, drop_two s k hk, raw, if_pos hb]; rfl
theorem rawAt_step {s : ByteArray} {k : Nat} {l : List UInt8} (h : RawAt s k l) (hk : k + 1 < s.size) (hb : ¬ (val s[k] < 0 ∨ val s[k + 1] < 0)) :
    RawAt s (k + 2) (l ++ [pair (val s[k]) (val s[k + 1])]) := by
  refine ⟨?_, ?_⟩
  · rw [h.1, drop_two s k hk, raw, if_neg hb]
    cases raw (List.drop (k + 2) s.data.toList) <;> simp
  · have := h.2
    simp
    omega
theorem rawAt_end {s : ByteArray} {k : Nat} {l : List UInt8} (h : RawAt s k l) (hk : s.size ≤ k) : raw s.data.toList = some l := by
  have hl : s.data.toList.length = s.size := Array.length_toList
  rw [h.1, List.drop_eq_nil_of_le (by omega), raw]
  simp
theorem rawAt_single {s : ByteArray} {k : Nat} {l : List UInt8} (h : RawAt s k l) (hk : k + 1 = s.size) : raw s.data.toList = none := by
  rw [h.1, drop_one s k hk, raw]; rfl
theorem val_dig (n : Nat) (h : n < 16) : val (dig n) = n := by
  have h' : ∀ n : Fin 16, val (dig n.val) = n.val := by decide +kernel
  exact h' ⟨n, h⟩
theorem raw_hex (l : List UInt8) : raw (hex l) = some l := by
  induction l with
  | nil => rfl
  | cons c r ih =>
    have hc := c.toNat_lt
    rw [hex, raw, val_dig _ (by omega), val_dig _ (by omega), if_neg (by omega), ih, Option.map_some]
    unfold pair
    have e : 16 * ((c.toNat / 16 : Nat) : Int).toNat + ((c.toNat % 16 : Nat) : Int).toNat = c.toNat := by omega
    rw [e]
    simp
end Go.Proofs.YtlpillpfahkjdaaDoor.Hx
