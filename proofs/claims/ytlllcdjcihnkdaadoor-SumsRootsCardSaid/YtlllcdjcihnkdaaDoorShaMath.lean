/- The fingerprint: plain numbers. -/
import Derived.WalkKit
import Derived.Laws.BitsAllLaws
namespace Go.Proofs.YtlllcdjcihnkdaaDoor.Sha

/-- x turned right by i. -/
def rotr (x i : Nat) : Nat := x * 2 ^ (32 - i) % 4294967296 + x / 2 ^ i
/-- Turned by a, by b, shifted by c. -/
def small (x a b c : Nat) : Nat := rotr x a ^^^ rotr x b ^^^ x / 2 ^ c
/-- Turned by a, b and c. -/
def great (x a b c : Nat) : Nat := rotr x a ^^^ rotr x b ^^^ rotr x c

theorem pow_split (i : Nat) (hi : i ≤ 32) : 2 ^ (32 - i) * 2 ^ i = 4294967296 := by
  rw [← Nat.pow_add, show 32 - i + i = 32 by omega]
theorem high (x n : Nat) (hn : n ≤ 32) : x * 2 ^ n % 4294967296 = 2 ^ n * (x % 2 ^ (32 - n)) := by
  rw [← pow_split n hn, Nat.mul_mod_mul_right, Nat.mul_comm]
theorem low_lt (x n : Nat) (hx : x < 4294967296) (hn : n ≤ 32) : x / 2 ^ (32 - n) < 2 ^ n := by
  rw [Nat.div_lt_iff_lt_mul (Nat.pow_pos (by decide)), Nat.mul_comm, pow_split n hn]
  exact hx
theorem rotr_or (x i : Nat) (hx : x < 4294967296) (hi : i ≤ 32) : x * 2 ^ (32 - i) % 4294967296 ||| x / 2 ^ i = rotr x i := by
  have h := low_lt x (32 - i) hx (by omega)
  rw [show 32 - (32 - i) = i by omega] at h
  unfold rotr
  rw [high x (32 - i) (by omega), Nat.two_pow_add_eq_or_of_lt h]
theorem rotr_lt (x i : Nat) (hx : x < 4294967296) (hi : i ≤ 32) : rotr x i < 4294967296 := by
  rw [← rotr_or x i hx hi]
  refine Nat.or_lt_two_pow (n := 32) (Nat.mod_lt _ (by decide)) (Nat.lt_of_le_of_lt (Nat.div_le_self _ _) hx)
theorem xor_lt {a b : Nat} (ha : a < 4294967296) (hb : b < 4294967296) : a ^^^ b < 4294967296 := Nat.xor_lt_two_pow (n := 32) ha hb
theorem shr_lt (x c : Nat) (hx : x < 4294967296) : x / 2 ^ c < 4294967296 := Nat.lt_of_le_of_lt (Nat.div_le_self _ _) hx
theorem small_lt (x a b c : Nat) (hx : x < 4294967296) (ha : a ≤ 32) (hb : b ≤ 32) : small x a b c < 4294967296 :=
  xor_lt (xor_lt (rotr_lt x a hx ha) (rotr_lt x b hx hb)) (shr_lt x c hx)
theorem great_lt (x a b c : Nat) (hx : x < 4294967296) (ha : a ≤ 32) (hb : b ≤ 32) (hc : c ≤ 32) : great x a b c < 4294967296 :=
  xor_lt (xor_lt (rotr_lt x a hx ha) (rotr_lt x b hx hb)) (rotr_lt x c hx hc)

/-- A number turned left by minus i, in the model's words. -/
theorem count (i n : Nat) (hi : 1 ≤ i) (hi' : i ≤ 31) (hn : n = 32 - i) : bits BinOp.and IntKind.u64 (IntKind.u64.wrap (-(i : Int))) 31 = (n : Int) := by
  have hw : IntKind.u64.wrap (-(i : Int)) = ((18446744073709551616 - i : Nat) : Int) := by rw [IntKind.wrap_u64]; omega
  rw [hw]
  have h := u64_and_nat (18446744073709551616 - i) 31 (by omega) (by decide)
  rw [show (18446744073709551616 - i) &&& 31 = (18446744073709551616 - i) % 32 from Nat.and_two_pow_sub_one_eq_mod _ 5] at h
  rw [show ((31 : Nat) : Int) = 31 from rfl] at h
  rw [h]
  omega
theorem rot_bits (x i n : Nat) (hx : x < 4294967296) (hi : 1 ≤ i) (hi' : i ≤ 31) (hn : n = 32 - i) :
    bits BinOp.or IntKind.u32 ((x : Int) * 2 ^ n % 4294967296) ((x : Int) / 2 ^ (32 - n)) = ((rotr x i : Nat) : Int) := by
  have h := u32_or_nat (x * 2 ^ (32 - i) % 4294967296) (x / 2 ^ i) (Nat.mod_lt _ (by decide)) (shr_lt x i hx)
  rw [rotr_or x i hx (by omega)] at h
  rw [← h, hn, show 32 - (32 - i) = i by omega]
  simp

theorem byte_at (s : ByteArray) (i : Int) (j : Nat) (hi : i = j) (p : i.toNat < s.size) : s[i.toNat]'p = s.data.toList.getD j 0 := by
  subst hi
  have h : j < s.data.toList.length := by rw [Array.length_toList]; exact p
  rw [List.getD_eq_getElem?_getD, List.getElem?_eq_getElem h]
  rfl
/-- The number of four bytes from place 4 j on. -/
def wordL (l : List UInt8) (j : Nat) : Nat := (l.getD (4 * j) 0).toNat * 16777216 + (l.getD (4 * j + 1) 0).toNat * 65536 + (l.getD (4 * j + 2) 0).toNat * 256 + (l.getD (4 * j + 3) 0).toNat
def wordAt (s : ByteArray) (j : Nat) : Nat := wordL s.data.toList j
theorem wordAt_lt (s : ByteArray) (j : Nat) : wordAt s j < 4294967296 := by
  unfold wordAt wordL
  have h0 := (s.data.toList.getD (4 * j) 0).toNat_lt
  have h1 := (s.data.toList.getD (4 * j + 1) 0).toNat_lt
  have h2 := (s.data.toList.getD (4 * j + 2) 0).toNat_lt
  have h3 := (s.data.toList.getD (4 * j + 3) 0).toNat_lt
  omega
/-- The sixteen numbers of a block. -/
def words : Nat → ByteArray → List Nat
  | 0, _ => []
  | n + 1, s => words n s ++ [wordAt s n]
theorem words_length (n : Nat) (s : ByteArray) : (words n s).length = n := by
  induction n with
  | zero => rfl
  | succ n ih => simp [words, ih]
/-- The number that follows. -/
def next (l : List Nat) : Nat := (l.getD (l.length - 16) 0 + small (l.getD (l.length - 15) 0) 7 18 3 + l.getD (l.length - 7) 0 + small (l.getD (l.length - 2) 0) 17 19 10) % 4294967296
def ext : Nat → List Nat → List Nat
  | 0, l => l
  | n + 1, l => ext n l ++ [next (ext n l)]
theorem ext_succ (n : Nat) (l : List Nat) : ext (n + 1) l = ext n l ++ [next (ext n l)] := rfl
theorem ext_zero (l : List Nat) : ext 0 l = l := rfl
theorem words_succ (n : Nat) (s : ByteArray) : words (n + 1) s = words n s ++ [wordAt s n] := rfl
theorem words_zero (s : ByteArray) : words 0 s = [] := rfl
theorem ext_length (n : Nat) (l : List Nat) : (ext n l).length = l.length + n := by
  induction n with
  | zero => rfl
  | succ n ih => simp [ext, ih]; omega
/-- The schedule of a block. -/
def sched (s : ByteArray) : List Nat := ext 48 (words 16 s)
theorem words_lt (n : Nat) (s : ByteArray) : ∀ x ∈ words n s, x < 4294967296 := by
  induction n with
  | zero => intro x hx; cases hx
  | succ n ih =>
    intro x hx
    rcases List.mem_append.1 hx with h | h
    · exact ih x h
    · obtain rfl : x = wordAt s n := by simpa using h
      exact wordAt_lt s n
theorem ext_lt (n : Nat) (l : List Nat) (hl : ∀ x ∈ l, x < 4294967296) : ∀ x ∈ ext n l, x < 4294967296 := by
  induction n with
  | zero => exact hl
  | succ n ih =>
    intro x hx
    rcases List.mem_append.1 hx with h | h
    · exact ih x h
    · obtain rfl : x = next (ext n l) := by simpa using h
      exact Nat.mod_lt _ (by decide)
theorem getD_lt (l : List Nat) (hl : ∀ x ∈ l, x < 4294967296) (j : Nat) : l.getD j 0 < 4294967296 := by
  by_cases h : j < l.length
  · have e : l.getD j 0 = l[j] := by simp [h]
    rw [e]
    exact hl _ (List.getElem_mem h)
  · simp [List.getD, List.getElem?_eq_none (Nat.le_of_not_lt h)]
/-- A list that is filled from the left, the rest zeros. -/
def fill (p : List Nat) (n : Nat) : List Nat := p ++ List.replicate n 0
theorem fill_length (p : List Nat) (n : Nat) : (fill p n).length = p.length + n := by simp [fill]
theorem fill_set (p : List Nat) (n v : Nat) : (fill p (n + 1)).set p.length v = fill (p ++ [v]) n := by
  simp [fill, List.replicate_succ]
theorem fill_get (p : List Nat) (n j : Nat) (h : j < p.length) : (fill p n).getD j 0 = p.getD j 0 := by
  simp [fill, List.getD, List.getElem?_append_left h]
theorem fill_zero (p : List Nat) : fill p 0 = p := by simp [fill]

theorem wrap_u32_in (n : Int) (h0 : 0 ≤ n) (h : n ≤ 4294967295) : IntKind.u32.wrap n = n := by rw [IntKind.wrap_u32']; omega
/-- Four bytes put together, in the model's words. -/
theorem four (a b c d : Nat) (ha : a < 256) (hb : b < 256) (hc : c < 256) (hd : d < 256) :
    bits BinOp.or IntKind.u32 (bits BinOp.or IntKind.u32 (bits BinOp.or IntKind.u32 ((a : Int) * 16777216) ((b : Int) * 65536)) ((c : Int) * 256)) (d : Int) = ((a * 16777216 + b * 65536 + c * 256 + d : Nat) : Int) := by
  have h1 : bits BinOp.or IntKind.u32 ((a : Int) * 16777216) ((b : Int) * 65536) = ((a * 16777216 + b * 65536 : Nat) : Int) := by
    have h := u32_or_nat (a * 16777216) (b * 65536) (by omega) (by omega)
    have e : a * 16777216 ||| b * 65536 = a * 16777216 + b * 65536 := by
      have := Nat.two_pow_add_eq_or_of_lt (i := 24) (b := b * 65536) (by omega) a
      rw [Nat.mul_comm a, ← this]
    rw [e] at h
    simpa using h
  have h2 : bits BinOp.or IntKind.u32 ((a * 16777216 + b * 65536 : Nat) : Int) ((c : Int) * 256) = ((a * 16777216 + b * 65536 + c * 256 : Nat) : Int) := by
    have h := u32_or_nat (a * 16777216 + b * 65536) (c * 256) (by omega) (by omega)
    have e : (a * 16777216 + b * 65536) ||| c * 256 = a * 16777216 + b * 65536 + c * 256 := by
      have := Nat.two_pow_add_eq_or_of_lt (i := 16) (b := c * 256) (by omega) (a * 256 + b)
      rw [show a * 16777216 + b * 65536 = 2 ^ 16 * (a * 256 + b) by omega, ← this]
    rw [e] at h
    simpa using h
  have h3 : bits BinOp.or IntKind.u32 ((a * 16777216 + b * 65536 + c * 256 : Nat) : Int) (d : Int) = ((a * 16777216 + b * 65536 + c * 256 + d : Nat) : Int) := by
    have h := u32_or_nat (a * 16777216 + b * 65536 + c * 256) d (by omega) (by omega)
    have e : (a * 16777216 + b * 65536 + c * 256) ||| d = a * 16777216 + b * 65536 + c * 256 + d := by
      have := Nat.two_pow_add_eq_or_of_lt (i := 8) (b := d) (by omega) (a * 65536 + b * 256 + c)
      rw [show a * 16777216 + b * 65536 + c * 256 = 2 ^ 8 * (a * 65536 + b * 256 + c) by omega, ← this]
    rw [e] at h
    exact h
  rw [h1, h2, h3]
theorem add4 (a b c d : Nat) : IntKind.u32.wrap (IntKind.u32.wrap (IntKind.u32.wrap ((a : Int) + b) + c) + d) = (((a + b + c + d) % 4294967296 : Nat) : Int) := by
  simp only [IntKind.wrap_u32']
  omega
theorem sched_length (s : ByteArray) : (sched s).length = 64 := by rw [sched, ext_length, words_length]
theorem sched_lt (s : ByteArray) : ∀ x ∈ sched s, x < 4294967296 := ext_lt _ _ (words_lt _ _)
/-- The number that follows, by its four. -/
theorem next_of (l : List Nat) (k a b c d : Nat) (hk : l.length = k) (ha : a = l.getD (k - 16) 0) (hb : b = l.getD (k - 15) 0) (hc : c = l.getD (k - 7) 0) (hd : d = l.getD (k - 2) 0) :
    next l = (a + small b 7 18 3 + c + small d 17 19 10) % 4294967296 := by
  subst hk ha hb hc hd
  rfl

/-- The numbers K. -/
def cubes : List Nat := [1116352408, 1899447441, 3049323471, 3921009573, 961987163, 1508970993, 2453635748, 2870763221, 3624381080, 310598401, 607225278, 1426881987, 1925078388, 2162078206, 2614888103, 3248222580, 3835390401, 4022224774, 264347078, 604807628, 770255983, 1249150122, 1555081692, 1996064986, 2554220882, 2821834349, 2952996808, 3210313671, 3336571891, 3584528711, 113926993, 338241895, 666307205, 773529912, 1294757372, 1396182291, 1695183700, 1986661051, 2177026350, 2456956037, 2730485921, 2820302411, 3259730800, 3345764771, 3516065817, 3600352804, 4094571909, 275423344, 430227734, 506948616, 659060556, 883997877, 958139571, 1322822218, 1537002063, 1747873779, 1955562222, 2024104815, 2227730452, 2361852424, 2428436474, 2756734187, 3204031479, 3329325298]
def cubeAt (i : Nat) : Nat := cubes.getD i 0
theorem cubeAt_lt (i : Nat) : cubeAt i < 4294967296 := by
  by_cases h : i < 64
  · exact (by decide +kernel : ∀ r : Fin 64, cubeAt r.val < 4294967296) ⟨i, h⟩
  · simp [cubeAt, List.getD, List.getElem?_eq_none (show cubes.length ≤ i by simp [cubes]; omega)]
/-- Eight numbers. -/
structure V8 where
  a : Nat
  b : Nat
  c : Nat
  d : Nat
  e : Nat
  f : Nat
  g : Nat
  h : Nat
structure V8.ok (v : V8) : Prop where
  a : v.a < 4294967296
  b : v.b < 4294967296
  c : v.c < 4294967296
  d : v.d < 4294967296
  e : v.e < 4294967296
  f : v.f < 4294967296
  g : v.g < 4294967296
  h : v.h < 4294967296
def V8.list (v : V8) : List Nat := [v.a, v.b, v.c, v.d, v.e, v.f, v.g, v.h]
theorem V8.ok.list {v : V8} (h : v.ok) : ∀ x ∈ v.list, x < 4294967296 := by
  intro x hx
  simp only [V8.list, List.mem_cons, List.not_mem_nil, or_false] at hx
  rcases hx with rfl | rfl | rfl | rfl | rfl | rfl | rfl | rfl
  · exact h.a
  · exact h.b
  · exact h.c
  · exact h.d
  · exact h.e
  · exact h.f
  · exact h.g
  · exact h.h
def ch (e f g : Nat) : Nat := (e &&& f) + ((4294967295 - e) &&& g)
def maj (a b c : Nat) : Nat := (a &&& b) ||| (a &&& c) ||| (b &&& c)
def one (k w : Nat) (v : V8) : Nat := v.h + great v.e 6 11 25 + ch v.e v.f v.g + k + w
def two (v : V8) : Nat := great v.a 2 13 22 + maj v.a v.b v.c
def rnd (k w : Nat) (v : V8) : V8 := ⟨(one k w v + two v) % 4294967296, v.a, v.b, v.c, (v.d + one k w v) % 4294967296, v.e, v.f, v.g⟩
theorem rnd_ok (k w : Nat) {v : V8} (h : v.ok) : (rnd k w v).ok := ⟨Nat.mod_lt _ (by decide), h.a, h.b, h.c, Nat.mod_lt _ (by decide), h.e, h.f, h.g⟩
def rounds (K : Nat → Nat) (ws : List Nat) (v : V8) : Nat → V8
  | 0 => v
  | n + 1 => rnd (K n) (ws.getD n 0) (rounds K ws v n)
theorem rounds_succ (K : Nat → Nat) (ws : List Nat) (v : V8) (n : Nat) : rounds K ws v (n + 1) = rnd (K n) (ws.getD n 0) (rounds K ws v n) := rfl
theorem rounds_zero (K : Nat → Nat) (ws : List Nat) (v : V8) : rounds K ws v 0 = v := rfl
theorem rounds_ok (K : Nat → Nat) (ws : List Nat) {v : V8} (h : v.ok) (n : Nat) : (rounds K ws v n).ok := by
  induction n with
  | zero => exact h
  | succ n ih => exact rnd_ok _ _ ih
def addV (v r : V8) : V8 := ⟨(v.a + r.a) % 4294967296, (v.b + r.b) % 4294967296, (v.c + r.c) % 4294967296, (v.d + r.d) % 4294967296, (v.e + r.e) % 4294967296, (v.f + r.f) % 4294967296, (v.g + r.g) % 4294967296, (v.h + r.h) % 4294967296⟩
theorem addV_ok (v r : V8) : (addV v r).ok := ⟨Nat.mod_lt _ (by decide), Nat.mod_lt _ (by decide), Nat.mod_lt _ (by decide), Nat.mod_lt _ (by decide), Nat.mod_lt _ (by decide), Nat.mod_lt _ (by decide), Nat.mod_lt _ (by decide), Nat.mod_lt _ (by decide)⟩
/-- The numbers behind one more block. -/
def mix (K : Nat → Nat) (ws : List Nat) (v : V8) : V8 := addV v (rounds K ws v 64)

theorem mix_eq (K : Nat → Nat) (ws : List Nat) (v : V8) : mix K ws v = addV v (rounds K ws v 64) := rfl
theorem sched_eq (s : ByteArray) : sched s = ext 48 (words 16 s) := rfl
theorem and_lt {a b : Nat} (ha : a < 4294967296) : a &&& b < 4294967296 := Nat.lt_of_le_of_lt Nat.and_le_left ha
theorem add_or (x y : Nat) (hx : x < 4294967296) (hy : y < 4294967296) (h : x &&& y = 0) : x + y = x ||| y := by
  have hX : (BitVec.ofNat 33 x).toNat = x := by rw [BitVec.toNat_ofNat]; exact Nat.mod_eq_of_lt (by omega)
  have hY : (BitVec.ofNat 33 y).toNat = y := by rw [BitVec.toNat_ofNat]; exact Nat.mod_eq_of_lt (by omega)
  have h0 : BitVec.ofNat 33 x &&& BitVec.ofNat 33 y = 0#33 := by
    apply BitVec.eq_of_toNat_eq
    rw [BitVec.toNat_and, hX, hY, h]
    rfl
  have h1 := congrArg BitVec.toNat (BitVec.add_eq_or_of_and_eq_zero _ _ h0)
  rw [BitVec.toNat_add, BitVec.toNat_or, hX, hY, Nat.mod_eq_of_lt (by omega)] at h1
  exact h1
/-- What e's bits choose, put together without carry. -/
theorem ch_xor (e f g : Nat) (he : e < 4294967296) : (e &&& f) ^^^ ((4294967295 - e) &&& g) = ch e f g := by
  have hd : (e &&& f) &&& ((4294967295 - e) &&& g) = 0 := by
    apply Nat.eq_of_testBit_eq
    intro i
    have h1 := Nat.testBit_two_pow_sub_succ (n := 32) (x := e) he i
    rw [show 2 ^ 32 - (e + 1) = 4294967295 - e by omega] at h1
    simp only [Nat.testBit_and, h1, Nat.zero_testBit]
    cases e.testBit i <;> simp
  have hx : (e &&& f) < 4294967296 := and_lt he
  have hy : ((4294967295 - e) &&& g) < 4294967296 := and_lt (by omega)
  have h4 : (e &&& f) ^^^ ((4294967295 - e) &&& g) = (e &&& f) ||| ((4294967295 - e) &&& g) := by
    apply Nat.eq_of_testBit_eq
    intro i
    have h5 : ((e &&& f) &&& ((4294967295 - e) &&& g)).testBit i = false := by rw [hd]; exact Nat.zero_testBit i
    rw [Nat.testBit_and] at h5
    rw [Nat.testBit_xor, Nat.testBit_or]
    revert h5
    cases (e &&& f).testBit i <;> cases ((4294967295 - e) &&& g).testBit i <;> simp
  rw [h4, ← add_or _ _ hx hy hd]
  rfl
theorem maj_xor (a b c : Nat) : (a &&& b) ^^^ (a &&& c) ^^^ (b &&& c) = maj a b c := by
  apply Nat.eq_of_testBit_eq
  intro i
  simp only [maj, Nat.testBit_xor, Nat.testBit_or, Nat.testBit_and]
  cases a.testBit i <;> cases b.testBit i <;> cases c.testBit i <;> rfl
theorem max32 : IntKind.u32.max = ((4294967295 : Nat) : Int) := by decide
theorem turn (x : Nat) (h : x < 4294967296) : bits BinOp.xor IntKind.u32 IntKind.u32.max (x : Int) = ((4294967295 - x : Nat) : Int) := by
  rw [max32, u32_xor_nat _ _ (by decide) h]
  congr 1
  apply Nat.eq_of_testBit_eq
  intro i
  have h1 := Nat.testBit_two_pow_sub_succ (n := 32) (x := x) h i
  rw [show (4294967295 - x : Nat) = 2 ^ 32 - (x + 1) by omega, h1, Nat.testBit_xor]
  have h2 := Nat.testBit_two_pow_sub_one 32 i
  rw [show (2 : Nat) ^ 32 - 1 = 4294967295 from rfl] at h2
  rw [h2]
  by_cases hi : i < 32
  · simp [hi]
  · have hx : x.testBit i = false := Nat.testBit_lt_two_pow (Nat.lt_of_lt_of_le h (Nat.pow_le_pow_right (by decide : (2 : Nat) > 0) (by omega : 32 ≤ i)))
    simp [hi, hx]
theorem ch_bits (e f g : Nat) (he : e < 4294967296) (hf : f < 4294967296) (hg : g < 4294967296) :
    bits BinOp.xor IntKind.u32 (bits BinOp.and IntKind.u32 (e : Int) (f : Int)) (bits BinOp.and IntKind.u32 (bits BinOp.xor IntKind.u32 IntKind.u32.max (e : Int)) (g : Int)) = ((ch e f g : Nat) : Int) := by
  rw [turn e he, u32_and_nat _ _ he hf, u32_and_nat _ _ (by omega) hg, u32_xor_nat _ _ (and_lt he) (and_lt (by omega)), ch_xor e f g he]
theorem maj_bits (a b c : Nat) (ha : a < 4294967296) (hb : b < 4294967296) (hc : c < 4294967296) :
    bits BinOp.xor IntKind.u32 (bits BinOp.xor IntKind.u32 (bits BinOp.and IntKind.u32 (a : Int) (b : Int)) (bits BinOp.and IntKind.u32 (a : Int) (c : Int))) (bits BinOp.and IntKind.u32 (b : Int) (c : Int)) = ((maj a b c : Nat) : Int) := by
  rw [u32_and_nat _ _ ha hb, u32_and_nat _ _ ha hc, u32_and_nat _ _ hb hc, u32_xor_nat _ _ (and_lt ha) (and_lt ha), u32_xor_nat _ _ (xor_lt (and_lt ha) (and_lt ha)) (and_lt hb), maj_xor]
theorem add5 (a b c d e : Nat) : IntKind.u32.wrap (IntKind.u32.wrap (IntKind.u32.wrap (IntKind.u32.wrap ((a : Int) + b) + c) + d) + e) = (((a + b + c + d + e) % 4294967296 : Nat) : Int) := by
  simp only [IntKind.wrap_u32']
  omega
theorem add2 (a b : Nat) : IntKind.u32.wrap ((a : Int) + b) = (((a + b) % 4294967296 : Nat) : Int) := by
  simp only [IntKind.wrap_u32']
  omega
theorem two_form (a b : Nat) : ((a : Int) + b) % 4294967296 = (((a + b) % 4294967296 : Nat) : Int) := by omega
/-- The numbers of one round, as a walk meets them. -/
theorem round_way (k w : Nat) (v : V8) : ∃ T U D A : Nat, T < 4294967296 ∧ U < 4294967296 ∧ D < 4294967296 ∧ A < 4294967296 ∧
    (((v.h + great v.e 6 11 25 + ch v.e v.f v.g + k + w) % 4294967296 : Nat) : Int) = (T : Int) ∧ (((great v.a 2 13 22 + maj v.a v.b v.c) % 4294967296 : Nat) : Int) = (U : Int) ∧
    (((v.d + T) % 4294967296 : Nat) : Int) = (D : Int) ∧ (((T + U) % 4294967296 : Nat) : Int) = (A : Int) ∧ rnd k w v = ⟨A, v.a, v.b, v.c, D, v.e, v.f, v.g⟩ := by
  refine ⟨one k w v % 4294967296, two v % 4294967296, (v.d + one k w v) % 4294967296, (one k w v + two v) % 4294967296, Nat.mod_lt _ (by decide), Nat.mod_lt _ (by decide), Nat.mod_lt _ (by decide), Nat.mod_lt _ (by decide), rfl, rfl, ?_, ?_, rfl⟩
  · rw [Nat.add_mod_mod]
  · rw [← Nat.add_mod]
/-- A number in four bytes, the highest first. -/
def bytes4 (x : Nat) : List UInt8 := [UInt8.ofNat (x / 16777216), UInt8.ofNat (x / 65536), UInt8.ofNat (x / 256), UInt8.ofNat x]
def spellTo (l : List Nat) : Nat → List UInt8
  | 0 => []
  | n + 1 => spellTo l n ++ bytes4 (l.getD n 0)
theorem spellTo_length (l : List Nat) (n : Nat) : (spellTo l n).length = 4 * n := by
  induction n with
  | zero => rfl
  | succ n ih => simp [spellTo, ih, bytes4]; omega
theorem b0 (x : Nat) (h : x < 4294967296) : (x : Int) / 16777216 = ((UInt8.ofNat (x / 16777216)).toNat : Int) := by rw [UInt8.toNat_ofNat']; omega
theorem b1 (x : Nat) : (x : Int) / 65536 % 256 = ((UInt8.ofNat (x / 65536)).toNat : Int) := by rw [UInt8.toNat_ofNat']; omega
theorem b2 (x : Nat) : (x : Int) / 256 % 256 = ((UInt8.ofNat (x / 256)).toNat : Int) := by rw [UInt8.toNat_ofNat']; omega
theorem b3 (x : Nat) : (x : Int) % 256 = ((UInt8.ofNat x).toNat : Int) := by rw [UInt8.toNat_ofNat']; omega

/-- How many bytes 0 follow. -/
def zs (n : Nat) : Nat := (119 - n % 64) % 64
theorem zs_no (n k : Nat) (h : k < zs n) : (n + 1 + k) % 64 ≠ 56 := by unfold zs at h; omega
theorem zs_yes (n : Nat) : (n + 1 + zs n) % 64 = 56 := by unfold zs; omega
theorem zs_le (n : Nat) : zs n ≤ 63 := by unfold zs; omega
def len8 (n : Nat) : Nat → List UInt8
  | 0 => []
  | k + 1 => len8 n k ++ [UInt8.ofNat (n / 2 ^ (56 - 8 * k))]
theorem len8_length (n k : Nat) : (len8 n k).length = k := by
  induction k with
  | zero => rfl
  | succ k ih => simp [len8, ih]
/-- A text with what follows it: the byte 128, k bytes 0. -/
def zeros (l : List UInt8) (k : Nat) : List UInt8 := l ++ 128 :: List.replicate k 0
theorem zeros_length (l : List UInt8) (k : Nat) : (zeros l k).length = l.length + 1 + k := by simp [zeros]; omega
theorem zeros_snoc (l : List UInt8) (k : Nat) : zeros l k ++ [0] = zeros l (k + 1) := by simp [zeros, List.replicate_succ']
/-- A text with all that follows it. -/
def pad (l : List UInt8) (bits : Nat) : List UInt8 := zeros l (zs l.length) ++ len8 bits 8
theorem pad_length (l : List UInt8) (bits : Nat) : (pad l bits).length = l.length + 1 + zs l.length + 8 := by simp [pad, zeros_length, len8_length]
theorem pad_mod (l : List UInt8) (bits : Nat) : (pad l bits).length % 64 = 0 := by
  rw [pad_length]
  have := zs_yes l.length
  omega
theorem shr8 (n p : Nat) : (n : Int) / 2 ^ p % 256 = ((UInt8.ofNat (n / 2 ^ p)).toNat : Int) := by
  rw [UInt8.toNat_ofNat']
  have e : ((n / 2 ^ p : Nat) : Int) = (n : Int) / 2 ^ p := by simp
  rw [← e]
  omega
/-- The sixteen numbers of block i of a message. -/
def wordsL : Nat → List UInt8 → Nat → List Nat
  | 0, _, _ => []
  | n + 1, m, i => wordsL n m i ++ [wordL m (16 * i + n)]
def schedL (m : List UInt8) (i : Nat) : List Nat := ext 48 (wordsL 16 m i)
def H0 : V8 := ⟨1779033703, 3144134277, 1013904242, 2773480762, 1359893119, 2600822924, 528734635, 1541459225⟩
/-- The numbers behind i blocks of a message. -/
def state (K : Nat → Nat) (h : V8) (m : List UInt8) : Nat → V8
  | 0 => h
  | i + 1 => mix K (schedL m i) (state K h m i)
theorem state_succ (K : Nat → Nat) (h : V8) (m : List UInt8) (i : Nat) : state K h m (i + 1) = mix K (schedL m i) (state K h m i) := rfl
theorem state_zero (K : Nat → Nat) (h : V8) (m : List UInt8) : state K h m 0 = h := rfl
theorem H0_ok : H0.ok := ⟨by decide, by decide, by decide, by decide, by decide, by decide, by decide, by decide⟩
theorem mix_ok (K : Nat → Nat) (ws : List Nat) (v : V8) : (mix K ws v).ok := addV_ok _ _
/-- A text with what follows it. -/
def message (l : List UInt8) : List UInt8 := pad l (8 * l.length)
/-- The fingerprint, by a first H and K. -/
def by_ (K : Nat → Nat) (h : V8) (l : List UInt8) : List UInt8 := spellTo (state K h (message l) ((message l).length / 64)).list 8
/-- The fingerprint. -/
def print (l : List UInt8) : List UInt8 := by_ cubeAt H0 l

theorem wordsL_of (p : ByteArray) (m : List UInt8) (i n : Nat) (hn : n ≤ 16) (h : ∀ j, j < 64 → p.data.toList.getD j 0 = m.getD (64 * i + j) 0) : words n p = wordsL n m i := by
  induction n with
  | zero => rfl
  | succ n ih =>
    rw [words, wordsL, ih (by omega)]
    have e : wordAt p n = wordL m (16 * i + n) := by
      unfold wordAt wordL
      rw [h (4 * n) (by omega), h (4 * n + 1) (by omega), h (4 * n + 2) (by omega), h (4 * n + 3) (by omega)]
      rw [show 64 * i + 4 * n = 4 * (16 * i + n) by omega, show 64 * i + (4 * n + 1) = 4 * (16 * i + n) + 1 by omega, show 64 * i + (4 * n + 2) = 4 * (16 * i + n) + 2 by omega, show 64 * i + (4 * n + 3) = 4 * (16 * i + n) + 3 by omega]
    rw [e]
theorem sched_of (p : ByteArray) (m : List UInt8) (i : Nat) (h : ∀ j, j < 64 → p.data.toList.getD j 0 = m.getD (64 * i + j) 0) : sched p = schedL m i := by
  rw [sched_eq, schedL, wordsL_of p m i 16 (Nat.le_refl _) h]
theorem message_cons (l : List UInt8) : message l = l ++ (128 :: List.replicate (zs l.length) 0 ++ len8 (8 * l.length) 8) := by simp [message, pad, zeros]
theorem part_get (s : ByteArray) (a j : Nat) (hj : j < 64) : (s.extract a (a + 64)).data.toList.getD j 0 = s.data.toList.getD (a + j) 0 := by
  have hl : s.data.toList.length = s.size := Array.length_toList
  have e : (s.extract a (a + 64)).data.toList = (s.data.toList.drop a).take 64 := by
    rw [ByteArray.data_extract, Array.toList_extract]
    simp [List.extract]
  rw [e]
  simp only [List.getD_eq_getElem?_getD]
  rw [List.getElem?_take_of_lt hj, List.getElem?_drop]
/-- A whole block of a text. -/
theorem sched_whole (s : ByteArray) (i : Nat) (h : 64 * i + 64 ≤ s.size) : sched (s.extract (64 * i) (64 * i + 64)) = schedL (message s.data.toList) i := by
  have hl : s.data.toList.length = s.size := Array.length_toList
  refine sched_of _ _ i fun j hj => ?_
  rw [part_get s _ j hj, message_cons]
  simp only [List.getD_eq_getElem?_getD]
  rw [List.getElem?_append_left (by omega)]
theorem zs_drop (l : List UInt8) (n : Nat) (h : 64 * n ≤ l.length) : zs (l.drop (64 * n)).length = zs l.length := by
  rw [List.length_drop]
  unfold zs
  omega
theorem message_split (l : List UInt8) (n : Nat) (h : 64 * n ≤ l.length) : message l = l.take (64 * n) ++ pad (l.drop (64 * n)) (8 * l.length) := by
  unfold message pad zeros
  rw [zs_drop l n h]
  conv => lhs; rw [← List.take_append_drop (64 * n) l]
  simp only [List.append_assoc]
  rw [List.take_append_drop]
theorem end_drop (s : ByteArray) (a : Nat) : (s.extract a s.size).data.toList = s.data.toList.drop a := by
  have hl : s.data.toList.length = s.size := Array.length_toList
  rw [ByteArray.data_extract, Array.toList_extract]
  simp [List.extract]
  rw [List.take_of_length_le (by rw [List.length_drop]; omega)]
theorem message_blocks (l : List UInt8) (n : Nat) (E : ByteArray) (h : 64 * n ≤ l.length) (hE : E.data.toList = pad (l.drop (64 * n)) (8 * l.length)) : (message l).length / 64 = n + E.size / 64 ∧ E.size % 64 = 0 := by
  have hl : E.data.toList.length = E.size := Array.length_toList
  have hp := pad_mod (l.drop (64 * n)) (8 * l.length)
  rw [← hE, hl] at hp
  rw [message_split l n h, ← hE, List.length_append, hl, List.length_take]
  omega
theorem pad_le (l : List UInt8) (b : Nat) (h : l.length ≤ 63) : (pad l b).length ≤ 200 := by
  rw [pad_length]
  have := zs_le l.length
  omega
/-- A block of a text's ending. -/
theorem sched_end (l : List UInt8) (n i : Nat) (E : ByteArray) (h : 64 * n ≤ l.length) (hE : E.data.toList = pad (l.drop (64 * n)) (8 * l.length)) (_hi : 64 * i + 64 ≤ E.size) :
    sched (E.extract (64 * i) (64 * i + 64)) = schedL (message l) (n + i) := by
  have hl : E.data.toList.length = E.size := Array.length_toList
  refine sched_of _ _ (n + i) fun j hj => ?_
  rw [part_get E _ j hj, message_split l n h, ← hE]
  simp only [List.getD_eq_getElem?_getD]
  have ht : (l.take (64 * n)).length = 64 * n := by rw [List.length_take]; omega
  rw [List.getElem?_append_right (by omega), ht]
  congr 2
  omega
attribute [irreducible] sched rounds mix
end Go.Proofs.YtlllcdjcihnkdaaDoor.Sha
