/- Walks of pack's fields: fits, appendField, firstField. -/
import Derived.Test.YtlpillpfahkjdaaDoorPkNum
import Derived.Test.YtlpillpfahkjdaaDoorClone
namespace Go.Proofs.YtlpillpfahkjdaaDoor
open Go.RowKit Lib

/-- A field as a value; its cells. -/
def fdV (f : Pk.Fd) : Value := .agg #[.int .u64 f.n, .string (bs f.s)]
def fdElem : Elem Pk.Fd := ⟨fun f => [.int .u64 f.n, .string (bs f.s)], 2, by decide, fun _ => rfl, fun f u hu => by
  simp only [List.mem_cons, List.not_mem_nil, or_false] at hu
  rcases hu with rfl | rfl <;> rfl⟩
theorem fdST : SliceT Tryd.prog 37 36 fdElem.size := SliceT.of (size := 2) (bytes := 24) (z := .agg #[.int .u64 0, .string .empty]) Tryd.underlying37 (by kernel_rfl) rfl (by decide)
theorem shift_zero (n w : Nat) : ((n : Int) / 2 ^ (8 * w) == 0) = decide (n < 256 ^ w) := by
  have e : (n : Int) / 2 ^ (8 * w) = ((n / 256 ^ w : Nat) : Int) := by
    rw [Int.natCast_ediv]
    congr 1
    rw [show (256 : Nat) = 2 ^ 8 from rfl, ← Nat.pow_mul, Int.natCast_pow]
    rfl
  rw [e, Bool.eq_iff_iff, beq_iff_eq, decide_eq_true_eq]
  have hp : 0 < 256 ^ w := Nat.pow_pos (by decide)
  constructor
  · intro h
    have h' : n / 256 ^ w = 0 := by omega
    exact (Nat.div_eq_zero_iff_lt hp).1 h'
  · intro h
    have h' : n / 256 ^ w = 0 := (Nat.div_eq_zero_iff_lt hp).2 h
    omega
theorem bs_nil_iff (l : List UInt8) : bs l = ⟨#[]⟩ ↔ l = [] := by
  constructor
  · intro h
    have := congrArg ByteArray.size h
    rw [bs_size] at this
    exact List.eq_nil_of_length_eq_zero this
  · rintro rfl; rfl
theorem below_drawn' {B : Nat} {w : World} (_ : B ≤ w.heap.size) (m : Nat) : Below B w (w.drewN m) := ⟨rfl, rfl, rfl, Nat.le_refl _, fun _ _ => rfl⟩
namespace Pk
theorem ftext_num {c : UInt8} {f : Fd} (h : width c ≠ 0) : ftext c f = if f.s = [] ∧ f.n < 256 ^ width c then some (Wl.enc (width c) f.n) else none := by unfold ftext; rw [if_pos h]
theorem ftext_text (f : Fd) : ftext 116 f = if f.n = 0 ∧ f.s.length ≤ 65535 then some (Wl.enc 2 f.s.length ++ f.s) else none := by
  unfold ftext
  rw [if_neg (by decide), if_neg (by decide : ¬ (116 : UInt8) = 114)]
  by_cases h : f.n = 0
  · by_cases h2 : f.s.length ≤ 65535
    · rw [if_neg (by simpa using h), if_neg (by omega), if_pos ⟨h, h2⟩]
    · rw [if_neg (by simpa using h), if_pos (by omega), if_neg (fun e => h2 e.2)]
  · rw [if_pos h, if_neg (fun e => h e.1)]
theorem ftext_rest (f : Fd) : ftext 114 f = if f.n = 0 then some f.s else none := by
  unfold ftext
  rw [if_neg (by decide), if_pos rfl]
  by_cases h : f.n = 0
  · rw [if_neg (by simpa using h), if_pos h]
  · rw [if_pos h, if_neg h]
theorem number_letter {c : UInt8} (h : (c = 110 ∧ (c.toNat : Int) = 110 ∧ width c = 8) ∨ (c = 104 ∧ (c.toNat : Int) = 104 ∧ width c = 4) ∨ (c = 98 ∧ (c.toNat : Int) = 98 ∧ width c = 1)) : width c ≠ 0 ∧ ((c.toNat : Int) == 116) = false ∧ ((c.toNat : Int) == 114) = false := by
  rcases h with ⟨rfl, _, _⟩ | ⟨rfl, _, _⟩ | ⟨rfl, _, _⟩ <;> decide
theorem letter_what {c : UInt8} (h : letter c true = true) : (width c ≠ 0 ∧ ((c.toNat : Int) == 116) = false ∧ ((c.toNat : Int) == 114) = false) ∨ (c = 116 ∧ (c.toNat : Int) = 116) ∨ (c = 114 ∧ (c.toNat : Int) = 114) := by
  rcases letters c with ⟨h1, h2, h3, _⟩ | ⟨h1, h2, h3, _⟩ | ⟨h1, h2, h3, _⟩ | ⟨h1, h2, _, _⟩ | ⟨h1, h2, _, _⟩ | ⟨_, _, h4⟩
  · exact .inl (number_letter (.inl ⟨h1, h2, h3⟩))
  · exact .inl (number_letter (.inr (.inl ⟨h1, h2, h3⟩)))
  · exact .inl (number_letter (.inr (.inr ⟨h1, h2, h3⟩)))
  · exact .inr (.inl ⟨h1, h2⟩)
  · exact .inr (.inr ⟨h1, h2⟩)
  · rw [h4] at h; cases h
end Pk

set_option maxHeartbeats 1000000 in
theorem fits_any (c : UInt8) (f : Pk.Fd) (w : World) (hc : Pk.letter c true = true) (hn : f.n < 2 ^ 64) (hs : f.s.length ≤ 1000000) :
    Calls Tryd.prog 30 #[.int .u8 c.toNat, fdV f] w fun e w' => e = .returned (.bool (Pk.ftext c f).isSome) ∧ Below w.heap.size w w' := by
  obtain ⟨n, s⟩ := f
  unfold fdV
  simp only at hn hs ⊢
  have hsz := bs_size s
  have hnil := bs_nil_iff s
  have hb1 : Below w.heap.size w (w.alloc (.cells #[.int .u64 n, .string (bs s)] 36)) := (Below.refl _ _).alloc (Nat.le_refl _) _
  rcases Pk.letter_what hc with ⟨h0, h1, h2⟩ | ⟨rfl, h1⟩ | ⟨rfl, h1⟩
  · rw [Pk.ftext_num h0]
    have hz := shift_zero n (Pk.width c)
    have hw8 := Pk.width_le c
    have HSZ := fun W => sizeOf_any c W
    generalize (c.toNat : Int) = x at *
    obtain ⟨X, hX⟩ : ∃ X, X = bs s := ⟨_, rfl⟩
    rw [← hX] at hsz hnil hb1 ⊢
    generalize Pk.width c = wd at *
    clear h0 hc
    by_cases hss : s = []
    · have hXe : X = ⟨#[]⟩ := hnil.2 hss
      subst hXe
      have HV : (if s = [] ∧ n < 256 ^ wd then some (Wl.enc wd n) else none).isSome = decide (n < 256 ^ wd) := by
        by_cases h : n < 256 ^ wd
        · rw [if_pos ⟨hss, h⟩, decide_eq_true h]; rfl
        · rw [if_neg (fun e => h e.2), decide_eq_false h]; rfl
      rw [HV, ← hz]
      have hw8I : (wd : Int) ≤ 8 := by omega
      clear hnil hss hsz HV hz
      have HH := Lib.hid HSZ
      have HB := Lib.hid hb1
      clear HSZ hb1 hX
      go_enter Tryd.func30, Tryd.ntmps30
      go_wp2_with fail
      go_quiet ((go_at_call 40; exact Calls.quiet_of_same (HH.out _)))
      go_wp2
      go_ret
      exact ⟨rfl, HB.out.trans (below_drawn' HB.out.size _)⟩
    · have hXe : X.toList.isEmpty = false := by
        rw [hX, bs_toList]
        cases s with
        | nil => exact absurd rfl hss
        | cons _ _ => rfl
      have HV : (if s = [] ∧ n < 256 ^ wd then some (Wl.enc wd n) else none).isSome = false := by
        rw [if_neg (fun e => hss e.1)]; rfl
      rw [HV]
      clear hnil hss hsz hX HV hz
      have HH := Lib.hid HSZ
      have HB := Lib.hid hb1
      clear HSZ hb1
      go_enter Tryd.func30, Tryd.ntmps30
      go_wp2_with fail
      go_quiet (fail)
      go_wp2
      go_ret
      exact ⟨rfl, HB.out.trans (below_drawn' HB.out.size _)⟩
  · rw [Pk.ftext_text]
    generalize ((116 : UInt8).toNat : Int) = x at *
    subst h1
    simp only
    obtain ⟨X, hX⟩ : ∃ X, X = bs s := ⟨_, rfl⟩
    rw [← hX] at hsz hb1 ⊢
    have HV : (if n = 0 ∧ s.length ≤ 65535 then some (Wl.enc 2 s.length ++ s) else none).isSome = (decide (n = 0) && decide (X.size ≤ 65535)) := by
      rw [hsz]
      by_cases h : n = 0 <;> by_cases h2 : s.length ≤ 65535 <;> simp [h, h2]
    rw [HV]
    have hsI : (X.size : Int) ≤ 1000000 := by omega
    clear hnil HV hsz hX hc
    have HB := Lib.hid hb1
    clear hb1
    by_cases h : n = 0
    · subst h
      by_cases h2 : X.size ≤ 65535
      · have h2I : (X.size : Int) ≤ 65535 := by omega
        rw [decide_eq_true h2]
        go_enter Tryd.func30, Tryd.ntmps30
        go_wp2
        go_ret
        exact ⟨rfl, HB.out⟩
      · have h2I : ¬ (X.size : Int) ≤ 65535 := by omega
        rw [decide_eq_false h2]
        go_enter Tryd.func30, Tryd.ntmps30
        go_wp2
        go_ret
        exact ⟨rfl, HB.out⟩
    · have hI : ((n : Int) == 0) = false := by rw [beq_eq_false_iff_ne]; omega
      rw [decide_eq_false h]
      go_enter Tryd.func30, Tryd.ntmps30
      go_wp2
      go_ret
      exact ⟨rfl, HB.out⟩
  · rw [Pk.ftext_rest]
    generalize ((114 : UInt8).toNat : Int) = x at *
    subst h1
    simp only
    have HB := Lib.hid hb1
    clear hb1 hnil hsz hc
    have HV : (if n = 0 then some s else none).isSome = ((n : Int) == 0) := by
      by_cases h : n = 0 <;> simp [h]
    rw [HV]
    clear HV
    go_enter Tryd.func30, Tryd.ntmps30
    go_wp2
    go_ret
    exact ⟨rfl, HB.out⟩
end Go.Proofs.YtlpillpfahkjdaaDoor
