/- Walks of name's numbers that rise: rises, rose. -/
import Derived.Test.YtlpillpfahkjdaaNmUnder
import Derived.Test.YtlpillpfahkjdaaPkAwake
namespace Go.Proofs.Ytlpillpfahkjdaa
open Go.RowKit Lib

namespace Nm
theorem write_n (n : Nat) (hn : n < 2 ^ 64) : Pk.write [110] [⟨n, []⟩] = some (Wl.enc 8 n) := by
  have hw : Pk.width 110 = 8 := rfl
  have hf : Pk.ftext 110 ⟨n, []⟩ = some (Wl.enc 8 n) := by
    unfold Pk.ftext
    rw [hw, if_pos (by decide), if_pos ⟨rfl, by exact hn⟩]
  unfold Pk.write
  rw [if_pos ⟨rfl, rfl⟩]
  simp only [Pk.wrs, hf, List.nil_append]
theorem read_n (s : Pk.Text) : Pk.read [110] s = if s.length = 8 then some [⟨Wl.dec s, []⟩] else none := by
  unfold Pk.read
  rw [if_pos (show Pk.right [110] = true from rfl)]
  have hw : Pk.width 110 = 8 := rfl
  have hf : Pk.fieldOf 110 s = if s.length < 8 then none else some (⟨Wl.dec (s.take 8), []⟩, s.drop 8) := by
    unfold Pk.fieldOf
    rw [hw, if_neg (by decide), if_neg (by decide)]
  simp only [Pk.rds, hf]
  by_cases h : s.length < 8
  · rw [if_pos h, if_neg (by omega)]
  · rw [if_neg h]
    simp only
    by_cases h8 : s.length = 8
    · rw [if_pos h8, List.drop_of_length_le (by omega), if_pos rfl, List.take_of_length_le (by omega)]; rfl
    · rw [if_neg h8, if_neg]
      intro e
      have := congrArg List.length e
      rw [List.length_drop, List.length_nil] at this
      omega
end Nm
theorem rises_any (n : Nat) (w : World) (hn : n < 2 ^ 64) : Calls Try.prog 34 #[.int .u64 n] w fun e w' => e = .returned (.string (bs (Wl.enc 8 n))) ∧ Below w.heap.size w w' := by
  have HW1 := Lib.hid (fun W => write_any ⟨#[110]⟩ (.slice (some ⟨W.heap.size, 0, none⟩) 1 1) [⟨n, []⟩] _ (by decide) (show 1 ≤ _ by decide) (rdF_new W [⟨n, []⟩] (fun i hi => by
    have : i = 0 := by simpa using hi
    subst this; exact hn)) (fun i hi => by
    have : i = 0 := by simpa using hi
    subst this; exact Nat.zero_le _))
  rw [show (⟨#[110]⟩ : ByteArray).data.toList = [110] from rfl, Nm.write_n n hn] at HW1
  unfold wres at HW1
  simp only at HW1
  generalize Wl.enc 8 n = T at *
  clear hn
  go_enter Try.func34, Try.ntmps34
  go_wp2_with fail
  refine (HW1.out _).mono ?_
  rintro e w1 ⟨rfl, hb1⟩
  have HB1 := Lib.hid (((Below.refl _ w).alloc (Nat.le_refl _) _).trans (hb1.mono (by simp)))
  clear hb1
  go_wp2
  go_ret
  exact ⟨rfl, HB1.out⟩
set_option maxHeartbeats 1000000 in
theorem rose_any (s : ByteArray) (w : World) (hs : s.size ≤ 1000000) : Calls Try.prog 38 #[.string s] w fun e w' => e = .returned (.tuple (if s.size = 8 then #[.int .u64 (Wl.dec s.data.toList : Nat), .bool true] else #[.int .u64 0, .bool false])) ∧ Below w.heap.size w w' := by
  have hsl : s.data.toList.length = s.size := Array.length_toList
  have HRD := Lib.hid (fun W => read_any ⟨#[110]⟩ s.data.toList W (by decide) (by omega))
  rw [bs_data, show (⟨#[110]⟩ : ByteArray).data.toList = [110] from rfl, Nm.read_n, hsl] at HRD
  by_cases h8 : s.size = 8
  · rw [if_pos h8] at HRD ⊢
    generalize Wl.dec s.data.toList = d at *
    clear h8 hs hsl
    go_enter Try.func38, Try.ntmps38
    go_wp2_with fail
    refine (HRD.out _).mono ?_
    rintro e w1 ⟨⟨v1, rfl, ho1⟩, hb1⟩
    have HB1 := Lib.hid hb1
    obtain ⟨g, cap, hv, _, _, hcap⟩ := Own.form ho1 (Nat.succ_pos 0)
    have hl1 : Lies fdElem w1 g 0 _ := Own.lies (cap := cap) (n := 1) (by rw [show (1 : Nat) = ([⟨d, []⟩] : List Pk.Fd).length from rfl, ← hv]; exact ho1)
    have c1 : w1.cell? ⟨g, 0, none⟩ = some (.int .u64 d) := by
      have := hl1.at 0 0 (by decide) (Nat.succ_pos _) (.int .u64 d) rfl
      simpa [fdElem] using this
    have hv' : v1 = .slice (some ⟨g, 0, none⟩) 1 cap := hv
    clear hb1 ho1 hl1 hv
    subst hv'
    go_wp2
    go_ret2
    exact ⟨rfl, HB1.out⟩
  · rw [if_neg h8] at HRD ⊢
    clear h8 hs hsl
    go_enter Try.func38, Try.ntmps38
    go_wp2_with fail
    refine (HRD.out _).mono ?_
    rintro e w1 ⟨he, hb1⟩
    have he' : e = .returned (.tuple #[.slice none 0 0, .bool false]) := he
    subst he'
    have HB1 := Lib.hid hb1
    clear hb1 he
    go_wp2
    go_ret2
    exact ⟨rfl, HB1.out⟩
end Go.Proofs.Ytlpillpfahkjdaa
