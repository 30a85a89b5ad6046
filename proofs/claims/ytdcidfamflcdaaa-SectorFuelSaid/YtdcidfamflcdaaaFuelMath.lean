/- How many steps a disk does: the mathematics of SectorFuel. -/
import Derived.Test.YtdcidfamflcdaaaDiskMath
namespace Go.Proofs.Ytdcidfamflcdaaa
namespace Dk

def tot (k : Nat) : Nat := k + k / 5
structure FuelInv (n k : Nat) (done : Int) (d : Disk) : Prop where
  two : d.firm.length = 2
  few : d.loose.length ≤ k
  low : 0 ≤ done
  st : (d.off = false ∧ d.fuel = (n : Int) - tot k ∧ done = tot k ∧ tot k ≤ n) ∨ (d.off = true ∧ done ≤ n ∧ n < tot k)

theorem now_length (d : Disk) : d.now.length = d.firm.length := puts_length _ _
theorem fuel_one (n k : Nat) (done : Int) (d : Disk) (j : Nat) (hj : j < 2) (h : FuelInv n k done d) :
    ((d.write j [120]).1 = 0 ∧ (d.write j [120]).2.off = false ∧ (d.write j [120]).2.fuel = (n : Int) - (tot k + 1) ∧ done = tot k ∧ tot k + 1 ≤ n ∨ (d.write j [120]).1 = 3 ∧ (d.write j [120]).2.off = true ∧ done ≤ n ∧ n < tot k + 1) ∧
    (d.write j [120]).2.firm.length = 2 ∧ (d.write j [120]).2.loose.length ≤ k + 1 := by
  obtain ⟨h1, h2, hlow, h3⟩ := h
  have hh : d.has j = true := by unfold Disk.has; rw [h1]; simp; omega
  unfold Disk.write
  rcases h3 with ⟨ho, hf, hd, hn⟩ | ⟨ho, hd, hn⟩
  · rw [if_neg (by rw [ho]; decide), hh, if_neg (by decide), if_neg (by decide)]
    by_cases h0 : d.fuel = 0
    · rw [if_pos h0]
      exact ⟨.inr ⟨rfl, rfl, by omega, by omega⟩, h1, Nat.le_succ_of_le h2⟩
    · rw [if_neg h0]
      refine ⟨.inl ⟨rfl, ho, ?_, hd, by omega⟩, h1, ?_⟩
      · show (if 0 < d.fuel then d.fuel - 1 else d.fuel) = _
        rw [if_pos (by omega)]; omega
      · show (d.loose ++ _).length ≤ _
        rw [List.length_append]; simpa using h2
  · rw [if_pos ho]
    exact ⟨.inr ⟨rfl, ho, hd, by omega⟩, h1, Nat.le_succ_of_le h2⟩
theorem tot_succ (k : Nat) (h : k % 5 ≠ 4) : tot (k + 1) = tot k + 1 := by unfold tot; omega
theorem tot_five (k : Nat) (h : k % 5 = 4) : tot (k + 1) = tot k + 2 := by unfold tot; omega
theorem fuel_write (n k : Nat) (done : Int) (d : Disk) (j : Nat) (hj : j < 2) (h : FuelInv n k done d) (h5 : k % 5 ≠ 4) :
    ((d.write j [120]).1 = 0 ∧ FuelInv n (k + 1) (done + 1) (d.write j [120]).2) ∨ ((d.write j [120]).1 = 3 ∧ FuelInv n (k + 1) done (d.write j [120]).2) := by
  have hlow := h.low
  obtain ⟨h1, h2, h3⟩ := fuel_one n k done d j hj h
  have ht := tot_succ k h5
  rcases h1 with ⟨a, b, c, e, f⟩ | ⟨a, b, c, e⟩
  · exact .inl ⟨a, h2, h3, by omega, .inl ⟨b, by omega, by omega, by omega⟩⟩
  · exact .inr ⟨a, h2, h3, hlow, .inr ⟨b, c, by omega⟩⟩
theorem fuel_flush (n k : Nat) (done : Int) (d : Disk) (j : Nat) (hj : j < 2) (h : FuelInv n k done d) (h5 : k % 5 = 4) :
    ((d.write j [120]).2.flush.1 = 0 ∧ FuelInv n (k + 1) (done + 2) (d.write j [120]).2.flush.2) ∨ ((d.write j [120]).2.flush.1 = 3 ∧ FuelInv n (k + 1) done (d.write j [120]).2.flush.2) := by
  have hlow := h.low
  obtain ⟨h1, h2, h3⟩ := fuel_one n k done d j hj h
  have ht := tot_five k h5
  generalize (d.write j [120]).2 = D at *
  generalize (d.write j [120]).1 = E at *
  unfold Disk.flush
  rcases h1 with ⟨a, b, c, e, f⟩ | ⟨a, b, c, e⟩
  · rw [if_neg (by rw [b]; decide)]
    by_cases h0 : D.fuel = 0
    · rw [if_pos h0]
      exact .inr ⟨rfl, h2, h3, hlow, .inr ⟨rfl, by omega, by omega⟩⟩
    · rw [if_neg h0]
      refine .inl ⟨rfl, by show D.now.length = 2; rw [now_length]; exact h2, Nat.zero_le _, by omega, .inl ⟨b, ?_, by omega, by omega⟩⟩
      show (if 0 < D.fuel then D.fuel - 1 else D.fuel) = _
      rw [if_pos (by omega)]; omega
  · rw [if_pos b]
    exact .inr ⟨rfl, h2, h3, hlow, .inr ⟨b, c, by omega⟩⟩
theorem fuel_end (n k : Nat) (done : Int) (d : Disk) (h : FuelInv n k done d) : d.off = decide (n < tot k) ∧ done ≤ n ∧ ((d.fall []).write 0 [121]).1 = 0 := by
  obtain ⟨h1, h2, hlow, h3⟩ := h
  refine ⟨?_, ?_, ?_⟩
  · rcases h3 with ⟨ho, _, _, hn⟩ | ⟨ho, _, hn⟩
    · rw [ho]; symm; simp; omega
    · rw [ho]; symm; simpa using hn
  · rcases h3 with ⟨_, _, hd, hn⟩ | ⟨_, hd, _⟩ <;> omega
  · have hh : (d.fall []).has 0 = true := by
      unfold Disk.has Disk.fall
      rw [show (puts d.firm (kept [] d.loose)).length = 2 by rw [puts_length]; exact h1]
      decide
    unfold Disk.write
    rw [hh, if_neg (show ¬ ((d.fall []).off = true) from fun h => Bool.false_ne_true h), if_neg (by decide), if_neg (by decide), if_neg (show ¬ ((d.fall []).fuel = 0) from fun h => absurd (show (-1 : Int) = 0 from h) (by decide))]
theorem fuel_begin (n : Nat) : FuelInv n 0 0 ((fresh 2).fueled n) := ⟨rfl, Nat.le_refl _, Int.le_refl _, .inl ⟨rfl, by show max (n : Int) (-1) = _; unfold tot; omega, rfl, by unfold tot; omega⟩⟩
end Dk
end Go.Proofs.Ytdcidfamflcdaaa
