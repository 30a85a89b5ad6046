/- Walks of name's numbers that rise: rises, rose. -/
import Derived.Test.YtlpillpfahkjdaaDoorNmUnder
import Derived.Test.YtlpillpfahkjdaaDoorPkAwake
namespace Go.Proofs.YtlpillpfahkjdaaDoor
open Go.RowKit Lib

namespace Nm
theorem write_n (n : Nat) (hn : n < 2 ^ 64) : Pk.write [110] [⟨n, []⟩] = some (Wl.enc 8 n) := by
  have hw : Pk.width 110 = 8 := rfl
  have hf : Pk.ftext 110 ⟨n, []⟩ = some (Wl.enc 8 n) := by
    unfold Pk.ftext
    rw [hw, if_pos (by decide), if_pos ⟨rfl, by exact hn⟩]
  unfold Pk.write
  rw [if_pos ⟨rfl, rfl⟩]
  simp only [Pk.wrs, hf, List.nil_append]
theorem read_n (s : Pk.Text) : Pk.read [110] s = if s.length = 8 then some [⟨Wl.dec s, []⟩] else none := by
  unfold Pk.read
  rw [if_pos (show Pk.right [110] = true from rfl)]
  have hw : Pk.width 110 = 8 := rfl
  have hf : Pk.fieldOf 110 s = if s.length < 8 then none else some (⟨Wl.dec (s.take 8), []⟩, s.drop 8) := by
    unfold Pk.fieldOf
    rw [hw, if_neg (by decide), if_neg (by decide)]
  simp only [Pk.rds, hf]
  by_cases h : s.length < 8
  · rw [if_pos h, if_neg (by omega)]
  · rw [if_neg h]
    simp only
    by_cases h8 : s.length = 8
    · rw [if_pos h8, List.drop_of_length_le (by omega), if_pos rfl, List.take_of_length_le (by omega)]; rfl
    · rw [if_neg h8, if_neg]
      intro e
      have := congrArg List.length e
      rw [List.length_drop, List.length_nil] at this
      omega
end Nm
end Go.Proofs.YtlpillpfahkjdaaDoor
