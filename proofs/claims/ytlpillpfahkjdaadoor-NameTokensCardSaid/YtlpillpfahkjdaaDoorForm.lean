/- Walks of what turns numbers into bytes, and back. -/
import Derived.Test.YtlpillpfahkjdaaDoorBytesZ
import Derived.Test.YtlpillpfahkjdaaDoorLogMath
import Derived.Laws.Bits128
import Derived.BigQuiet
import Derived.Deep.RegionLaw
import Derived.BigRegion
import Derived.Lib.Hide
import Derived.Deep.DeepFit
import Derived.Outline
namespace Go.Proofs.YtlpillpfahkjdaaDoor
open Go.RowKit Lib

theorem enc_step (w j n : Nat) (hj : j < w) : Wl.enc (j + 1) (n / 256 ^ (w - (j + 1))) = Wl.enc j (n / 256 ^ (w - j)) ++ [UInt8.ofNat (n / 256 ^ (w - (j + 1)))] := by
  rw [Wl.enc, Nat.div_div_eq_div_mul, ← Nat.pow_succ, show (w - (j + 1)).succ = w - j by omega]
theorem shift_val (n k : Nat) : (n : Int) / 2 ^ (8 * k) % 256 = ((UInt8.ofNat (n / 256 ^ k)).toNat : Int) := by
  have e : (n : Int) / 2 ^ (8 * k) = ((n / 256 ^ k : Nat) : Int) := by
    rw [Int.natCast_ediv]
    congr 1
    rw [show (256 : Nat) = 2 ^ 8 from rfl, ← Nat.pow_mul, Int.natCast_pow]
    rfl
  rw [e, UInt8.toNat_ofNat']
  omega
end Go.Proofs.YtlpillpfahkjdaaDoor
