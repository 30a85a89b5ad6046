/- Tokens: mathematics. -/
import Derived.Test.YtlpillpfahkjdaaDoorNmMath
import Derived.Test.YtlpillpfahkjdaaDoorHexMath
import Derived.Test.YtlpillpfahkjdaaDoorCrcMath
namespace Go.Proofs.YtlpillpfahkjdaaDoor
namespace Nm
open Wl (enc enc_length)
def token (s : List UInt8) : List UInt8 := Hx.hex (enc 4 (Crc.crc s)) ++ Hx.hex s
def told (v : List UInt8) : Option (List UInt8) := match Hx.raw v with
  | none => none
  | some r => if r.length < 4 then none else if token (r.drop 4) = v then some (r.drop 4) else none
theorem raw_token (s : List UInt8) : Hx.raw (token s) = some (enc 4 (Crc.crc s) ++ s) := by
  unfold token
  rw [← Hx.hex_append, Hx.raw_hex]
theorem told_token (s : List UInt8) : told (token s) = some s := by
  unfold told
  rw [raw_token]
  have h : (enc 4 (Crc.crc s) ++ s).drop 4 = s := List.drop_left' (enc_length _ _)
  simp only [h]
  rw [if_neg (by rw [List.length_append, enc_length]; omega)]
  simp only [if_true]
theorem told_some {v s : List UInt8} (h : told v = some s) : token s = v := by
  unfold told at h
  split at h
  · cases h
  · split at h
    · cases h
    · split at h
      · next h2 => injection h with h; rw [← h]; exact h2
      · cases h
end Nm
end Go.Proofs.YtlpillpfahkjdaaDoor
