/- Walk of the statements' awake. -/
import Derived.Test.YtlpillpfahkjdaaDoorNmRead
import Derived.Test.YtlpillpfahkjdaaDoorNmBehind
namespace Go.Proofs.YtlpillpfahkjdaaDoor
open Go.RowKit Lib

set_option maxHeartbeats 2000000 in
theorem nmawake_any (w : World) : Calls Tryd.prog 4 #[] w fun e w' => e = .returned (.bool true) ∧ Below w.heap.size w w' := by
  have HVK := Lib.hid (fun W => versionKey_any ⟨#[97, 98, 99]⟩ ⟨#[107]⟩ 7 W (by decide))
  have hk : Nm.key 118 (⟨#[97, 98, 99]⟩ : ByteArray).data.toList (⟨#[107]⟩ : ByteArray).data.toList (Wl.enc 8 (Pk.neg 7)) = [118, 97, 98, 99, 0, 107, 0, 255, 255, 255, 255, 255, 255, 255, 248] := by decide
  rw [hk] at HVK
  have HRV := Lib.hid (fun W => readVersion_any (bs [118, 97, 98, 99, 0, 107, 0, 255, 255, 255, 255, 255, 255, 255, 248]) W (by decide))
  have hr : Nm.read 118 (bs [118, 97, 98, 99, 0, 107, 0, 255, 255, 255, 255, 255, 255, 255, 248]).data.toList = some ([97, 98, 99], [107], [255, 255, 255, 255, 255, 255, 255, 248]) := by decide
  rw [hr, show rdV (some ([97, 98, 99], [107], [255, 255, 255, 255, 255, 255, 255, 248])) (fun t => Pk.neg (Wl.dec t)) = .tuple #[.string ⟨#[97, 98, 99]⟩, .string ⟨#[107]⟩, .int .u64 7, .bool true] by rfl] at HRV
  have HBK := Lib.hid (fun W => bucketKey_any ⟨#[97, 98, 99]⟩ W)
  rw [show Nm.bkey (⟨#[97, 98, 99]⟩ : ByteArray).data.toList = [98, 97, 98, 99, 0] by decide] at HBK
  have HBU := Lib.hid (fun W => bucket_any ⟨#[97, 98]⟩ W)
  rw [show Nm.bucket (⟨#[97, 98]⟩ : ByteArray).data.toList = false by decide] at HBU
  have HBH := Lib.hid (fun W => behind_any ⟨#[97, 255]⟩ W (by decide))
  rw [show Nm.behind (⟨#[97, 255]⟩ : ByteArray).data.toList = [98] by decide] at HBH
  generalize bs [118, 97, 98, 99, 0, 107, 0, 255, 255, 255, 255, 255, 255, 255, 248] = KK at *
  have q1 := bs_toList [98, 97, 98, 99, 0]
  have q2 := bs_toList [98]
  clear hk hr
  go_enter Tryd.func4, Tryd.ntmps4
  go_wp2_with fail
  refine (HVK.out _).mono ?_
  rintro e w1 ⟨rfl, hb1⟩
  have HB1 := Lib.hid hb1
  clear hb1
  go_wp2_with fail
  refine (HRV.out _).mono ?_
  rintro e w2 ⟨rfl, hb2⟩
  have HB2 := Lib.hid (HB1.out.trans (hb2.mono HB1.out.size))
  clear hb2
  go_wp2_with fail
  refine (HBK.out _).mono ?_
  rintro e w3 ⟨rfl, hb3⟩
  have HB3 := Lib.hid (HB2.out.trans (hb3.mono HB2.out.size))
  clear hb3
  go_wp2_with fail
  refine (HBU.out _).mono ?_
  rintro e w4 ⟨rfl, rfl⟩
  go_wp2_with fail
  refine (HBH.out _).mono ?_
  rintro e w5 ⟨rfl, hb5⟩
  have HB5 := Lib.hid (HB3.out.trans (hb5.mono HB3.out.size))
  clear hb5
  go_wp2
  go_ret
  exact ⟨rfl, HB5.out⟩
end Go.Proofs.YtlpillpfahkjdaaDoor
