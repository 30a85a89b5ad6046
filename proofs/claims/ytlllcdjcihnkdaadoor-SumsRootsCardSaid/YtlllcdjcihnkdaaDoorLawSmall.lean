/- Walks of the statements on digits and on check sums. -/
import Derived.Test.YtlllcdjcihnkdaaDoorLawAdds
namespace Go.Proofs.YtlllcdjcihnkdaaDoor
open Go.RowKit

/-- What Raw hands back, in two parts. -/
theorem rawV_two (l : List UInt8) : ∃ (p : ByteArray) (b : Bool), Hx.rawV l = .tuple #[.string p, .bool b] := ⟨_, _, rfl⟩

theorem raw_back (s : ByteArray) (w : World) (hs : s.size ≤ 5000) :
    Calls Tryd.prog 16 #[.string ⟨(Hx.hex s.data.toList).toArray⟩] w fun e w' => e = .returned (.tuple #[.string s, .bool true]) ∧ Below w.heap.size w w' :=
  (raw_any ⟨(Hx.hex s.data.toList).toArray⟩ w (by
    have hl : s.data.toList.length = s.size := Array.length_toList
    show (Hx.hex s.data.toList).length ≤ _
    rw [Hx.hex_length]; omega)).mono fun _ _ ⟨h1, h2⟩ => ⟨by
      rw [h1]
      exact ret_eq (Hx.rawV_some (Hx.raw_hex s.data.toList)), h2⟩
theorem raw_two (s : ByteArray) (p : ByteArray) (b : Bool) (hp : Hx.rawV s.data.toList = .tuple #[.string p, .bool b]) (w : World) (hs : s.size ≤ 5000) :
    Calls Tryd.prog 16 #[.string s] w fun e w' => e = .returned (.tuple #[.string p, .bool b]) ∧ Below w.heap.size w w' :=
  (raw_any s w (by omega)).mono fun _ _ ⟨h1, h2⟩ => ⟨by rw [h1, hp], h2⟩
theorem refRaw_two (s : ByteArray) (p : ByteArray) (b : Bool) (hp : Hx.rawV s.data.toList = .tuple #[.string p, .bool b]) (w : World) (hs : s.size ≤ 5000) :
    Calls Tryd.prog 18 #[.string s] w fun e w' => e = .returned (.tuple #[.string p, .bool b]) ∧ Below w.heap.size w w' :=
  (refRaw_any s w (by omega)).mono fun _ _ ⟨h1, h2⟩ => ⟨by rw [h1, hp], h2⟩

theorem checks_any (s : ByteArray) (w : World) (hT : Tabs w) :
    Calls Tryd.prog 5 #[.string s] w fun e w' => e = .returned (.bool true) ∧ Below w.heap.size w w' := by
  have HT := Lib.hid hT
  clear hT
  by_cases hs : s.size ≤ 5000
  · go_enter Tryd.func5, Tryd.ntmps5
    go_wp2_with fail
    refine (adds_any _ HT.out).mono ?_
    rintro e w1 ⟨rfl, hb1⟩
    have hs1 : ¬ ((s.size : Int) > 5000) := by omega
    go_wp2_with fail
    refine (check_any s _ (HT.out.below hb1 (Nat.le_refl _)) (by omega)).mono ?_
    rintro e w2 ⟨rfl, rfl⟩
    go_wp2_with fail
    refine (refCheck_any s _ (by omega)).mono ?_
    rintro e w2 ⟨rfl, rfl⟩
    go_wp2
    go_ret
    exact ⟨rfl, hb1⟩
  · have hs1 : (5000 : Int) < s.size := by omega
    go_enter Tryd.func5, Tryd.ntmps5
    go_wp2_with fail
    refine (adds_any _ HT.out).mono ?_
    rintro e w1 ⟨rfl, hb1⟩
    go_wp2
    go_ret
    exact ⟨rfl, hb1⟩

theorem digits_any (s : ByteArray) (w : World) (hT : Tabs w) :
    Calls Tryd.prog 7 #[.string s] w fun e w' => e = .returned (.bool true) ∧ Below w.heap.size w w' := by
  have HT := Lib.hid hT
  clear hT
  by_cases hs : s.size ≤ 5000
  · have hs1 : ¬ ((s.size : Int) > 5000) := by omega
    have hsl : s.data.toList.length = s.size := Array.length_toList
    go_enter Tryd.func7, Tryd.ntmps7
    go_wp2_with fail
    refine (adds_any _ HT.out).mono ?_
    rintro e w1 ⟨rfl, hb1⟩
    go_wp2_with fail
    refine (hex_any s _ (by omega)).mono ?_
    rintro e w2 ⟨rfl, hb2⟩
    obtain ⟨p, b, hp⟩ := rawV_two s.data.toList
    have HP := Lib.hid hp
    clear hp hsl
    go_wp2_with fail
    refine (raw_back s _ hs).mono ?_
    rintro e w3 ⟨rfl, hb3⟩
    go_wp2_with fail
    refine (refHex_any s _ (by omega)).mono ?_
    rintro e w4 ⟨rfl, hb4⟩
    go_wp2_with fail
    refine (raw_two s p b HP.out _ hs).mono ?_
    rintro e w5 ⟨rfl, hb5⟩
    go_wp2_with fail
    refine (refRaw_two s p b HP.out _ hs).mono ?_
    rintro e w6 ⟨rfl, hb6⟩
    have hall : Below w.heap.size w w6 := hb1.trans ((hb2.trans ((hb3.trans ((hb4.trans ((hb5.trans (hb6.mono hb5.size)).mono hb4.size)).mono hb3.size)).mono hb2.size)).mono hb1.size)
    go_wp2
    go_ret
    exact ⟨rfl, hall⟩
  · have hs1 : (5000 : Int) < s.size := by omega
    go_enter Tryd.func7, Tryd.ntmps7
    go_wp2_with fail
    refine (adds_any _ HT.out).mono ?_
    rintro e w1 ⟨rfl, hb1⟩
    go_wp2
    go_ret
    exact ⟨rfl, hb1⟩
end Go.Proofs.YtlllcdjcihnkdaaDoor
