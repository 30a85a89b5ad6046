/- Walk of the two texts that the chapter tells. -/
import Derived.Test.YtlllcdjcihnkdaaDoorShaTop
import Derived.Test.YtlllcdjcihnkdaaDoorRawWalk
namespace Go.Proofs.YtlllcdjcihnkdaaDoor
open Go.RowKit

set_option maxRecDepth 100000 in
theorem hex_abc : Hx.hex (Sha.print [97, 98, 99]) = [98, 97, 55, 56, 49, 54, 98, 102, 56, 102, 48, 49, 99, 102, 101, 97, 52, 49, 52, 49, 52, 48, 100, 101, 53, 100, 97, 101, 50, 50, 50, 51, 98, 48, 48, 51, 54, 49, 97, 51, 57, 54, 49, 55, 55, 97, 57, 99, 98, 52, 49, 48, 102, 102, 54, 49, 102, 50, 48, 48, 49, 53, 97, 100] := by decide +kernel
set_option maxRecDepth 100000 in
theorem crc_nine : Crc.crc [49, 50, 51, 52, 53, 54, 55, 56, 57] = 3421780262 := by decide +kernel

theorem print_hid (s : ByteArray) (w : World) (hT : Tabs w) (hs : s.size ≤ 1000000000) :
    Calls Tryd.prog 9 #[.string s] w fun e w' => ∃ P : ByteArray, e = .returned (.string P) ∧ Hid (P.data.toList = Sha.print s.data.toList) ∧ P.size = 32 ∧ Below w.heap.size w w' :=
  (print_any s w hT hs).mono fun _ _ ⟨h1, h2⟩ => ⟨_, h1, rfl, Sha.spellTo_length _ 8, h2⟩
theorem hex_print (P : ByteArray) (w : World) (hP : P.data.toList = Sha.print [97, 98, 99]) (hs : P.size = 32) :
    Calls Tryd.prog 15 #[.string P] w fun e w' => ∃ H : ByteArray, e = .returned (.string H) ∧ H.size = 64 ∧ ((H.extract 0 16).toList == [98, 97, 55, 56, 49, 54, 98, 102, 56, 102, 48, 49, 99, 102, 101, 97]) = true ∧
      ((H.extract 56 H.size).toList == [102, 50, 48, 48, 49, 53, 97, 100]) = true ∧ Below w.heap.size w w' :=
  (hex_any P w (by omega)).mono fun _ _ ⟨h1, h2⟩ => ⟨⟨#[98, 97, 55, 56, 49, 54, 98, 102, 56, 102, 48, 49, 99, 102, 101, 97, 52, 49, 52, 49, 52, 48, 100, 101, 53, 100, 97, 101, 50, 50, 50, 51, 98, 48, 48, 51, 54, 49, 97, 51, 57, 54, 49, 55, 55, 97, 57, 99, 98, 52, 49, 48, 102, 102, 54, 49, 102, 50, 48, 48, 49, 53, 97, 100]⟩, by rw [h1, hP, hex_abc], rfl, by decide +kernel, by decide +kernel, h2⟩
theorem check_nine (w : World) (hT : Tabs w) :
    Calls Tryd.prog 13 #[.string ⟨#[49, 50, 51, 52, 53, 54, 55, 56, 57]⟩] w fun e w' => e = .returned (.int .u32 3421780262) ∧ w = w' :=
  (check_any _ w hT (by decide)).mono fun _ _ ⟨h1, h2⟩ => ⟨by rw [h1, crc_nine]; rfl, h2⟩

theorem adds_any (w : World) (hT : Tabs w) :
    Calls Tryd.prog 8 #[] w fun e w' => e = .returned (.bool true) ∧ Below w.heap.size w w' := by
  have HT := Lib.hid hT
  clear hT
  go_enter Tryd.func8, Tryd.ntmps8
  go_wp2_with fail
  refine (print_hid ⟨#[97, 98, 99]⟩ _ HT.out (by decide)).mono ?_
  rintro e w1 ⟨P, rfl, hP, hPs, hb1⟩
  have HPS := Lib.hid hPs
  clear hPs
  go_wp2_with fail
  refine (hex_print P _ hP.out HPS.out).mono ?_
  rintro e w2 ⟨H, rfl, hH, h16, h56, hb2⟩
  have hH' : (H.size : Int) = 64 := by omega
  clear hH
  go_wp2_with fail
  refine (check_nine _ ((HT.out.below hb1 (Nat.le_refl _)).below hb2 (Nat.le_refl _))).mono ?_
  rintro e w3 ⟨rfl, rfl⟩
  go_wp2
  go_ret
  exact ⟨rfl, hb1.trans (hb2.mono hb1.size)⟩
end Go.Proofs.YtlllcdjcihnkdaaDoor
