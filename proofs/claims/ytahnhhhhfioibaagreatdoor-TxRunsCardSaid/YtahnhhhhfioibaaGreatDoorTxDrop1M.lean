/- A part of the law. -/
import Derived.Test.YtahnhhhhfioibaaGreatDoorG21
import Derived.Test.YtahnhhhhfioibaaGreatDoorG20
import Derived.Deep.RegionHeld3
import Derived.OrdersHeld
import Derived.Deep.CutBlock
import Derived.Deep.DeepCutAuto
import Derived.Test.YtahnhhhhfioibaaGreatDoorTxPartsM
namespace Go.Proofs.YtahnhhhhfioibaaGreatDoor
open Go.RowKit Lib
set_option maxRecDepth 100000 in
set_option maxHeartbeats 100000000 in
theorem tx_drop_1 : tx_g11 := by
  intro w _ _ _ _ _ _ _ _ _ g _ _ b _ _ _ _ _ _ _ _ _ _ t z3 z4 gm gw gb _ _ _ _ _ _ _ _ _ _ _ _ _ _ _ _ _ _ _ _ _ _ _ _ _ _ _ _ _ _ _ _ _ _ _ _ _ _ _ _ _ _ _ _ _ _ _ _ _ _ _ _ _ _ _ _ _ _ _ _ _ _ _ _ _ _ _ _ _ _ _ _ _ _ _ _ _ _ _ _ _ _ _ _ _ _ _ _ _ _ _ _ _ _ _ _ _ _ _ _ _ _ _ _ _ _ _ _ _ _ _ _ _ _ _ _ _ _ _ _ _ _ _ _ _ _ _ _ _ _ _ _ _ _ _ _ _ _ _ _ _ _ _ _ _ _ _ _ _ _ _ _ _ _ _ _ _ _ _ _ _ _ _ _ _ _ _ _ _ _ _ _ _ _ _ _ _ _ _ _ _ _ _ _ _ _ _ _ _ _ _ _ _ _ _ _ _ _ _ _ _ _ _ _ _ _ _ _ _ _ _ _ k a c H' p q h m M _ _ _ _ _ _ _ _ _ _ _ _ _ _ _ _ _ z5 z6 _ _ HH _ HZ _ _ _ _ _ _ _ _ b1 b2 b3 b5 _ _ _ _ _ _ HQk _ _ _ _ _ h5
  subst h5
  clear b1 b2 b3 b5
  go_wp2_with fail
  refine (ts_drop HZ.out.1 (k := 1) (by decide)).mono ?_
  rintro e w8 ⟨rfl, h8, hb8⟩
  obtain ⟨z3, z4, z5, z6⟩ := h8.want (k := 1) (by decide)
  rw [HQk.out] at z5
  have z6' := z6 5
  simp only [Nat.mul_one] at z5 z6'
  obtain ⟨W, hW⟩ : ∃ W, W = w8.setCell ⟨gw, 5, none⟩ (.slice none 0 0) := ⟨_, rfl⟩
  have H9 := Lib.hid (show TS w g b gb gw gm (fun _ => False) (k + 1) (.slice a 20 c) H' t (upd p 1 []) (upd p 1 []) (upd q 1 (.slice none 0 0)) HH m M W by rw [hW]; exact (h8.nil (k := 1) (by decide)).less (fun _ h => h.elim))
  have HWW := Lib.hid hW
  clear h8 hb8 z3 z4 z6 hW
  go_wp2
  go_meet
  case rel =>
    rw [← HWW.out]
    exact ⟨a, c, H', _, _, _, _, _, rfl, H9⟩
end Go.Proofs.YtahnhhhhfioibaaGreatDoor
