/- A part of the law. -/
import Derived.Test.YtahnhhhhfioibaaGreatDoorG21
import Derived.Test.YtahnhhhhfioibaaGreatDoorG20
import Derived.Deep.RegionHeld3
import Derived.OrdersHeld
import Derived.Deep.CutBlock
import Derived.Deep.DeepCutAuto
import Derived.Test.YtahnhhhhfioibaaGreatDoorTxPartsM
namespace Go.Proofs.YtahnhhhhfioibaaGreatDoor
open Go.RowKit Lib
set_option maxRecDepth 100000 in
set_option maxHeartbeats 100000000 in
theorem tx_commit_0 : tx_g8 := by
  intro w l _ _ _ _ _ _ _ _ g _ _ b _ _ _ _ _ _ _ _ _ _ t _ _ gm gw gb wr _ _ _ _ _ _ _ _ _ _ _ _ _ _ _ _ _ _ _ _ _ _ _ _ _ _ _ _ _ _ _ _ _ _ _ _ _ _ _ _ _ _ _ _ _ _ _ _ _ _ _ _ _ _ _ _ _ _ _ _ _ _ _ _ _ _ _ _ _ _ _ _ _ _ _ _ _ _ _ _ _ _ _ _ _ _ _ _ _ _ _ _ _ _ _ _ _ _ _ _ _ _ _ _ _ _ _ _ _ _ _ _ _ _ _ _ _ _ _ _ _ _ _ _ _ _ _ _ _ _ _ _ _ _ _ _ _ _ _ _ _ _ _ _ _ _ _ _ _ _ _ _ _ _ _ _ _ _ _ _ _ _ _ _ _ _ _ _ _ _ _ _ _ _ _ _ _ _ _ _ _ _ _ _ _ _ _ _ _ _ _ _ _ _ _ _ _ _ _ _ _ _ _ _ _ _ _ _ _ _ _ k a c H' p q h m M _ _ _ _ _ HLt _ _ _ _ _ _ _ _ _ _ _ _ _ _ _ HH HHk HZ _ _ _ _ _ _ _ b0 b1 b2 b3 b5 _ _ _ _ aq cq HQk _ h1 _ _ h4
  subst h4
  clear b0 b1 b2 b3 b5
  obtain ⟨e0, e1, e2, -⟩ := HZ.out.1.want (k := 0) (by decide)
  rw [HHk.out] at e0
  rw [HQk.out] at e2
  simp only [Nat.mul_zero, Nat.zero_add] at e0 e1 e2
  have hc := ts_rcommit HZ.out.1 (k := 0) (by decide)
  rw [HQk.out] at hc
  obtain ⟨c1, hc1⟩ : ∃ c1, c1 = (Wl.comm 16 H' (Tx.psI (p 0))).1 := ⟨_, rfl⟩
  obtain ⟨H2, hH2⟩ : ∃ H2, H2 = (Wl.comm 16 H' (Tx.psI (p 0))).2 := ⟨_, rfl⟩
  rw [← hc1, ← hH2] at hc
  have HCM := Lib.hid (And.intro hc1 hH2)
  have HC := Lib.hid hc
  have HL2 := Lib.hid (show H2.length = 20 by rw [hH2, Wl.comm_length]; exact HZ.out.1.hlen)
  clear hc hc1 hH2
  go_wp2_with fail
  refine HC.out.mono ?_
  rintro e w8 ⟨f1, f2, hb8⟩
  by_cases h0c : c1 = 0
  · obtain ⟨vh', rfl, ho, E1, hE1, hr, h8⟩ := f1 h0c
    obtain ⟨a2, c2, hv2, _⟩ := Own.slice ho
    rw [List.length_map, HL2.out] at hv2
    subst hv2
    subst h0c
    obtain ⟨gx, hgx⟩ : ∃ gx, gx = w8.heap.size := ⟨_, rfl⟩
    obtain ⟨Y8, hY8⟩ : ∃ Y8, Y8 = w8.alloc (.cells #[.slice a2 20 c2, .int .i64 16, .slice none 0 0] T6T) := ⟨_, rfl⟩
    have hb9 : Below w8.heap.size w8 Y8 := by rw [hY8]; exact (Below.refl _ w8).alloc (Nat.le_refl _) _
    have H9 := Lib.hid (show TS w g b gb gw gm (fun x => E1 x ∨ x = gx) k (.slice a 20 c) H' t p p q HH m M Y8 ∧ OwnS w.heap.size Y8 (.slice a2 20 c2) H2 ∧ Blk Y8 gx T6T [.slice a2 20 c2, .int .i64 16, .slice none 0 0] ∧ ∀ x, (Value.slice a2 20 c2).ownBlock = some x → (E1 x ∨ x = gx) ∨ (Value.slice a 20 c).ownBlock = some x from ⟨h8.hold hb9 (fun x hx => hx.imp_right fun e => by rw [e, hY8, hgx, World.size_alloc]; omega), by rw [hY8]; exact Own.alloc ho _, by rw [hY8, hgx]; exact Blk.new w8 _ _, fun x hx => (hr x hx).imp_left .inl⟩)
    have HY8 := Lib.hid hY8
    have HGX := Lib.hid hgx
    clear f1 f2 ho hr h8 hb9 hY8 hgx hE1 hb8 e0 e1 e2
    unfold ref6
    go_wp2_with fail
    rw [← HY8.out, ← HGX.out]
    refine (ts_commit H9.out.1 (k := 0) (by decide) (by have := HLt.out; omega) (vh' := .slice a2 20 c2) HCM.out.1.symm (by rw [← HCM.out.2]; exact H9.out.2.1) H9.out.2.2.2).mono ?_
    rintro e w10 ⟨rfl, h10, hb10⟩
    rw [← HCM.out.2] at h10
    have H10 := Lib.hid (And.intro h10 (H9.out.2.2.1.but hb10 (fun hn => hn (.inr rfl))))
    clear h10 hb10
    have x0 := H10.out.2.cell (j := 0) rfl
    have x1 := H10.out.2.cell (j := 1) rfl
    have x2 := H10.out.2.cell (j := 2) rfl
    go_wp2_with (refine wpList_store_part rfl T6T (.tmp 206) (.tmp 205) rfl gw 0 [.slice a2 20 c2, .int .i64 16, .slice none 0 0] rfl rfl 39 _ H10.out.1.bw (show (Tryz.prog.info? T6T).map (·.size) = some 3 by kernel_rfl) (show 0 + 3 ≤ 6 by decide) (by simp [Value.oneCell']) ?_; refine Hid.out ?_)
    refine Lib.hid ?_
    have hst := TS.store H10.out.1 (k := 0) (v := .slice a2 20 c2) (by decide) (Own.nil putElem 99 w.heap.size w10) ⟨_, _, _, rfl⟩ (fun x hx => by cases hx) (l := []) ⟨fun x hx => (by cases hx), Nat.zero_le _⟩
    generalize hW3 : w10.setRow gw _ = W3
    have hbg : But (fun x => x = gw) w10 W3 := by rw [← hW3]; exact (But.refl (fun x => x = gw) w10).setRow gw _ (fun _ => rfl)
    have hgg : gx ≠ gw := fun e => by
      have h1 := H10.out.2
      rw [e] at h1
      have := h1.symm.trans H10.out.1.bw
      injection this with this
      injection this with _ this
      exact absurd this (by decide)
    have H11 := Lib.hid (show TS w g b gb gw gm (fun _ => False) (k + 1) (.slice a2 20 c2) H2 t (upd p 0 []) (upd p 0 []) (upd q 0 (.slice none 0 0)) (upd HH 0 (.slice a2 20 c2)) m M W3 by rw [← hW3]; exact hst.less (fun _ h => h.elim))
    have x3 := (H10.out.2.but hbg hgg).cell (j := 0) rfl
    clear hst hbg hgg hW3 x0 x1 x2
    go_wp2
    go_meet
    case rel => exact ⟨a2, c2, H2, _, _, _, _, _, rfl, H11⟩
  · obtain ⟨rfl, h8⟩ := f2 h0c
    obtain ⟨Y8, hY8⟩ : ∃ Y8, Y8 = w8.alloc (.cells #[.slice a 20 c, .int .i64 16, .slice aq (p 0).length cq] T6T) := ⟨_, rfl⟩
    have H9 := Lib.hid (show TS w g b gb gw gm (fun x => x = wr.heap.size) k (.slice a 20 c) H' t p p q HH m M Y8 by rw [hY8]; exact h8.still ((Below.refl _ w8).alloc (Nat.le_refl _) _))
    have HY8 := Lib.hid hY8
    clear f1 f2 h8 hY8 hb8 e0 e1 e2
    unfold ref6
    go_wp2_with fail
    rw [← HY8.out]
    have hc := ts_commit_no H9.out (k := 0) (by decide) (by have := HLt.out; omega) (by rw [← HCM.out.1]; exact h0c)
    rw [← HCM.out.1] at hc
    refine hc.mono ?_
    clear hc
    rintro e w10 ⟨rfl, h10, -⟩
    have H10 := Lib.hid (h10.less (E' := fun _ => False) (fun _ h => h.elim))
    clear h10
    go_wp2
    go_meet
    case rel => exact ⟨a, c, H', _, _, _, _, _, rfl, H10⟩
end Go.Proofs.YtahnhhhhfioibaaGreatDoor
