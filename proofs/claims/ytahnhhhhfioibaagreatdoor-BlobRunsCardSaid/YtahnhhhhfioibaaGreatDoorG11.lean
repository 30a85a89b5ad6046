/- Elder texts, merged (11). -/
import Derived.Test.YtahnhhhhfioibaaGreatDoorG10
namespace Go.Proofs.YtahnhhhhfioibaaGreatDoor
open Go.RowKit Lib

namespace Rm
def freed (pg : List (Option Wl.Text)) (i : Int) : List (Option Wl.Text) := if refuse pg i = 0 then pg.set i.toNat none else pg
def written (pg : List (Option Wl.Text)) (i : Int) (s : Wl.Text) : List (Option Wl.Text) := if wrote pg i s.length = 0 then pg.set i.toNat (some (Dk.full s)) else pg
def alloced (pg : List (Option Wl.Text)) : List (Option Wl.Text) := match firstFree pg with | some p => pg.set p (some (Dk.full [])) | none => pg
def alloc (pg : List (Option Wl.Text)) : Int × Int := match firstFree pg with | some p => ((p : Nat), 0) | none => (0, 4)
end Rm
section
variable {X X' : World} {R R' S : Nat → Prop} {ring g N lb tb rb : Nat} {H H' : List Wl.Text} {ps ps' : List (Nat × List UInt8)} {pg pg' : List (Option Wl.Text)} {rt rt' : List Nat}
/-- What a call leaves that might have turned the room. -/
def Did (R : Nat → Prop) (ring g N lb tb rb : Nat) (H : List Wl.Text) (ps : List (Nat × List UInt8)) (pg : List (Option Wl.Text)) (rt : List Nat) (X X' : World) : Prop :=
  ∃ ps', ps'.length ≤ ps.length + 2 ∧ RmI R ring g N lb tb rb H ps' pg rt X' ∧ But (fun k => ¬ R k) X X'
theorem Did.none (h : RmI R ring g N lb tb rb H ps pg rt X) (hb : Below X.heap.size X X') : Did R ring g N lb tb rb H ps pg rt X X' := ⟨ps, by omega, h.still hb, But.of_below hb _⟩
set_option maxRecDepth 100000 in
set_option maxHeartbeats 2000000 in
theorem room_take (h : RmI R ring g N lb tb rb H ps pg rt X) (p : Nat) (hp : p < pg.length) (hs : pg.getD p none = none) (hq : ps.length ≤ 800000) :
    Calls Tryz.prog 119 #[ptr rb, .int .i64 p] X fun e X' => e = .returned (.int .i64 0) ∧ Did R ring g N lb tb rb H ps (pg.set p (some (Dk.full []))) rt X X' := by
  have HI := Lib.hid h
  have HP := Lib.hid (show p < pg.length ∧ 2 + p < H.length ∧ H.length ≤ 65536 ∧ ps.length ≤ 900000 by have := h.rep.few; have := h.len; omega)
  have HS := Lib.hid (And.intro hs hq)
  have hc := h.cell
  have H1d := Lib.hid (h.still ((Below.refl X.heap.size X).drew))
  have HB1 := Lib.hid (show But (fun k => ¬ R k) X X.drew from (But.refl _ _).drew)
  clear h hp hq hs
  have key : ∀ w3 : World, C1 R ring g N lb tb H (ps ++ [(2 + p, [])]) w3 → But (fun k => ¬ R k) X w3 → RmI R ring g N lb tb rb H (ps ++ [(2 + p, [])]) pg rt w3 := fun w3 hc hb =>
    HI.out.put HP.out.2.1 hc hb (HI.out.rep.unseen HP.out.1 HS.out.1 (by decide)) rfl
  have KEY := Lib.hid key
  have key2 : ∀ w3 w4 : World, RmI R ring g N lb tb rb H (ps ++ [(2 + p, [])]) pg rt w3 → But (fun k => ¬ R k) X w3 → C1 R ring g N lb tb H ((ps ++ [(2 + p, [])]) ++ [(1, Rm.flip ((Wl.along H (Tx.psI (ps ++ [(2 + p, [])]))).getD 1 []) p)]) w4 → But (fun k => ¬ R k) w3 w4 → Did R ring g N lb tb rb H ps (pg.set p (some (Dk.full []))) rt X w4 := by
    intro w3 w4 h3 hb hc hb2
    have hl := HP.out.2.1
    have hK : (Wl.along H (Tx.psI ps)).length = H.length := Wl.along_length _ _
    refine ⟨_, ?_, RmI.put (pg' := pg.set p (some (Dk.full []))) (rt' := rt) h3 (by omega) hc hb2 ?_ (by rw [List.length_set]), hb.trans hb2 (fun _ _ h => h)⟩
    · rw [List.length_append, List.length_append]; exact Nat.le_refl _
    · have h1 := h3.rep.home (i := 1) (by rw [Wl.along_length]; omega)
      rw [show Dk.full (Rm.flip ((Wl.along H (Tx.psI (ps ++ [(2 + p, [])]))).getD 1 []) p) = Rm.flip ((Wl.along H (Tx.psI (ps ++ [(2 + p, [])]))).getD 1 []) p from Wl.full_of_full (by rw [Rm.flip_length]; exact h1)]
      refine h3.rep.turn HP.out.1 (by rw [HS.out.1]; rfl) (fun t ht => ?_)
      injection ht with ht
      rw [along_snoc, Rm.Rep.getD_set _ _ _ _ _ (by rw [hK]; exact hl), if_pos rfl, ht]
  have KEY2 := Lib.hid key2
  clear key key2
  go_enter Tryz.func119, Tryz.ntmps119
  unfold ptr
  go_wp2_with (refine wp_region_any (by kernel_rfl) ?_; refine Hid.out ?_)
  refine Lib.hid ?_
  try (change wpAny _ _ _ _ _ _ _ (World.drew _))
  refine wpAny_take (i := 0) (v := ?_) (by simp only [List.getElem?_toArray, List.getElem?_cons_zero]; exact rfl) (by kernel_rfl) (by kernel_rfl) (by kernel_rfl) (by exact fun _ _ _ h => h) (Or.inl ⟨by rfl, ?_⟩) ?_
  rotate_left
  · intro w; go_simp; try with_reducible rfl
  refine wpAny_take (i := 1) (v := ?_) (by simp only [List.getElem?_toArray, List.getElem?_cons_succ, List.getElem?_cons_zero]; exact rfl) (by kernel_rfl) (by kernel_rfl) (by kernel_rfl) (by exact fun _ _ _ h => h) (Or.inl ⟨by rfl, ?_⟩) ?_
  rotate_left
  · intro w; go_simp; try with_reducible rfl
  refine wpAny_take (i := 2) (v := ?_) (by simp only [List.getElem?_toArray, List.getElem?_cons_succ, List.getElem?_cons_zero]; exact rfl) (by kernel_rfl) (by kernel_rfl) (by kernel_rfl) (by exact fun _ _ _ h => h) (Or.inl ⟨by rfl, ?_⟩) ?_
  rotate_left
  · intro w; go_simp; try with_reducible rfl
  refine wpAny_take (i := 4) (v := ?_) (by simp only [List.getElem?_toArray, List.getElem?_cons_succ, List.getElem?_cons_zero]; exact rfl) (by kernel_rfl) (by kernel_rfl) (by kernel_rfl) (by exact fun _ _ _ h => h) (Or.inl ⟨by rfl, ?_⟩) ?_
  rotate_left
  · intro w; go_simp; try with_reducible rfl
  refine wpAny_take (i := 5) (v := ?_) (by simp only [List.getElem?_toArray, List.getElem?_cons_succ, List.getElem?_cons_zero]; exact rfl) (by kernel_rfl) (by kernel_rfl) (by kernel_rfl) (by exact fun _ _ _ h => h) (Or.inl ⟨by rfl, ?_⟩) ?_
  rotate_left
  · intro w; go_simp; try with_reducible rfl
  simp only [Act.put, List.setIfInBounds_toArray, List.set_cons_succ, List.set_cons_zero]
  refine wpAny_ready (rs := [3, 6]) (by kernel_rfl) (by simp) ?_
  refine AllReady.cons rfl (fun K hK => ?_) (AllReady.cons rfl (fun K hK => ?_) AllReady.nil)
  · go_simp
    refine hK _ _ ?_; clear hK K
    refine wpAny_ready (rs := [6]) (by kernel_rfl) (by simp) ?_
    refine AllReady.cons rfl (fun K hK => ?_) AllReady.nil
    go_simp
    refine (room_homeOf H1d.out p HP.out.1).mono ?_
    rintro e w1 ⟨rfl, rfl⟩
    refine hK _ _ ?_; clear hK K
    refine wpAny_ready (rs := [7]) (by kernel_rfl) (by simp) ?_
    refine AllReady.cons rfl (fun K hK => ?_) AllReady.nil
    go_simp
    refine (c1_write H1d.out.c (2 + p) ⟨#[]⟩ HP.out.2.1 HP.out.2.2.1 (by decide) HP.out.2.2.2).mono ?_; rintro e w3 ⟨rfl, h3, hb3⟩
    refine hK _ _ ?_; clear hK K
    have HE := Lib.hid (And.intro h3 (HB1.out.trans hb3 (fun _ _ h => h)))
    clear hb3 h3
    refine wpAny_ready (rs := [8]) (by kernel_rfl) (by simp) ?_
    refine AllReady.cons rfl (fun K hK => ?_) AllReady.nil
    go_simp
    refine hK _ _ ?_; clear hK K
    refine wpAny_done (by kernel_rfl) ?_ _
    have HR := Lib.hid (KEY.out _ HE.out.1 HE.out.2)
    go_wp2_with fail
    refine (room_flip HR.out p HP.out.1 (by have := HS.out.2; rw [List.length_append]; show ps.length + 1 ≤ 900000; omega)).mono ?_
    rintro e w4 ⟨rfl, h4, hb4⟩
    have HE4 := Lib.hid (KEY2.out _ _ HR.out HE.out.2 h4 hb4)
    clear h4 hb4
    go_wp2
    go_ret
    exact ⟨rfl, HE4.out⟩
  · go_simp
    refine (room_homeOf H1d.out p HP.out.1).mono ?_
    rintro e w1 ⟨rfl, rfl⟩
    refine hK _ _ ?_; clear hK K
    refine wpAny_ready (rs := [3]) (by kernel_rfl) (by simp) ?_
    refine AllReady.cons rfl (fun K hK => ?_) AllReady.nil
    go_simp
    refine hK _ _ ?_; clear hK K
    refine wpAny_ready (rs := [7]) (by kernel_rfl) (by simp) ?_
    refine AllReady.cons rfl (fun K hK => ?_) AllReady.nil
    go_simp
    refine (c1_write H1d.out.c (2 + p) ⟨#[]⟩ HP.out.2.1 HP.out.2.2.1 (by decide) HP.out.2.2.2).mono ?_; rintro e w3 ⟨rfl, h3, hb3⟩
    refine hK _ _ ?_; clear hK K
    have HE := Lib.hid (And.intro h3 (HB1.out.trans hb3 (fun _ _ h => h)))
    clear hb3 h3
    refine wpAny_ready (rs := [8]) (by kernel_rfl) (by simp) ?_
    refine AllReady.cons rfl (fun K hK => ?_) AllReady.nil
    go_simp
    refine hK _ _ ?_; clear hK K
    refine wpAny_done (by kernel_rfl) ?_ _
    have HR := Lib.hid (KEY.out _ HE.out.1 HE.out.2)
    go_wp2_with fail
    refine (room_flip HR.out p HP.out.1 (by have := HS.out.2; rw [List.length_append]; show ps.length + 1 ≤ 900000; omega)).mono ?_
    rintro e w4 ⟨rfl, h4, hb4⟩
    have HE4 := Lib.hid (KEY2.out _ _ HR.out HE.out.2 h4 hb4)
    clear h4 hb4
    go_wp2
    go_ret
    exact ⟨rfl, HE4.out⟩
set_option maxRecDepth 100000 in
theorem room_Alloc (h : RmI R ring g N lb tb rb H ps pg rt X) (hq : ps.length ≤ 800000) :
    Calls Tryz.prog 87 #[ptr rb] X fun e X' => e = .returned (.tuple #[.int .i64 (Rm.alloc pg).1, .int .i64 (Rm.alloc pg).2]) ∧ Did R ring g N lb tb rb H ps (Rm.alloced pg) rt X X' := by
  have hf := room_firstFree h
  rcases Rm.firstFree_cases pg with e | ⟨p, e, hp, hs⟩
  · have ha : Rm.alloced pg = pg := by unfold Rm.alloced; rw [e]
    have hb : Rm.alloc pg = (0, 4) := by unfold Rm.alloc; rw [e]
    rw [ha, hb]
    rw [e] at hf
    have HF := Lib.hid hf
    have HI := Lib.hid h
    clear h hf ha hb e hq
    go_enter Tryz.func87, Tryz.ntmps87
    unfold ptr
    go_wp2_with fail
    refine HF.out.mono ?_
    rintro e X1 ⟨rfl, hb1⟩
    go_wp2
    go_ret2
    exact ⟨rfl, Did.none HI.out hb1⟩
  · have ha : Rm.alloced pg = pg.set p (some (Dk.full [])) := by unfold Rm.alloced; rw [e]
    have hb : Rm.alloc pg = (((p : Nat) : Int), 0) := by unfold Rm.alloc; rw [e]
    rw [ha, hb]
    rw [e] at hf
    have HF := Lib.hid hf
    have HI := Lib.hid h
    have HP := Lib.hid (And.intro hp (And.intro hs hq))
    clear h hf ha hb e hq hp hs
    go_enter Tryz.func87, Tryz.ntmps87
    unfold ptr
    go_wp2_with fail
    refine HF.out.mono ?_
    rintro e X1 ⟨rfl, hb1⟩
    have H1 := Lib.hid (HI.out.still hb1)
    have HB1 := Lib.hid (But.of_below hb1 (fun k => ¬ R k))
    clear hb1
    go_wp2_with fail
    refine (room_take H1.out p HP.out.1 HP.out.2.1 HP.out.2.2).mono ?_
    rintro e X2 ⟨rfl, ps2, hl2, h2, hb2⟩
    have HE := Lib.hid (show Did R ring g N lb tb rb H ps (pg.set p (some (Dk.full []))) rt X X2 from ⟨ps2, hl2, h2, HB1.out.trans hb2 (fun _ _ h => h)⟩)
    clear h2 hb2 hl2
    go_wp2
    go_ret2
    exact ⟨rfl, HE.out⟩
set_option maxRecDepth 100000 in
theorem room_Free (h : RmI R ring g N lb tb rb H ps pg rt X) (i : Int) (hq : ps.length ≤ 800000) :
    Calls Tryz.prog 63 #[ptr rb, .int .i64 i] X fun e X' => e = .returned (.int .i64 (Rm.refuse pg i)) ∧ Did R ring g N lb tb rb H ps (Rm.freed pg i) rt X X' := by
  have HC := Lib.hid (room_refusal h i)
  rcases Rm.at_any pg i with ⟨ho, hr, hg, hh, hn⟩ | ⟨p, rfl, hp, hs, hr, hg, hh, hn⟩ | ⟨p, t, rfl, hp, hs, hr, hg, hh, hn⟩
  · have ha : Rm.freed pg i = pg := by unfold Rm.freed; rw [hr, if_neg (by decide)]
    rw [ha, hr]
    have HR := Lib.hid hr
    have HI := Lib.hid h
    clear hr hg hh hn h ho ha hq
    go_enter Tryz.func63, Tryz.ntmps63
    unfold ptr
    go_wp2_with fail
    refine HC.out.mono ?_
    rintro e X' ⟨rfl, hb⟩
    rw [HR.out]
    go_wp2
    go_ret
    exact ⟨rfl, Did.none HI.out hb⟩
  · have ha : Rm.freed pg p = pg := by unfold Rm.freed; rw [hr, if_neg (by decide)]
    rw [ha, hr]
    have HR := Lib.hid hr
    have HI := Lib.hid h
    clear hr hg hh hn h hp hs ha hq
    go_enter Tryz.func63, Tryz.ntmps63
    unfold ptr
    go_wp2_with fail
    refine HC.out.mono ?_
    rintro e X' ⟨rfl, hb⟩
    rw [HR.out]
    go_wp2
    go_ret
    exact ⟨rfl, Did.none HI.out hb⟩
  · have ha : Rm.freed pg p = pg.set p none := by unfold Rm.freed; rw [hr, if_pos rfl, Int.toNat_natCast]
    rw [ha, hr]
    have HR := Lib.hid hr
    have HI := Lib.hid h
    have HP := Lib.hid (show p < pg.length ∧ (pg.getD p none).isSome ∧ ps.length ≤ 900000 ∧ 1 < H.length from ⟨hp, by rw [hs]; rfl, by omega, by have := h.len; omega⟩)
    clear hr hg hh hn h hp hs ha hq
    go_enter Tryz.func63, Tryz.ntmps63
    unfold ptr
    go_wp2_with fail
    refine HC.out.mono ?_
    rintro e X' ⟨rfl, hb⟩
    rw [HR.out]
    have H1 := Lib.hid (HI.out.still hb)
    have HB1 := Lib.hid (But.of_below hb (fun k => ¬ R k))
    clear hb
    go_wp2_with fail
    refine (room_flip H1.out p HP.out.1 HP.out.2.2.1).mono ?_
    rintro e X2 ⟨rfl, h2, hb2⟩
    have HE := Lib.hid (show Did R ring g N lb tb rb H ps (pg.set p none) rt X X2 by
      have h1 := H1.out.rep.home (i := 1) (by rw [Wl.along_length]; exact HP.out.2.2.2)
      refine ⟨_, ?_, RmI.put (pg' := pg.set p none) (rt' := rt) H1.out HP.out.2.2.2 h2 hb2 ?_ (by rw [List.length_set]), HB1.out.trans hb2 (fun _ _ h => h)⟩
      · rw [List.length_append]; show ps.length + 1 ≤ _; omega
      · rw [show Dk.full (Rm.flip ((Wl.along H (Tx.psI ps)).getD 1 []) p) = Rm.flip ((Wl.along H (Tx.psI ps)).getD 1 []) p from Wl.full_of_full (by rw [Rm.flip_length]; exact h1)]
        exact H1.out.rep.free HP.out.1 HP.out.2.1)
    clear h2 hb2
    go_wp2
    go_ret
    exact ⟨rfl, HE.out⟩
set_option maxRecDepth 100000 in
set_option maxHeartbeats 2000000 in
theorem room_Write (h : RmI R ring g N lb tb rb H ps pg rt X) (i : Int) (s : ByteArray) (hq : ps.length ≤ 800000) :
    Calls Tryz.prog 88 #[ptr rb, .int .i64 i, .string s] X fun e X' => e = .returned (.int .i64 (Rm.wrote pg i s.size)) ∧ Did R ring g N lb tb rb H ps (Rm.written pg i s.data.toList) rt X X' := by
  have HC := Lib.hid (room_refusal h i)
  have hsz : s.data.toList.length = s.size := Array.length_toList
  rcases Rm.at_any pg i with ⟨ho, hr, hg, hh, hn⟩ | ⟨p, rfl, hp, hs, hr, hg, hh, hn⟩ | ⟨p, t, rfl, hp, hs, hr, hg, hh, hn⟩
  · have hw : ∀ n, Rm.wrote pg i n = 2 := fun n => by unfold Rm.wrote; rw [hr, if_neg (by decide)]
    have ha : Rm.written pg i s.data.toList = pg := by unfold Rm.written; rw [hw, if_neg (by decide)]
    rw [ha, hw]
    have HR := Lib.hid hr
    have HI := Lib.hid h
    clear hr hg hh hn h ho ha hq hw hsz
    go_enter Tryz.func88, Tryz.ntmps88
    unfold ptr
    go_wp2_with fail
    refine HC.out.mono ?_
    rintro e X' ⟨rfl, hb⟩
    rw [HR.out]
    go_wp2
    go_ret
    exact ⟨rfl, Did.none HI.out hb⟩
  · have hw : ∀ n, Rm.wrote pg p n = 6 := fun n => by unfold Rm.wrote; rw [hr, if_neg (by decide)]
    have ha : Rm.written pg p s.data.toList = pg := by unfold Rm.written; rw [hw, if_neg (by decide)]
    rw [ha, hw]
    have HR := Lib.hid hr
    have HI := Lib.hid h
    clear hr hg hh hn h hp hs ha hq hw hsz
    go_enter Tryz.func88, Tryz.ntmps88
    unfold ptr
    go_wp2_with fail
    refine HC.out.mono ?_
    rintro e X' ⟨rfl, hb⟩
    rw [HR.out]
    go_wp2
    go_ret
    exact ⟨rfl, Did.none HI.out hb⟩
  · by_cases hz : s.size ≤ 512
    · have hw : Rm.wrote pg p s.size = 0 := by unfold Rm.wrote; rw [hr, if_pos rfl, if_neg (by omega)]
      have ha : Rm.written pg p s.data.toList = pg.set p (some (Dk.full s.data.toList)) := by unfold Rm.written; rw [hsz, hw, if_pos rfl, Int.toNat_natCast]
      rw [ha, hw]
      have HR := Lib.hid hr
      have HI := Lib.hid h
      have HZ := Lib.hid hz
      have HP := Lib.hid (show p < pg.length ∧ 2 + p < H.length ∧ H.length ≤ 65536 ∧ ps.length ≤ 900000 ∧ (pg.getD p none).isSome from ⟨hp, by have := h.len; omega, by have := h.len; have := h.rep.few; omega, by omega, by rw [hs]; rfl⟩)
      clear hr hg hh hn h hp hs ha hq hw hsz hz
      go_enter Tryz.func88, Tryz.ntmps88
      unfold ptr
      go_wp2_with fail
      refine HC.out.mono ?_
      rintro e X1 ⟨rfl, hb⟩
      rw [HR.out]
      have H1 := Lib.hid (HI.out.still hb)
      have H1d := Lib.hid (H1.out.still ((Below.refl X1.heap.size X1).drew))
      have HB1 := Lib.hid (show But (fun k => ¬ R k) X X1.drew from (But.of_below hb _).drew)
      have hcc := H1d.out.cell
      clear hb
      go_wp2_with (refine wp_region_any (by kernel_rfl) ?_; refine Hid.out ?_)
      refine Lib.hid ?_
      try (change wpAny _ _ _ _ _ _ _ (World.drew _))
      refine wpAny_take (i := 0) (v := ?_) (by simp only [List.getElem?_toArray, List.getElem?_cons_zero]; exact rfl) (by kernel_rfl) (by kernel_rfl) (by kernel_rfl) (by exact fun _ _ _ h => h) (Or.inl ⟨by rfl, ?_⟩) ?_
      rotate_left
      · intro w; go_simp; try with_reducible rfl
      refine wpAny_take (i := 1) (v := ?_) (by simp only [List.getElem?_toArray, List.getElem?_cons_succ, List.getElem?_cons_zero]; exact rfl) (by kernel_rfl) (by kernel_rfl) (by kernel_rfl) (by exact fun _ _ _ h => h) (Or.inl ⟨by rfl, ?_⟩) ?_
      rotate_left
      · intro w; go_simp; try with_reducible rfl
      refine wpAny_take (i := 2) (v := ?_) (by simp only [List.getElem?_toArray, List.getElem?_cons_succ, List.getElem?_cons_zero]; exact rfl) (by kernel_rfl) (by kernel_rfl) (by kernel_rfl) (by exact fun _ _ _ h => h) (Or.inl ⟨by rfl, ?_⟩) ?_
      rotate_left
      · intro w; go_simp; try with_reducible rfl
      refine wpAny_take (i := 4) (v := ?_) (by simp only [List.getElem?_toArray, List.getElem?_cons_succ, List.getElem?_cons_zero]; exact rfl) (by kernel_rfl) (by kernel_rfl) (by kernel_rfl) (by exact fun _ _ _ h => h) (Or.inl ⟨by rfl, ?_⟩) ?_
      rotate_left
      · intro w; go_simp; try with_reducible rfl
      refine wpAny_take (i := 5) (v := ?_) (by simp only [List.getElem?_toArray, List.getElem?_cons_succ, List.getElem?_cons_zero]; exact rfl) (by kernel_rfl) (by kernel_rfl) (by kernel_rfl) (by exact fun _ _ _ h => h) (Or.inl ⟨by rfl, ?_⟩) ?_
      rotate_left
      · intro w; go_simp; try with_reducible rfl
      refine wpAny_take (i := 7) (v := ?_) (by simp only [List.getElem?_toArray, List.getElem?_cons_succ, List.getElem?_cons_zero]; exact rfl) (by kernel_rfl) (by kernel_rfl) (by kernel_rfl) (by exact fun _ _ _ h => h) (Or.inl ⟨by rfl, ?_⟩) ?_
      rotate_left
      · intro w; go_simp; try with_reducible rfl
      simp only [Act.put, List.setIfInBounds_toArray, List.set_cons_succ, List.set_cons_zero]
      refine wpAny_ready (rs := [3, 6]) (by kernel_rfl) (by simp) ?_
      refine AllReady.cons rfl (fun K hK => ?_) (AllReady.cons rfl (fun K hK => ?_) AllReady.nil)
      · go_simp
        refine hK _ _ ?_; clear hK K
        refine wpAny_ready (rs := [6]) (by kernel_rfl) (by simp) ?_
        refine AllReady.cons rfl (fun K hK => ?_) AllReady.nil
        go_simp
        refine (room_homeOf H1d.out p HP.out.1).mono ?_
        rintro e w1 ⟨rfl, rfl⟩
        refine hK _ _ ?_; clear hK K
        refine wpAny_ready (rs := [8]) (by kernel_rfl) (by simp) ?_
        refine AllReady.cons rfl (fun K hK => ?_) AllReady.nil
        go_simp
        refine (c1_write H1d.out.c (2 + p) s HP.out.2.1 HP.out.2.2.1 HZ.out HP.out.2.2.2.1).mono ?_; rintro e w3 ⟨rfl, h3, hb3⟩
        refine hK _ _ ?_; clear hK K
        have HE := Lib.hid (show Did R ring g N lb tb rb H ps (pg.set p (some (Dk.full s.data.toList))) rt X w3 by
          refine ⟨_, ?_, RmI.put (pg' := pg.set p (some (Dk.full s.data.toList))) (rt' := rt) H1d.out HP.out.2.1 h3 hb3 (H1d.out.rep.write HP.out.1 HP.out.2.2.2.2 (Dk.full_length _ (by rw [Array.length_toList]; exact HZ.out))) (by rw [List.length_set]), HB1.out.trans hb3 (fun _ _ h => h)⟩
          rw [List.length_append]; show ps.length + 1 ≤ _; omega)
        clear hb3 h3
        refine wpAny_ready (rs := [9]) (by kernel_rfl) (by simp) ?_
        refine AllReady.cons rfl (fun K hK => ?_) AllReady.nil
        go_simp
        refine hK _ _ ?_; clear hK K
        refine wpAny_done (by kernel_rfl) ?_ _
        go_wp2
        go_ret
        exact ⟨rfl, HE.out⟩
      · go_simp
        refine (room_homeOf H1d.out p HP.out.1).mono ?_
        rintro e w1 ⟨rfl, rfl⟩
        refine hK _ _ ?_; clear hK K
        refine wpAny_ready (rs := [3]) (by kernel_rfl) (by simp) ?_
        refine AllReady.cons rfl (fun K hK => ?_) AllReady.nil
        go_simp
        refine hK _ _ ?_; clear hK K
        refine wpAny_ready (rs := [8]) (by kernel_rfl) (by simp) ?_
        refine AllReady.cons rfl (fun K hK => ?_) AllReady.nil
        go_simp
        refine (c1_write H1d.out.c (2 + p) s HP.out.2.1 HP.out.2.2.1 HZ.out HP.out.2.2.2.1).mono ?_; rintro e w3 ⟨rfl, h3, hb3⟩
        refine hK _ _ ?_; clear hK K
        have HE := Lib.hid (show Did R ring g N lb tb rb H ps (pg.set p (some (Dk.full s.data.toList))) rt X w3 by
          refine ⟨_, ?_, RmI.put (pg' := pg.set p (some (Dk.full s.data.toList))) (rt' := rt) H1d.out HP.out.2.1 h3 hb3 (H1d.out.rep.write HP.out.1 HP.out.2.2.2.2 (Dk.full_length _ (by rw [Array.length_toList]; exact HZ.out))) (by rw [List.length_set]), HB1.out.trans hb3 (fun _ _ h => h)⟩
          rw [List.length_append]; show ps.length + 1 ≤ _; omega)
        clear hb3 h3
        refine wpAny_ready (rs := [9]) (by kernel_rfl) (by simp) ?_
        refine AllReady.cons rfl (fun K hK => ?_) AllReady.nil
        go_simp
        refine hK _ _ ?_; clear hK K
        refine wpAny_done (by kernel_rfl) ?_ _
        go_wp2
        go_ret
        exact ⟨rfl, HE.out⟩
    · have hw : Rm.wrote pg p s.size = 5 := by unfold Rm.wrote; rw [hr, if_pos rfl, if_pos (by omega)]
      have ha : Rm.written pg p s.data.toList = pg := by unfold Rm.written; rw [hsz, hw, if_neg (by decide)]
      rw [ha, hw]
      have HR := Lib.hid hr
      have HI := Lib.hid h
      have HZ := Lib.hid (show 512 < s.size by omega)
      have HP := Lib.hid (show p < pg.length ∧ 2 + p < H.length from ⟨hp, by have := h.len; omega⟩)
      clear hr hg hh hn h hp hs ha hq hw hsz hz
      go_enter Tryz.func88, Tryz.ntmps88
      unfold ptr
      go_wp2_with fail
      refine HC.out.mono ?_
      rintro e X1 ⟨rfl, hb⟩
      rw [HR.out]
      have H1 := Lib.hid (HI.out.still hb)
      have H1d := Lib.hid (H1.out.still ((Below.refl X1.heap.size X1).drew))
      have HBl := Lib.hid (hb.drew)
      have hcc := H1d.out.cell
      clear hb
      go_wp2_with (refine wp_region_any (by kernel_rfl) ?_; refine Hid.out ?_)
      refine Lib.hid ?_
      try (change wpAny _ _ _ _ _ _ _ (World.drew _))
      refine wpAny_take (i := 0) (v := ?_) (by simp only [List.getElem?_toArray, List.getElem?_cons_zero]; exact rfl) (by kernel_rfl) (by kernel_rfl) (by kernel_rfl) (by exact fun _ _ _ h => h) (Or.inl ⟨by rfl, ?_⟩) ?_
      rotate_left
      · intro w; go_simp; try with_reducible rfl
      refine wpAny_take (i := 1) (v := ?_) (by simp only [List.getElem?_toArray, List.getElem?_cons_succ, List.getElem?_cons_zero]; exact rfl) (by kernel_rfl) (by kernel_rfl) (by kernel_rfl) (by exact fun _ _ _ h => h) (Or.inl ⟨by rfl, ?_⟩) ?_
      rotate_left
      · intro w; go_simp; try with_reducible rfl
      refine wpAny_take (i := 2) (v := ?_) (by simp only [List.getElem?_toArray, List.getElem?_cons_succ, List.getElem?_cons_zero]; exact rfl) (by kernel_rfl) (by kernel_rfl) (by kernel_rfl) (by exact fun _ _ _ h => h) (Or.inl ⟨by rfl, ?_⟩) ?_
      rotate_left
      · intro w; go_simp; try with_reducible rfl
      refine wpAny_take (i := 4) (v := ?_) (by simp only [List.getElem?_toArray, List.getElem?_cons_succ, List.getElem?_cons_zero]; exact rfl) (by kernel_rfl) (by kernel_rfl) (by kernel_rfl) (by exact fun _ _ _ h => h) (Or.inl ⟨by rfl, ?_⟩) ?_
      rotate_left
      · intro w; go_simp; try with_reducible rfl
      refine wpAny_take (i := 5) (v := ?_) (by simp only [List.getElem?_toArray, List.getElem?_cons_succ, List.getElem?_cons_zero]; exact rfl) (by kernel_rfl) (by kernel_rfl) (by kernel_rfl) (by exact fun _ _ _ h => h) (Or.inl ⟨by rfl, ?_⟩) ?_
      rotate_left
      · intro w; go_simp; try with_reducible rfl
      refine wpAny_take (i := 7) (v := ?_) (by simp only [List.getElem?_toArray, List.getElem?_cons_succ, List.getElem?_cons_zero]; exact rfl) (by kernel_rfl) (by kernel_rfl) (by kernel_rfl) (by exact fun _ _ _ h => h) (Or.inl ⟨by rfl, ?_⟩) ?_
      rotate_left
      · intro w; go_simp; try with_reducible rfl
      simp only [Act.put, List.setIfInBounds_toArray, List.set_cons_succ, List.set_cons_zero]
      refine wpAny_ready (rs := [3, 6]) (by kernel_rfl) (by simp) ?_
      refine AllReady.cons rfl (fun K hK => ?_) (AllReady.cons rfl (fun K hK => ?_) AllReady.nil)
      · go_simp
        refine hK _ _ ?_; clear hK K
        refine wpAny_ready (rs := [6]) (by kernel_rfl) (by simp) ?_
        refine AllReady.cons rfl (fun K hK => ?_) AllReady.nil
        go_simp
        refine (room_homeOf H1d.out p HP.out.1).mono ?_
        rintro e w1 ⟨rfl, rfl⟩
        refine hK _ _ ?_; clear hK K
        refine wpAny_ready (rs := [8]) (by kernel_rfl) (by simp) ?_
        refine AllReady.cons rfl (fun K hK => ?_) AllReady.nil
        go_simp
        refine (c1_write_no H1d.out.c (2 + p : Nat) s 5 (.inr ⟨rfl, by omega, by have := HP.out.2; omega, HZ.out⟩)).mono ?_; rintro e w3 ⟨rfl, rfl⟩
        refine hK _ _ ?_; clear hK K
        refine wpAny_ready (rs := [9]) (by kernel_rfl) (by simp) ?_
        refine AllReady.cons rfl (fun K hK => ?_) AllReady.nil
        go_simp
        refine hK _ _ ?_; clear hK K
        refine wpAny_done (by kernel_rfl) ?_ _
        go_wp2
        go_ret
        exact ⟨rfl, Did.none HI.out HBl.out⟩
      · go_simp
        refine (room_homeOf H1d.out p HP.out.1).mono ?_
        rintro e w1 ⟨rfl, rfl⟩
        refine hK _ _ ?_; clear hK K
        refine wpAny_ready (rs := [3]) (by kernel_rfl) (by simp) ?_
        refine AllReady.cons rfl (fun K hK => ?_) AllReady.nil
        go_simp
        refine hK _ _ ?_; clear hK K
        refine wpAny_ready (rs := [8]) (by kernel_rfl) (by simp) ?_
        refine AllReady.cons rfl (fun K hK => ?_) AllReady.nil
        go_simp
        refine (c1_write_no H1d.out.c (2 + p : Nat) s 5 (.inr ⟨rfl, by omega, by have := HP.out.2; omega, HZ.out⟩)).mono ?_; rintro e w3 ⟨rfl, rfl⟩
        refine hK _ _ ?_; clear hK K
        refine wpAny_ready (rs := [9]) (by kernel_rfl) (by simp) ?_
        refine AllReady.cons rfl (fun K hK => ?_) AllReady.nil
        go_simp
        refine hK _ _ ?_; clear hK K
        refine wpAny_done (by kernel_rfl) ?_ _
        go_wp2
        go_ret
        exact ⟨rfl, Did.none HI.out HBl.out⟩
end
end Go.Proofs.YtahnhhhhfioibaaGreatDoor

namespace Go.Proofs.YtahnhhhhfioibaaGreatDoor
open Go.RowKit Lib

theorem wide_any (w : World) (n : Nat) (h1 : 4 ≤ n) (h2 : n ≤ 4098) :
    Calls Tryz.prog 29 #[.int .i64 n] w fun e w' => ∃ g b, e = .returned (.tuple #[ptr g, ptr b]) ∧ Kept (fun x => x < w.heap.size) 200 w' b g 1 (Wl.noughts n) ∧ Below w.heap.size w w' := by
  have hm : max (n : Int) 4 = n := by omega
  have hI : (n : Int) ≤ 4098 := by omega
  obtain ⟨z, hz⟩ : ∃ z : Nat, z = 201 + n := ⟨_, rfl⟩
  have hzI : 201 + (n : Int) = z := by omega
  have HZ := Lib.hid (show z = 201 + n ∧ 4 ≤ n ∧ n ≤ 4098 from ⟨hz, h1, h2⟩)
  clear hz h1 h2
  go_enter Tryz.func29, Tryz.ntmps29
  go_wp2_with fail
  refine (new_any z w (by have := HZ.out; omega) (by have := HZ.out; omega)).mono ?_
  rintro e w1 ⟨g, FD, rfl, hd1, hF, hb1⟩
  have H1 := Lib.hid (And.intro hd1 (And.intro hF hb1))
  clear hd1 hF hb1
  go_wp2_with fail
  refine (kept_begun (A := fun x => x < w.heap.size) (ring := 200) (size := z) H1.out.1 (fun x hx hn => by have := H1.out.2.1 x hx; omega) (fun x hx => by have := H1.out.2.2.size; omega) (by decide) (by decide) (by have := HZ.out; omega) (by have := HZ.out; omega)).mono ?_
  rintro e w2 ⟨b, rfl, hk2, ho2⟩
  have H2 := Lib.hid (show Kept (fun x => x < w.heap.size) 200 w2 b g 1 (Wl.noughts n) ∧ Below w.heap.size w w2 by
    rw [show z - 1 - 200 = n by have := HZ.out; omega] at hk2
    exact ⟨hk2, H1.out.2.2.trans (Off.below ho2 (fun x hx => hx) H1.out.2.2.size)⟩)
  clear hk2 ho2
  go_wp2
  go_ret2
  exact ⟨g, b, rfl, H2.out.1, H2.out.2⟩
theorem room_Of (X : World) (tb : Nat) :
    Calls Tryz.prog 30 #[ptr tb] X fun e X' => e = .returned (ptr X.heap.size) ∧ X' = X.alloc (.cells #[ptr tb] 112) := by
  go_enter Tryz.func30, Tryz.ntmps30
  unfold ptr
  go_wp2
  go_ret
  exact ⟨rfl, rfl⟩
/-- A new room of a new change. -/
theorem room_begun {A : Nat → Prop} {X : World} {ring g N lb tb n : Nat} (h : C1 A ring g N lb tb (Wl.noughts n) [] X) (h1 : 3 ≤ n) (h2 : n ≤ 4098) :
    RmI (fun k => A k ∨ k = X.heap.size) ring g N lb tb X.heap.size (Wl.noughts n) [] (List.replicate (n - 2) none) (List.replicate 16 0) (X.alloc (.cells #[ptr tb] 112)) := by
  refine ⟨h.turn (But.of_below ((Below.refl _ X).alloc (Nat.le_refl _) _) (fun _ => False)) (fun _ _ h => h.elim) (fun k hk => hk.imp_right fun e => ?_), Blk.new X #[ptr tb] 112, .inr rfl, Rm.rep_new n (by omega) h2, fun p hp => (by cases hp), (by rw [List.length_replicate]; omega)⟩
  rw [e, World.size_alloc]
  omega
end Go.Proofs.YtahnhhhhfioibaaGreatDoor
