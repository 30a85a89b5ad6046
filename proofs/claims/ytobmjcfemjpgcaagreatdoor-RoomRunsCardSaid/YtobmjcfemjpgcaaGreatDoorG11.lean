/- Elder texts, merged (11). -/
import Derived.Test.YtobmjcfemjpgcaaGreatDoorG10
import Derived.Test.YtobmjcfemjpgcaaGreatDoorG9
import Derived.Test.YtobmjcfemjpgcaaGreatDoorG6
namespace Go.Proofs.YtobmjcfemjpgcaaGreatDoor
open Go.RowKit Lib

namespace Rm
def freed (pg : List (Option Wl.Text)) (i : Int) : List (Option Wl.Text) := if refuse pg i = 0 then pg.set i.toNat none else pg
def written (pg : List (Option Wl.Text)) (i : Int) (s : Wl.Text) : List (Option Wl.Text) := if wrote pg i s.length = 0 then pg.set i.toNat (some (Dk.full s)) else pg
def alloced (pg : List (Option Wl.Text)) : List (Option Wl.Text) := match firstFree pg with | some p => pg.set p (some (Dk.full [])) | none => pg
def alloc (pg : List (Option Wl.Text)) : Int × Int := match firstFree pg with | some p => ((p : Nat), 0) | none => (0, 4)
end Rm
section
variable {X X' : World} {R R' S : Nat → Prop} {ring g N lb tb rb : Nat} {H H' : List Wl.Text} {ps ps' : List (Nat × List UInt8)} {pg pg' : List (Option Wl.Text)} {rt rt' : List Nat}
/-- What a call leaves that might have turned the room. -/
def Did (R : Nat → Prop) (ring g N lb tb rb : Nat) (H : List Wl.Text) (ps : List (Nat × List UInt8)) (pg : List (Option Wl.Text)) (rt : List Nat) (X X' : World) : Prop :=
  ∃ ps', ps'.length ≤ ps.length + 2 ∧ RmI R ring g N lb tb rb H ps' pg rt X' ∧ But (fun k => ¬ R k) X X'
theorem Did.none (h : RmI R ring g N lb tb rb H ps pg rt X) (hb : Below X.heap.size X X') : Did R ring g N lb tb rb H ps pg rt X X' := ⟨ps, by omega, h.still hb, But.of_below hb _⟩
set_option maxRecDepth 100000 in
set_option maxHeartbeats 2000000 in
theorem room_take (h : RmI R ring g N lb tb rb H ps pg rt X) (p : Nat) (hp : p < pg.length) (hs : pg.getD p none = none) (hq : ps.length ≤ 800000) :
    Calls Tryz.prog 69 #[ptr rb, .int .i64 p] X fun e X' => e = .returned (.int .i64 0) ∧ Did R ring g N lb tb rb H ps (pg.set p (some (Dk.full []))) rt X X' := by
  have HI := Lib.hid h
  have HP := Lib.hid (show p < pg.length ∧ 2 + p < H.length ∧ H.length ≤ 65536 ∧ ps.length ≤ 900000 by have := h.rep.few; have := h.len; omega)
  have HS := Lib.hid (And.intro hs hq)
  have hc := h.cell
  have H1d := Lib.hid (h.still ((Below.refl X.heap.size X).drew))
  have HB1 := Lib.hid (show But (fun k => ¬ R k) X X.drew from (But.refl _ _).drew)
  clear h hp hq hs
  have key : ∀ w3 : World, C1 R ring g N lb tb H (ps ++ [(2 + p, [])]) w3 → But (fun k => ¬ R k) X w3 → RmI R ring g N lb tb rb H (ps ++ [(2 + p, [])]) pg rt w3 := fun w3 hc hb =>
    HI.out.put HP.out.2.1 hc hb (HI.out.rep.unseen HP.out.1 HS.out.1 (by decide)) rfl
  have KEY := Lib.hid key
  have key2 : ∀ w3 w4 : World, RmI R ring g N lb tb rb H (ps ++ [(2 + p, [])]) pg rt w3 → But (fun k => ¬ R k) X w3 → C1 R ring g N lb tb H ((ps ++ [(2 + p, [])]) ++ [(1, Rm.flip ((Wl.along H (Tx.psI (ps ++ [(2 + p, [])]))).getD 1 []) p)]) w4 → But (fun k => ¬ R k) w3 w4 → Did R ring g N lb tb rb H ps (pg.set p (some (Dk.full []))) rt X w4 := by
    intro w3 w4 h3 hb hc hb2
    have hl := HP.out.2.1
    have hK : (Wl.along H (Tx.psI ps)).length = H.length := Wl.along_length _ _
    refine ⟨_, ?_, RmI.put (pg' := pg.set p (some (Dk.full []))) (rt' := rt) h3 (by omega) hc hb2 ?_ (by rw [List.length_set]), hb.trans hb2 (fun _ _ h => h)⟩
    · rw [List.length_append, List.length_append]; exact Nat.le_refl _
    · have h1 := h3.rep.home (i := 1) (by rw [Wl.along_length]; omega)
      rw [show Dk.full (Rm.flip ((Wl.along H (Tx.psI (ps ++ [(2 + p, [])]))).getD 1 []) p) = Rm.flip ((Wl.along H (Tx.psI (ps ++ [(2 + p, [])]))).getD 1 []) p from Wl.full_of_full (by rw [Rm.flip_length]; exact h1)]
      refine h3.rep.turn HP.out.1 (by rw [HS.out.1]; rfl) (fun t ht => ?_)
      injection ht with ht
      rw [along_snoc, Rm.Rep.getD_set _ _ _ _ _ (by rw [hK]; exact hl), if_pos rfl, ht]
  have KEY2 := Lib.hid key2
  clear key key2
  go_enter Tryz.func69, Tryz.ntmps69
  unfold ptr
  go_wp2_with (refine wp_region_any (by kernel_rfl) ?_; refine Hid.out ?_)
  refine Lib.hid ?_
  try (change wpAny _ _ _ _ _ _ _ (World.drew _))
  refine wpAny_take (i := 0) (v := ?_) (by simp only [List.getElem?_toArray, List.getElem?_cons_zero]; exact rfl) (by kernel_rfl) (by kernel_rfl) (by kernel_rfl) (by exact fun _ _ _ h => h) (Or.inl ⟨by rfl, ?_⟩) ?_
  rotate_left
  · intro w; go_simp; try with_reducible rfl
  refine wpAny_take (i := 1) (v := ?_) (by simp only [List.getElem?_toArray, List.getElem?_cons_succ, List.getElem?_cons_zero]; exact rfl) (by kernel_rfl) (by kernel_rfl) (by kernel_rfl) (by exact fun _ _ _ h => h) (Or.inl ⟨by rfl, ?_⟩) ?_
  rotate_left
  · intro w; go_simp; try with_reducible rfl
  refine wpAny_take (i := 2) (v := ?_) (by simp only [List.getElem?_toArray, List.getElem?_cons_succ, List.getElem?_cons_zero]; exact rfl) (by kernel_rfl) (by kernel_rfl) (by kernel_rfl) (by exact fun _ _ _ h => h) (Or.inl ⟨by rfl, ?_⟩) ?_
  rotate_left
  · intro w; go_simp; try with_reducible rfl
  refine wpAny_take (i := 4) (v := ?_) (by simp only [List.getElem?_toArray, List.getElem?_cons_succ, List.getElem?_cons_zero]; exact rfl) (by kernel_rfl) (by kernel_rfl) (by kernel_rfl) (by exact fun _ _ _ h => h) (Or.inl ⟨by rfl, ?_⟩) ?_
  rotate_left
  · intro w; go_simp; try with_reducible rfl
  refine wpAny_take (i := 5) (v := ?_) (by simp only [List.getElem?_toArray, List.getElem?_cons_succ, List.getElem?_cons_zero]; exact rfl) (by kernel_rfl) (by kernel_rfl) (by kernel_rfl) (by exact fun _ _ _ h => h) (Or.inl ⟨by rfl, ?_⟩) ?_
  rotate_left
  · intro w; go_simp; try with_reducible rfl
  simp only [Act.put, List.setIfInBounds_toArray, List.set_cons_succ, List.set_cons_zero]
  refine wpAny_ready (rs := [3, 6]) (by kernel_rfl) (by simp) ?_
  refine AllReady.cons rfl (fun K hK => ?_) (AllReady.cons rfl (fun K hK => ?_) AllReady.nil)
  · go_simp
    refine hK _ _ ?_; clear hK K
    refine wpAny_ready (rs := [6]) (by kernel_rfl) (by simp) ?_
    refine AllReady.cons rfl (fun K hK => ?_) AllReady.nil
    go_simp
    refine (room_homeOf H1d.out p HP.out.1).mono ?_
    rintro e w1 ⟨rfl, rfl⟩
    refine hK _ _ ?_; clear hK K
    refine wpAny_ready (rs := [7]) (by kernel_rfl) (by simp) ?_
    refine AllReady.cons rfl (fun K hK => ?_) AllReady.nil
    go_simp
    refine (c1_write H1d.out.c (2 + p) ⟨#[]⟩ HP.out.2.1 HP.out.2.2.1 (by decide) HP.out.2.2.2).mono ?_; rintro e w3 ⟨rfl, h3, hb3⟩
    refine hK _ _ ?_; clear hK K
    have HE := Lib.hid (And.intro h3 (HB1.out.trans hb3 (fun _ _ h => h)))
    clear hb3 h3
    refine wpAny_ready (rs := [8]) (by kernel_rfl) (by simp) ?_
    refine AllReady.cons rfl (fun K hK => ?_) AllReady.nil
    go_simp
    refine hK _ _ ?_; clear hK K
    refine wpAny_done (by kernel_rfl) ?_ _
    have HR := Lib.hid (KEY.out _ HE.out.1 HE.out.2)
    go_wp2_with fail
    refine (room_flip HR.out p HP.out.1 (by have := HS.out.2; rw [List.length_append]; show ps.length + 1 ≤ 900000; omega)).mono ?_
    rintro e w4 ⟨rfl, h4, hb4⟩
    have HE4 := Lib.hid (KEY2.out _ _ HR.out HE.out.2 h4 hb4)
    clear h4 hb4
    go_wp2
    go_ret
    exact ⟨rfl, HE4.out⟩
  · go_simp
    refine (room_homeOf H1d.out p HP.out.1).mono ?_
    rintro e w1 ⟨rfl, rfl⟩
    refine hK _ _ ?_; clear hK K
    refine wpAny_ready (rs := [3]) (by kernel_rfl) (by simp) ?_
    refine AllReady.cons rfl (fun K hK => ?_) AllReady.nil
    go_simp
    refine hK _ _ ?_; clear hK K
    refine wpAny_ready (rs := [7]) (by kernel_rfl) (by simp) ?_
    refine AllReady.cons rfl (fun K hK => ?_) AllReady.nil
    go_simp
    refine (c1_write H1d.out.c (2 + p) ⟨#[]⟩ HP.out.2.1 HP.out.2.2.1 (by decide) HP.out.2.2.2).mono ?_; rintro e w3 ⟨rfl, h3, hb3⟩
    refine hK _ _ ?_; clear hK K
    have HE := Lib.hid (And.intro h3 (HB1.out.trans hb3 (fun _ _ h => h)))
    clear hb3 h3
    refine wpAny_ready (rs := [8]) (by kernel_rfl) (by simp) ?_
    refine AllReady.cons rfl (fun K hK => ?_) AllReady.nil
    go_simp
    refine hK _ _ ?_; clear hK K
    refine wpAny_done (by kernel_rfl) ?_ _
    have HR := Lib.hid (KEY.out _ HE.out.1 HE.out.2)
    go_wp2_with fail
    refine (room_flip HR.out p HP.out.1 (by have := HS.out.2; rw [List.length_append]; show ps.length + 1 ≤ 900000; omega)).mono ?_
    rintro e w4 ⟨rfl, h4, hb4⟩
    have HE4 := Lib.hid (KEY2.out _ _ HR.out HE.out.2 h4 hb4)
    clear h4 hb4
    go_wp2
    go_ret
    exact ⟨rfl, HE4.out⟩
set_option maxRecDepth 100000 in
theorem room_Alloc (h : RmI R ring g N lb tb rb H ps pg rt X) (hq : ps.length ≤ 800000) :
    Calls Tryz.prog 31 #[ptr rb] X fun e X' => e = .returned (.tuple #[.int .i64 (Rm.alloc pg).1, .int .i64 (Rm.alloc pg).2]) ∧ Did R ring g N lb tb rb H ps (Rm.alloced pg) rt X X' := by
  have hf := room_firstFree h
  rcases Rm.firstFree_cases pg with e | ⟨p, e, hp, hs⟩
  · have ha : Rm.alloced pg = pg := by unfold Rm.alloced; rw [e]
    have hb : Rm.alloc pg = (0, 4) := by unfold Rm.alloc; rw [e]
    rw [ha, hb]
    rw [e] at hf
    have HF := Lib.hid hf
    have HI := Lib.hid h
    clear h hf ha hb e hq
    go_enter Tryz.func31, Tryz.ntmps31
    unfold ptr
    go_wp2_with fail
    refine HF.out.mono ?_
    rintro e X1 ⟨rfl, hb1⟩
    go_wp2
    go_ret2
    exact ⟨rfl, Did.none HI.out hb1⟩
  · have ha : Rm.alloced pg = pg.set p (some (Dk.full [])) := by unfold Rm.alloced; rw [e]
    have hb : Rm.alloc pg = (((p : Nat) : Int), 0) := by unfold Rm.alloc; rw [e]
    rw [ha, hb]
    rw [e] at hf
    have HF := Lib.hid hf
    have HI := Lib.hid h
    have HP := Lib.hid (And.intro hp (And.intro hs hq))
    clear h hf ha hb e hq hp hs
    go_enter Tryz.func31, Tryz.ntmps31
    unfold ptr
    go_wp2_with fail
    refine HF.out.mono ?_
    rintro e X1 ⟨rfl, hb1⟩
    have H1 := Lib.hid (HI.out.still hb1)
    have HB1 := Lib.hid (But.of_below hb1 (fun k => ¬ R k))
    clear hb1
    go_wp2_with fail
    refine (room_take H1.out p HP.out.1 HP.out.2.1 HP.out.2.2).mono ?_
    rintro e X2 ⟨rfl, ps2, hl2, h2, hb2⟩
    have HE := Lib.hid (show Did R ring g N lb tb rb H ps (pg.set p (some (Dk.full []))) rt X X2 from ⟨ps2, hl2, h2, HB1.out.trans hb2 (fun _ _ h => h)⟩)
    clear h2 hb2 hl2
    go_wp2
    go_ret2
    exact ⟨rfl, HE.out⟩
set_option maxRecDepth 100000 in
theorem room_Free (h : RmI R ring g N lb tb rb H ps pg rt X) (i : Int) (hq : ps.length ≤ 800000) :
    Calls Tryz.prog 33 #[ptr rb, .int .i64 i] X fun e X' => e = .returned (.int .i64 (Rm.refuse pg i)) ∧ Did R ring g N lb tb rb H ps (Rm.freed pg i) rt X X' := by
  have HC := Lib.hid (room_refusal h i)
  rcases Rm.at_any pg i with ⟨ho, hr, hg, hh, hn⟩ | ⟨p, rfl, hp, hs, hr, hg, hh, hn⟩ | ⟨p, t, rfl, hp, hs, hr, hg, hh, hn⟩
  · have ha : Rm.freed pg i = pg := by unfold Rm.freed; rw [hr, if_neg (by decide)]
    rw [ha, hr]
    have HR := Lib.hid hr
    have HI := Lib.hid h
    clear hr hg hh hn h ho ha hq
    go_enter Tryz.func33, Tryz.ntmps33
    unfold ptr
    go_wp2_with fail
    refine HC.out.mono ?_
    rintro e X' ⟨rfl, hb⟩
    rw [HR.out]
    go_wp2
    go_ret
    exact ⟨rfl, Did.none HI.out hb⟩
  · have ha : Rm.freed pg p = pg := by unfold Rm.freed; rw [hr, if_neg (by decide)]
    rw [ha, hr]
    have HR := Lib.hid hr
    have HI := Lib.hid h
    clear hr hg hh hn h hp hs ha hq
    go_enter Tryz.func33, Tryz.ntmps33
    unfold ptr
    go_wp2_with fail
    refine HC.out.mono ?_
    rintro e X' ⟨rfl, hb⟩
    rw [HR.out]
    go_wp2
    go_ret
    exact ⟨rfl, Did.none HI.out hb⟩
  · have ha : Rm.freed pg p = pg.set p none := by unfold Rm.freed; rw [hr, if_pos rfl, Int.toNat_natCast]
    rw [ha, hr]
    have HR := Lib.hid hr
    have HI := Lib.hid h
    have HP := Lib.hid (show p < pg.length ∧ (pg.getD p none).isSome ∧ ps.length ≤ 900000 ∧ 1 < H.length from ⟨hp, by rw [hs]; rfl, by omega, by have := h.len; omega⟩)
    clear hr hg hh hn h hp hs ha hq
    go_enter Tryz.func33, Tryz.ntmps33
    unfold ptr
    go_wp2_with fail
    refine HC.out.mono ?_
    rintro e X' ⟨rfl, hb⟩
    rw [HR.out]
    have H1 := Lib.hid (HI.out.still hb)
    have HB1 := Lib.hid (But.of_below hb (fun k => ¬ R k))
    clear hb
    go_wp2_with fail
    refine (room_flip H1.out p HP.out.1 HP.out.2.2.1).mono ?_
    rintro e X2 ⟨rfl, h2, hb2⟩
    have HE := Lib.hid (show Did R ring g N lb tb rb H ps (pg.set p none) rt X X2 by
      have h1 := H1.out.rep.home (i := 1) (by rw [Wl.along_length]; exact HP.out.2.2.2)
      refine ⟨_, ?_, RmI.put (pg' := pg.set p none) (rt' := rt) H1.out HP.out.2.2.2 h2 hb2 ?_ (by rw [List.length_set]), HB1.out.trans hb2 (fun _ _ h => h)⟩
      · rw [List.length_append]; show ps.length + 1 ≤ _; omega
      · rw [show Dk.full (Rm.flip ((Wl.along H (Tx.psI ps)).getD 1 []) p) = Rm.flip ((Wl.along H (Tx.psI ps)).getD 1 []) p from Wl.full_of_full (by rw [Rm.flip_length]; exact h1)]
        exact H1.out.rep.free HP.out.1 HP.out.2.1)
    clear h2 hb2
    go_wp2
    go_ret
    exact ⟨rfl, HE.out⟩
set_option maxRecDepth 100000 in
set_option maxHeartbeats 2000000 in
theorem room_Write (h : RmI R ring g N lb tb rb H ps pg rt X) (i : Int) (s : ByteArray) (hq : ps.length ≤ 800000) :
    Calls Tryz.prog 35 #[ptr rb, .int .i64 i, .string s] X fun e X' => e = .returned (.int .i64 (Rm.wrote pg i s.size)) ∧ Did R ring g N lb tb rb H ps (Rm.written pg i s.data.toList) rt X X' := by
  have HC := Lib.hid (room_refusal h i)
  have hsz : s.data.toList.length = s.size := Array.length_toList
  rcases Rm.at_any pg i with ⟨ho, hr, hg, hh, hn⟩ | ⟨p, rfl, hp, hs, hr, hg, hh, hn⟩ | ⟨p, t, rfl, hp, hs, hr, hg, hh, hn⟩
  · have hw : ∀ n, Rm.wrote pg i n = 2 := fun n => by unfold Rm.wrote; rw [hr, if_neg (by decide)]
    have ha : Rm.written pg i s.data.toList = pg := by unfold Rm.written; rw [hw, if_neg (by decide)]
    rw [ha, hw]
    have HR := Lib.hid hr
    have HI := Lib.hid h
    clear hr hg hh hn h ho ha hq hw hsz
    go_enter Tryz.func35, Tryz.ntmps35
    unfold ptr
    go_wp2_with fail
    refine HC.out.mono ?_
    rintro e X' ⟨rfl, hb⟩
    rw [HR.out]
    go_wp2
    go_ret
    exact ⟨rfl, Did.none HI.out hb⟩
  · have hw : ∀ n, Rm.wrote pg p n = 6 := fun n => by unfold Rm.wrote; rw [hr, if_neg (by decide)]
    have ha : Rm.written pg p s.data.toList = pg := by unfold Rm.written; rw [hw, if_neg (by decide)]
    rw [ha, hw]
    have HR := Lib.hid hr
    have HI := Lib.hid h
    clear hr hg hh hn h hp hs ha hq hw hsz
    go_enter Tryz.func35, Tryz.ntmps35
    unfold ptr
    go_wp2_with fail
    refine HC.out.mono ?_
    rintro e X' ⟨rfl, hb⟩
    rw [HR.out]
    go_wp2
    go_ret
    exact ⟨rfl, Did.none HI.out hb⟩
  · by_cases hz : s.size ≤ 512
    · have hw : Rm.wrote pg p s.size = 0 := by unfold Rm.wrote; rw [hr, if_pos rfl, if_neg (by omega)]
      have ha : Rm.written pg p s.data.toList = pg.set p (some (Dk.full s.data.toList)) := by unfold Rm.written; rw [hsz, hw, if_pos rfl, Int.toNat_natCast]
      rw [ha, hw]
      have HR := Lib.hid hr
      have HI := Lib.hid h
      have HZ := Lib.hid hz
      have HP := Lib.hid (show p < pg.length ∧ 2 + p < H.length ∧ H.length ≤ 65536 ∧ ps.length ≤ 900000 ∧ (pg.getD p none).isSome from ⟨hp, by have := h.len; omega, by have := h.len; have := h.rep.few; omega, by omega, by rw [hs]; rfl⟩)
      clear hr hg hh hn h hp hs ha hq hw hsz hz
      go_enter Tryz.func35, Tryz.ntmps35
      unfold ptr
      go_wp2_with fail
      refine HC.out.mono ?_
      rintro e X1 ⟨rfl, hb⟩
      rw [HR.out]
      have H1 := Lib.hid (HI.out.still hb)
      have H1d := Lib.hid (H1.out.still ((Below.refl X1.heap.size X1).drew))
      have HB1 := Lib.hid (show But (fun k => ¬ R k) X X1.drew from (But.of_below hb _).drew)
      have hcc := H1d.out.cell
      clear hb
      go_wp2_with (refine wp_region_any (by kernel_rfl) ?_; refine Hid.out ?_)
      refine Lib.hid ?_
      try (change wpAny _ _ _ _ _ _ _ (World.drew _))
      refine wpAny_take (i := 0) (v := ?_) (by simp only [List.getElem?_toArray, List.getElem?_cons_zero]; exact rfl) (by kernel_rfl) (by kernel_rfl) (by kernel_rfl) (by exact fun _ _ _ h => h) (Or.inl ⟨by rfl, ?_⟩) ?_
      rotate_left
      · intro w; go_simp; try with_reducible rfl
      refine wpAny_take (i := 1) (v := ?_) (by simp only [List.getElem?_toArray, List.getElem?_cons_succ, List.getElem?_cons_zero]; exact rfl) (by kernel_rfl) (by kernel_rfl) (by kernel_rfl) (by exact fun _ _ _ h => h) (Or.inl ⟨by rfl, ?_⟩) ?_
      rotate_left
      · intro w; go_simp; try with_reducible rfl
      refine wpAny_take (i := 2) (v := ?_) (by simp only [List.getElem?_toArray, List.getElem?_cons_succ, List.getElem?_cons_zero]; exact rfl) (by kernel_rfl) (by kernel_rfl) (by kernel_rfl) (by exact fun _ _ _ h => h) (Or.inl ⟨by rfl, ?_⟩) ?_
      rotate_left
      · intro w; go_simp; try with_reducible rfl
      refine wpAny_take (i := 4) (v := ?_) (by simp only [List.getElem?_toArray, List.getElem?_cons_succ, List.getElem?_cons_zero]; exact rfl) (by kernel_rfl) (by kernel_rfl) (by kernel_rfl) (by exact fun _ _ _ h => h) (Or.inl ⟨by rfl, ?_⟩) ?_
      rotate_left
      · intro w; go_simp; try with_reducible rfl
      refine wpAny_take (i := 5) (v := ?_) (by simp only [List.getElem?_toArray, List.getElem?_cons_succ, List.getElem?_cons_zero]; exact rfl) (by kernel_rfl) (by kernel_rfl) (by kernel_rfl) (by exact fun _ _ _ h => h) (Or.inl ⟨by rfl, ?_⟩) ?_
      rotate_left
      · intro w; go_simp; try with_reducible rfl
      refine wpAny_take (i := 7) (v := ?_) (by simp only [List.getElem?_toArray, List.getElem?_cons_succ, List.getElem?_cons_zero]; exact rfl) (by kernel_rfl) (by kernel_rfl) (by kernel_rfl) (by exact fun _ _ _ h => h) (Or.inl ⟨by rfl, ?_⟩) ?_
      rotate_left
      · intro w; go_simp; try with_reducible rfl
      simp only [Act.put, List.setIfInBounds_toArray, List.set_cons_succ, List.set_cons_zero]
      refine wpAny_ready (rs := [3, 6]) (by kernel_rfl) (by simp) ?_
      refine AllReady.cons rfl (fun K hK => ?_) (AllReady.cons rfl (fun K hK => ?_) AllReady.nil)
      · go_simp
        refine hK _ _ ?_; clear hK K
        refine wpAny_ready (rs := [6]) (by kernel_rfl) (by simp) ?_
        refine AllReady.cons rfl (fun K hK => ?_) AllReady.nil
        go_simp
        refine (room_homeOf H1d.out p HP.out.1).mono ?_
        rintro e w1 ⟨rfl, rfl⟩
        refine hK _ _ ?_; clear hK K
        refine wpAny_ready (rs := [8]) (by kernel_rfl) (by simp) ?_
        refine AllReady.cons rfl (fun K hK => ?_) AllReady.nil
        go_simp
        refine (c1_write H1d.out.c (2 + p) s HP.out.2.1 HP.out.2.2.1 HZ.out HP.out.2.2.2.1).mono ?_; rintro e w3 ⟨rfl, h3, hb3⟩
        refine hK _ _ ?_; clear hK K
        have HE := Lib.hid (show Did R ring g N lb tb rb H ps (pg.set p (some (Dk.full s.data.toList))) rt X w3 by
          refine ⟨_, ?_, RmI.put (pg' := pg.set p (some (Dk.full s.data.toList))) (rt' := rt) H1d.out HP.out.2.1 h3 hb3 (H1d.out.rep.write HP.out.1 HP.out.2.2.2.2 (Dk.full_length _ (by rw [Array.length_toList]; exact HZ.out))) (by rw [List.length_set]), HB1.out.trans hb3 (fun _ _ h => h)⟩
          rw [List.length_append]; show ps.length + 1 ≤ _; omega)
        clear hb3 h3
        refine wpAny_ready (rs := [9]) (by kernel_rfl) (by simp) ?_
        refine AllReady.cons rfl (fun K hK => ?_) AllReady.nil
        go_simp
        refine hK _ _ ?_; clear hK K
        refine wpAny_done (by kernel_rfl) ?_ _
        go_wp2
        go_ret
        exact ⟨rfl, HE.out⟩
      · go_simp
        refine (room_homeOf H1d.out p HP.out.1).mono ?_
        rintro e w1 ⟨rfl, rfl⟩
        refine hK _ _ ?_; clear hK K
        refine wpAny_ready (rs := [3]) (by kernel_rfl) (by simp) ?_
        refine AllReady.cons rfl (fun K hK => ?_) AllReady.nil
        go_simp
        refine hK _ _ ?_; clear hK K
        refine wpAny_ready (rs := [8]) (by kernel_rfl) (by simp) ?_
        refine AllReady.cons rfl (fun K hK => ?_) AllReady.nil
        go_simp
        refine (c1_write H1d.out.c (2 + p) s HP.out.2.1 HP.out.2.2.1 HZ.out HP.out.2.2.2.1).mono ?_; rintro e w3 ⟨rfl, h3, hb3⟩
        refine hK _ _ ?_; clear hK K
        have HE := Lib.hid (show Did R ring g N lb tb rb H ps (pg.set p (some (Dk.full s.data.toList))) rt X w3 by
          refine ⟨_, ?_, RmI.put (pg' := pg.set p (some (Dk.full s.data.toList))) (rt' := rt) H1d.out HP.out.2.1 h3 hb3 (H1d.out.rep.write HP.out.1 HP.out.2.2.2.2 (Dk.full_length _ (by rw [Array.length_toList]; exact HZ.out))) (by rw [List.length_set]), HB1.out.trans hb3 (fun _ _ h => h)⟩
          rw [List.length_append]; show ps.length + 1 ≤ _; omega)
        clear hb3 h3
        refine wpAny_ready (rs := [9]) (by kernel_rfl) (by simp) ?_
        refine AllReady.cons rfl (fun K hK => ?_) AllReady.nil
        go_simp
        refine hK _ _ ?_; clear hK K
        refine wpAny_done (by kernel_rfl) ?_ _
        go_wp2
        go_ret
        exact ⟨rfl, HE.out⟩
    · have hw : Rm.wrote pg p s.size = 5 := by unfold Rm.wrote; rw [hr, if_pos rfl, if_pos (by omega)]
      have ha : Rm.written pg p s.data.toList = pg := by unfold Rm.written; rw [hsz, hw, if_neg (by decide)]
      rw [ha, hw]
      have HR := Lib.hid hr
      have HI := Lib.hid h
      have HZ := Lib.hid (show 512 < s.size by omega)
      have HP := Lib.hid (show p < pg.length ∧ 2 + p < H.length from ⟨hp, by have := h.len; omega⟩)
      clear hr hg hh hn h hp hs ha hq hw hsz hz
      go_enter Tryz.func35, Tryz.ntmps35
      unfold ptr
      go_wp2_with fail
      refine HC.out.mono ?_
      rintro e X1 ⟨rfl, hb⟩
      rw [HR.out]
      have H1 := Lib.hid (HI.out.still hb)
      have H1d := Lib.hid (H1.out.still ((Below.refl X1.heap.size X1).drew))
      have HBl := Lib.hid (hb.drew)
      have hcc := H1d.out.cell
      clear hb
      go_wp2_with (refine wp_region_any (by kernel_rfl) ?_; refine Hid.out ?_)
      refine Lib.hid ?_
      try (change wpAny _ _ _ _ _ _ _ (World.drew _))
      refine wpAny_take (i := 0) (v := ?_) (by simp only [List.getElem?_toArray, List.getElem?_cons_zero]; exact rfl) (by kernel_rfl) (by kernel_rfl) (by kernel_rfl) (by exact fun _ _ _ h => h) (Or.inl ⟨by rfl, ?_⟩) ?_
      rotate_left
      · intro w; go_simp; try with_reducible rfl
      refine wpAny_take (i := 1) (v := ?_) (by simp only [List.getElem?_toArray, List.getElem?_cons_succ, List.getElem?_cons_zero]; exact rfl) (by kernel_rfl) (by kernel_rfl) (by kernel_rfl) (by exact fun _ _ _ h => h) (Or.inl ⟨by rfl, ?_⟩) ?_
      rotate_left
      · intro w; go_simp; try with_reducible rfl
      refine wpAny_take (i := 2) (v := ?_) (by simp only [List.getElem?_toArray, List.getElem?_cons_succ, List.getElem?_cons_zero]; exact rfl) (by kernel_rfl) (by kernel_rfl) (by kernel_rfl) (by exact fun _ _ _ h => h) (Or.inl ⟨by rfl, ?_⟩) ?_
      rotate_left
      · intro w; go_simp; try with_reducible rfl
      refine wpAny_take (i := 4) (v := ?_) (by simp only [List.getElem?_toArray, List.getElem?_cons_succ, List.getElem?_cons_zero]; exact rfl) (by kernel_rfl) (by kernel_rfl) (by kernel_rfl) (by exact fun _ _ _ h => h) (Or.inl ⟨by rfl, ?_⟩) ?_
      rotate_left
      · intro w; go_simp; try with_reducible rfl
      refine wpAny_take (i := 5) (v := ?_) (by simp only [List.getElem?_toArray, List.getElem?_cons_succ, List.getElem?_cons_zero]; exact rfl) (by kernel_rfl) (by kernel_rfl) (by kernel_rfl) (by exact fun _ _ _ h => h) (Or.inl ⟨by rfl, ?_⟩) ?_
      rotate_left
      · intro w; go_simp; try with_reducible rfl
      refine wpAny_take (i := 7) (v := ?_) (by simp only [List.getElem?_toArray, List.getElem?_cons_succ, List.getElem?_cons_zero]; exact rfl) (by kernel_rfl) (by kernel_rfl) (by kernel_rfl) (by exact fun _ _ _ h => h) (Or.inl ⟨by rfl, ?_⟩) ?_
      rotate_left
      · intro w; go_simp; try with_reducible rfl
      simp only [Act.put, List.setIfInBounds_toArray, List.set_cons_succ, List.set_cons_zero]
      refine wpAny_ready (rs := [3, 6]) (by kernel_rfl) (by simp) ?_
      refine AllReady.cons rfl (fun K hK => ?_) (AllReady.cons rfl (fun K hK => ?_) AllReady.nil)
      · go_simp
        refine hK _ _ ?_; clear hK K
        refine wpAny_ready (rs := [6]) (by kernel_rfl) (by simp) ?_
        refine AllReady.cons rfl (fun K hK => ?_) AllReady.nil
        go_simp
        refine (room_homeOf H1d.out p HP.out.1).mono ?_
        rintro e w1 ⟨rfl, rfl⟩
        refine hK _ _ ?_; clear hK K
        refine wpAny_ready (rs := [8]) (by kernel_rfl) (by simp) ?_
        refine AllReady.cons rfl (fun K hK => ?_) AllReady.nil
        go_simp
        refine (c1_write_no H1d.out.c (2 + p : Nat) s 5 (.inr ⟨rfl, by omega, by have := HP.out.2; omega, HZ.out⟩)).mono ?_; rintro e w3 ⟨rfl, rfl⟩
        refine hK _ _ ?_; clear hK K
        refine wpAny_ready (rs := [9]) (by kernel_rfl) (by simp) ?_
        refine AllReady.cons rfl (fun K hK => ?_) AllReady.nil
        go_simp
        refine hK _ _ ?_; clear hK K
        refine wpAny_done (by kernel_rfl) ?_ _
        go_wp2
        go_ret
        exact ⟨rfl, Did.none HI.out HBl.out⟩
      · go_simp
        refine (room_homeOf H1d.out p HP.out.1).mono ?_
        rintro e w1 ⟨rfl, rfl⟩
        refine hK _ _ ?_; clear hK K
        refine wpAny_ready (rs := [3]) (by kernel_rfl) (by simp) ?_
        refine AllReady.cons rfl (fun K hK => ?_) AllReady.nil
        go_simp
        refine hK _ _ ?_; clear hK K
        refine wpAny_ready (rs := [8]) (by kernel_rfl) (by simp) ?_
        refine AllReady.cons rfl (fun K hK => ?_) AllReady.nil
        go_simp
        refine (c1_write_no H1d.out.c (2 + p : Nat) s 5 (.inr ⟨rfl, by omega, by have := HP.out.2; omega, HZ.out⟩)).mono ?_; rintro e w3 ⟨rfl, rfl⟩
        refine hK _ _ ?_; clear hK K
        refine wpAny_ready (rs := [9]) (by kernel_rfl) (by simp) ?_
        refine AllReady.cons rfl (fun K hK => ?_) AllReady.nil
        go_simp
        refine hK _ _ ?_; clear hK K
        refine wpAny_done (by kernel_rfl) ?_ _
        go_wp2
        go_ret
        exact ⟨rfl, Did.none HI.out HBl.out⟩
end
end Go.Proofs.YtobmjcfemjpgcaaGreatDoor

namespace Go.Proofs.YtobmjcfemjpgcaaGreatDoor
open Go.RowKit Lib

section
variable {X X' : World} {R R' S : Nat → Prop} {ring g N lb tb rb : Nat} {H H' : List Wl.Text} {ps ps' : List (Nat × List UInt8)} {pg pg' : List (Option Wl.Text)} {rt rt' : List Nat}
theorem room_roots (h : RmI R ring g N lb tb rb H ps pg rt X) (k : Nat) (hk : k < 16) :
    Calls Tryz.prog 77 #[ptr rb, .int .i64 k] X fun e X' => e = .returned (.tuple #[.string (bs ((Wl.along H (Tx.psI ps)).getD 0 [])), .int .i64 0]) ∧ Below X.heap.size X X' := by
  have HI := Lib.hid h
  clear h
  have h1 : ¬ (k : Int) < 0 := by omega
  have h2 : ¬ (16 : Int) ≤ k := by omega
  go_enter Tryz.func77, Tryz.ntmps77
  unfold ptr
  go_wp2_with fail
  refine (room_read HI.out 0 (by have := HI.out.len; omega)).mono ?_
  rintro e X' ⟨rfl, hb⟩
  go_wp2
  go_ret2
  exact ⟨rfl, hb⟩
theorem room_roots_no (h : RmI R ring g N lb tb rb H ps pg rt X) (k : Int) (hk : k < 0 ∨ 16 ≤ k) :
    Calls Tryz.prog 77 #[ptr rb, .int .i64 k] X fun e X' => e = .returned (.tuple #[.string ⟨#[]⟩, .int .i64 2]) ∧ Below X.heap.size X X' := by
  have HI := Lib.hid h
  clear h
  by_cases h1 : k < 0
  · go_enter Tryz.func77, Tryz.ntmps77
    unfold ptr
    go_wp2_with fail
    refine (room_read_no HI.out).mono ?_
    rintro e X' ⟨rfl, hb⟩
    go_wp2
    go_ret2
    exact ⟨rfl, hb⟩
  · have h2 : (16 : Int) ≤ k := hk.resolve_left h1
    clear hk
    go_enter Tryz.func77, Tryz.ntmps77
    unfold ptr
    go_wp2_with fail
    refine (room_read_no HI.out).mono ?_
    rintro e X' ⟨rfl, hb⟩
    go_wp2
    go_ret2
    exact ⟨rfl, hb⟩
theorem room_Root (h : RmI R ring g N lb tb rb H ps pg rt X) (k : Nat) (hk : k < 16) :
    Calls Tryz.prog 42 #[ptr rb, .int .i64 k] X fun e X' => e = .returned (.tuple #[.int .u64 (rt.getD k 0 : Nat), .int .i64 0]) ∧ Below X.heap.size X X' := by
  have HI := Lib.hid h
  have HN := Lib.hid (h.rep.num k hk)
  have HS := Lib.hid (h.rep.home (i := 0) (by rw [Wl.along_length, h.len]; omega))
  have HK := Lib.hid hk
  clear h hk
  go_enter Tryz.func42, Tryz.ntmps42
  unfold ptr
  go_wp2_with fail
  refine (room_roots HI.out k HK.out).mono ?_
  rintro e X' ⟨rfl, hb⟩
  generalize (Wl.along H (Tx.psI ps)).getD 0 [] = T at *
  go_wp2_with fail
  refine (numberAt_any X' (bs T) k (by rw [bs_size]; exact HS.out) HK.out).mono ?_
  rintro e X' ⟨rfl, rfl⟩
  rw [bs_list, HN.out]
  go_wp2
  go_ret2
  exact ⟨rfl, hb⟩
theorem room_Root_no (h : RmI R ring g N lb tb rb H ps pg rt X) (k : Int) (hk : k < 0 ∨ 16 ≤ k) :
    Calls Tryz.prog 42 #[ptr rb, .int .i64 k] X fun e X' => e = .returned (.tuple #[.int .u64 0, .int .i64 2]) ∧ Below X.heap.size X X' := by
  have HI := Lib.hid h
  have HK := Lib.hid hk
  clear h hk
  go_enter Tryz.func42, Tryz.ntmps42
  unfold ptr
  go_wp2_with fail
  refine (room_roots_no HI.out k HK.out).mono ?_
  rintro e X' ⟨rfl, hb⟩
  go_wp2
  go_ret2
  exact ⟨rfl, hb⟩
set_option maxRecDepth 100000 in
set_option maxHeartbeats 2000000 in
theorem room_SetRoot (h : RmI R ring g N lb tb rb H ps pg rt X) (k n : Nat) (hk : k < 16) (hn : n < 18446744073709551616) (hq : ps.length ≤ 800000) :
    Calls Tryz.prog 41 #[ptr rb, .int .i64 k, .int .u64 n] X fun e X' => e = .returned (.int .i64 0) ∧ Did R ring g N lb tb rb H ps pg (rt.set k n) X X' := by
  have HI := Lib.hid h
  obtain ⟨T, hT⟩ : ∃ T, T = (Wl.along H (Tx.psI ps)).getD 0 [] := ⟨_, rfl⟩
  have HT := Lib.hid hT
  have HS := Lib.hid (show T.length = 512 by rw [hT]; exact h.rep.home (i := 0) (by rw [Wl.along_length, h.len]; omega))
  have HK := Lib.hid (show k < 16 ∧ n < 18446744073709551616 ∧ 0 < H.length ∧ H.length ≤ 65536 ∧ ps.length ≤ 900000 by have := h.rep.few; have := h.len; omega)
  clear hT h hk hn hq
  go_enter Tryz.func41, Tryz.ntmps41
  unfold ptr
  go_wp2_with fail
  refine (room_roots HI.out k HK.out.1).mono ?_
  rintro e X1 ⟨rfl, hb⟩
  rw [← HT.out]
  have H1 := Lib.hid (HI.out.still hb)
  have H1d := Lib.hid (H1.out.still ((Below.refl X1.heap.size X1).drew))
  have HB1 := Lib.hid (show But (fun k => ¬ R k) X X1.drew from (But.of_below hb _).drew)
  have hcc := H1d.out.cell
  clear hb
  go_wp2_with (refine wp_region_any (by kernel_rfl) ?_; refine Hid.out ?_)
  refine Lib.hid ?_
  try (change wpAny _ _ _ _ _ _ _ (World.drew _))
  refine wpAny_take (i := 0) (v := ?_) (by simp only [List.getElem?_toArray, List.getElem?_cons_zero]; exact rfl) (by kernel_rfl) (by kernel_rfl) (by kernel_rfl) (by exact fun _ _ _ h => h) (Or.inl ⟨by rfl, ?_⟩) ?_
  rotate_left
  · intro w; go_simp; try with_reducible rfl
  refine wpAny_take (i := 1) (v := ?_) (by simp only [List.getElem?_toArray, List.getElem?_cons_succ, List.getElem?_cons_zero]; exact rfl) (by kernel_rfl) (by kernel_rfl) (by kernel_rfl) (by exact fun _ _ _ h => h) (Or.inl ⟨by rfl, ?_⟩) ?_
  rotate_left
  · intro w; go_simp; try with_reducible rfl
  refine wpAny_take (i := 2) (v := ?_) (by simp only [List.getElem?_toArray, List.getElem?_cons_succ, List.getElem?_cons_zero]; exact rfl) (by kernel_rfl) (by kernel_rfl) (by kernel_rfl) (by exact fun _ _ _ h => h) (Or.inl ⟨by rfl, ?_⟩) ?_
  rotate_left
  · intro w; go_simp; try with_reducible rfl
  refine wpAny_take (i := 4) (v := ?_) (by simp only [List.getElem?_toArray, List.getElem?_cons_succ, List.getElem?_cons_zero]; exact rfl) (by kernel_rfl) (by kernel_rfl) (by kernel_rfl) (by exact fun _ _ _ h => h) (Or.inl ⟨by rfl, ?_⟩) ?_
  rotate_left
  · intro w; go_simp; try with_reducible rfl
  refine wpAny_take (i := 5) (v := ?_) (by simp only [List.getElem?_toArray, List.getElem?_cons_succ, List.getElem?_cons_zero]; exact rfl) (by kernel_rfl) (by kernel_rfl) (by kernel_rfl) (by exact fun _ _ _ h => h) (Or.inl ⟨by rfl, ?_⟩) ?_
  rotate_left
  · intro w; go_simp; try with_reducible rfl
  refine wpAny_take (i := 6) (v := ?_) (by simp only [List.getElem?_toArray, List.getElem?_cons_succ, List.getElem?_cons_zero]; exact rfl) (by kernel_rfl) (by kernel_rfl) (by kernel_rfl) (by exact fun _ _ _ h => h) (Or.inl ⟨by rfl, ?_⟩) ?_
  rotate_left
  · intro w; go_simp; try with_reducible rfl
  simp only [Act.put, List.setIfInBounds_toArray, List.set_cons_succ, List.set_cons_zero]
  refine wpAny_ready (rs := [3, 7]) (by kernel_rfl) (by simp) ?_
  refine AllReady.cons rfl (fun K hK => ?_) (AllReady.cons rfl (fun K hK => ?_) AllReady.nil)
  · go_simp
    refine hK _ _ ?_; clear hK K
    refine wpAny_ready (rs := [7]) (by kernel_rfl) (by simp) ?_
    refine AllReady.cons rfl (fun K hK => ?_) AllReady.nil
    go_simp
    refine (withNumber_any _ (bs T) k n HK.out.1 (by rw [bs_size]; exact HS.out) HK.out.2.1).mono ?_
    rintro e w2 ⟨rfl, hb2⟩
    have H2 := Lib.hid (H1d.out.still hb2)
    have hc2 := H2.out.cell
    have HB2 := Lib.hid (HB1.out.trans (But.of_below hb2 (fun k => ¬ R k)) (fun _ _ h => h))
    clear hb2
    refine hK _ _ ?_; clear hK K
    refine wpAny_ready (rs := [8]) (by kernel_rfl) (by simp) ?_
    refine AllReady.cons rfl (fun K hK => ?_) AllReady.nil
    go_simp
    refine (c1_write H2.out.c 0 _ HK.out.2.2.1 HK.out.2.2.2.1 (by rw [bs_size, Rm.put_length, bs_list, HS.out]; decide) HK.out.2.2.2.2).mono ?_; rintro e w3 ⟨rfl, h3, hb3⟩
    refine hK _ _ ?_; clear hK K
    rw [bs_list, bs_list] at h3
    have HE := Lib.hid (show Did R ring g N lb tb rb H ps pg (rt.set k n) X w3 by
      refine ⟨_, ?_, RmI.put (pg' := pg) (rt' := rt.set k n) H2.out HK.out.2.2.1 h3 hb3 ?_ rfl, HB2.out.trans hb3 (fun _ _ h => h)⟩
      · rw [List.length_append]; show ps.length + 1 ≤ _; omega
      · rw [show Dk.full (Rm.put T k n) = Rm.put T k n from Wl.full_of_full (by rw [Rm.put_length]; exact HS.out), HT.out]
        exact H2.out.rep.set HK.out.1 (by have := HK.out.2.1; rw [show (256 : Nat) ^ 8 = 18446744073709551616 by decide]; exact this))
    clear hb3 h3
    refine wpAny_ready (rs := [9]) (by kernel_rfl) (by simp) ?_
    refine AllReady.cons rfl (fun K hK => ?_) AllReady.nil
    go_simp
    refine hK _ _ ?_; clear hK K
    refine wpAny_done (by kernel_rfl) ?_ _
    go_wp2
    go_ret
    exact ⟨rfl, HE.out⟩
  · go_simp
    refine (withNumber_any _ (bs T) k n HK.out.1 (by rw [bs_size]; exact HS.out) HK.out.2.1).mono ?_
    rintro e w2 ⟨rfl, hb2⟩
    have H2 := Lib.hid (H1d.out.still hb2)
    have hc2 := H2.out.cell
    have HB2 := Lib.hid (HB1.out.trans (But.of_below hb2 (fun k => ¬ R k)) (fun _ _ h => h))
    clear hb2
    refine hK _ _ ?_; clear hK K
    refine wpAny_ready (rs := [3]) (by kernel_rfl) (by simp) ?_
    refine AllReady.cons rfl (fun K hK => ?_) AllReady.nil
    go_simp
    refine hK _ _ ?_; clear hK K
    refine wpAny_ready (rs := [8]) (by kernel_rfl) (by simp) ?_
    refine AllReady.cons rfl (fun K hK => ?_) AllReady.nil
    go_simp
    refine (c1_write H2.out.c 0 _ HK.out.2.2.1 HK.out.2.2.2.1 (by rw [bs_size, Rm.put_length, bs_list, HS.out]; decide) HK.out.2.2.2.2).mono ?_; rintro e w3 ⟨rfl, h3, hb3⟩
    refine hK _ _ ?_; clear hK K
    rw [bs_list, bs_list] at h3
    have HE := Lib.hid (show Did R ring g N lb tb rb H ps pg (rt.set k n) X w3 by
      refine ⟨_, ?_, RmI.put (pg' := pg) (rt' := rt.set k n) H2.out HK.out.2.2.1 h3 hb3 ?_ rfl, HB2.out.trans hb3 (fun _ _ h => h)⟩
      · rw [List.length_append]; show ps.length + 1 ≤ _; omega
      · rw [show Dk.full (Rm.put T k n) = Rm.put T k n from Wl.full_of_full (by rw [Rm.put_length]; exact HS.out), HT.out]
        exact H2.out.rep.set HK.out.1 (by have := HK.out.2.1; rw [show (256 : Nat) ^ 8 = 18446744073709551616 by decide]; exact this))
    clear hb3 h3
    refine wpAny_ready (rs := [9]) (by kernel_rfl) (by simp) ?_
    refine AllReady.cons rfl (fun K hK => ?_) AllReady.nil
    go_simp
    refine hK _ _ ?_; clear hK K
    refine wpAny_done (by kernel_rfl) ?_ _
    go_wp2
    go_ret
    exact ⟨rfl, HE.out⟩
set_option maxRecDepth 100000 in
theorem room_SetRoot_no (h : RmI R ring g N lb tb rb H ps pg rt X) (k : Int) (n : Nat) (hk : k < 0 ∨ 16 ≤ k) :
    Calls Tryz.prog 41 #[ptr rb, .int .i64 k, .int .u64 n] X fun e X' => e = .returned (.int .i64 2) ∧ Below X.heap.size X X' := by
  have HI := Lib.hid h
  have HK := Lib.hid hk
  clear h hk
  go_enter Tryz.func41, Tryz.ntmps41
  unfold ptr
  go_wp2_with fail
  refine (room_roots_no HI.out k HK.out).mono ?_
  rintro e X1 ⟨rfl, hb⟩
  go_wp2
  go_ret
  exact ⟨rfl, hb⟩
end
end Go.Proofs.YtobmjcfemjpgcaaGreatDoor

namespace Go.Proofs.YtobmjcfemjpgcaaGreatDoor
open Go.RowKit Lib

theorem wide_any (w : World) (n : Nat) (h1 : 4 ≤ n) (h2 : n ≤ 4098) :
    Calls Tryz.prog 27 #[.int .i64 n] w fun e w' => ∃ g b, e = .returned (.tuple #[ptr g, ptr b]) ∧ Kept (fun x => x < w.heap.size) 200 w' b g 1 (Wl.noughts n) ∧ Below w.heap.size w w' := by
  have hm : max (n : Int) 4 = n := by omega
  have hI : (n : Int) ≤ 4098 := by omega
  obtain ⟨z, hz⟩ : ∃ z : Nat, z = 201 + n := ⟨_, rfl⟩
  have hzI : 201 + (n : Int) = z := by omega
  have HZ := Lib.hid (show z = 201 + n ∧ 4 ≤ n ∧ n ≤ 4098 from ⟨hz, h1, h2⟩)
  clear hz h1 h2
  go_enter Tryz.func27, Tryz.ntmps27
  go_wp2_with fail
  refine (new_any z w (by have := HZ.out; omega) (by have := HZ.out; omega)).mono ?_
  rintro e w1 ⟨g, FD, rfl, hd1, hF, hb1⟩
  have H1 := Lib.hid (And.intro hd1 (And.intro hF hb1))
  clear hd1 hF hb1
  go_wp2_with fail
  refine (kept_begun (A := fun x => x < w.heap.size) (ring := 200) (size := z) H1.out.1 (fun x hx hn => by have := H1.out.2.1 x hx; omega) (fun x hx => by have := H1.out.2.2.size; omega) (by decide) (by decide) (by have := HZ.out; omega) (by have := HZ.out; omega)).mono ?_
  rintro e w2 ⟨b, rfl, hk2, ho2⟩
  have H2 := Lib.hid (show Kept (fun x => x < w.heap.size) 200 w2 b g 1 (Wl.noughts n) ∧ Below w.heap.size w w2 by
    rw [show z - 1 - 200 = n by have := HZ.out; omega] at hk2
    exact ⟨hk2, H1.out.2.2.trans (Off.below ho2 (fun x hx => hx) H1.out.2.2.size)⟩)
  clear hk2 ho2
  go_wp2
  go_ret2
  exact ⟨g, b, rfl, H2.out.1, H2.out.2⟩
theorem room_Of (X : World) (tb : Nat) :
    Calls Tryz.prog 28 #[ptr tb] X fun e X' => e = .returned (ptr X.heap.size) ∧ X' = X.alloc (.cells #[ptr tb] 118) := by
  go_enter Tryz.func28, Tryz.ntmps28
  unfold ptr
  go_wp2
  go_ret
  exact ⟨rfl, rfl⟩
/-- A new room of a new change. -/
theorem room_begun {A : Nat → Prop} {X : World} {ring g N lb tb n : Nat} (h : C1 A ring g N lb tb (Wl.noughts n) [] X) (h1 : 3 ≤ n) (h2 : n ≤ 4098) :
    RmI (fun k => A k ∨ k = X.heap.size) ring g N lb tb X.heap.size (Wl.noughts n) [] (List.replicate (n - 2) none) (List.replicate 16 0) (X.alloc (.cells #[ptr tb] 118)) := by
  refine ⟨h.turn (But.of_below ((Below.refl _ X).alloc (Nat.le_refl _) _) (fun _ => False)) (fun _ _ h => h.elim) (fun k hk => hk.imp_right fun e => ?_), Blk.new X #[ptr tb] 118, .inr rfl, Rm.rep_new n (by omega) h2, fun p hp => (by cases hp), (by rw [List.length_replicate]; omega)⟩
  rw [e, World.size_alloc]
  omega
set_option maxRecDepth 100000 in
set_option maxHeartbeats 4000000 in
theorem awake7_any (w : World) : Calls Tryz.prog 26 #[] w fun e w' => e = .returned (.bool true) ∧ Below w.heap.size w w' := by
  obtain ⟨P0, hP0⟩ : ∃ P0 : List (Option Wl.Text), P0 = List.replicate (10 - 2) none := ⟨_, rfl⟩
  obtain ⟨P1, hP1⟩ : ∃ P1, P1 = Rm.alloced P0 := ⟨_, rfl⟩
  obtain ⟨P2, hP2⟩ : ∃ P2, P2 = Rm.alloced P1 := ⟨_, rfl⟩
  obtain ⟨P3, hP3⟩ : ∃ P3, P3 = Rm.written P2 1 [120] := ⟨_, rfl⟩
  obtain ⟨P4, hP4⟩ : ∃ P4, P4 = Rm.freed P3 0 := ⟨_, rfl⟩
  have E1 := Lib.hid (show Rm.alloc P0 = (0, 0) ∧ Rm.alloc P1 = (1, 0) ∧ Rm.wrote P2 1 1 = 0 ∧ Rm.got P3 1 = Dk.full [120] ∧ Rm.refuse P3 1 = 0 ∧ Rm.refuse P3 0 = 0 by
    subst hP4 hP3 hP2 hP1 hP0
    exact ⟨rfl, rfl, rfl, rfl, rfl, rfl⟩)
  have E2 := Lib.hid (show Rm.used P4 = 1 ∧ Rm.got P4 0 = [] ∧ Rm.refuse P4 0 = 6 ∧ P4.length = 8 by
    subst hP4 hP3 hP2 hP1 hP0
    exact ⟨rfl, rfl, rfl, rfl⟩)
  have EP := Lib.hid (And.intro hP0 (And.intro hP1 (And.intro hP2 (And.intro hP3 hP4))))
  clear hP0 hP1 hP2 hP3 hP4
  go_enter Tryz.func26, Tryz.ntmps26
  go_wp2_with fail
  refine (wide_any w 10 (by decide) (by decide)).mono ?_
  rintro e w2 ⟨g, b, rfl, hk2, hb2⟩
  have H2 := Lib.hid (And.intro hk2 hb2)
  clear hk2 hb2
  go_wp2_with fail
  refine (c1_begin H2.out.1).mono ?_
  rintro e w3 ⟨tb, rfl, h3, hb3⟩
  have H3 := Lib.hid (And.intro h3 (H2.out.2.trans (hb3.mono H2.out.2.size)))
  clear h3 hb3
  go_wp2_with fail
  refine (room_Of w3 tb).mono ?_
  rintro e w4 ⟨rfl, rfl⟩
  obtain ⟨R, hR⟩ : ∃ R : Nat → Prop, R = fun k => k < w.heap.size ∨ k = w3.heap.size := ⟨_, rfl⟩
  obtain ⟨r, hr⟩ : ∃ r, r = w3.heap.size := ⟨_, rfl⟩
  have H4 := Lib.hid (show RmI R 200 g 1 b tb r (Wl.noughts 10) [] P0 (List.replicate 16 0) (w3.alloc (.cells #[ptr tb] 118)) by rw [EP.out.1, hR, hr]; exact room_begun H3.out.1 (by decide) (by decide))
  have HB4 := Lib.hid (show Below w.heap.size w (w3.alloc (.cells #[ptr tb] 118)) from H3.out.2.alloc H3.out.2.size _)
  have HR := Lib.hid (show ∀ k, k < w.heap.size → R k by rw [hR]; exact fun k hk => .inl hk)
  rw [← hr]
  obtain ⟨W, hW⟩ : ∃ W, W = w3.alloc (.cells #[ptr tb] 118) := ⟨_, rfl⟩
  rw [← hW] at H4 HB4 ⊢
  clear hR hr hW H3 H2
  have step : ∀ (ps ps' : List (Nat × List UInt8)) (A B : World), Below w.heap.size w A → But (fun k => ¬ R k) A B → Below w.heap.size w B := fun _ _ A B h1 h2 => h1.trans (h2.below h1.size fun k hk hn => hn (HR.out k hk))
  have HST := Lib.hid step
  clear step
  go_wp2_with fail
  refine (room_Alloc H4.out (by decide)).mono ?_
  rintro e w5 ⟨rfl, q5, hl5, h5, hb5⟩
  rw [← EP.out.2.1] at h5
  rw [E1.out.1]
  have H5 := Lib.hid h5
  have HB5 := Lib.hid (HST.out q5 q5 _ _ HB4.out hb5)
  have HL5 := Lib.hid (show q5.length ≤ 2 from hl5)
  clear h5 hb5 hl5
  go_wp2_with fail
  refine (room_Alloc H5.out (by have := HL5.out; omega)).mono ?_
  rintro e w6 ⟨rfl, q6, hl6, h6, hb6⟩
  rw [← EP.out.2.2.1] at h6
  rw [E1.out.2.1]
  have H6 := Lib.hid h6
  have HB6 := Lib.hid (HST.out q6 q6 _ _ HB5.out hb6)
  have HL6 := Lib.hid (show q6.length ≤ 4 by have := HL5.out; omega)
  clear h6 hb6 hl6
  go_wp2_with fail
  refine (room_Write H6.out 1 ⟨#[120]⟩ (by have := HL6.out; omega)).mono ?_
  rintro e w7 ⟨rfl, q7, hl7, h7, hb7⟩
  rw [show (⟨#[120]⟩ : ByteArray).data.toList = [120] from rfl, ← EP.out.2.2.2.1] at h7
  rw [show (⟨#[120]⟩ : ByteArray).size = 1 from rfl, E1.out.2.2.1]
  have H7 := Lib.hid h7
  have HB7 := Lib.hid (HST.out q7 q7 _ _ HB6.out hb7)
  have HL7 := Lib.hid (show q7.length ≤ 6 by have := HL6.out; omega)
  clear h7 hb7 hl7
  go_wp2_with fail
  refine (room_Read H7.out 1).mono ?_
  rintro e w8 ⟨rfl, hb8⟩
  rw [E1.out.2.2.2.1, E1.out.2.2.2.2.1]
  have H8 := Lib.hid (H7.out.still hb8)
  have HB8 := Lib.hid (HB7.out.trans (hb8.mono HB7.out.size))
  clear hb8
  go_wp2_with fail
  refine (room_Free H8.out 0 (by have := HL7.out; omega)).mono ?_
  rintro e w9 ⟨rfl, q9, hl9, h9, hb9⟩
  rw [← EP.out.2.2.2.2] at h9
  rw [E1.out.2.2.2.2.2]
  have H9 := Lib.hid h9
  have HB9 := Lib.hid (HST.out q9 q9 _ _ HB8.out hb9)
  clear h9 hb9 hl9
  go_wp2_with fail
  refine (room_Used H9.out).mono ?_
  rintro e w10 ⟨rfl, hb10⟩
  rw [E2.out.1]
  have H10 := Lib.hid (H9.out.still hb10)
  have HB10 := Lib.hid (HB9.out.trans (hb10.mono HB9.out.size))
  clear hb10
  go_wp2_with fail
  refine (room_Read H10.out 0).mono ?_
  rintro e w11 ⟨rfl, hb11⟩
  rw [E2.out.2.1, E2.out.2.2.1]
  have H11 := Lib.hid (H10.out.still hb11)
  have HB11 := Lib.hid (HB10.out.trans (hb11.mono HB10.out.size))
  clear hb11
  have hs : (bs (Dk.full [120])).size = 512 := by rw [bs_size]; rfl
  have hx : ∀ h : 0 < (bs (Dk.full [120])).size, (bs (Dk.full [120]))[0]'h = 120 := fun h => rfl
  go_wp2_with fail
  refine (room_pages H11.out).mono ?_
  rintro e w12 ⟨rfl, rfl⟩
  rw [E2.out.2.2.2]
  go_wp2
  go_ret
  exact ⟨rfl, HB11.out⟩
end Go.Proofs.YtobmjcfemjpgcaaGreatDoor

namespace Go.Proofs.YtobmjcfemjpgcaaGreatDoor
set_option maxRecDepth 100000
open Go.ChangeShapes Go.WideShapes Go.ChangeAt Go.RowKit Lib

structure Act7 where
  what : Int
  at_ : Int
  n : Int
  text : ByteArray
instance : Inhabited Act7 := ⟨⟨0, 0, 0, .empty⟩⟩
structure Act7.ok (x : Act7) : Prop where
  w1 : -9223372036854775808 ≤ x.what ∧ x.what ≤ 9223372036854775807
  a1 : -9223372036854775808 ≤ x.at_ ∧ x.at_ ≤ 9223372036854775807
  n1 : 0 ≤ x.n ∧ x.n ≤ 18446744073709551615
def Act7.cells (x : Act7) : List Value := [.int .i64 x.what, .int .i64 x.at_, .int .u64 x.n, .string x.text]
/-- v reads as the acts l. -/
def RdV (w : World) (v : Value) (l : List Act7) : Prop :=
  ∃ (a : Option Addr) (cap : Nat), v = .slice a l.length cap ∧ l.length ≤ cap ∧ l.length ≤ 9223372036854775807 ∧ ∀ i (hi : i < l.length), l[i].ok ∧ ∃ g o, a = some ⟨g, o, none⟩ ∧ g < w.heap.size ∧
    ∀ j (hj : j < l.length) m, m < 4 → w.cell? ⟨g, o + (j * 4 + m), none⟩ = l[j].cells[m]?
theorem u64_wf {m : Int} (hw : (Lit.int .u64 m).wf = true) : (0 : Int) ≤ m ∧ m ≤ 18446744073709551615 := by
  simp only [Lit.wf, Bool.and_eq_true, decide_eq_true_eq] at hw
  exact hw
theorem act7_in {H : Type} {enc : TypeId × Value → H} {W : World} {n : Nat} {cs : List Value} {y : DataW H × List MemPlace} (hcl : cs.length = 4)
    (h : DataW.trod enc Tryz.prog W 0 (fun _ => true) true n 67 cs = some y) : ∃ x : Act7, cs = x.cells ∧ x.ok := by
  obtain ⟨xs, k, _, _, _, hxl, hf⟩ := DataW.trod_struct Tryz.underlying67 h
  have ci : Tryz.prog.cellsOf 3 = 1 := by kernel_rfl
  have cu : Tryz.prog.cellsOf 65 = 1 := by kernel_rfl
  have cs' : Tryz.prog.cellsOf 9 = 1 := by kernel_rfl
  match xs, hxl, cs, hcl with
  | [y0, y1, y2, y3], _, [v0, v1, v2, v3], _ =>
    have g0 := hf 0 _ rfl
    have g1 := hf 1 _ rfl
    have g2 := hf 2 _ rfl
    have g3 := hf 3 _ rfl
    simp [ci, cu, cs'] at g0 g1 g2 g3
    obtain ⟨m0, e0, _, hw0⟩ := DataW.trod_int Tryz.underlying3 g0
    obtain ⟨m1, e1, _, hw1⟩ := DataW.trod_int Tryz.underlying3 g1
    obtain ⟨m2, e2, _, hw2⟩ := DataW.trod_int Tryz.underlying65 g2
    obtain ⟨s, e3, _, _⟩ := DataW.trod_string Tryz.underlying9 g3
    injection e0 with e0 _
    injection e1 with e1 _
    injection e2 with e2 _
    injection e3 with e3 _
    subst e0 e1 e2 e3
    exact ⟨⟨m0, m1, m2, s⟩, rfl, ⟨int_wf hw0, int_wf hw1, u64_wf hw2⟩⟩
theorem acts7_in {H : Type} {enc : TypeId × Value → H} {W : World} {base : Nat} {v : Value} {d : DataW H} {p : List MemPlace}
    (hval : Value.okWide Tryz.prog W .any base 57 v) (hd : DataW.Trod enc Tryz.prog W 0 (fun _ => true) true 57 v d p) : ∃ l, RdV W v l := by
  obtain ⟨a, n, cap, rfl⟩ := okWide_slice Tryz.underlying57 hval
  obtain ⟨f, hf⟩ := hd
  obtain ⟨l, a, cap, e, h1, h2, h3⟩ := row_in (W := W) (fun x : Act7 => x.cells) (fun x => x.ok) Tryz.underlying57 (c := 4) (by kernel_rfl) (by decide) (fun n cs y hl h => act7_in hl h) hf
  exact ⟨l, a, cap, e, h1, h2, h3⟩
theorem RdV.slice {w : World} {v : Value} {l : List Act7} (h : RdV w v l) : ∃ a cap, v = .slice a l.length cap := by
  obtain ⟨a, cap, rfl, _⟩ := h
  exact ⟨a, cap, rfl⟩
theorem RdV.at {w w' : World} {l : List Act7} {a : Option Addr} {n cap : Nat} (h : RdV w (.slice a n cap) l) (hb : Below w.heap.size w w') {k : Nat} (hk : k < l.length) :
    ∃ g o, a = some ⟨g, o, none⟩ ∧ (l[k]).ok ∧ w'.cell? ⟨g, o + k * 4, none⟩ = some (.int .i64 (l[k]).what) ∧ w'.cell? ⟨g, o + k * 4 + 1, none⟩ = some (.int .i64 (l[k]).at_) ∧ w'.cell? ⟨g, o + k * 4 + 2, none⟩ = some (.int .u64 (l[k]).n) ∧ w'.cell? ⟨g, o + k * 4 + 3, none⟩ = some (.string (l[k]).text) := by
  obtain ⟨a', cap', e, _, _, hi⟩ := h
  injection e with e1 _ _
  subst e1
  obtain ⟨h0, g, o, rfl, h2, h3⟩ := hi k hk
  refine ⟨g, o, rfl, h0, ?_, ?_, ?_, ?_⟩
  · rw [hb.cell (p := ⟨g, o + k * 4, none⟩) h2]; exact h3 k hk 0 (by decide)
  · rw [hb.cell (p := ⟨g, o + k * 4 + 1, none⟩) h2, Nat.add_assoc]; exact h3 k hk 1 (by decide)
  · rw [hb.cell (p := ⟨g, o + k * 4 + 2, none⟩) h2, Nat.add_assoc]; exact h3 k hk 2 (by decide)
  · rw [hb.cell (p := ⟨g, o + k * 4 + 3, none⟩) h2, Nat.add_assoc]; exact h3 k hk 3 (by decide)
end Go.Proofs.YtobmjcfemjpgcaaGreatDoor
