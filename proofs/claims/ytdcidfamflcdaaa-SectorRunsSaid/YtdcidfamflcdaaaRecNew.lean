/- Walk of the reference's New. -/
import Derived.Test.YtdcidfamflcdaaaRecFall
namespace Go.Proofs.Ytdcidfamflcdaaa
open Go.RowKit Lib

set_option maxRecDepth 100000 in
theorem refNew_any (n : Nat) (w : World) (hn : n ≤ 1000) :
    Calls Try.prog 12 #[.int .i64 n] w fun e w' => ∃ g F, e = .returned (ptr g) ∧ Rec w' F g (Dk.fresh n) ∧ (∀ k, F k → w.heap.size ≤ k) ∧ Below w.heap.size w w' := by
  obtain ⟨g, hg⟩ : ∃ g, w.heap.size = g := ⟨_, rfl⟩
  go_enter Try.func12, Try.ntmps12
  rw [hg]
  go_wp2_with fail
  refine (full_any ⟨#[]⟩ _ (by decide)).mono ?_
  rintro e w1 ⟨rfl, hb1⟩
  have hbA := ((Below.refl g w).alloc (Nat.le_of_eq hg.symm) (.cells #[.slice none 0 0, .slice none 0 0, .int .i64 (-1), .bool false] 66))
  have b0 : Blk w1 g 66 [.slice none 0 0, .slice none 0 0, .int .i64 (-1), .bool false] := by
    have := (Blk.new w #[.slice none 0 0, .slice none 0 0, .int .i64 (-1), .bool false] 66)
    rw [hg] at this
    exact this.below hb1 (by simp; omega)
  have HB := Lib.hid (hbA.trans (hb1.mono (by simp; omega)))
  have H0 := Lib.hid b0
  clear hb1 hbA b0
  rw [show Dk.full (⟨#[]⟩ : ByteArray).data.toList = Dk.full [] from rfl]
  go_wp2
  go_loopw [5] (fun i wr => ∃ (k : Nat) (vf : Value), k ≤ n ∧ i = .int .i64 k ∧ Hid (Blk wr g 66 [vf, .slice none 0 0, .int .i64 (-1), .bool false]) ∧ Hid (OwnS (g + 1) wr vf (List.replicate k (Dk.full []))) ∧ Hid (Below g w wr)) (fun i _ => n - (intOf i).toNat)
  case atStart => exact ⟨0, _, Nat.zero_le _, rfl, H0, Lib.hid (Own.nil _ _ _ _), HB⟩
  case round =>
    obtain ⟨k, vf, hk, rfl, h0, ho, hb⟩ := hrel
    by_cases hlt : k < n
    · have hI : (k : Int) < n := by omega
      have c0 : wr.cell? ⟨g, 0, none⟩ = some vf := h0.out.cell rfl
      go_wp2_with (at_builtin; refine Hid.out ?_)
      refine Lib.hid ?_
      refine wpList_app stringST rfl _ _ rfl rfl (Own.alloc ho.out _) (by have := h0.out.lt; simp; omega) wr.heap.size 0 1 1 [bs (Dk.full [])] rfl rfl (lies_new wr _) (by simp; omega) ?_
      intro v4 w4 hown4 hg4
      have hsz := hb.out.size
      have hb4 := (hb.out.alloc (by omega) (.cells #[.string (bs (Dk.full []))] 9)).grown hg4 (by have := h0.out.lt; simp; omega) (fun x hx => by have := (Own.block ho.out x hx).1; omega)
      have hbut : But (fun x => vf.ownBlock = some x) (wr.alloc (.cells #[.string (bs (Dk.full []))] 9)) w4 := ⟨hg4.os, hg4.tape, hg4.output, hg4.size, fun x hx hn => hg4.block x hx (fun e => hn e.symm)⟩
      have b4 := (h0.out.alloc (.cells #[.string (bs (Dk.full []))] 9)).but hbut (fun e => by have := (Own.block ho.out g e).1; omega)
      have g0 : w4.cell? ⟨g, 0, none⟩ = some vf := b4.cell rfl
      have gf : w4.frozen? ⟨g, 0, none⟩ = false := b4.frozen 0
      have ho4 : OwnS (g + 1) w4 v4 (List.replicate (k + 1) (Dk.full [])) := by
        show Own _ _ _ _ _ _
        rw [List.replicate_succ', List.map_append]
        exact hown4
      obtain ⟨a4, c4, hv4, _⟩ := Own.slice ho4
      generalize ((List.replicate (k + 1) (Dk.full [])).map bs).length = N4 at hv4
      have H4 := Lib.hid (b4.set 0 v4)
      have HO4 := Lib.hid (OwnS.but' ho4 ((But.refl (· = g) w4).setCell ⟨g, 0, none⟩ v4 (fun _ => rfl)) (fun x hx e => by have := (Own.block ho4 x hx).1; omega))
      have HB4 := Lib.hid (hb4.setCell (p := ⟨g, 0, none⟩) (Nat.le_refl _) v4)
      clear hown4 hg4 hb4 hbut b4 ho4 h0 ho hb c0
      subst hv4
      go_wp2
      go_roundw
      case rel => exact ⟨k + 1, _, by omega, by go_num, H4, HO4, HB4⟩
      case measure => simp [intOf]; omega
    · have hke : k = n := by omega
      subst hke
      go_wp2
      go_ret
      refine ⟨g, fun x => g ≤ x ∧ x < wr.heap.size, rfl, ⟨vf, .slice none 0 0, ⟨h0.out, Own.mono ho.out (Nat.zero_le _), Own.nil _ _ _ _⟩, (show (-1 : Int) ≤ -1 by decide), (show (-1 : Int) ≤ 9223372036854775807 by decide), fun x hx => (by cases hx), ⟨Nat.le_refl _, h0.out.lt⟩, fun x hx => ⟨by have := (Own.block ho.out x hx).1; omega, (Own.block ho.out x hx).2⟩, fun x hx => by simp [Value.ownBlock] at hx, fun x hx => hx.2⟩, fun x hx => hx.1, hb.out⟩
end Go.Proofs.Ytdcidfamflcdaaa
