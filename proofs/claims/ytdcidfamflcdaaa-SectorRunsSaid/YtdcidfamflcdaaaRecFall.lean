/- Walks of the reference's Flush, Fall, New. -/
import Derived.Test.YtdcidfamflcdaaaRecFirm
namespace Go.Proofs.Ytdcidfamflcdaaa
open Go.RowKit Lib

theorem Rec.cells {w : World} {F : Nat → Prop} {g : Nat} {d : Dk.Disk} (h : Rec w F g d) : ∃ vf vl, w.cell? ⟨g, 0, none⟩ = some vf ∧ w.cell? ⟨g, 1, none⟩ = some vl ∧ w.cell? ⟨g, 2, none⟩ = some (.int .i64 d.fuel) ∧ w.cell? ⟨g, 3, none⟩ = some (.bool d.off) ∧
    w.frozen? ⟨g, 2, none⟩ = false ∧ w.frozen? ⟨g, 3, none⟩ = false ∧ OwnS 0 w vf d.firm ∧ Own rwElem 72 0 w vl d.loose := by
  obtain ⟨vf, vl, k1, _⟩ := h
  exact ⟨vf, vl, k1.blk.cell rfl, k1.blk.cell rfl, k1.blk.cell rfl, k1.blk.cell rfl, k1.blk.frozen 2, k1.blk.frozen 3, k1.of, k1.ol⟩
theorem Rec.bound {w : World} {F : Nat → Prop} {g : Nat} {d : Dk.Disk} (h : Rec w F g d) : ∀ x ∈ d.loose, x.1 < d.firm.length := by
  obtain ⟨_, _, _, _, _, h, _⟩ := h
  exact h
theorem Rec.below {B : Nat} {w w' : World} {F : Nat → Prop} {g : Nat} {d : Dk.Disk} (h : Rec w F g d) (hb : Below B w w') (hn : ∀ k, F k → k < B) : Rec w' F g d :=
  h.but (S := fun k => B ≤ k) ⟨hb.os, hb.tape, hb.output, hb.size, fun k _ hk => hb.block k (by omega)⟩ (fun k hk => by have := hn k hk; omega)

set_option maxRecDepth 100000 in
theorem refFlush_any (w : World) (F : Nat → Prop) (g : Nat) (d : Dk.Disk) (hd : Rec w F g d) (hn : d.firm.length ≤ 1000000) :
    Calls Try.prog 26 #[ptr g] w fun e w' => e = .returned (.int .i64 d.flush.1) ∧ ∃ F', Rec w' F' g d.flush.2 ∧ Moved F w F' w' := by
  have HD := Lib.hid hd
  obtain ⟨vf, vl, _, _, _, c3, _⟩ := hd.cells
  clear hd
  by_cases ho : d.off = true
  · have HR : d.flush = (3, d) := by unfold Dk.Disk.flush; rw [if_pos ho]
    rw [HR]
    rw [ho] at c3
    clear HR
    go_enter Try.func26, Try.ntmps26
    unfold ptr
    go_wp2
    go_ret
    exact ⟨rfl, _, HD.out, Moved.refl _ _⟩
  · have ho' : d.off = false := by simpa using ho
    rw [ho'] at c3
    by_cases hf : d.fuel = 0
    · have HR : d.flush = (3, d.dead) := by unfold Dk.Disk.flush; rw [if_neg ho, if_pos hf]
      have hst := refStep_any w F g d HD.out
      rw [if_pos hf, if_pos hf] at hst
      have HST := Lib.hid hst
      rw [HR]
      clear HR hst
      go_enter Try.func26, Try.ntmps26
      unfold ptr
      go_wp2_with fail
      refine HST.out.mono ?_
      rintro e w1 ⟨rfl, h1, h2⟩
      have H12 := Lib.hid (And.intro h1 h2)
      clear h1 h2
      go_wp2
      go_ret
      exact ⟨rfl, _, H12.out⟩
    · have HR : d.flush = (0, { d.burnt with firm := d.now, loose := [] }) := by unfold Dk.Disk.flush; rw [if_neg ho, if_neg hf]
      have hst := refStep_any w F g d HD.out
      rw [if_neg hf, if_neg hf] at hst
      have HST := Lib.hid hst
      rw [HR]
      clear HR hst
      go_enter Try.func26, Try.ntmps26
      unfold ptr
      go_wp2_with fail
      refine HST.out.mono ?_
      rintro e w1 ⟨rfl, h1, h2⟩
      have HM := Lib.hid h2
      clear h2 c3
      obtain ⟨vf1, vl1, _, c1, _, _, _, _, _, ol⟩ := h1.cells
      have HD1 := Lib.hid h1
      have HOL := Lib.hid ol
      clear h1 ol
      go_wp2_with fail
      refine (firm_any w1 F g d.burnt vl1 d.loose HD1.out HOL.out HD1.out.bound hn).mono ?_
      rintro e w2 ⟨rfl, F', h1, h2⟩
      have H12 := Lib.hid (And.intro h1 (HM.out.trans h2))
      clear h1 h2
      go_wp2
      go_ret
      exact ⟨rfl, F', H12.out⟩

set_option maxRecDepth 100000 in
set_option maxHeartbeats 1000000 in
theorem refFall_any (w : World) (F : Nat → Prop) (g : Nat) (d : Dk.Disk) (vk : Value) (keep : List Bool) (hd : Rec w F g d) (hk : RdB w vk keep) (hn : d.firm.length ≤ 1000000) (hn2 : d.loose.length ≤ 900000000) :
    Calls Try.prog 28 #[ptr g, vk] w fun e w' => e = .returned (.tuple #[]) ∧ ∃ F', Rec w' F' g (d.fall keep) ∧ Moved F w F' w' := by
  have HD := Lib.hid hd
  obtain ⟨vf, vl, _, c1, _, _, _, _, _, ol⟩ := hd.cells
  obtain ⟨al, cl, rfl, hcl⟩ := Own.slice ol
  obtain ⟨ak, capk, rfl, hck, hkr⟩ := hk
  have HKR := Lib.hid hkr
  have HOL := Lib.hid ol
  have hg : g < w.heap.size := World.block_lt_of_cell? _ _ c1
  clear hd ol hkr
  go_enter Try.func28, Try.ntmps28
  unfold ptr
  go_wp2
  go_loopw [4, 5] (fun v i wr => ∃ k : Nat, k ≤ d.loose.length ∧ i = .int .i64 k ∧ Hid (Own rwElem 72 w.heap.size wr v (Dk.kept keep (d.loose.take k))) ∧ Hid (Below w.heap.size w wr)) (fun _ i _ => d.loose.length - (intOf i).toNat)
  case atStart => exact ⟨0, Nat.zero_le _, rfl, by rw [List.take_zero, Dk.kept_nil]; exact Lib.hid (Own.nil _ _ _ _), Lib.hid (Below.refl _ _)⟩
  case round =>
    obtain ⟨k, hk, rfl, ho, hb⟩ := hrel
    have c1' : wr.cell? ⟨g, 1, none⟩ = some (.slice al d.loose.length cl) := (hb.out.cell (p := ⟨g, 1, none⟩) hg).trans c1
    by_cases hlt : k < d.loose.length
    · have hI : (k : Int) < d.loose.length := by omega
      have HT := Lib.hid (Dk.kept_take keep d.loose k hlt)
      by_cases hkl : k < keep.length
      · have hkI : (k : Int) < keep.length := by omega
        obtain ⟨gk, ok, rfl, hgk, hxk⟩ := HKR.out k hkl
        have ckk : wr.cell? ⟨gk, ok + k, none⟩ = some (.bool keep[k]) := (hb.out.cell (p := ⟨gk, ok + k, none⟩) hgk).trans (hxk k hkl)
        have HKK := Lib.hid (show keep.getD k false = keep[k] by rw [List.getD_eq_getElem?_getD, List.getElem?_eq_getElem hkl]; rfl)
        clear hxk
        cases hkb : keep[k]
        · rw [hkb] at ckk HKK
          go_wp2
          go_roundw
          case rel =>
            refine ⟨k + 1, by omega, by go_num, ?_, hb⟩
            rw [HT.out, HKK.out, if_neg (by decide), List.append_nil]
            exact ho
          case measure => simp [intOf]; omega
        · rw [hkb] at ckk HKK
          obtain ⟨o, co', e1, _, ol, _⟩ := Own.form HOL.out (by omega)
          injection e1 with e1 e2 e3
          clear e2
          subst e1 e3
          obtain ⟨ca, cb⟩ := Own.rwAt HOL.out k hlt
          have ca' := (hb.out.cell (p := ⟨o, k * 2, none⟩) ol).trans ca
          have cb' := (hb.out.cell (p := ⟨o, k * 2 + 1, none⟩) ol).trans cb
          clear ca cb
          generalize d.loose[k] = x at *
          obtain ⟨at', t⟩ := x
          simp only at ca' cb' HT
          have hkl2 := Dk.kept_length keep (d.loose.take k)
          rw [List.length_take] at hkl2
          go_wp2_with (at_builtin; refine Hid.out ?_)
          refine Lib.hid ?_
          refine wpList_app rwST rfl _ _ rfl rfl (ho.out.alloc _) (by have := hb.out.size; simp; omega) wr.heap.size 0 1 1 [(at', t)] rfl rfl (lies_rw wr at' t) (by omega) ?_
          intro v4 w4 hown4 hg4
          have hb4 := (hb.out.alloc hb.out.size (.cells #[.int .i64 at', .string (bs t)] 72)).grown hg4 (by have := hb.out.size; simp; omega) (fun x hx => (ho.out.block x hx).1)
          have H4 := Lib.hid (And.intro hown4 hb4)
          clear hown4 hg4 hb4 ca' cb' ckk
          go_wp2
          go_roundw
          case rel =>
            refine ⟨k + 1, by omega, by go_num, ?_, Lib.hid H4.out.2⟩
            rw [HT.out, HKK.out, if_pos rfl]
            exact Lib.hid H4.out.1
          case measure => simp [intOf]; omega
      · have hkI : ¬ (k : Int) < keep.length := by omega
        have HKK := Lib.hid (show keep.getD k false = false by rw [List.getD_eq_getElem?_getD, List.getElem?_eq_none (by omega)]; rfl)
        go_wp2
        go_roundw
        case rel =>
          refine ⟨k + 1, by omega, by go_num, ?_, hb⟩
          rw [HT.out, HKK.out, if_neg (by decide), List.append_nil]
          exact ho
        case measure => simp [intOf]; omega
    · have hke : k = d.loose.length := by omega
      subst hke
      rw [List.take_length] at ho
      have HDR := Lib.hid (HD.out.below hb.out HD.out.lt)
      go_wp2_with fail
      refine (firm_any wr F g d _ (Dk.kept keep d.loose) HDR.out (ho.out.mono (Nat.zero_le _)) (fun x hx => HD.out.bound x (Dk.kept_mem _ _ _ hx)) hn).mono ?_
      rintro e w2 ⟨rfl, F', h1, h2⟩
      obtain ⟨_, _, _, _, d2, d3, f2, f3, _, _⟩ := h1.cells
      obtain ⟨r1, m1⟩ := h1.offed false
      obtain ⟨_, _, _, _, d2', _, f2', _⟩ := r1.cells
      obtain ⟨r2, m2⟩ := r1.fueled (-1) (by decide) (by decide)
      have HE := Lib.hid (And.intro r2 (((show Moved F w F wr from ⟨But.of_below hb.out F, fun _ h => .inl h⟩).trans h2).trans (m1.trans m2)))
      clear h1 h2 r1 m1 r2 m2 ho hb c1'
      go_wp2
      refine bodyPost_end (results_none rfl _ _ _) rfl ?_
      exact ⟨rfl, F', HE.out⟩
end Go.Proofs.Ytdcidfamflcdaaa
