/- Walk of take. -/
import Derived.Test.YthkblabpiajbhaaDoorCopy
import Derived.StillTailTactics
namespace Go.Proofs.YthkblabpiajbhaaDoor
open Go.RowKit Go.Maps Lib

theorem LogP.merged {w w1 : World} {F FD : Nat → Prop} {b g mb : Nat} {s : Wl.Lg} {m' : Wl.Grp} (h : LogP w F b g mb FD s) (hm : CMap w1 mb m') (hb : But (fun k => k = mb) w w1) : LogP w1 F b g mb FD { s with wait := m' } ∧ Moved F w F w1 :=
  ⟨⟨h.blk.but hb (fun e => h.mne e.symm), hm, h.sec.but hb (fun _ hk e => h.nm (e ▸ hk)), h.nb, h.nm, h.fb, h.fm, h.fd, fun k hk => Nat.lt_of_lt_of_le (h.lt k hk) hb.size⟩, hb.mono (fun _ _ e => e ▸ h.fm), fun _ hk => .inl hk⟩
set_option maxRecDepth 100000 in
set_option maxHeartbeats 2000000 in
theorem take_any (w : World) (F : Nat → Prop) (b g gb : Nat) (s : Wl.Lg) (grp : Wl.Grp) (hl : Log w F b g s) (hb : Bnd s) (hg : CMap w gb grp) (hn : ¬ F gb) (hgl : grp.length ≤ 65536) :
    Calls Tryd.prog 24 #[ptr b, .map (some gb)] w fun e w' => e = .returned (.tuple #[]) ∧ Log w' F b g (s.take grp) ∧ Moved F w F w' := by
  obtain ⟨mb, FD, h⟩ := hl
  have c6 := h.c6
  have HH := Lib.hid h
  have hne : mb ≠ gb := fun e => hn (e ▸ h.fm)
  have HG := Lib.hid hg
  have HN := Lib.hid (And.intro hgl (And.intro hb (And.intro hne hn)))
  have hgI : (grp.length : Int) ≤ 65536 := by omega
  clear h hgl hb hne hn hg
  go_enter Tryd.func24, Tryd.ntmps24
  unfold ptr
  go_wp2_with (at_len; refine wpList_lenC rfl _ rfl gb grp rfl HG.out ?_)
  refine (sizeOf_any w grp.length (by have := HN.out.1; omega)).mono ?_
  rintro e w1 ⟨rfl, rfl⟩
  have hz : ((Wl.sizeOf grp.length : Nat) : Int) ≤ 1000000 := by have := HN.out.1; unfold Wl.sizeOf; omega
  have hz0 : (0 : Int) ≤ ((Wl.sizeOf grp.length : Nat) : Int) := by omega
  have HT := Lib.hid (show s.take grp = { s with wait := Wl.merge s.wait grp, filled := s.filled + Wl.sizeOf grp.length, place := (s.place + Wl.sizeOf grp.length) % s.ring, num := s.num + 1 } from rfl)
  generalize Wl.sizeOf grp.length = z at *
  go_wp2_with fail
  refine (copy_any mb gb s.wait grp w1 HH.out.mp HG.out HN.out.2.2.1 (by have := HN.out.2.1.wl; omega) (by have := HN.out.1; omega)).mono ?_
  rintro e w2 ⟨rfl, hm2, hb2⟩
  obtain ⟨h2, mv2⟩ := HH.out.merged hm2 hb2
  have c5 := h2.c5
  have f5 := h2.blk.frozen 5
  have hb := HN.out.2.1
  have i5 : (s.filled : Int) ≤ 1000000 := by have := hb.f; omega
  have h3 := h2.set 5 (.int .i64 ((s.filled : Int) + z)) { s with wait := Wl.merge s.wait grp, filled := s.filled + z } rfl rfl rfl
  have H3 := Lib.hid (And.intro h3.1 (mv2.trans h3.2))
  clear hm2 hb2 h2 mv2 h3 c6 hb HH HG
  simp only at c5
  go_wp2
  obtain ⟨W, hW⟩ : ∃ W, W = w2.setCell ⟨b, 5, none⟩ (.int .i64 ((s.filled : Int) + z)) := ⟨_, rfl⟩
  rw [← hW] at H3 ⊢
  have k1 := H3.out.1.c1
  have k3 := H3.out.1.c3
  have k4 := H3.out.1.c4
  have f3 := H3.out.1.blk.frozen 3
  have f4 := H3.out.1.blk.frozen 4
  simp only at k1 k3 k4
  have hb := HN.out.2.1
  have r1 := hb.r1
  have r2 := hb.r2
  have r3 := hb.p
  have r4 := hb.n
  have hr0 : ((s.ring : Int) == 0) = false := by rw [beq_eq_false_iff_ne]; omega
  have hrne : ¬ s.ring = 0 := by omega
  have w1' : IntKind.i64.wrap ((s.place : Int) + z) = (s.place : Int) + z := by rw [IntKind.wrap_i64]; omega
  have w2' : IntKind.u64.wrap ((s.num : Int) + 1) = (s.num : Int) + 1 := by rw [IntKind.wrap_u64]; omega
  have hm : ((s.place : Int) + z).tmod s.ring = (((s.place + z) % s.ring : Nat) : Int) := by
    rw [Int.tmod_eq_emod_of_nonneg (by omega), Int.natCast_emod, Int.natCast_add]
  have H3D := Lib.hid (show LogP W.drew F b g mb FD { s with wait := Wl.merge s.wait grp, filled := s.filled + z } ∧ Moved F w1 F W.drew from ⟨H3.out.1.but ((But.refl (fun _ => False) W).drew) (fun _ _ h => h), H3.out.2.trans ⟨(But.refl _ W).drew, fun _ h => .inl h⟩⟩)
  clear hW c5 f5 hb r1 r2 r3 r4 H3
  go_still_tail 22, (by kernel_rfl)
  change wpList _ _ _ _ _ W.drew
  obtain ⟨U, hU⟩ : ∃ U, U = W.drew := ⟨_, rfl⟩
  rw [← hU] at H3D ⊢
  clear hU k1 k3 k4 f3 f4 w1' w2' hm
  have h4 := H3D.out.1.set 3 (.int .i64 (((s.place + z) % s.ring : Nat) : Int)) { s with wait := Wl.merge s.wait grp, filled := s.filled + z, place := (s.place + z) % s.ring } rfl rfl rfl
  have h5 := h4.1.set 4 (.int .u64 ((s.num : Int) + 1)) (s.take grp) (by rw [HT.out]; rfl) (by rw [HT.out]) (by rw [HT.out])
  have H5 := Lib.hid (And.intro h5.1.log (H3D.out.2.trans (h4.2.trans h5.2)))
  have k3 := H3D.out.1.c3
  have k4 := H3D.out.1.c4
  have f3 := H3D.out.1.blk.frozen 3
  have f4 := H3D.out.1.blk.frozen 4
  simp only at k3 k4
  clear h4 h5
  go_wp2
  refine bodyPost_end (results_none rfl _ _ _) rfl ?_
  exact ⟨rfl, H5.out⟩
end Go.Proofs.YthkblabpiajbhaaDoor
