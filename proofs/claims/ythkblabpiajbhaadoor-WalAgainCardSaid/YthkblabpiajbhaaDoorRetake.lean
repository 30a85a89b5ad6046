/- Walk of retake. -/
import Derived.Test.YthkblabpiajbhaaDoorReadPuts
import Derived.Test.YthkblabpiajbhaaDoorTake
namespace Go.Proofs.YthkblabpiajbhaaDoor
open Go.RowKit Lib

/-- The next group of a log stands in its ring. -/
structure Stands (s : Wl.Lg) (grp : Wl.Grp) : Prop where
  bnd : Bnd s
  ne : grp ≠ []
  fits : Wl.Fits s.homes grp
  len : grp.length ≤ 65536
  size : Wl.sizeOf grp.length ≤ s.ring
  num : 1 ≤ s.num
  head : (s.d.read (Wl.pos s.ring s.place : Nat)).1 = Dk.full (Wl.head s.num grp.length)
  puts : ∀ k t, (Wl.putsTexts grp)[k]? = some t → (s.d.read (Wl.pos s.ring (s.place + 1 + k) : Nat)).1 = Dk.full t
set_option maxRecDepth 100000 in
set_option maxHeartbeats 4000000 in
theorem retake_any (w : World) (F : Nat → Prop) (b g : Nat) (s : Wl.Lg) (grp : Wl.Grp) (hl : Log w F b g s) (hs : Stands s grp) :
    Calls Tryd.prog 37 #[ptr b] w fun e w' => e = .returned (.bool true) ∧ Log w' F b g (s.take grp) ∧ Moved F w F w' := by
  have HL := Lib.hid hl
  have HS := Lib.hid hs
  have hdr : But (fun _ => False) w w.drew := (But.refl _ w).drew
  have HLd := Lib.hid (hl.but hdr (fun _ _ h => h))
  have c1 : w.drew.cell? ⟨b, 1, none⟩ = some (.int .i64 s.ring) := HLd.out.c1
  have c3 : w.drew.cell? ⟨b, 3, none⟩ = some (.int .i64 s.place) := HLd.out.c3
  have hpI : (s.place : Int) ≤ 4096 := by have := hs.bnd.p; have := hs.bnd.r2; omega
  have hp0 : (0 : Int) ≤ s.place := by omega
  have hgl : 0 < grp.length := List.length_pos_iff.2 hs.ne
  have hgI : (grp.length : Int) ≤ 65536 := by have := hs.len; omega
  have HRH := Lib.hid (show Wl.readHead (Dk.full (Wl.head s.num grp.length)) s.ring = (s.num, grp.length, true) from Wl.readHead_head _ _ _ hs.num (by have := hs.bnd.n; omega) hgl (by have := hs.size; have := Wl.sizeOf_ge grp.length hgl; omega) hs.size hs.bnd.r2)
  clear hl hs hdr
  go_enter Tryd.func37, Tryd.ntmps37
  unfold ptr
  go_wp2_with fail
  go_region_held3 (fun w' => w'.cell? ⟨b, 1, none⟩ = some (.int .i64 s.ring) ∧ w'.cell? ⟨b, 3, none⟩ = some (.int .i64 s.place))
    (first
      | (exact ⟨c1, c3⟩)
      | (exact ⟨d1, d3⟩)
      | go_keep)
    (first
      | (go_at_call 36; refine (heldInRing_any _ F b g s s.place HLd.out HS.out.bnd.r2 (by have := HS.out.bnd.r1; omega) (by omega)).mono ?_; rintro e w1 ⟨rfl, rfl⟩)
      | (go_at_call 53; refine (readHead_any _ s.ring _ (by rw [bs_size, HS.out.head]; exact Dk.full_length _ (by rw [Wl.head_length]; decide)) HS.out.bnd.r2).mono ?_; rintro e w2 ⟨rfl, hb2⟩; have HL2 := Lib.hid (show Log w2 F b g s ∧ Moved F w F w2 from ⟨HLd.out.below hb2, (show Moved F w F w.drew from ⟨(But.refl F w).drew, fun _ h => .inl h⟩).trans ⟨But.of_below hb2 _, fun _ h => .inl h⟩⟩); have d1 : w2.cell? ⟨b, 1, none⟩ = some (.int .i64 s.ring) := HL2.out.1.c1; have d3 : w2.cell? ⟨b, 3, none⟩ = some (.int .i64 s.place) := HL2.out.1.c3; clear hb2))
  rw [bs_list, HS.out.head, HRH.out]
  simp only
  clear c1 c3 d1 d3
  obtain ⟨T, hT⟩ : ∃ T, T = Wl.putsTexts grp := ⟨_, rfl⟩
  have hTl := Wl.putsTexts_length (homes := s.homes) (g := grp) HS.out.fits.2
  rw [← hT] at hTl
  have HT := Lib.hid (And.intro hT hTl)
  have hz : ((Wl.sizeOf grp.length : Nat) : Int) - 1 = T.length := by omega
  have hTI : (T.length : Int) ≤ 4096 := by have := HS.out.size; have := HS.out.bnd.r2; omega
  have HZ := Lib.hid hz
  clear hT hTl hz
  go_wp2_with fail
  refine (sizeOf_any w2 grp.length (by have := HS.out.len; omega)).mono ?_
  rintro e w3 ⟨rfl, rfl⟩
  have hzI : ((Wl.sizeOf grp.length : Nat) : Int) ≤ 4096 := by have := HS.out.size; have := HS.out.bnd.r2; omega
  have hz1 : (1 : Int) ≤ ((Wl.sizeOf grp.length : Nat) : Int) := by have := Wl.sizeOf_pos grp.length; omega
  generalize hzz : Wl.sizeOf grp.length = z at *
  have HZZ := Lib.hid hzz
  clear hzz
  go_wp2_with fail
  rw [HZ.out]
  go_loopw [6, 29] (fun u i wr => ∃ k : Nat, k ≤ T.length ∧ i = .int .i64 k ∧ Hid (OwnS w.heap.size wr u ((T.map Dk.full).take k)) ∧ Hid (Log wr F b g s ∧ Moved F w F wr)) (fun _ i _ => T.length - (Go.RowKit.intOf i).toNat)
  case atStart => exact ⟨0, Nat.zero_le _, rfl, Lib.hid (Own.nil _ _ _ _), HL2⟩
  case round =>
    obtain ⟨k, hk, rfl, ho, hM⟩ := hrel
    by_cases hlt : k < T.length
    · have hI : (k : Int) < T.length := by omega
      have hk0 : (0 : Int) ≤ k := by omega
      have c3 := hM.out.1.c3
      have HX := Lib.hid (show ((T.map Dk.full).take (k + 1)) = ((T.map Dk.full).take k) ++ [Dk.full T[k]] by
        rw [List.take_succ_eq_append_getElem (by rw [List.length_map]; exact hlt), List.getElem_map])
      have HP := Lib.hid (HS.out.puts k T[k] (by rw [← HT.out.1, List.getElem?_eq_getElem hlt]))
      generalize T[k] = t at *
      have HK := Lib.hid hlt
      clear hk hlt
      go_wp2_with fail
      rw [show ((s.place : Int) + 1 + k) = ((s.place + 1 + k : Nat) : Int) by omega]
      refine (heldInRing_any wr F b g s _ hM.out.1 HS.out.bnd.r2 (by have := HS.out.bnd.r1; omega) (by omega)).mono ?_
      rintro e w4 ⟨rfl, rfl⟩
      rw [HP.out]
      clear c3
      go_wp2_with (at_builtin; refine wpList_app stringST rfl _ _ rfl rfl (ho.out.alloc _) (by have := hM.out.2.1.size; simp; omega) w4.heap.size 0 1 1 [bs (Dk.full t)] rfl rfl (lies_new _ _) (by rw [List.length_map, List.length_take]; have := HK.out; omega) ?_; intro u5 w5 ho5 hg5; have H5 := Lib.hid (And.intro ho5 hg5); clear ho5 hg5)
      go_roundw
      case rel =>
        obtain ⟨ho5, hg5⟩ := H5.out
        refine ⟨k + 1, HK.out, by go_num, Lib.hid ?_, Lib.hid ?_⟩
        · rw [HX.out]
          unfold OwnS
          rw [List.map_append]
          exact ho5
        · have hbut : But (fun x => u6.ownBlock = some x) w4 w5 := ((But.refl (fun x => u6.ownBlock = some x) w4).alloc _).trans (But.ofGrown hg5) (fun _ _ h => h)
          have hFn : ∀ x, F x → ¬ u6.ownBlock = some x := fun x hx e => by have := (Own.block ho.out x e).1; have := HL.out.lt x hx; omega
          refine ⟨hM.out.1.but hbut hFn, hM.out.2.1.trans hbut (fun x hx e => by have := (Own.block ho.out x e).1; omega), fun x hx => .inl hx⟩
      case measure => have := HK.out; simp [Go.RowKit.intOf]; omega
    · obtain rfl : k = T.length := by omega
      rw [List.take_of_length_le (by rw [List.length_map]; exact Nat.le_refl _)] at ho
      have c2 : wr.cell? ⟨b, 2, none⟩ = some (.int .i64 s.homes) := by obtain ⟨_, _, h⟩ := hM.out.1; exact h.c2
      have HRd := Lib.hid (OwnS.reads ho.out)
      clear hk hlt ho
      go_wp2_with fail
      refine (readPuts_any wr s.homes grp u6 (by rw [← HT.out.1]; exact HRd.out) HS.out.fits HS.out.bnd.h HS.out.len hgl).mono ?_
      rintro e w4 ⟨gb, rfl, hcm, hge, hb4⟩
      have H4 := Lib.hid (show Log w4 F b g s ∧ CMap w4 gb grp ∧ ¬ F gb ∧ Moved F w F w4 from ⟨hM.out.1.below hb4, hcm, fun h => by have := hM.out.1.lt gb h; omega, hM.out.2.trans ⟨But.of_below hb4 _, fun _ h => .inl h⟩⟩)
      clear c2 hcm hge hb4
      go_wp2_with fail
      refine (take_any w4 F b g gb s grp H4.out.1 HS.out.bnd H4.out.2.1 H4.out.2.2.1 HS.out.len).mono ?_
      rintro e w5 ⟨rfl, hL5, hM5⟩
      have H5 := Lib.hid (And.intro hL5 (H4.out.2.2.2.trans hM5))
      clear hL5 hM5
      go_wp2
      go_ret
      exact ⟨rfl, H5.out⟩
end Go.Proofs.YthkblabpiajbhaaDoor
