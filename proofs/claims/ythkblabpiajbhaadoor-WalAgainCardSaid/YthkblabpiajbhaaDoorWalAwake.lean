/- Walk of awake (layer 5). -/
import Derived.Test.YthkblabpiajbhaaDoorLive
import Derived.Test.YthkblabpiajbhaaDoorSecFall
namespace Go.Proofs.YthkblabpiajbhaaDoor
open Go.RowKit Lib

theorem aw_gather : Wl.gather 11 [] [(1, [97]), (2, [98])] = (0, [(1, Dk.full [97]), (2, Dk.full [98])]) := by simp [Wl.gather, Wl.ins]
theorem aw_comm : Wl.comm 8 (Wl.noughts 11) [(1, [97]), (2, [98])] = (0, Dk.puts (Wl.noughts 11) [(1, Dk.full [97]), (2, Dk.full [98])]) := by
  unfold Wl.comm
  rw [show (Wl.noughts 11).length = 11 by simp [Wl.noughts], aw_gather, if_neg (by decide), if_neg (by decide)]
theorem aw_home : homeOf (Dk.puts (Wl.noughts 11) [(1, Dk.full [97]), (2, Dk.full [98])]) 2 = (Dk.full [98], 0) := by rfl
theorem aw_len : (Dk.puts (Wl.noughts 11) [(1, Dk.full [97]), (2, Dk.full [98])]).length = 11 := by rfl
theorem aw_text : (bs (Dk.full [98])).extract 0 2 = ⟨#[98, 0]⟩ := by rw [ext_take]; rfl
/-- Lists of puts that are just built. -/
theorem RdP.one (w : World) (a : Int) (t : ByteArray) (ha : -9223372036854775808 ≤ a ∧ a ≤ 9223372036854775807) : RdP (w.alloc (.cells #[.int .i64 a, .string t] 34)) (.slice (some ⟨w.heap.size, 0, none⟩) 1 1) [(a, t)] := by
  refine ⟨_, 1, rfl, Nat.le_refl _, by simp, fun i hi => ⟨?_, w.heap.size, 0, rfl, by simp, fun j hj => ?_⟩⟩
  · rw [List.getElem_singleton]; exact ha
  · obtain rfl : j = 0 := by simpa using hj
    have hb := Blk.new w #[.int .i64 a, .string t] 34
    exact ⟨hb.cell rfl, hb.cell rfl⟩
set_option maxRecDepth 100000 in
set_option maxHeartbeats 2000000 in
theorem awake_any (w : World) : Calls Tryd.prog 5 #[] w fun e w' => e = .returned (.bool true) ∧ Below w.heap.size w w' := by
  go_enter Tryd.func5, Tryd.ntmps5
  go_wp2_with fail
  refine (new_any 20 w (by decide) (by decide)).mono ?_
  rintro e w1 ⟨g, FD, rfl, hd1, hF, hb1⟩
  have H1 := Lib.hid (And.intro hd1 (And.intro hF hb1))
  clear hd1 hF hb1
  go_wp2_with fail
  refine (open_begun w1 FD g 8 20 H1.out.1 (by decide) (by decide) (by decide) (by decide)).mono ?_
  rintro e w2 ⟨b, rfl, F2, s2, hl2, hm2, hv2, hf2⟩
  have H2 := Lib.hid (And.intro hl2 (And.intro hm2 (And.intro hv2 hf2)))
  clear hl2 hm2 hv2 hf2
  go_wp2_with fail
  obtain ⟨V, hV⟩ : ∃ V, V = ((w2.alloc (.cells #[.int .i64 1, .string ⟨#[97]⟩] 34)).alloc (.cells #[.int .i64 2, .string ⟨#[98]⟩] 34)).alloc (.cells #[.slice (some ⟨w2.heap.size, 0, none⟩) 1 1, .slice (some ⟨w2.heap.size + 1, 0, none⟩) 1 1] 35) := ⟨_, rfl⟩
  rw [← hV]
  have hb2 : Below w2.heap.size w2 V := by rw [hV]; exact (((Below.refl _ _).alloc (Nat.le_refl _) _).alloc (by simp) _).alloc (by simp; omega) _
  have hrl : RdL V (.slice (some ⟨w2.heap.size + 1 + 1, 0, none⟩) 2 2) [(.slice (some ⟨w2.heap.size, 0, none⟩) 1 1, [(1, ⟨#[97]⟩)]), (.slice (some ⟨w2.heap.size + 1, 0, none⟩) 1 1, [(2, ⟨#[98]⟩)])] := by
    have p1 := RdP.one w2 1 ⟨#[97]⟩ (by decide)
    have p2 := RdP.one (w2.alloc (.cells #[.int .i64 1, .string ⟨#[97]⟩] 34)) 2 ⟨#[98]⟩ (by decide)
    rw [World.size_alloc] at p2
    have q1 := (p1.below ((Below.refl _ _).alloc (Nat.le_refl _) (.cells #[.int .i64 2, .string ⟨#[98]⟩] 34))).below ((Below.refl _ _).alloc (Nat.le_refl _) (.cells #[.slice (some ⟨w2.heap.size, 0, none⟩) 1 1, .slice (some ⟨w2.heap.size + 1, 0, none⟩) 1 1] 35))
    have q2 := p2.below ((Below.refl _ _).alloc (Nat.le_refl _) (.cells #[.slice (some ⟨w2.heap.size, 0, none⟩) 1 1, .slice (some ⟨w2.heap.size + 1, 0, none⟩) 1 1] 35))
    have hbl := Blk.new ((w2.alloc (.cells #[.int .i64 1, .string ⟨#[97]⟩] 34)).alloc (.cells #[.int .i64 2, .string ⟨#[98]⟩] 34)) #[.slice (some ⟨w2.heap.size, 0, none⟩) 1 1, .slice (some ⟨w2.heap.size + 1, 0, none⟩) 1 1] 35
    rw [World.size_alloc, World.size_alloc] at hbl
    rw [← hV] at q1 q2 hbl
    refine ⟨_, 2, rfl, Nat.le_refl _, by simp, fun i hi => ⟨?_, w2.heap.size + 1 + 1, 0, rfl, hbl.lt, fun j hj => ?_⟩⟩
    · match i, hi with
      | 0, _ => exact q1
      | 1, _ => exact q2
    · match j, hj with
      | 0, _ => exact hbl.cell rfl
      | 1, _ => exact hbl.cell rfl
  refine (commit_live V F2 b g 8 1 s2 (Wl.noughts 11) _ _ (H2.out.1.below hb2) H2.out.2.2.1 (by decide) hrl).mono ?_
  rintro e w3 ⟨F3, s3, hl3, hm3, hq3⟩
  have hps : ptsL [(Value.slice (some ⟨w2.heap.size, 0, none⟩) 1 1, [((1 : Int), (⟨#[97]⟩ : ByteArray))]), (Value.slice (some ⟨w2.heap.size + 1, 0, none⟩) 1 1, [((2 : Int), (⟨#[98]⟩ : ByteArray))])] = [(1, [97]), (2, [98])] := rfl
  rw [hps] at hq3
  unfold CommitTo at hq3
  rw [aw_comm] at hq3
  rcases hq3 with ⟨rfl, hv3, _⟩ | ⟨_, _, hbad⟩
  · obtain ⟨FD3, hsec3, hfd3⟩ := hl3.sec
    have H3 := Lib.hid (show Sec w3 FD3 g s3.d ∧ (∀ k, FD3 k → w.heap.size ≤ k) ∧ Below w.heap.size w w3 ∧ Wl.Safe 8 2 s3.d (· = Dk.puts (Wl.noughts 11) [(1, Dk.full [97]), (2, Dk.full [98])]) by
      have h0 := H2.out.2.1
      have hmV : Moved F2 w2 F2 V := ⟨But.of_below hb2 _, fun _ h => .inl h⟩
      have hall := (h0.trans hmV).trans hm3
      have hlo : ∀ k, F3 k → w.heap.size ≤ k := fun k hk => by
        rcases hall.2 k hk with h | h
        · exact H1.out.2.1 k h
        · have := H1.out.2.2.size; omega
      exact ⟨hsec3, fun k hk => hlo k (hfd3 k hk), H1.out.2.2.trans (hall.below H1.out.2.1 H1.out.2.2.size).1, hv3.safe⟩)
    clear hV hb2 hrl hl3 hm3 hv3 hsec3 hfd3 hps
    go_wp2_with fail
    refine (fall_any w3 FD3 g _ _ [] H3.out.1 (RdB.nil _) (fun h => by cases h)).mono ?_
    rintro e w4 ⟨rfl, hd4, hm4⟩
    have H4 := Lib.hid (And.intro hd4 hm4)
    clear hd4 hm4
    go_wp2_with fail
    refine (open_fallen w4 FD3 g 8 2 s3.d _ [] _ H4.out.1 rfl rfl rfl H3.out.2.2.2).mono ?_
    rintro e w5 ⟨b5, H5, rfl, F5, s5, hl5, hm5, hq5⟩
    rcases hq5 with ⟨rfl, hv5, _⟩ | ⟨_, _, hbad⟩
    · have H5 := Lib.hid (And.intro hl5 (And.intro hm5 hv5))
      clear hl5 hm5 hv5
      go_wp2_with fail
      refine (read_live w5 F5 b5 g 8 2 s5 _ 2 H5.out.1 H5.out.2.2).mono ?_
      rintro e w6 ⟨rfl, hb6⟩
      rw [aw_home]
      have hx := aw_text
      have hs : (bs (Dk.full [98])).size = 512 := by rw [bs_size]; exact Dk.full_length _ (by decide)
      generalize bs (Dk.full [98]) = S at *
      have HB6 := Lib.hid hb6
      clear hb6
      have hh : s5.homes = 11 := by rw [H5.out.2.2.homes_eq]; exact aw_len
      have HB := Lib.hid (show Below w.heap.size w w6 by
        have hm45 := H4.out.2.trans H5.out.2.1
        have hb5 := hm45.below H3.out.2.1 H3.out.2.2.1.size
        exact (H3.out.2.2.1.trans hb5.1).trans (HB6.out.mono (Nat.le_trans H3.out.2.2.1.size hb5.1.size)))
      go_wp2_with fail
      refine (homes_any w6 F5 b5 g s5 (H5.out.1.below HB6.out)).mono ?_
      rintro e w7 ⟨rfl, rfl⟩
      rw [hh]
      have hsI : (2 : Int) ≤ S.size := by omega
      go_wp2
      go_ret
      exact ⟨rfl, HB.out⟩
    · exact absurd hbad (by show ¬ (0 : Int) ≤ -1; decide)
  · exact absurd hbad (by have := H2.out.2.2.2; omega)
end Go.Proofs.YthkblabpiajbhaaDoor
