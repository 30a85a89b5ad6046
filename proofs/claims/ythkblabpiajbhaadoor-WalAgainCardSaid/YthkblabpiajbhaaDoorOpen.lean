/- Walk of Open. -/
import Derived.Test.YthkblabpiajbhaaDoorBegin
import Derived.Test.YthkblabpiajbhaaDoorCommit
namespace Go.Proofs.YthkblabpiajbhaaDoor
open Go.RowKit Lib

/-- A log that is just made. -/
def bare (ring homes : Nat) (d : Dk.Disk) : Wl.Lg := ⟨ring, homes, 0, 0, 0, [], false, d⟩
theorem LogP.make {w : World} {FD : Nat → Prop} {g ring homes : Nat} {d : Dk.Disk} (hs : Sec w FD g d) :
    LogP ((w.alloc (.map #[] 0)).alloc (.cells (lcells g w.heap.size (bare ring homes d)).toArray 57)) (both FD (fun k => k = w.heap.size ∨ k = w.heap.size + 1)) (w.heap.size + 1) g w.heap.size FD (bare ring homes d) ∧
    Moved FD w (both FD (fun k => k = w.heap.size ∨ k = w.heap.size + 1)) ((w.alloc (.map #[] 0)).alloc (.cells (lcells g w.heap.size (bare ring homes d)).toArray 57)) := by
  have hb : But (fun _ => False) w ((w.alloc (.map #[] 0)).alloc (.cells (lcells g w.heap.size (bare ring homes d)).toArray 57)) := ((But.refl _ w).alloc _).alloc _
  have hlt := hs.lt
  refine ⟨⟨?_, ?_, hs.but hb (fun _ _ h => h), fun h => by have := hlt _ h; omega, fun h => by have := hlt _ h; omega, .inr (.inr rfl), .inr (.inl rfl), fun k hk => .inl hk, fun k hk => ?_⟩, hb.mono (fun _ _ h => h.elim), fun k hk => ?_⟩
  · have := Blk.new (w.alloc (.map #[] 0)) (lcells g w.heap.size (bare ring homes d)).toArray 57
    rw [World.size_alloc] at this
    exact this
  · exact (IMap.made Tryd.prog KInt contentE w).but ((But.refl (fun _ => False) _).alloc _) id
  · simp only [World.size_alloc]
    rcases hk with hk | hk | hk
    · have := hlt k hk; omega
    · omega
    · omega
  · rcases hk with hk | hk | hk
    · exact .inl hk
    · exact .inr (by omega)
    · exact .inr (by omega)
set_option maxRecDepth 100000 in
set_option maxHeartbeats 2000000 in
theorem open_arg (w : World) (FD : Nat → Prop) (g : Nat) (d : Dk.Disk) (ring : Int) (hs : Sec w FD g d) (hl : d.firm.length ≤ 65536) (hb : ring < 4 ∨ 4096 < ring ∨ (d.firm.length : Int) < ring + 2) :
    Calls Tryd.prog 7 #[ptr g, .int .i64 ring] w fun e w' => e = .returned (.tuple #[.pointer none, .int .i64 1]) ∧ w' = w := by
  have HS := Lib.hid hs
  have HB := Lib.hid hb
  clear hs hb
  have hlI : (d.firm.length : Int) ≤ 65536 := by omega
  go_enter Tryd.func7, Tryd.ntmps7
  unfold ptr
  by_cases h1 : ring < 4
  · have h1' : ring ≤ 3 := by omega
    go_wp2
    go_ret2
    exact ⟨rfl, rfl⟩
  · have h1' : 4 ≤ ring := by omega
    by_cases h2 : 4096 < ring
    · go_wp2
      go_ret2
      exact ⟨rfl, rfl⟩
    · have h2' : ring ≤ 4096 := by omega
      have h3 : (d.firm.length : Int) < ring + 2 := by have := HB.out; omega
      clear h1 h2
      go_wp2_with fail
      refine (size_any w FD g d HS.out).mono ?_
      rintro e w1 ⟨rfl, rfl⟩
      go_wp2
      go_ret2
      exact ⟨rfl, rfl⟩
/-- What an opening hands back: no log where the disk goes down. -/
def OpenTo (w w' : World) (FD : Nat → Prop) (g : Nat) (s : Wl.Lg) (r : Bool × Dk.Disk) (e : Ending) : Prop := ∃ b F', e = .returned (if r.1 then .tuple #[.pointer none, .int .i64 3] else .tuple #[ptr b, .int .i64 0]) ∧
      Log w' F' b g (s.with r) ∧ Moved FD w F' w'
set_option maxRecDepth 100000 in
set_option maxHeartbeats 4000000 in
/-- A log stands on the disk. -/
theorem open_good (w : World) (FD : Nat → Prop) (g ring : Nat) (d : Dk.Disk) (a n : Nat) (gs : List Wl.Grp) (H : List Wl.Text) (hs : Sec w FD g d) (hg : Wl.Good ring d.firm a n gs H) (ho : d.off = false) (hlo : d.loose = []) :
    Calls Tryd.prog 7 #[ptr g, .int .i64 ring] w fun e w' => OpenTo w w' FD g (Wl.opened ring H a n gs d) (Wl.fl (false, d)) e := by
  have HS := Lib.hid hs
  have HG := Lib.hid (And.intro hg (And.intro ho hlo))
  have hr1 : (4 : Int) ≤ ring := by have := hg.r1; omega
  have hr2 : (ring : Int) ≤ 4096 := by have := hg.r2; omega
  have hlen : (d.firm.length : Int) = 1 + ring + H.length := by have := hg.len; omega
  have hH1 : (1 : Int) ≤ H.length := by have := hg.hpos; omega
  have hH2 : (H.length : Int) ≤ 65536 := by have := hg.hmax; have := hg.len; omega
  have HHo := Lib.hid (show (1 + (ring : Int) + H.length) - 1 - ring = H.length by omega)
  have h3 : ¬ (1 + (ring : Int) + H.length) < ring + 2 := by omega
  clear hs hg ho hlo
  have hmm := @run_makeMap Tryd.prog
  go_enter Tryd.func7, Tryd.ntmps7
  unfold ptr
  go_wp2_with fail
  refine (size_any w FD g d HS.out).mono ?_
  rintro e w1 ⟨rfl, rfl⟩
  rw [hlen]
  go_wp2_with fail
  refine (down_any w1 FD g d HS.out).mono ?_
  rintro e w2 ⟨rfl, rfl⟩
  rw [HG.out.2.1]
  go_wp2_with fail
  refine (size_any w2 FD g d HS.out).mono ?_
  rintro e w3 ⟨rfl, rfl⟩
  rw [hlen]
  go_wp2_with fail
  rw [HHo.out]
  have hmk := LogP.make (ring := ring) (homes := H.length) HS.out
  obtain ⟨V, hV⟩ : ∃ V, V = ((w3.alloc (.map #[] 0)).alloc (.cells (lcells g w3.heap.size (bare ring H.length d)).toArray 57)) := ⟨_, rfl⟩
  rw [← hV] at hmk
  change Calls Tryd.prog _ _ ((w3.alloc (.map #[] 0)).alloc (.cells (lcells g w3.heap.size (bare ring H.length d)).toArray 57)) _
  rw [← hV]
  have HK := Lib.hid (show ∃ F, Log V F (w3.heap.size + 1) g (bare ring H.length d) ∧ Moved FD w3 F V from ⟨_, hmk.1.log, hmk.2⟩)
  clear hmk hV hmm
  obtain ⟨b, hb⟩ : ∃ b, b = w3.heap.size + 1 := ⟨_, rfl⟩
  rw [← hb] at HK ⊢
  clear hb
  obtain ⟨F, hL, hM⟩ := HK.out
  have HL := Lib.hid (And.intro hL hM)
  clear hL hM HK
  have hrd : d.read 0 = (Dk.full (Wl.first d.firm.length ring a n), 0) := by
    have h0 : d.read ((0 : Nat) : Int) = (Dk.full (Wl.first d.firm.length ring a n), 0) := Dk.read_at HG.out.2.1 (by unfold Dk.Disk.now; rw [HG.out.2.2, Dk.puts_nil]; exact HG.out.1.first)
    exact h0
  have HRD := Lib.hid hrd
  clear hrd
  refine (begin_not V F b g (bare ring H.length d) HL.out.1 (by show 1 ≤ d.firm.length; omega) (by show Wl.blank (d.read 0).1 = false; rw [HRD.out]; exact blank_first _ _ _ _) (by show (d.read 0).1.length ≤ _; rw [HRD.out]; show (Dk.full (Wl.first d.firm.length ring a n)).length ≤ _; rw [Dk.full_length _ (by rw [Wl.first_length]; decide)]; decide)).mono ?_
  rintro e w4 ⟨rfl, hb4⟩
  have H4 := Lib.hid (show Log w4 F b g (bare ring H.length d) ∧ Moved FD w3 F w4 from ⟨HL.out.1.below hb4, HL.out.2.trans ⟨But.of_below hb4 _, fun _ h => .inl h⟩⟩)
  clear hb4
  go_wp2_with fail
  refine (resume_any w4 F b g ring d a n gs H H4.out.1 HG.out.1 HG.out.2.1 HG.out.2.2).mono ?_
  rintro e w5 ⟨rfl, hL5, hM5⟩
  have H5 := Lib.hid (And.intro hL5 (H4.out.2.trans hM5))
  clear hL5 hM5
  go_wp2_with fail
  refine (lflush_any w5 F b g _ H5.out.1).mono ?_
  rintro e w6 ⟨rfl, F6, hL6, hM6⟩
  change Log w6 F6 b g ((Wl.opened ring H a n gs d).with (Wl.fl (false, d))) at hL6
  obtain ⟨r, hr⟩ : ∃ r, r = Wl.fl (false, d) := ⟨_, rfl⟩
  rw [← hr] at hL6
  have HR := Lib.hid hr
  have c7 : w6.cell? ⟨b, 7, none⟩ = some (.bool r.1) := hL6.c7
  have H6 := Lib.hid (And.intro hL6 (H5.out.2.trans hM6))
  clear hL6 hM6 hr
  by_cases hz : r.1 = true
  · rw [hz] at c7
    have HZ := Lib.hid hz
    clear hz
    go_wp2
    go_ret2
    rw [← HR.out]
    exact ⟨b, F6, by rw [HZ.out]; rfl, H6.out.1, H6.out.2⟩
  · have hz' : r.1 = false := by simpa using hz
    rw [hz'] at c7
    have HZ := Lib.hid hz'
    clear hz hz'
    go_wp2
    go_ret2
    rw [← HR.out]
    exact ⟨b, F6, by rw [HZ.out]; rfl, H6.out.1, H6.out.2⟩
set_option maxRecDepth 100000 in
set_option maxHeartbeats 4000000 in
/-- A new disk. -/
theorem open_fresh (w : World) (FD : Nat → Prop) (g ring size : Nat) (hs : Sec w FD g (Dk.fresh size)) (hr1 : 4 ≤ ring) (hr2 : ring ≤ 4096) (hs1 : ring + 2 ≤ size) (hs2 : size ≤ 65536) :
    Calls Tryd.prog 7 #[ptr g, .int .i64 ring] w fun e w' => ∃ b F', e = .returned (.tuple #[ptr b, .int .i64 0]) ∧ Log w' F' b g (Wl.begun size ring) ∧ Moved FD w F' w' := by
  have HS := Lib.hid hs
  have HN := Lib.hid (And.intro hr1 (And.intro hr2 (And.intro hs1 hs2)))
  have i1 : (4 : Int) ≤ ring := by omega
  have i2 : (ring : Int) ≤ 4096 := by omega
  have i3 : (ring : Int) + 2 ≤ size := by omega
  have i4 : (size : Int) ≤ 65536 := by omega
  have hlen : (Dk.fresh size).firm.length = size := by simp [Dk.fresh]
  have HHo := Lib.hid (show ((size : Int) - 1 - ring) = ((size - 1 - ring : Nat) : Int) by omega)
  clear hs hr1 hr2 hs1 hs2
  have hmm := @run_makeMap Tryd.prog
  go_enter Tryd.func7, Tryd.ntmps7
  unfold ptr
  go_wp2_with fail
  refine (size_any w FD g _ HS.out).mono ?_
  rintro e w1 ⟨rfl, rfl⟩
  rw [hlen]
  go_wp2_with fail
  refine (down_any w1 FD g _ HS.out).mono ?_
  rintro e w2 ⟨rfl, rfl⟩
  rw [show (Dk.fresh size).off = false from rfl]
  go_wp2_with fail
  refine (size_any w2 FD g _ HS.out).mono ?_
  rintro e w3 ⟨rfl, rfl⟩
  rw [hlen]
  go_wp2_with fail
  rw [HHo.out]
  have hmk := LogP.make (ring := ring) (homes := (size - 1 - ring)) HS.out
  obtain ⟨V, hV⟩ : ∃ V, V = ((w3.alloc (.map #[] 0)).alloc (.cells (lcells g w3.heap.size (bare ring (size - 1 - ring) (Dk.fresh size))).toArray 57)) := ⟨_, rfl⟩
  rw [← hV] at hmk
  change Calls Tryd.prog _ _ ((w3.alloc (.map #[] 0)).alloc (.cells (lcells g w3.heap.size (bare ring (size - 1 - ring) (Dk.fresh size))).toArray 57)) _
  rw [← hV]
  have HK := Lib.hid (show ∃ F, Log V F (w3.heap.size + 1) g (bare ring (size - 1 - ring) (Dk.fresh size)) ∧ Moved FD w3 F V from ⟨_, hmk.1.log, hmk.2⟩)
  clear hmk hV hmm
  obtain ⟨b, hb⟩ : ∃ b, b = w3.heap.size + 1 := ⟨_, rfl⟩
  rw [← hb] at HK ⊢
  clear hb
  obtain ⟨F, hL, hM⟩ := HK.out
  have HL := Lib.hid (And.intro hL hM)
  clear hL hM HK
  refine (begin_new V F b g ring size HL.out.1 HN.out.2.1 HN.out.2.2.2 (by have := HN.out.2.2.1; omega)).mono ?_
  rintro e w4 ⟨rfl, F4, hL4, hM4⟩
  have H4 := Lib.hid (And.intro hL4 (HL.out.2.trans hM4))
  clear hL4 hM4
  go_wp2_with fail
  refine (lflush_any w4 F4 b g _ H4.out.1).mono ?_
  rintro e w6 ⟨rfl, F6, hL6, hM6⟩
  change Log w6 F6 b g ((begot ring size).with (Wl.fl (Wl.wr (false, Dk.fresh size) (0, Wl.first size ring 0 1)))) at hL6
  rw [Wl.begun_with size ring (by have := HN.out.2.2.1; omega)] at hL6
  have c7 : w6.cell? ⟨b, 7, none⟩ = some (.bool false) := hL6.c7
  have H6 := Lib.hid (show Log w6 F6 b g (Wl.begun size ring) ∧ Moved FD w3 F6 w6 from ⟨hL6, H4.out.2.trans hM6⟩)
  clear hL6 hM6
  go_wp2
  go_ret2
  exact ⟨b, F6, rfl, H6.out⟩
end Go.Proofs.YthkblabpiajbhaaDoor
