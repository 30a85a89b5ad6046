/- Walk of Checkpoint. -/
import Derived.Test.YthkblabpiajbhaaDoorLRead
namespace Go.Proofs.YthkblabpiajbhaaDoor
open Go.RowKit Lib

theorem OwnK.at {B : Nat} {w : World} {a : Option Addr} {n cap : Nat} {T : List Int} (h : Own (intElem .i64) 3 B w (.slice a n cap) T) (k : Nat) (hk : k < T.length) :
    ∃ ga, a = some ⟨ga, 0, none⟩ ∧ B ≤ ga ∧ ga < w.heap.size ∧ w.cell? ⟨ga, k, none⟩ = some (.int .i64 T[k]) := by
  obtain ⟨ga, c', e1, e2, e3, _⟩ := Own.form h (by omega)
  injection e1 with i1 i2 i3
  subst i1
  refine ⟨ga, rfl, e2, e3, ?_⟩
  have := Own.lies h k (.int .i64 T[k]) (by rw [show (intElem .i64).cells T = T.map (fun s => Value.int .i64 s) from oneElem_cells _ _ _]; simp [hk])
  rwa [Nat.zero_add] at this
theorem Wl.wr_firm (s : Bool × Dk.Disk) (x : Nat × Wl.Text) : (Wl.wr s x).2.firm.length = s.2.firm.length := by
  unfold Wl.wr
  split
  · rfl
  · show (s.2.write x.1 x.2).2.firm.length = _
    unfold Dk.Disk.write
    repeat' split
    all_goals rfl
theorem Wl.wrs_firm (ws : List (Nat × Wl.Text)) (s : Bool × Dk.Disk) : (Wl.wrs s ws).2.firm.length = s.2.firm.length := by
  induction ws generalizing s with
  | nil => rfl
  | cons x ws ih => exact (ih (Wl.wr s x)).trans (Wl.wr_firm s x)
theorem Wl.fl_firm (s : Bool × Dk.Disk) : (Wl.fl s).2.firm.length = s.2.firm.length := by
  unfold Wl.fl
  split
  · rfl
  · show s.2.flush.2.firm.length = _
    unfold Dk.Disk.flush
    repeat' split
    · rfl
    · rfl
    · exact Dk.puts_length _ _
theorem Wl.homeWrites_length (ring : Nat) (m : Wl.Grp) : (Wl.homeWrites ring m).length = m.length := by simp [Wl.homeWrites]
theorem Wl.homeWrites_get (ring : Nat) (m : Wl.Grp) (k : Nat) (hk : k < m.length) : (Wl.homeWrites ring m)[k]'(by rw [Wl.homeWrites_length]; exact hk) = (1 + ring + m[k].1, m[k].2) := by simp [Wl.homeWrites]
theorem Log.map {w : World} {F : Nat → Prop} {b g : Nat} {s : Wl.Lg} (h : Log w F b g s) : ∃ mb, w.cell? ⟨b, 6, none⟩ = some (.map (some mb)) ∧ CMap w mb s.wait ∧ F mb := by
  obtain ⟨mb, FD, h⟩ := h
  exact ⟨mb, h.c6, h.mp, h.fm⟩
/-- filled = 0, and a new map. -/
theorem LogP.renew {w : World} {F FD : Nat → Prop} {b g mb : Nat} {s : Wl.Lg} (h : LogP w F b g mb FD s) :
    LogP (((w.setCell ⟨b, 5, none⟩ (.int .i64 0)).setCell ⟨b, 6, none⟩ (.map (some w.heap.size))).alloc (.map #[] 0)) (both F (fun k => k = w.heap.size)) b g w.heap.size FD { s with filled := 0, wait := [] } ∧
    Moved F w (both F (fun k => k = w.heap.size)) (((w.setCell ⟨b, 5, none⟩ (.int .i64 0)).setCell ⟨b, 6, none⟩ (.map (some w.heap.size))).alloc (.map #[] 0)) := by
  have hbl := h.lt b h.fb
  obtain ⟨V, hV⟩ : ∃ V, V = (w.setCell ⟨b, 5, none⟩ (.int .i64 0)).setCell ⟨b, 6, none⟩ (.map (some w.heap.size)) := ⟨_, rfl⟩
  have hsb : But (fun k => k = b) w V := by rw [hV]; exact ((But.refl (fun k => k = b) w).setCell ⟨b, 5, none⟩ _ (fun _ => rfl)).setCell ⟨b, 6, none⟩ _ (fun _ => rfl)
  have hblk : Blk V b 57 (lcells g w.heap.size { s with filled := 0, wait := [] }) := by rw [hV]; exact (h.blk.set 5 _).set 6 _
  have hVs : V.heap.size = w.heap.size := by rw [hV]; simp [World.setCell]
  rw [← hV]
  have hall : But (fun k => k = b) w (V.alloc (.map #[] 0)) := hsb.alloc _
  refine ⟨⟨hblk.alloc _, ?_, ?_, h.nb, ?_, .inl h.fb, .inr rfl, fun k hk => .inl (h.fd k hk), ?_⟩, hall.mono (fun _ _ e => e ▸ h.fb), fun k hk => ?_⟩
  · have := IMap.made Tryd.prog KInt contentE V
    rw [hVs] at this
    exact this
  · exact h.sec.but hall (fun k hk e => h.nb (e ▸ hk))
  · intro hk
    have := h.lt _ (h.fd _ hk); omega
  · intro k hk
    rcases hk with hk | hk
    · exact Nat.lt_of_lt_of_le (h.lt k hk) hall.size
    · rw [hk]; simp [hVs]
  · rcases hk with hk | hk
    · exact .inl hk
    · exact .inr (by omega)
set_option maxRecDepth 100000 in
set_option maxHeartbeats 4000000 in
theorem check_any (w : World) (F : Nat → Prop) (b g : Nat) (s : Wl.Lg) (hl : Log w F b g s) (hb : Bnd s) (hlo : s.d.loose.length ≤ 1000000) :
    Calls Tryd.prog 10 #[ptr b] w fun e w' => e = .returned (.int .i64 s.check.1) ∧ ∃ F', Log w' F' b g s.check.2 ∧ Moved F w F' w' := by
  have HL := Lib.hid hl
  have HB := Lib.hid (And.intro hb hlo)
  have c5 := hl.c5
  obtain ⟨mb, c6, hm, hfm⟩ := hl.map
  have HM := Lib.hid (And.intro hm hfm)
  have hl1 := HL.out.lt
  clear hl hb hlo hm hfm
  obtain ⟨Z, hZ⟩ : ∃ Z, Z = (zeros.map bcell).toArray := ⟨_, rfl⟩
  have hz : ∀ w, (zeroValue CT).run Tryd.prog w = .ok (.agg Z) w := fun w => by rw [hZ]; exact zero_CT w
  have hzs : Z.size = 512 := by rw [hZ]; simp [zeros_len]
  have hzn : ¬ Z = #[] := by intro e; rw [e] at hzs; cases hzs
  have HZ := Lib.hid hZ
  clear hZ
  have HS := Lib.hid (show s.check = if s.off then (3, s) else if s.filled = 0 then (0, s) else
    if (Wl.checked s.ring s.d.firm.length s.place s.num s.wait (s.down, s.d)).1 then (3, s.with (Wl.checked s.ring s.d.firm.length s.place s.num s.wait (s.down, s.d)))
    else (0, { s.with (Wl.checked s.ring s.d.firm.length s.place s.num s.wait (s.down, s.d)) with filled := 0, wait := [] }) from rfl)
  go_enter Tryd.func10, Tryd.ntmps10
  unfold ptr
  go_wp2_with fail
  refine (ldown_any w F b g s HL.out).mono ?_
  rintro e w1 ⟨rfl, rfl⟩
  by_cases ho : s.off = true
  · rw [ho]
    have HE := Lib.hid (show s.check = (3, s) by rw [HS.out, if_pos ho])
    clear ho HS
    go_wp2
    go_ret
    rw [HE.out]
    exact ⟨rfl, F, HL.out, Moved.refl _ _⟩
  · have ho' : s.off = false := by simpa using ho
    have HS := Lib.hid (HS.out.trans (if_neg ho))
    rw [ho']
    clear ho ho'
    by_cases hf : s.filled = 0
    · have HE := Lib.hid (HS.out.trans (if_pos hf))
      rw [hf] at c5
      clear hf HS
      go_wp2
      go_ret
      rw [HE.out]
      exact ⟨rfl, F, HL.out, Moved.refl _ _⟩
    · have HS := Lib.hid (HS.out.trans (if_neg hf))
      have hf2 : ¬ ((s.filled : Int) = 0) := by omega
      clear hf
      go_wp2_with fail
      refine (keys_any (some mb) w1).mono ?_
      rintro e w2 ⟨rfl, hw2⟩
      have hb2 : Below w1.heap.size w1 w2 := by rw [hw2]; exact (Below.refl _ _).alloc (Nat.le_refl _) _
      have H2 := Lib.hid (show CMap w2 mb s.wait ∧ w2.cell? ⟨w1.heap.size, 0, none⟩ = some (.map (some mb)) ∧ Below w1.heap.size w1 w2 by
        refine ⟨HM.out.1.but (But.of_below hb2 (fun _ => False)) id, ?_, hb2⟩
        rw [hw2]; exact (Blk.new w1 #[.map (some mb)] 52).cell rfl)
      clear hw2 hb2
      go_wp2_with fail
      refine (sorted_any mb w1.heap.size s.wait w2 H2.out.1 (by have := HB.out.1.wl; omega) H2.out.2.1).mono ?_
      rintro e w3 ⟨kv, rfl, hkv, hb3⟩
      obtain ⟨ka, kcap, rfl, hkc⟩ := hkv.slice
      have hr := fun k hk => OwnK.at hkv k hk
      rw [List.length_map] at hkv hkc ⊢
      have HR := Lib.hid hr
      have hb3' : Below w1.heap.size w1 w3 := H2.out.2.2.trans ⟨hb3.os, hb3.tape, hb3.output, hb3.size, fun k hk => hb3.block k (Nat.lt_of_lt_of_le hk H2.out.2.2.size)⟩
      have HW := Lib.hid (show Below w1.heap.size w1 w3 ∧ w1.heap.size ≤ w2.heap.size from ⟨hb3', H2.out.2.2.size⟩)
      have H3 := Lib.hid (HL.out.below hb3')
      clear hkv hkc hr hb3 hb3' c5 c6
      go_wp2_with fail
      go_loopw [20] (fun i wr => ∃ k : Nat, k ≤ s.wait.length ∧ i = .int .i64 k ∧ Hid (∃ F', Log wr F' b g (s.with (Wl.wrs (s.down, s.d) ((Wl.homeWrites s.ring s.wait).take k))) ∧ Moved F w3 F' wr)) (fun i _ => s.wait.length - (Go.RowKit.intOf i).toNat)
      case atStart => exact ⟨0, Nat.zero_le _, rfl, Lib.hid ⟨F, H3.out, Moved.refl _ _⟩⟩
      case round =>
        obtain ⟨k, hk, rfl, hS⟩ := hrel
        by_cases hlt : k < s.wait.length
        · have hI : (k : Int) < s.wait.length := by omega
          obtain ⟨ga, rfl, hga, hga2, hc⟩ := HR.out k (by rw [List.length_map]; exact hlt)
          rw [List.getElem_map] at hc
          obtain ⟨F', hL, hMv⟩ := hS.out
          have hgF : ¬ F ga := fun h => by have := hl1 ga h; have := HW.out.2; omega
          have hc2 := hMv.1.cell hc hgF
          obtain ⟨mq, c6, hmq, hfq⟩ := hL.map
          change CMap wr mq s.wait at hmq
          have hin := HB.out.1.w.2 s.wait[k] (List.getElem_mem hlt)
          have hlk := look_rising HB.out.1.w.1 k hlt
          have HX := Lib.hid (show ∀ h, (Wl.homeWrites s.ring s.wait)[k]'h = (1 + s.ring + s.wait[k].1, s.wait[k].2) from fun _ => Wl.homeWrites_get s.ring s.wait k hlt)
          have HLk := Lib.hid (And.intro hlt (And.intro hL hMv))
          generalize s.wait[k] = x at *
          obtain ⟨i, t⟩ := x
          simp only at hin hlk hc2 HX
          have hi6 : (i : Int) ≤ 65536 := by have := HB.out.1.h; omega
          have hi0 : (0 : Int) ≤ i := by omega
          obtain ⟨hat, _⟩ := CMap.at hmq (k := i) (by omega) hlk
          have HHt := Lib.hid hin.2
          obtain ⟨r, hr⟩ : ∃ r, wr.heap.size = r := ⟨_, rfl⟩
          have HRr := Lib.hid hr
          clear hS hL hMv hc hga hga2 hgF hin hlk hk hlt hmq hfq
          go_wp2_with (first
            | (refine wpList_storeC rfl _ _ rfl r t zeros rfl rfl HHt.out (by rw [← hr]; exact CBlk.new wr Z HZ.out) ?_; intro w5 hc5 hb5; have H5 := Lib.hid (And.intro hc5 hb5); clear hc5 hb5)
            | fail)
          have hd5 : But (fun _ => False) w5 w5.drew := (But.refl _ w5).drew
          have hb5 : But (fun _ => False) wr w5 := ((But.refl (fun _ => False) wr).alloc _).trans H5.out.2 (fun q hq e => by have := HRr.out; omega)
          have HL5 := Lib.hid (show Log w5.drew F' b g (s.with (Wl.wrs (s.down, s.d) ((Wl.homeWrites s.ring s.wait).take k))) ∧ Moved F w3 F' w5.drew ∧ CBlk w5.drew r t from
            ⟨(HLk.out.2.1.but hb5 (fun _ _ h => h)).but hd5 (fun _ _ h => h), HLk.out.2.2.trans ⟨(hb5.mono (fun _ _ h => h.elim)).trans (hd5.mono (T := fun _ => False) (fun _ _ h => h)) (fun _ _ h => h.elim), fun _ h => .inl h⟩, H5.out.1.but hd5 id⟩)
          have hbk : (convert 22 9 (.slice (some ⟨r, 0, none⟩) 512 512)).run Tryd.prog w5.drew = .ok (.string (bs t)) w5.drew := HL5.out.2.2.back
          have hxs := fun w => slice_CT w r
          have hloo : (s.with (Wl.wrs (s.down, s.d) ((Wl.homeWrites s.ring s.wait).take k))).d.loose.length ≤ 900000000 := by
            have h1 := Wl.wrs_loose ((Wl.homeWrites s.ring s.wait).take k) (s.down, s.d)
            rw [List.length_take, Wl.homeWrites_length] at h1
            show (Wl.wrs (s.down, s.d) ((Wl.homeWrites s.ring s.wait).take k)).2.loose.length ≤ _
            have h2 := HB.out.2
            have h3 := HB.out.1.wl
            have h4 : (s.down, s.d).2.loose.length = s.d.loose.length := rfl
            omega
          have HLO := Lib.hid hloo
          have hrF : ¬ F' r := fun h => by have := HLk.out.2.1.lt r h; have := HRr.out; omega
          have HrF := Lib.hid hrF
          clear hd5 hb5 H5 hloo hrF hr hat c6 hc2
          go_region_held3 (fun w' => (convert 22 9 (.slice (some ⟨r, 0, none⟩) 512 512)).run Tryd.prog w' = .ok (.string (bs t)) w')
            (first
              | (exact hbk)
              | (exact hbk6)
              | go_keep)
            (first
              | (go_at_call 27; refine (sectorOf_any _ F' b g _ i HL5.out.1 HB.out.1.r2 (by omega)).mono ?_; rintro e w4 ⟨rfl, rfl⟩)
              | (go_at_call 30; refine (lwrite_any _ F' b g _ _ _ HL5.out.1 HLO.out).mono ?_; rintro e w6 ⟨rfl, F6, hL6, hM6⟩; have hbk6 : (convert 22 9 (.slice (some ⟨r, 0, none⟩) 512 512)).run Tryd.prog w6 = .ok (.string (bs t)) w6 := (HL5.out.2.2.but hM6.1 HrF.out).back; have HL6 := Lib.hid (And.intro hL6 (HL5.out.2.1.trans hM6)); clear hL6 hM6))
          clear hbk hbk6 hxs
          have hkI : (k : Int) ≤ 65536 := by have := HB.out.1.wl; have := HLk.out.1; omega
          have hkn : (0 : Int) ≤ k := by omega
          go_wp2
          go_roundw
          case rel =>
            refine ⟨k + 1, HLk.out.1, by go_num, Lib.hid ⟨F6, ?_, HL6.out.2⟩⟩
            rw [Wl.wrs_take _ _ k (by rw [Wl.homeWrites_length]; exact HLk.out.1), HX.out]
            exact HL6.out.1
          case measure => have := HLk.out.1; simp [Go.RowKit.intOf]; omega
        · obtain rfl : k = s.wait.length := by omega
          rw [List.take_of_length_le (by rw [Wl.homeWrites_length]; exact Nat.le_refl _)] at hS
          obtain ⟨F', hL, hMv⟩ := hS.out
          have HL2 := Lib.hid (And.intro hL hMv)
          clear hS hL hMv hz hzs hzn
          go_wp2_with fail
          refine (lflush_any wr F' b g _ HL2.out.1).mono ?_
          rintro e w7 ⟨rfl, F7, hL7, hM7⟩
          have hrl : (Wl.fl (Wl.wrs (s.down, s.d) (Wl.homeWrites s.ring s.wait))).2.loose.length ≤ 2000000 ∧ (Wl.fl (Wl.wrs (s.down, s.d) (Wl.homeWrites s.ring s.wait))).2.firm.length = s.d.firm.length := by
            refine ⟨Nat.le_trans (Wl.fl_loose _) (Nat.le_trans (Wl.wrs_loose _ _) ?_), (Wl.fl_firm _).trans (Wl.wrs_firm _ _)⟩
            rw [Wl.homeWrites_length]
            have h1 := HB.out.2
            have h3 := HB.out.1.wl
            show s.d.loose.length + s.wait.length ≤ _
            omega
          obtain ⟨q, hq⟩ : ∃ q, q = Wl.fl (Wl.wrs (s.down, s.d) (Wl.homeWrites s.ring s.wait)) := ⟨_, rfl⟩
          change Log w7 F7 b g (s.with (Wl.fl (Wl.wrs (s.down, s.d) (Wl.homeWrites s.ring s.wait)))) at hL7
          rw [← hq] at hL7 hrl
          have hd7 : But (fun _ => False) w7 w7.drew := (But.refl _ w7).drew
          obtain ⟨mq, FD, hp7⟩ := hL7.but hd7 (fun _ _ h => h)
          have HL7 := Lib.hid (show LogP w7.drew F7 b g mq FD (s.with q) ∧ Moved F w3 F7 w7.drew from ⟨hp7, (HL2.out.2.trans hM7).trans ⟨hd7.mono (fun _ _ h => h.elim), fun _ h => .inl h⟩⟩)
          have HQ := Lib.hid (And.intro hrl hq)
          have c0 : w7.drew.cell? ⟨b, 0, none⟩ = some (.pointer (some ⟨g, 0, none⟩)) := hp7.c0
          have c1 : w7.drew.cell? ⟨b, 1, none⟩ = some (.int .i64 s.ring) := hp7.c1
          have c3 : w7.drew.cell? ⟨b, 3, none⟩ = some (.int .i64 s.place) := hp7.c3
          have c4 : w7.drew.cell? ⟨b, 4, none⟩ = some (.int .u64 s.num) := hp7.c4
          clear hL7 hM7 hrl hq hd7 hp7
          go_wp2_with fail
          go_region_held3 (fun w' => w'.cell? ⟨b, 0, none⟩ = some (.pointer (some ⟨g, 0, none⟩)) ∧ w'.cell? ⟨b, 1, none⟩ = some (.int .i64 s.ring) ∧ w'.cell? ⟨b, 3, none⟩ = some (.int .i64 s.place) ∧ w'.cell? ⟨b, 4, none⟩ = some (.int .u64 s.num))
            (first
              | (exact ⟨c0, c1, c3, c4⟩)
              | (exact ⟨d0, d1, d3, d4⟩)
              | go_keep)
            (first
              | (go_at_call 15; refine (size_any _ FD g _ HL7.out.1.sec).mono ?_; rintro e w4 ⟨rfl, rfl⟩)
              | (go_at_call 31; refine (firstText_any _ s.ring s.place s.num _ (by have := HQ.out.1.2; have := HB.out.1.len; have := HB.out.1.r2; have := HB.out.1.h; exact (by omega : q.2.firm.length ≤ 1000000)) (by have := HB.out.1.r2; omega) (by have := HB.out.1.r2; have := HB.out.1.p; omega) (by have := HB.out.1.n; omega)).mono ?_; rintro e w8 ⟨rfl, hb8⟩; have HL8 := Lib.hid (show LogP w8 F7 b g mq FD (s.with q) ∧ Moved F w3 F7 w8 from ⟨HL7.out.1.below hb8, HL7.out.2.trans ⟨But.of_below hb8 _, fun _ h => .inl h⟩⟩); have d0 : w8.cell? ⟨b, 0, none⟩ = some (.pointer (some ⟨g, 0, none⟩)) := HL8.out.1.c0; have d1 : w8.cell? ⟨b, 1, none⟩ = some (.int .i64 s.ring) := HL8.out.1.c1; have d3 : w8.cell? ⟨b, 3, none⟩ = some (.int .i64 s.place) := HL8.out.1.c3; have d4 : w8.cell? ⟨b, 4, none⟩ = some (.int .u64 s.num) := HL8.out.1.c4; clear hb8)
              | (go_at_call 30; refine (lwrite_any _ F7 b g (s.with q) 0 _ HL8.out.1.log (by have := HQ.out.1.1; exact (by omega : q.2.loose.length ≤ 900000000))).mono ?_; rintro e w9 ⟨rfl, F9, hL9, hM9⟩; have HL9 := Lib.hid (show Log w9 F9 b g (s.with (Wl.wr q (0, Wl.first q.2.firm.length s.ring s.place s.num))) ∧ Moved F w3 F9 w9 from ⟨hL9, HL8.out.2.trans hM9⟩); obtain ⟨_, _, hp9⟩ := hL9; have d0 : w9.cell? ⟨b, 0, none⟩ = some (.pointer (some ⟨g, 0, none⟩)) := hp9.c0; have d1 : w9.cell? ⟨b, 1, none⟩ = some (.int .i64 s.ring) := hp9.c1; have d3 : w9.cell? ⟨b, 3, none⟩ = some (.int .i64 s.place) := hp9.c3; have d4 : w9.cell? ⟨b, 4, none⟩ = some (.int .u64 s.num) := hp9.c4; clear hp9 hM9))
          clear d0 d1 d3 d4 c0 c1 c3 c4
          go_wp2_with fail
          refine (lflush_any _ F9 b g _ HL9.out.1).mono ?_
          rintro e w10 ⟨rfl, F10, hL10, hM10⟩
          have hck : Wl.fl (Wl.wr q (0, Wl.first q.2.firm.length s.ring s.place s.num)) = Wl.checked s.ring s.d.firm.length s.place s.num s.wait (s.down, s.d) := by
            rw [HQ.out.1.2, HQ.out.2]; rfl
          change Log w10 F10 b g (s.with (Wl.fl (Wl.wr q (0, Wl.first q.2.firm.length s.ring s.place s.num)))) at hL10
          rw [hck] at hL10
          obtain ⟨z, hz⟩ : ∃ z, z = Wl.checked s.ring s.d.firm.length s.place s.num s.wait (s.down, s.d) := ⟨_, rfl⟩
          rw [← hz] at hL10
          have HS := Lib.hid (show s.check = if z.1 then (3, s.with z) else (0, { s.with z with filled := 0, wait := [] }) by rw [hz]; exact HS.out)
          obtain ⟨m10, FD10, hp10⟩ := hL10
          have k7 : w10.cell? ⟨b, 7, none⟩ = some (.bool z.1) := hp10.c7
          have f4 := hp10.blk.frozen 5
          have f5 := hp10.blk.frozen 6
          have k5 := hp10.c5
          have k6 := hp10.c6
          have hbl : b < w10.heap.size := hp10.blk.lt
          have H10 := Lib.hid (show LogP w10 F10 b g m10 FD10 (s.with z) ∧ Moved F w1 F10 w10 from ⟨hp10, (show Moved F w1 F w3 from ⟨But.of_below HW.out.1 _, fun _ h => .inl h⟩).trans (HL9.out.2.trans hM10)⟩)
          clear hM10 hck hz hp10
          by_cases hzd : z.1 = true
          · rw [hzd] at k7
            have HE := Lib.hid (HS.out.trans (if_pos hzd))
            clear hzd k5 k6 f4 f5 hbl
            go_wp2
            go_ret
            rw [HE.out]
            exact ⟨rfl, F10, H10.out.1.log, H10.out.2⟩
          · have hzd' : z.1 = false := by simpa using hzd
            rw [hzd'] at k7
            have HE := Lib.hid (HS.out.trans (if_neg hzd))
            have hmm := @run_makeMap Tryd.prog
            clear hzd hzd'
            go_wp2
            go_ret
            rw [HE.out]
            have hrn := H10.out.1.renew
            exact ⟨rfl, _, hrn.1.log, H10.out.2.trans hrn.2⟩
end Go.Proofs.YthkblabpiajbhaaDoor
