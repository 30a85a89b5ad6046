/- Walk of Read. -/
import Derived.Test.YthkblabpiajbhaaDoorRecord
namespace Go.Proofs.YthkblabpiajbhaaDoor
open Go.RowKit Lib

def Wl.Lg.read (s : Wl.Lg) (i : Int) : Wl.Text × Int :=
  if s.off then ([], 3) else if !s.has i then ([], 2) else match Wl.look i.toNat s.wait with | some t => (t, 0) | none => s.d.read ((1 + s.ring + i.toNat : Nat) : Int)
theorem below_allocC {w w' : World} {Z : Array Value} (h : But (fun k => k = w.heap.size) (w.alloc (.cells Z CT)) w') : Below w.heap.size w w' :=
  Below.but ((Below.refl _ w).alloc (Nat.le_refl _) _) h (by simp) (fun k hk e => by omega)
set_option maxRecDepth 100000 in
set_option maxHeartbeats 4000000 in
theorem lread_any (w : World) (F : Nat → Prop) (b g : Nat) (s : Wl.Lg) (i : Int) (hl : Log w F b g s) (hb : Bnd s) :
    Calls Tryd.prog 9 #[ptr b, .int .i64 i] w fun e w' => e = .returned (.tuple #[.string (bs (s.read i).1), .int .i64 (s.read i).2]) ∧ Below w.heap.size w w' := by
  have HL := Lib.hid hl
  have HB := Lib.hid hb
  obtain ⟨mb, FD, h⟩ := hl
  have c0 := h.c0
  have c6 := h.c6
  have HH := Lib.hid h
  clear h hb
  obtain ⟨Z, hZ⟩ : ∃ Z, Z = (zeros.map bcell).toArray := ⟨_, rfl⟩
  have hz : ∀ w, (zeroValue CT).run Tryd.prog w = .ok (.agg Z) w := fun w => by rw [hZ]; exact zero_CT w
  have hzs : Z.size = 512 := by rw [hZ]; simp [zeros_len]
  have hzn : ¬ Z = #[] := by intro e; rw [e] at hzs; cases hzs
  have HZ := Lib.hid hZ
  clear hZ
  have HS := Lib.hid (show s.read i = if s.off then ([], 3) else if !s.has i then ([], 2) else match Wl.look i.toNat s.wait with | some t => (t, 0) | none => s.d.read ((1 + s.ring + i.toNat : Nat) : Int) from rfl)
  go_enter Tryd.func9, Tryd.ntmps9
  unfold ptr
  go_wp2_with fail
  refine (ldown_any w F b g s HL.out).mono ?_
  rintro e w1 ⟨rfl, rfl⟩
  by_cases ho : s.off = true
  · rw [ho]
    have HE := Lib.hid (show s.read i = ([], 3) by rw [HS.out, if_pos ho])
    clear ho HS
    go_wp2
    go_ret2
    exact ⟨by rw [HE.out]; rfl, Below.refl _ _⟩
  · have ho' : s.off = false := by simpa using ho
    have HS := Lib.hid (show s.read i = if !s.has i then ([], 2) else match Wl.look i.toNat s.wait with | some t => (t, 0) | none => s.d.read ((1 + s.ring + i.toNat : Nat) : Int) by rw [HS.out, if_neg ho])
    rw [ho']
    clear ho ho'
    go_wp2_with fail
    refine (lhas_any w1 F b g s i HL.out).mono ?_
    rintro e w1 ⟨rfl, rfl⟩
    by_cases hh : s.has i = true
    · rw [hh]
      have HS := Lib.hid (show s.read i = match Wl.look i.toNat s.wait with | some t => (t, 0) | none => s.d.read ((1 + s.ring + i.toNat : Nat) : Int) by rw [HS.out, if_neg (by rw [hh]; decide)])
      have hat : 0 ≤ i ∧ i < s.homes := by simpa [Wl.Lg.has] using hh
      obtain ⟨n, rfl⟩ : ∃ n : Nat, i = n := ⟨i.toNat, by omega⟩
      rw [Int.toNat_natCast] at HS
      have hn6 : n ≤ 1000000 := by have := HB.out.h; omega
      have HN6 := Lib.hid hn6
      obtain ⟨r, hr⟩ : ∃ r, w1.heap.size = r := ⟨_, rfl⟩
      clear hh hat
      cases hlk : Wl.look n s.wait with
      | some t =>
        obtain ⟨hat, ht⟩ := CMap.look_some HH.out.mp hn6 hlk
        have HE := Lib.hid (show s.read (n : Int) = (t, 0) by rw [HS.out, hlk])
        have HHt := Lib.hid ht
        clear HS hlk ht hn6
        go_wp2_with (first
          | (refine wpList_storeC rfl _ _ rfl r t zeros rfl rfl HHt.out (by rw [← hr]; exact CBlk.new w1 Z HZ.out) ?_; intro w5 hc5 hb5; have hxs := slice_CT w5 r; have hbk := hc5.back; have H5 := Lib.hid hb5; clear hb5 hc5)
          | fail)
        go_ret2
        exact ⟨by rw [HE.out]; rfl, below_allocC (by rw [hr]; exact H5.out)⟩
      | none =>
        have hat := CMap.look_none HH.out.mp hn6 hlk
        have HE := Lib.hid (show s.read (n : Int) = s.d.read ((1 + s.ring + n : Nat) : Int) by rw [HS.out, hlk])
        clear HS hlk hn6
        go_wp2_with (first
          | (refine wpList_storeC rfl _ _ rfl r zeros zeros rfl rfl zeros_len (by rw [← hr]; exact CBlk.new w1 Z HZ.out) ?_; intro w5 hc5 hb5; have H5 := Lib.hid (below_allocC (show But (fun k => k = w1.heap.size) (w1.alloc (.cells Z CT)) w5 by rw [hr]; exact hb5)); clear hb5 hc5)
          | fail)
        have HL5 := Lib.hid (HL.out.below H5.out)
        have HP5 := Lib.hid (HH.out.below H5.out)
        have c0 := HP5.out.c0
        go_quiet (first
          | (go_at_call 27; exact Calls.quiet_of_same (sectorOf_any _ F b g s n (by first | exact HL5.out | exact HL5.out.but ((But.refl (fun _ => False) w5).drewN _) (fun _ _ h => h)) HB.out.r2 HN6.out))
          | (go_at_call 26; exact Calls.quiet_of_same (read_any _ FD g s.d _ (by first | exact HP5.out.sec | exact HP5.out.sec.but ((But.refl (fun _ => False) w5).drewN _) (fun _ _ h => h)))))
        have HE2 := Lib.hid (show s.read (n : Int) = s.d.read (1 + (s.ring : Int) + n) by rw [HE.out, show ((1 + s.ring + n : Nat) : Int) = 1 + (s.ring : Int) + n by omega])
        rw [← HE2.out]
        go_wp2
        go_ret2
        exact ⟨rfl, H5.out.trans ((below_drawn w5 _).mono H5.out.size)⟩
    · have hh' : s.has i = false := by simpa using hh
      have HE := Lib.hid (show s.read i = ([], 2) by rw [HS.out, hh']; rfl)
      rw [hh']
      clear hh hh' HS
      go_wp2
      go_ret2
      exact ⟨by rw [HE.out]; rfl, Below.refl _ _⟩
end Go.Proofs.YthkblabpiajbhaaDoor
