/- The log's calls, told of logs that are up (Wl.Live): what the laws are walked by. -/
import Derived.Test.YthkblabpiajbhaaDoorOpen
namespace Go.Proofs.YthkblabpiajbhaaDoor
open Go.RowKit Lib

theorem Wl.checked_small (ring size a n : Nat) (W : Wl.Grp) (s : Bool × Dk.Disk) : (Wl.checked ring size a n W s).2.firm.length = s.2.firm.length ∧ (Wl.checked ring size a n W s).2.loose.length ≤ s.2.loose.length + W.length + 1 := by
  unfold Wl.checked
  refine ⟨by rw [Wl.fl_firm, Wl.wr_firm, Wl.fl_firm, Wl.wrs_firm], ?_⟩
  have h1 := Wl.fl_loose (Wl.wr (Wl.fl (Wl.wrs s (Wl.homeWrites ring W))) (0, Wl.first size ring a n))
  have h2 := Wl.wr_loose (Wl.fl (Wl.wrs s (Wl.homeWrites ring W))) (0, Wl.first size ring a n)
  have h3 := Wl.fl_loose (Wl.wrs s (Wl.homeWrites ring W))
  have h4 := Wl.wrs_loose (Wl.homeWrites ring W) s
  rw [Wl.homeWrites_length] at h4
  omega
theorem Bnd.check {s : Wl.Lg} (h : Bnd s) : Bnd s.check.2 ∧ s.check.2.d.loose.length ≤ s.d.loose.length + s.wait.length + 1 := by
  obtain ⟨a1, a2, a3, a4, a5, a6, a7, a8, a9⟩ := h
  obtain ⟨e1, e2⟩ := Wl.checked_small s.ring s.d.firm.length s.place s.num s.wait (s.down, s.d)
  unfold Wl.Lg.check
  split
  · exact ⟨⟨a1, a2, a3, a4, a5, a6, a7, a8, a9⟩, by show s.d.loose.length ≤ _; omega⟩
  · split
    · exact ⟨⟨a1, a2, a3, a4, a5, a6, a7, a8, a9⟩, by show s.d.loose.length ≤ _; omega⟩
    · split
      · exact ⟨⟨a1, a2, a3, a4, a5, a6, a7, a8, e1.trans a9⟩, e2⟩
      · exact ⟨⟨a1, a2, a3, a4, a5, Nat.zero_le _, Wl.fits_nil _, Nat.zero_le _, e1.trans a9⟩, e2⟩
theorem Up.of {s : Wl.Lg} (h : Bnd s) (hl : s.d.loose.length ≤ 900000) (ps : List (Int × Wl.Text)) : Up s (Wl.gather s.homes [] ps).2 := by
  have hc := h.check
  have hw := h.wl
  have hh := h.h
  refine ⟨h, by omega, ?_, ?_, ?_⟩
  · unfold Wl.Lg.ready
    split
    · exact hc.1
    · exact h
  · unfold Wl.Lg.ready
    split
    · have := hc.2; omega
    · omega
  · exact Nat.le_trans (Wl.fits_length (Wl.gather_fits s.homes ps [] (Wl.fits_nil _))) hh
theorem Wl.Live.loose0 {ring N : Nat} {s : Wl.Lg} {H : List Wl.Text} (h : Wl.Live ring N s H) : s.d.loose.length = 0 := by rw [h.firm]; rfl
/-- What a call leaves of a log that was up: up, or down and safe. -/
def Left (w w' : World) (F : Nat → Prop) (b g : Nat) (Q : Wl.Lg → Prop) : Prop := ∃ F' s', Log w' F' b g s' ∧ Moved F w F' w' ∧ Q s'
def CommitTo (ring N : Nat) (s : Wl.Lg) (H : List Wl.Text) (ps : List (Int × Wl.Text)) (e : Ending) (s' : Wl.Lg) : Prop :=
  (e = .returned (.int .i64 (Wl.comm ring H ps).1) ∧ Wl.Live ring (N + 1) s' (Wl.comm ring H ps).2 ∧ (s.d.fuel < 0 → s'.d.fuel < 0)) ∨
  (e = .returned (.int .i64 3) ∧ Wl.Dead ring (N + 1) s' (fun K => K = H ∨ K = (Wl.comm ring H ps).2) ∧ 0 ≤ s.d.fuel)
theorem commit_live (w : World) (F : Nat → Prop) (b g ring N : Nat) (s : Wl.Lg) (H : List Wl.Text) (va : Value) (ll : List (Value × List PutD)) (hl : Log w F b g s) (hv : Wl.Live ring N s H) (hN : N + 1 < 1000000) (ha : RdL w va ll) :
    Calls Tryd.prog 8 #[ptr b, va] w fun e w' => Left w w' F b g (CommitTo ring N s H (ptsL ll) e) := by
  refine (commit_any w F b g s va ll hl (fun _ => Up.of hv.bnd (by rw [hv.loose0]; omega) _) ha).mono ?_
  rintro e w' ⟨rfl, F', hL, hM⟩
  refine ⟨F', _, hL, hM, ?_⟩
  rcases hv.commit hN (ptsL ll) with ⟨h1, h2, h3⟩ | ⟨h1, h2, h3⟩
  · exact .inl ⟨by rw [h1], h2, h3⟩
  · exact .inr ⟨by rw [h1], h2, h3⟩
def CheckTo (ring N : Nat) (s : Wl.Lg) (H : List Wl.Text) (e : Ending) (s' : Wl.Lg) : Prop :=
  (e = .returned (.int .i64 0) ∧ Wl.Live ring N s' H ∧ (s.d.fuel < 0 → s'.d.fuel < 0)) ∨ (e = .returned (.int .i64 3) ∧ Wl.Dead ring N s' (· = H) ∧ 0 ≤ s.d.fuel)
theorem check_live (w : World) (F : Nat → Prop) (b g ring N : Nat) (s : Wl.Lg) (H : List Wl.Text) (hl : Log w F b g s) (hv : Wl.Live ring N s H) :
    Calls Tryd.prog 10 #[ptr b] w fun e w' => Left w w' F b g (CheckTo ring N s H e) := by
  refine (check_any w F b g s hl hv.bnd (by rw [hv.loose0]; omega)).mono ?_
  rintro e w' ⟨rfl, F', hL, hM⟩
  refine ⟨F', _, hL, hM, ?_⟩
  rcases hv.check with ⟨h1, h2, h3, _⟩ | ⟨h1, h2, h3, _⟩
  · exact .inl ⟨by rw [h1], h2, h3⟩
  · exact .inr ⟨by rw [h1], h2, h3⟩
/-- What the document answers to Read. -/
def homeOf (H : List Wl.Text) (i : Int) : Wl.Text × Int := if 0 ≤ i ∧ i < H.length then (H.getD i.toNat [], 0) else ([], 2)
theorem live_read {ring N : Nat} {s : Wl.Lg} {H : List Wl.Text} (h : Wl.Live ring N s H) (i : Int) : s.read i = homeOf H i := by
  obtain ⟨h1, h2, h3, h4, h5, h6, h7, h8, h9, h10, h11, h12, h13⟩ := h.read
  unfold Wl.Lg.read homeOf
  rw [h.off_eq, if_neg (by decide)]
  have e2 := h.homes_eq
  have e1 := h.ring_eq
  by_cases hi : 0 ≤ i ∧ i < H.length
  · have hh : s.has i = true := by simp [Wl.Lg.has, e2, hi.1, hi.2]
    rw [hh, if_neg (by decide), if_pos hi]
    obtain ⟨j, rfl⟩ : ∃ j : Nat, i = j := ⟨i.toNat, by omega⟩
    rw [Int.toNat_natCast]
    have hj : j < H.length := by omega
    have hx := h13 j hj
    rw [List.getElem?_eq_getElem hj] at hx
    rw [List.getD_eq_getElem?_getD, List.getElem?_eq_getElem hj, Option.getD_some]
    cases hl : Wl.look j s.wait with
    | some t =>
      rw [hl] at hx
      have hx' : H[j] = t := by simpa using hx
      rw [hx']
    | none =>
      rw [hl, Option.none_or] at hx
      show s.d.read ((1 + s.ring + j : Nat) : Int) = _
      rw [e1]
      exact Dk.read_at h.on hx.symm
  · have hh : s.has i = false := by
      cases hc : s.has i with
      | false => rfl
      | true =>
        exfalso
        have : 0 ≤ i ∧ i < s.homes := by simpa [Wl.Lg.has] using hc
        rw [e2] at this
        exact hi this
    rw [hh, if_neg hi]; rfl
theorem read_live (w : World) (F : Nat → Prop) (b g ring N : Nat) (s : Wl.Lg) (H : List Wl.Text) (i : Int) (hl : Log w F b g s) (hv : Wl.Live ring N s H) :
    Calls Tryd.prog 9 #[ptr b, .int .i64 i] w fun e w' => e = .returned (.tuple #[.string (bs (homeOf H i).1), .int .i64 (homeOf H i).2]) ∧ Below w.heap.size w w' := by
  refine (lread_any w F b g s i hl hv.bnd).mono ?_
  rintro e w' ⟨rfl, hb⟩
  rw [live_read hv i]
  exact ⟨rfl, hb⟩
/-- An opening of a disk on which a log stands. -/
def OpenedTo (ring N : Nat) (d : Dk.Disk) (H : List Wl.Text) (b : Nat) (e : Ending) (s' : Wl.Lg) : Prop :=
  (e = .returned (.tuple #[ptr b, .int .i64 0]) ∧ Wl.Live ring N s' H ∧ (d.fuel < 0 → s'.d.fuel < 0)) ∨ (e = .returned (.tuple #[.pointer none, .int .i64 3]) ∧ Wl.Dead ring N s' (· = H) ∧ 0 ≤ d.fuel)
theorem open_live (w : World) (FD : Nat → Prop) (g ring N : Nat) (d : Dk.Disk) (a n : Nat) (gs : List Wl.Grp) (H : List Wl.Text) (hs : Sec w FD g d) (hg : Wl.Good ring d.firm a n gs H) (ho : d.off = false) (hlo : d.loose = []) (hN : n + gs.length ≤ N) :
    Calls Tryd.prog 7 #[ptr g, .int .i64 ring] w fun e w' => ∃ b, Left w w' FD b g (OpenedTo ring N d H b e) := by
  refine (open_good w FD g ring d a n gs H hs hg ho hlo).mono ?_
  rintro e w' ⟨b, F', rfl, hL, hM⟩
  refine ⟨b, F', _, hL, hM, ?_⟩
  rcases Wl.open_step hg ho hlo with ⟨h1, h2, h3⟩ | ⟨h1, h2, h3⟩
  · exact .inl ⟨by rw [h1]; rfl, h2.mono hN, h3⟩
  · exact .inr ⟨by rw [h1]; rfl, h2.mono hN (fun _ e => e), h3⟩
/-- Behind a fall of a disk that is safe: with the fuel n or without a limit. -/
theorem open_fallen (w : World) (FD : Nat → Prop) (g ring N : Nat) (d0 d : Dk.Disk) (keep : List Bool) (S : List Wl.Text → Prop) (hs : Sec w FD g d) (hd : d.firm = (d0.fall keep).firm) (ho : d.off = false) (hlo : d.loose = []) (hS : Wl.Safe ring N d0 S) :
    Calls Tryd.prog 7 #[ptr g, .int .i64 ring] w fun e w' => ∃ b H, S H ∧ Left w w' FD b g (OpenedTo ring N d H b e) := by
  obtain ⟨a, n, gs, H, hg, hH, hN⟩ := hS keep
  refine (open_live w FD g ring N d a n gs H hs (by rw [hd]; exact hg) ho hlo hN).mono ?_
  rintro e w' ⟨b, h⟩
  exact ⟨b, H, hH, h⟩
theorem open_begun (w : World) (FD : Nat → Prop) (g ring size : Nat) (hs : Sec w FD g (Dk.fresh size)) (hr1 : 4 ≤ ring) (hr2 : ring ≤ 4096) (hs1 : ring + 2 ≤ size) (hs2 : size ≤ 65536) :
    Calls Tryd.prog 7 #[ptr g, .int .i64 ring] w fun e w' => ∃ b, e = .returned (.tuple #[ptr b, .int .i64 0]) ∧ Left w w' FD b g (fun s' => Wl.Live ring 1 s' (Wl.noughts (size - 1 - ring)) ∧ s'.d.fuel < 0) := by
  refine (open_fresh w FD g ring size hs hr1 hr2 hs1 hs2).mono ?_
  rintro e w' ⟨b, F', rfl, hL, hM⟩
  exact ⟨b, rfl, F', _, hL, hM, Wl.begun_live size ring hr1 hr2 hs1 hs2, by show (-1 : Int) < 0; decide⟩
/-- The disk beneath a log. -/
theorem Log.sec {w : World} {F : Nat → Prop} {b g : Nat} {s : Wl.Lg} (h : Log w F b g s) : ∃ FD, Sec w FD g s.d ∧ ∀ k, FD k → F k := by
  obtain ⟨_, FD, h⟩ := h
  exact ⟨FD, h.sec, h.fd⟩
end Go.Proofs.YthkblabpiajbhaaDoor
