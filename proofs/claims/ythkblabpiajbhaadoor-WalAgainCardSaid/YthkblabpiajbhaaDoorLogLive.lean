/- A log's state, and what Commit, Checkpoint and an opening make of it (no function of the program is named here). -/
import Derived.Test.YthkblabpiajbhaaDoorLogSafe
namespace Go.Proofs.YthkblabpiajbhaaDoor
namespace Wl
open Dk (puts kept full Disk)

structure Lg where
  ring : Nat
  homes : Nat
  place : Nat
  num : Nat
  filled : Nat
  wait : Grp
  down : Bool
  d : Disk
def Lg.off (s : Lg) : Bool := s.down || s.d.off
def Lg.with (s : Lg) (r : Bool × Disk) : Lg := { s with down := r.1, d := r.2 }
def Lg.check (s : Lg) : Int × Lg :=
  if s.off then (3, s) else if s.filled = 0 then (0, s) else
  if (checked s.ring s.d.firm.length s.place s.num s.wait (s.down, s.d)).1 then (3, s.with (checked s.ring s.d.firm.length s.place s.num s.wait (s.down, s.d)))
  else (0, { s.with (checked s.ring s.d.firm.length s.place s.num s.wait (s.down, s.d)) with filled := 0, wait := [] })
def Lg.record (s : Lg) (g : Grp) : Lg := s.with (recorded s.ring s.place s.num g (s.down, s.d))
def Lg.take (s : Lg) (g : Grp) : Lg := { s with wait := merge s.wait g, filled := s.filled + sizeOf g.length, place := (s.place + sizeOf g.length) % s.ring, num := s.num + 1 }
def Lg.ready (s : Lg) (g : Grp) : Lg := if s.ring < s.filled + sizeOf g.length then s.check.2 else s
def Lg.commit (s : Lg) (ps : List (Int × Text)) : Int × Lg :=
  if s.off then (3, s) else
  if (gather s.homes [] ps).1 ≠ 0 then ((gather s.homes [] ps).1, s) else
  if s.ring < sizeOf (gather s.homes [] ps).2.length then (5, s) else
  if (gather s.homes [] ps).2 = [] then (0, s) else
  if ((s.ready (gather s.homes [] ps).2).record (gather s.homes [] ps).2).down then (3, (s.ready (gather s.homes [] ps).2).record (gather s.homes [] ps).2)
  else (0, ((s.ready (gather s.homes [] ps).2).record (gather s.homes [] ps).2).take (gather s.homes [] ps).2)
/-- What the document answers. -/
def comm (ring : Nat) (H : List Text) (ps : List (Int × Text)) : Int × List Text :=
  if (gather H.length [] ps).1 ≠ 0 then ((gather H.length [] ps).1, H) else if ring < sizeOf (gather H.length [] ps).2.length then (5, H) else (0, puts H (gather H.length [] ps).2)
theorem comm_length (ring : Nat) (H : List Text) (ps : List (Int × Text)) : (comm ring H ps).2.length = H.length := by
  unfold comm
  split
  · rfl
  · split
    · rfl
    · exact Dk.puts_length _ _

/-- The log is up, nothing is loose, its homes hold H. -/
structure Live (ring N : Nat) (s : Lg) (H : List Text) : Prop where
  up : s.down = false
  on : s.d.off = false
  firm : s.d.loose = []
  ring_eq : s.ring = ring
  homes_eq : s.homes = H.length
  num_le : s.num ≤ N
  stands : ∃ a n gs, Good ring s.d.firm a n gs H ∧ s.place = (a + total gs) % ring ∧ s.num = n + gs.length ∧ s.filled = total gs ∧ s.wait = gained gs
structure Dead (ring N : Nat) (s : Lg) (S : List Text → Prop) : Prop where
  down : s.down = true
  off : s.d.off = true
  safe : Safe ring N s.d S
theorem Live.mono {ring N M : Nat} {s : Lg} {H : List Text} (h : Live ring N s H) (hN : N ≤ M) : Live ring M s H := ⟨h.up, h.on, h.firm, h.ring_eq, h.homes_eq, Nat.le_trans h.num_le hN, h.stands⟩
theorem Dead.mono {ring N M : Nat} {s : Lg} {S T : List Text → Prop} (h : Dead ring N s S) (hN : N ≤ M) (hS : ∀ H, S H → T H) : Dead ring M s T := ⟨h.down, h.off, h.safe.mono hN hS⟩
theorem Live.safe {ring N : Nat} {s : Lg} {H : List Text} (h : Live ring N s H) : Safe ring N s.d (· = H) := by
  obtain ⟨a, n, gs, hg, _, h2, _⟩ := h.stands
  exact (hg.safe h.firm).mono (by have := h.num_le; omega) fun _ e => e
theorem Live.off_eq {ring N : Nat} {s : Lg} {H : List Text} (h : Live ring N s H) : s.off = false := by unfold Lg.off; rw [h.up, h.on]; rfl
theorem total_zero {gs : List Grp} (h : total gs = 0) : gs = [] := by
  cases gs with
  | nil => rfl
  | cons g gs => rw [total_cons] at h; have := sizeOf_pos g.length; omega
theorem Live.read {ring N : Nat} {s : Lg} {H : List Text} (h : Live ring N s H) : (∀ x ∈ s.wait, x.1 < s.homes ∧ x.2.length = 512) ∧ Rising s.wait ∧ s.d.firm.length = 1 + ring + H.length ∧ 4 ≤ ring ∧ ring ≤ 4096 ∧ 1 ≤ H.length ∧ H.length ≤ 65536 ∧ s.filled ≤ ring ∧ s.place < ring ∧ 1 ≤ s.num ∧ s.num < 1000000 ∧ s.wait.length ≤ 65536 ∧
    ∀ j, j < H.length → H[j]? = (look j s.wait).or (s.d.now[1 + ring + j]?) := by
  obtain ⟨a, n, gs, hg, h1, h2, h3, h4⟩ := h.stands
  have hf := hg.gainedFits
  have hlen := hg.len
  have hm := hg.hmax
  have hr1 := hg.r1
  have hr2 := hg.r2
  have hnp := hg.n_pos
  have hnm := hg.n_max
  have hnow : s.d.now = s.d.firm := by unfold Disk.now; rw [h.firm, Dk.puts_nil]
  refine ⟨by rw [h4, h.homes_eq]; exact hf.2, by rw [h4]; exact hf.1, hlen, hr1, hr2, hg.hpos, by omega, by rw [h3]; exact hg.tot, by rw [h1]; exact Nat.mod_lt _ (by omega), by omega, by omega, ?_, fun j hj => ?_⟩
  · have key : ∀ (m : Grp) (b c : Nat), Rising m → (∀ x ∈ m, b ≤ x.1 ∧ x.1 < c) → m.length ≤ c - b := by
      intro m
      induction m with
      | nil => intro b c _ _; exact Nat.zero_le _
      | cons x m ih =>
        intro b c hr hb
        obtain ⟨r1, r2⟩ := List.pairwise_cons.1 hr
        have h0 := hb x List.mem_cons_self
        have := ih (x.1 + 1) c r2 fun y hy => ⟨r1 y hy, (hb y (List.mem_cons_of_mem _ hy)).2⟩
        rw [List.length_cons]; omega
    have := key s.wait 0 H.length (by rw [h4]; exact hf.1) fun x hx => ⟨Nat.zero_le _, by rw [h4] at hx; exact (hf.2 x hx).1⟩
    omega
  · have := congrArg (fun L => L[j]?) hg.homes
    rw [this, puts_look hf.1, List.length_drop, if_pos (by omega), h4, List.getElem?_drop, hnow]

theorem Live.check {ring N : Nat} {s : Lg} {H : List Text} (h : Live ring N s H) :
    (s.check.1 = 0 ∧ Live ring N s.check.2 H ∧ (s.d.fuel < 0 → s.check.2.d.fuel < 0) ∧ s.check.2.filled = 0 ∧ s.check.2.ring = s.ring ∧ s.check.2.homes = s.homes) ∨
    (s.check.1 = 3 ∧ Dead ring N s.check.2 (· = H) ∧ 0 ≤ s.d.fuel ∧ s.check.2.ring = s.ring ∧ s.check.2.homes = s.homes) := by
  obtain ⟨a, n, gs, hg, h1, h2, h3, h4⟩ := h.stands
  unfold Lg.check
  rw [h.off_eq, if_neg (by decide)]
  by_cases h0 : s.filled = 0
  · rw [if_pos h0]
    exact .inl ⟨rfl, h, id, h0, rfl, rfl⟩
  · rw [if_neg h0]
    have hs := check_step hg h.on h.firm
    simp only at hs
    rw [← h1, ← h2, ← h4, ← h.ring_eq] at hs
    rw [h.up]
    generalize checked s.ring s.d.firm.length s.place s.num s.wait (false, s.d) = r at *
    rcases hs with ⟨k1, k2, k3, k4, k5⟩ | ⟨k1, k2, k3, k4⟩
    · rw [k1, if_neg (by decide)]
      rw [h.ring_eq] at k4
      refine .inl ⟨rfl, ⟨k1, k2, k3, h.ring_eq, h.homes_eq, h.num_le, s.place, s.num, [], k4, ?_, rfl, rfl, rfl⟩, k5, rfl, rfl, rfl⟩
      show s.place = _
      rw [show total [] = 0 from rfl, Nat.add_zero, Nat.mod_eq_of_lt k4.a_lt]
    · rw [k1, if_pos rfl]
      rw [h.ring_eq] at k3
      exact .inr ⟨rfl, ⟨k1, k2, k3.mono h.num_le fun _ e => e⟩, k4, rfl, rfl⟩

theorem Live.commit {ring N : Nat} {s : Lg} {H : List Text} (h : Live ring N s H) (hN : N + 1 < 1000000) (ps : List (Int × Text)) :
    ((s.commit ps).1 = (comm ring H ps).1 ∧ Live ring (N + 1) (s.commit ps).2 (comm ring H ps).2 ∧ (s.d.fuel < 0 → (s.commit ps).2.d.fuel < 0)) ∨
    ((s.commit ps).1 = 3 ∧ Dead ring (N + 1) (s.commit ps).2 (fun K => K = H ∨ K = (comm ring H ps).2) ∧ 0 ≤ s.d.fuel) := by
  unfold Lg.commit comm
  rw [h.off_eq, if_neg (by decide), h.homes_eq, h.ring_eq]
  have hf := gather_fits H.length ps [] (fits_nil _)
  generalize gather H.length [] ps = q at *
  obtain ⟨c, g⟩ := q
  simp only
  by_cases hc : c = 0
  · subst hc
    rw [if_neg (show ¬ ((0 : Int) ≠ 0) from fun h => h rfl), if_neg (show ¬ ((0 : Int) ≠ 0) from fun h => h rfl)]
    by_cases hs : ring < sizeOf g.length
    · rw [if_pos hs, if_pos hs]
      exact .inl ⟨rfl, h.mono (by omega), id⟩
    · rw [if_neg hs, if_neg hs]
      by_cases hg0 : g = []
      · rw [if_pos hg0]
        subst hg0
        exact .inl ⟨rfl, (h.mono (by omega)), id⟩
      · rw [if_neg hg0]
        simp only at hf
        have core : ∀ s1 : Lg, Live ring N s1 H → s1.filled + sizeOf g.length ≤ ring → (s.d.fuel < 0 → s1.d.fuel < 0) →
            ((if (s1.record g).down = true then ((3 : Int), s1.record g) else (0, (s1.record g).take g)).1 = 0 ∧ Live ring (N + 1) (if (s1.record g).down = true then ((3 : Int), s1.record g) else (0, (s1.record g).take g)).2 (puts H g) ∧ (s.d.fuel < 0 → (if (s1.record g).down = true then ((3 : Int), s1.record g) else (0, (s1.record g).take g)).2.d.fuel < 0)) ∨
            ((if (s1.record g).down = true then ((3 : Int), s1.record g) else (0, (s1.record g).take g)).1 = 3 ∧ Dead ring (N + 1) (if (s1.record g).down = true then ((3 : Int), s1.record g) else (0, (s1.record g).take g)).2 (fun K => K = H ∨ K = puts H g) ∧ 0 ≤ s.d.fuel) := by
          intro s1 h1 hfit hfu
          obtain ⟨a, n, gs, hG, e1, e2, e3, e4⟩ := h1.stands
          have hle := h1.num_le
          have hs1 := record_step hG h1.on h1.firm g hg0 hf (by omega) (by omega)
          simp only at hs1
          rw [← e1, ← e2] at hs1
          unfold Lg.record
          rw [h1.up, h1.ring_eq]
          generalize recorded ring s1.place s1.num g (false, s1.d) = r at *
          rcases hs1 with ⟨k1, k2, k3, k4, k5⟩ | ⟨k1, k2, k3, k4⟩
          · have : (s1.with r).down = false := k1
            rw [this, if_neg (by decide)]
            refine .inl ⟨rfl, ⟨k1, k2, k3, h1.ring_eq, ?_, ?_, a, n, gs ++ [g], k4, ?_, ?_, ?_, ?_⟩, fun hn => k5 (hfu hn)⟩
            · show s1.homes = _
              rw [Dk.puts_length, h1.homes_eq]
            · show s1.num + 1 ≤ _
              omega
            · show (s1.place + sizeOf g.length) % s1.ring = _
              rw [h1.ring_eq, e1, total_append, total_one, Nat.mod_add_mod, Nat.add_assoc]
            · show s1.num + 1 = _
              rw [List.length_append]; show _ = n + (gs.length + 1); omega
            · show s1.filled + sizeOf g.length = _
              rw [total_append, total_one, e3]
            · show merge s1.wait g = _
              rw [gained_append, e4]
          · have : (s1.with r).down = true := k1
            rw [this, if_pos rfl]
            refine .inr ⟨rfl, ⟨k1, k2, k3.mono (by omega) fun _ e => e⟩, ?_⟩
            rcases Int.lt_or_le s.d.fuel 0 with hn | hn
            · have := hfu hn; omega
            · exact hn
        unfold Lg.ready
        rw [h.ring_eq]
        by_cases hfull : ring < s.filled + sizeOf g.length
        · rw [if_pos hfull]
          rcases h.check with ⟨_, k2, k3, k4, _, _⟩ | ⟨_, k2, k3, k4, _⟩
          · exact core _ k2 (by omega) k3
          · have hr : s.check.2.record g = s.check.2 := by
              unfold Lg.record recorded
              rw [k2.down, wrs_down, fl_down, wr_down, fl_down]
              have := k2.down
              unfold Lg.with
              generalize s.check.2 = z at *
              cases z
              simp only at this
              rw [this]
            rw [hr, k2.down, if_pos rfl]
            exact .inr ⟨rfl, k2.mono (by omega) fun K e => .inl e, k3⟩
        · rw [if_neg hfull]
          exact core s h (by omega) id
  · rw [if_pos hc, if_pos hc]
    exact .inl ⟨rfl, h.mono (by omega), id⟩

/-! ### Opening. -/
theorem Old.next {ring : Nat} {F : List Text} {i N : Nat} (h : Old ring F i N) : ∃ s, F[1 + i]? = some s ∧ ((readHead s ring).2.2 = true → (readHead s ring).1 ≠ N) := by
  obtain ⟨s, h1, h2⟩ := h
  refine ⟨s, h1, fun ho e => ?_⟩
  rcases h2 with h2 | h2 | ⟨m, n, h2, h3⟩
  · rw [readHead_other s ring (blank_other s h2)] at ho; cases ho
  · rw [readHead_other s ring (puts_other s h2)] at ho; cases ho
  · rw [h2] at e; simp only at e; omega
/-- The opened log, before its flush. -/
def opened (ring : Nat) (H : List Text) (a n : Nat) (gs : List Grp) (d : Disk) : Lg := ⟨ring, H.length, (a + total gs) % ring, n + gs.length, total gs, gained gs, false, d⟩
theorem open_step {ring : Nat} {d : Disk} {a n : Nat} {gs : List Grp} {H : List Text} (h : Good ring d.firm a n gs H) (ho : d.off = false) (hl : d.loose = []) :
    ((fl (false, d)).1 = false ∧ Live ring (n + gs.length) ((opened ring H a n gs d).with (fl (false, d))) H ∧ (d.fuel < 0 → (fl (false, d)).2.fuel < 0)) ∨
    ((fl (false, d)).1 = true ∧ Dead ring (n + gs.length) ((opened ring H a n gs d).with (fl (false, d))) (· = H) ∧ 0 ≤ d.fuel) := by
  have hnow : d.now = d.firm := by unfold Disk.now; rw [hl, Dk.puts_nil]
  rcases fl_up d ho with ⟨e, hf⟩ | ⟨e, hf⟩
  · rw [e]
    refine .inl ⟨rfl, ⟨rfl, ho, rfl, rfl, rfl, Nat.le_refl _, a, n, gs, ?_, rfl, rfl, rfl, rfl⟩, burnt_neg⟩
    show Good ring d.now a n gs H
    rw [hnow]; exact h
  · rw [e]
    exact .inr ⟨rfl, ⟨rfl, rfl, fun keep => ⟨a, n, gs, H, by show Good ring (puts d.firm (kept keep d.loose)) _ _ _ _; rw [hl, Dk.kept_nil]; exact h, rfl, Nat.le_refl _⟩⟩, by omega⟩
def noughts (n : Nat) : List Text := List.replicate n (full [])
theorem full_nil : (full []).length = 512 := Dk.full_length _ (by decide)
theorem blank_nought : blank (full []) = true := by unfold full; rw [List.nil_append]; exact blank_replicate _
theorem fresh_good (size ring : Nat) (h1 : 4 ≤ ring) (h2 : ring ≤ 4096) (h3 : ring + 2 ≤ size) (h4 : size ≤ 65536) :
    Good ring ((List.replicate size (full [])).set 0 (full (first size ring 0 1))) 0 1 [] (noughts (size - 1 - ring)) := by
  refine ⟨h1, h2, by rw [List.length_set, List.length_replicate, noughts, List.length_replicate]; omega, by rw [noughts, List.length_replicate]; omega, by rw [List.length_set, List.length_replicate]; exact h4, ?_, ?_, by omega, by decide, by decide, trivial, by simp [total], (fun g hg => by cases hg), fun i hi => ?_, ?_⟩
  · intro s hs
    rcases List.mem_or_eq_of_mem_set hs with hs | rfl
    · rw [List.eq_of_mem_replicate hs]; exact full_nil
    · exact Dk.full_length _ (by rw [first_length]; decide)
  · rw [List.length_set, List.length_replicate, List.getElem?_set_self (by rw [List.length_replicate]; omega)]
  · exact ⟨full [], by rw [List.getElem?_set_ne (by omega), List.getElem?_replicate, if_pos (by omega)], .inl blank_nought⟩
  · rw [show gained ([] : List Grp) = [] from rfl, Dk.puts_nil, List.drop_set, if_pos (by omega), List.drop_replicate, noughts]
    congr 1; omega
/-- A new log on a new disk. -/
def begun (size ring : Nat) : Lg := ⟨ring, size - 1 - ring, 0, 1, 0, [], false, ⟨(List.replicate size (full [])).set 0 (full (first size ring 0 1)), [], -1, false⟩⟩
theorem begun_live (size ring : Nat) (h1 : 4 ≤ ring) (h2 : ring ≤ 4096) (h3 : ring + 2 ≤ size) (h4 : size ≤ 65536) : Live ring 1 (begun size ring) (noughts (size - 1 - ring)) :=
  ⟨rfl, rfl, rfl, rfl, by simp [begun, noughts], Nat.le_refl _, 0, 1, [], fresh_good size ring h1 h2 h3 h4, by show 0 = _; simp [total], rfl, rfl, rfl⟩
theorem begun_with (size ring : Nat) (h3 : 0 < size) : fl (wr (false, Dk.fresh size) (0, first size ring 0 1)) = (false, (begun size ring).d) := by
  have hx : (0 : Nat) < (Dk.fresh size).firm.length := by simp [Dk.fresh, h3]
  rcases wr_up (Dk.fresh size) (0, first size ring 0 1) rfl hx (by rw [first_length]; decide) with ⟨e, _⟩ | ⟨_, e⟩
  · rw [e]
    rcases fl_up { (Dk.fresh size).burnt with loose := (Dk.fresh size).loose ++ [fw (0, first size ring 0 1)] } rfl with ⟨e', _⟩ | ⟨_, e'⟩
    · rw [e']; rfl
    · have : (-1 : Int) = 0 := e'
      omega
  · have : (-1 : Int) = 0 := e
    omega
end Wl
end Go.Proofs.YthkblabpiajbhaaDoor
