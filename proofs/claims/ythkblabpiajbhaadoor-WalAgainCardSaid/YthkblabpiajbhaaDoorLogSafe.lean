/- A log on a disk that falls: what stands on it, and that it stays through each step of Commit and Checkpoint (no function of the program is named here). -/
import Derived.Test.YthkblabpiajbhaaDoorLogMath
namespace Go.Proofs.YthkblabpiajbhaaDoor
namespace Wl
open Dk (puts kept full Disk)

/-! ### Writes, each or none of them. -/
theorem puts_at {α : Type} (ws : List (Nat × α)) (p : Nat) : ∀ L : List α, p < L.length → (puts L ws)[p]? = L[p]? ∨ ∃ t, (p, t) ∈ ws ∧ (puts L ws)[p]? = some t := by
  induction ws with
  | nil => intro L _; exact .inl rfl
  | cons x ws ih =>
    intro L hp
    rw [Dk.puts_cons]
    rcases ih (L.set x.1 x.2) (by simpa using hp) with h | ⟨t, h1, h2⟩
    · by_cases e : x.1 = p
      · subst e
        refine .inr ⟨x.2, List.mem_cons_self, ?_⟩
        rw [h, List.getElem?_set_self hp]
      · left
        rw [h, List.getElem?_set_ne e]
    · exact .inr ⟨t, List.mem_cons_of_mem _ h1, h2⟩
theorem puts_hit {α : Type} {p : Nat} {t : α} : ∀ {ws : List (Nat × α)} {L : List α}, p < L.length → (p, t) ∈ ws → (∀ t', (p, t') ∈ ws → t' = t) → (puts L ws)[p]? = some t := by
  intro ws
  induction ws with
  | nil => intro L _ h; cases h
  | cons x ws ih =>
    intro L hp hm hu
    rw [Dk.puts_cons]
    by_cases hin : (p, t) ∈ ws
    · exact ih (by simpa using hp) hin fun t' h => hu t' (List.mem_cons_of_mem _ h)
    · rcases List.mem_cons.1 hm with e | h
      · rw [Dk.puts_other ws p _ (fun y hy e' => hin (by
          have : (p, y.2) ∈ ws := by rw [← e']; exact hy
          rw [hu y.2 (List.mem_cons_of_mem _ this)] at this
          exact this)), ← e]
        exact List.getElem?_set_self hp
      · exact absurd h hin
theorem puts_mem_all {α : Type} {Q : α → Prop} {L : List α} {ws : List (Nat × α)} (h : ∀ s ∈ L, Q s) (hw : ∀ x ∈ ws, Q x.2) : ∀ s ∈ puts L ws, Q s := by
  intro s hs
  rcases Dk.puts_mem ws L s hs with h' | ⟨i, h'⟩
  · exact h s h'
  · exact hw _ h'

/-! ### Places of the ring. -/
def pos (ring i : Nat) : Nat := 1 + i % ring
theorem pos_mod (ring i j : Nat) : pos ring (i % ring + j) = pos ring (i + j) := by unfold pos; rw [Nat.mod_add_mod]
theorem pos_lt {ring : Nat} (h : 0 < ring) (i : Nat) : 1 ≤ pos ring i ∧ pos ring i < 1 + ring := by
  unfold pos; have := Nat.mod_lt i h; omega
theorem pos_inj {ring i j : Nat} (h : pos ring i = pos ring j) (h1 : i ≤ j) (h2 : j < i + ring) : i = j := by
  have hm : j % ring = i % ring := by unfold pos at h; omega
  have hd := Nat.sub_mod_eq_zero_of_mod_eq hm
  have hk := Nat.dvd_of_mod_eq_zero hd
  rcases Nat.eq_zero_or_pos (j - i) with h0 | h0
  · omega
  · have := Nat.le_of_dvd h0 hk; omega

/-! ### What stands on the disk. -/
def Laid (ring : Nat) (F : List Text) : Nat → Nat → List Grp → Prop
  | _, _, [] => True
  | a, n, g :: gs => F[pos ring a]? = some (full (head n g.length)) ∧ (∀ k t, (putsTexts g)[k]? = some t → F[pos ring (a + 1 + k)]? = some (full t)) ∧ Laid ring F (a + sizeOf g.length) (n + 1) gs
def total (gs : List Grp) : Nat := (gs.map fun g => sizeOf g.length).sum
theorem total_cons (g : Grp) (gs : List Grp) : total (g :: gs) = sizeOf g.length + total gs := by simp [total]
theorem total_append (gs hs : List Grp) : total (gs ++ hs) = total gs + total hs := by simp [total]
theorem total_one (g : Grp) : total [g] = sizeOf g.length := by simp [total]
def Old (ring : Nat) (F : List Text) (i N : Nat) : Prop := ∃ s, F[1 + i]? = some s ∧ (blank s = true ∨ isPuts s = true ∨ ∃ m n, readHead s ring = (m, n, true) ∧ m < N)
theorem Old.mono {ring : Nat} {F : List Text} {i N M : Nat} (h : Old ring F i N) (hN : N ≤ M) : Old ring F i M := by
  obtain ⟨s, h1, h2⟩ := h
  refine ⟨s, h1, ?_⟩
  rcases h2 with h2 | h2 | ⟨m, n, h2, h3⟩
  · exact .inl h2
  · exact .inr (.inl h2)
  · exact .inr (.inr ⟨m, n, h2, by omega⟩)
/-- Of all groups what each home gets. -/
def gained (gs : List Grp) : Grp := gs.foldl merge []
theorem gained_rising_from : ∀ (gs : List Grp) (m : Grp), Rising m → Rising (gs.foldl merge m)
  | [], _, h => h
  | g :: gs, _, h => gained_rising_from gs _ (merge_rising g h)
theorem gained_rising (gs : List Grp) : Rising (gained gs) := gained_rising_from gs [] List.Pairwise.nil
theorem gained_append (gs : List Grp) (g : Grp) : gained (gs ++ [g]) = merge (gained gs) g := by simp [gained]
theorem gained_fits_from {homes : Nat} : ∀ (gs : List Grp) (m : Grp), Fits homes m → (∀ g ∈ gs, Fits homes g) → Fits homes (gs.foldl merge m)
  | [], _, h, _ => h
  | g :: gs, _, h, hg => gained_fits_from gs _ (fits_merge h (hg g List.mem_cons_self).2) fun x hx => hg x (List.mem_cons_of_mem _ hx)
theorem gained_fits {homes : Nat} {gs : List Grp} (h : ∀ g ∈ gs, Fits homes g) : Fits homes (gained gs) := gained_fits_from gs [] (fits_nil homes) h

structure Good (ring : Nat) (F : List Text) (a n : Nat) (gs : List Grp) (H : List Text) : Prop where
  r1 : 4 ≤ ring
  r2 : ring ≤ 4096
  len : F.length = 1 + ring + H.length
  hpos : 1 ≤ H.length
  hmax : F.length ≤ 65536
  all : ∀ s ∈ F, s.length = 512
  first : F[0]? = some (full (first F.length ring a n))
  a_lt : a < ring
  n_pos : 1 ≤ n
  n_max : n + gs.length < 1000000
  laid : Laid ring F a n gs
  tot : total gs ≤ ring
  fits : ∀ g ∈ gs, g ≠ [] ∧ Fits H.length g
  old : ∀ i, i < ring → Old ring F i (n + gs.length)
  homes : H = puts (F.drop (1 + ring)) (gained gs)
theorem sizeOf_pos (n : Nat) : 1 ≤ sizeOf n := by unfold sizeOf; omega
theorem sizeOf_ge (n : Nat) (h : 1 ≤ n) : n + 1 ≤ sizeOf n ∧ 2 ≤ sizeOf n := by unfold sizeOf; omega
theorem Laid.same {ring : Nat} {F F' : List Text} : ∀ {gs : List Grp} {a n homes : Nat}, (∀ g ∈ gs, Fits homes g) → Laid ring F a n gs → (∀ i, i < total gs → F'[pos ring (a + i)]? = F[pos ring (a + i)]?) → Laid ring F' a n gs
  | [], _, _, _, _, _, _ => trivial
  | g :: gs, a, n, homes, hf, ⟨h1, h2, h3⟩, hs => by
    have hl := putsTexts_length (hf g List.mem_cons_self).2
    have hp := sizeOf_pos g.length
    rw [total_cons] at hs
    refine ⟨?_, fun k t hk => ?_, Laid.same (fun x hx => hf x (List.mem_cons_of_mem _ hx)) h3 fun i hi => ?_⟩
    · have := hs 0 (by omega)
      rw [Nat.add_zero] at this
      rw [this]; exact h1
    · have hk' : k < (putsTexts g).length := (List.getElem?_eq_some_iff.1 hk).1
      have := hs (1 + k) (by omega)
      rw [← Nat.add_assoc] at this
      rw [this]; exact h2 k t hk
    · have := hs (sizeOf g.length + i) (by omega)
      rw [← Nat.add_assoc] at this
      exact this
theorem Laid.append {ring : Nat} {F : List Text} {g : Grp} : ∀ {gs : List Grp} {a n : Nat}, Laid ring F a n gs → Laid ring F (a + total gs) (n + gs.length) [g] → Laid ring F a n (gs ++ [g])
  | [], _, _, _, h => h
  | x :: gs, a, n, ⟨h1, h2, h3⟩, h => ⟨h1, h2, Laid.append h3 (by
      rw [total_cons, List.length_cons] at h
      rwa [show a + sizeOf x.length + total gs = a + (sizeOf x.length + total gs) by omega, show n + 1 + gs.length = n + (gs.length + 1) by omega])⟩

/-! ### Changes that keep what stands. -/
theorem Good.change {ring : Nat} {F F' : List Text} {a n : Nat} {gs : List Grp} {H : List Text} (h : Good ring F a n gs H) (hl : F'.length = F.length) (ha : ∀ s ∈ F', s.length = 512) (h0 : F'[0]? = F[0]?)
    (hs : ∀ i, i < total gs → F'[pos ring (a + i)]? = F[pos ring (a + i)]?) (ho : ∀ i, i < ring → F'[1 + i]? = F[1 + i]? ∨ ∃ s, F'[1 + i]? = some s ∧ isPuts s = true)
    (hh : puts (F'.drop (1 + ring)) (gained gs) = puts (F.drop (1 + ring)) (gained gs)) : Good ring F' a n gs H :=
  ⟨h.r1, h.r2, hl.trans h.len, h.hpos, by rw [hl]; exact h.hmax, ha, by rw [h0, hl]; exact h.first, h.a_lt, h.n_pos, h.n_max, h.laid.same (fun g hg => (h.fits g hg).2) hs, h.tot, h.fits, fun i hi => by
    rcases ho i hi with e | ⟨s, e, hp⟩
    · obtain ⟨s, h1, h2⟩ := h.old i hi
      exact ⟨s, e.trans h1, h2⟩
    · exact ⟨s, e, .inr (.inl hp)⟩, by rw [hh]; exact h.homes⟩
/-- Texts that homes are to have are written there. -/
theorem Good.toHomes {ring : Nat} {F : List Text} {a n : Nat} {gs : List Grp} {H : List Text} (h : Good ring F a n gs H) (ws : List (Nat × Text)) (hw : ∀ x ∈ ws, ∃ i, x.1 = 1 + ring + i ∧ look i (gained gs) = some x.2 ∧ x.2.length = 512) :
    Good ring (puts F ws) a n gs H := by
  have hlow : ∀ p, p < 1 + ring → (puts F ws)[p]? = F[p]? := fun p hp => Dk.puts_other ws p F fun x hx e => by
    obtain ⟨i, hi, _⟩ := hw x hx; omega
  have hr : 0 < ring := by have := h.r1; omega
  refine h.change (Dk.puts_length _ _) (puts_mem_all h.all fun x hx => (hw x hx).choose_spec.2.2) (hlow 0 (by omega)) (fun i _ => hlow _ (pos_lt hr _).2) (fun i hi => .inl (hlow _ (by omega))) ?_
  refine List.ext_getElem? fun j => ?_
  rw [puts_look (gained_rising gs), puts_look (gained_rising gs), List.length_drop, List.length_drop, Dk.puts_length]
  split
  · rename_i hj
    cases e : look j (gained gs) with
    | some t => rfl
    | none =>
      rw [Option.none_or, Option.none_or, List.getElem?_drop, List.getElem?_drop]
      exact Dk.puts_other ws _ F fun x hx e' => by
        obtain ⟨i, hi, hl, _⟩ := hw x hx
        obtain rfl : i = j := by omega
        rw [e] at hl; cases hl
  · rfl
/-- Puts are written to places of the ring that no group has. -/
theorem Good.toRing {ring : Nat} {F : List Text} {a n : Nat} {gs : List Grp} {H : List Text} (h : Good ring F a n gs H) (ws : List (Nat × Text)) (hw : ∀ x ∈ ws, ∃ i, x.1 = pos ring (a + total gs + i) ∧ total gs + i < ring ∧ isPuts x.2 = true ∧ x.2.length = 512) :
    Good ring (puts F ws) a n gs H := by
  have hr : 0 < ring := by have := h.r1; omega
  have hlen := h.len
  have hlow : ∀ p, (p = 0 ∨ 1 + ring ≤ p) → (puts F ws)[p]? = F[p]? := fun p hp => Dk.puts_other ws p F fun x hx e => by
    obtain ⟨i, hi, _⟩ := hw x hx
    have := pos_lt hr (a + total gs + i); omega
  refine h.change (Dk.puts_length _ _) (puts_mem_all h.all fun x hx => (hw x hx).choose_spec.2.2.2) (hlow 0 (.inl rfl)) (fun i hi => ?_) (fun i hi => ?_) ?_
  · refine Dk.puts_other ws _ F fun x hx e => ?_
    obtain ⟨k, hk, hlt, _⟩ := hw x hx
    rw [hk] at e
    have := pos_inj e.symm (by omega) (by omega)
    omega
  · rcases puts_at ws (1 + i) F (by omega) with e | ⟨t, h1, h2⟩
    · exact .inl e
    · obtain ⟨_, _, _, h3, _⟩ := hw _ h1
      exact .inr ⟨t, h2, h3⟩
  · congr 1
    refine List.ext_getElem? fun j => ?_
    rw [List.getElem?_drop, List.getElem?_drop]
    exact hlow _ (.inr (by omega))

/-! ### Writes and flushes as the log does them, on a disk that may go down. -/
def wr (s : Bool × Disk) (x : Nat × Text) : Bool × Disk := if s.1 then s else (decide ((s.2.write x.1 x.2).1 ≠ 0), (s.2.write x.1 x.2).2)
def wrs (s : Bool × Disk) (ws : List (Nat × Text)) : Bool × Disk := ws.foldl wr s
def fl (s : Bool × Disk) : Bool × Disk := if s.1 then s else (decide (s.2.flush.1 ≠ 0), s.2.flush.2)
def fw (x : Nat × Text) : Nat × Text := (x.1, full x.2)
theorem wrs_take (s : Bool × Disk) (ws : List (Nat × Text)) (k : Nat) (hk : k < ws.length) : wrs s (ws.take (k + 1)) = wr (wrs s (ws.take k)) ws[k] := by
  rw [List.take_succ_eq_append_getElem hk]; unfold wrs; rw [List.foldl_append]; rfl
theorem wr_down (d : Disk) (x : Nat × Text) : wr (true, d) x = (true, d) := rfl
theorem wrs_down (d : Disk) (ws : List (Nat × Text)) : wrs (true, d) ws = (true, d) := by
  induction ws with
  | nil => rfl
  | cons x ws ih => exact ih
theorem fl_down (d : Disk) : fl (true, d) = (true, d) := rfl
theorem wr_up (d : Disk) (x : Nat × Text) (ho : d.off = false) (h1 : x.1 < d.firm.length) (h2 : x.2.length ≤ 512) :
    (wr (false, d) x = (false, { d.burnt with loose := d.loose ++ [fw x] }) ∧ d.fuel ≠ 0) ∨ (wr (false, d) x = (true, d.dead) ∧ d.fuel = 0) := by
  have hh : d.has x.1 = true := by simp [Disk.has, h1]
  have hw : d.write x.1 x.2 = if d.fuel = 0 then (3, d.dead) else (0, { d.burnt with loose := d.loose ++ [((x.1 : Int).toNat, full x.2)] }) := by
    unfold Disk.write
    rw [ho, hh, if_neg (by decide), if_neg (by decide), if_neg (by omega)]
  unfold wr
  rw [hw]
  by_cases hf : d.fuel = 0
  · exact .inr ⟨by rw [if_pos hf]; rfl, hf⟩
  · exact .inl ⟨by rw [if_neg hf]; rfl, hf⟩
theorem burnt_neg {d : Disk} (h : d.fuel < 0) : d.burnt.fuel < 0 := by
  unfold Disk.burnt; simp only; split <;> omega
theorem wrs_up : ∀ (ws : List (Nat × Text)) (d : Disk), d.off = false → (∀ x ∈ ws, x.1 < d.firm.length ∧ x.2.length ≤ 512) →
    ((wrs (false, d) ws).1 = false ∧ (wrs (false, d) ws).2.off = false ∧ (wrs (false, d) ws).2.firm = d.firm ∧ (wrs (false, d) ws).2.loose = d.loose ++ ws.map fw ∧ (d.fuel < 0 → (wrs (false, d) ws).2.fuel < 0)) ∨
    ((wrs (false, d) ws).1 = true ∧ (wrs (false, d) ws).2.off = true ∧ (wrs (false, d) ws).2.firm = d.firm ∧ (∃ j, (wrs (false, d) ws).2.loose = d.loose ++ (ws.take j).map fw) ∧ 0 ≤ d.fuel)
  | [], d, ho, _ => .inl ⟨rfl, ho, rfl, by simp [wrs], id⟩
  | x :: ws, d, ho, hw => by
    have hx := hw x List.mem_cons_self
    have e0 : wrs (false, d) (x :: ws) = wrs (wr (false, d) x) ws := rfl
    rcases wr_up d x ho hx.1 hx.2 with ⟨e, hf⟩ | ⟨e, hf⟩
    · rw [e0, e]
      rcases wrs_up ws { d.burnt with loose := d.loose ++ [fw x] } ho (fun y hy => hw y (List.mem_cons_of_mem _ hy)) with ⟨h1, h2, h3, h4, h5⟩ | ⟨h1, h2, h3, ⟨j, h4⟩, h5⟩
      · exact .inl ⟨h1, h2, h3, by rw [h4]; simp, fun h => h5 (burnt_neg h)⟩
      · refine .inr ⟨h1, h2, h3, ⟨j + 1, by rw [h4]; simp⟩, ?_⟩
        have h5' : 0 ≤ d.burnt.fuel := h5
        rcases Int.lt_or_le d.fuel 0 with hn | hn
        · have := burnt_neg hn; omega
        · exact hn
    · rw [e0, e, wrs_down]
      exact .inr ⟨rfl, rfl, rfl, ⟨0, by simp [Disk.dead]⟩, by omega⟩
theorem fl_up (d : Disk) (ho : d.off = false) : (fl (false, d) = (false, { d.burnt with firm := d.now, loose := [] }) ∧ d.fuel ≠ 0) ∨ (fl (false, d) = (true, d.dead) ∧ d.fuel = 0) := by
  have hw : d.flush = if d.fuel = 0 then (3, d.dead) else (0, { d.burnt with firm := d.now, loose := [] }) := by
    unfold Disk.flush
    rw [ho, if_neg (by decide)]
  unfold fl
  rw [hw]
  by_cases hf : d.fuel = 0
  · exact .inr ⟨by rw [if_pos hf]; rfl, hf⟩
  · exact .inl ⟨by rw [if_neg hf]; rfl, hf⟩
/-- Some writes and a flush: all is firm, or the disk is down, with a beginning of them loose. -/
theorem burst (ws : List (Nat × Text)) (d : Disk) (ho : d.off = false) (hl : d.loose = []) (hw : ∀ x ∈ ws, x.1 < d.firm.length ∧ x.2.length ≤ 512) :
    ((fl (wrs (false, d) ws)).1 = false ∧ (fl (wrs (false, d) ws)).2.off = false ∧ (fl (wrs (false, d) ws)).2.firm = puts d.firm (ws.map fw) ∧ (fl (wrs (false, d) ws)).2.loose = [] ∧ (d.fuel < 0 → (fl (wrs (false, d) ws)).2.fuel < 0)) ∨
    ((fl (wrs (false, d) ws)).1 = true ∧ (fl (wrs (false, d) ws)).2.off = true ∧ (fl (wrs (false, d) ws)).2.firm = d.firm ∧ (∃ j, (fl (wrs (false, d) ws)).2.loose = (ws.take j).map fw) ∧ 0 ≤ d.fuel) := by
  rcases wrs_up ws d ho hw with ⟨h1, h2, h3, h4, h5⟩ | ⟨h1, h2, h3, ⟨j, h4⟩, h5⟩
  · generalize wrs (false, d) ws = s at *
    obtain ⟨b, e⟩ := s
    simp only at h1 h2 h3 h4 h5
    subst h1
    rcases fl_up e h2 with ⟨k1, k2⟩ | ⟨k1, k2⟩
    · rw [k1]
      exact .inl ⟨rfl, h2, by show e.now = _; rw [Disk.now, h3, h4, hl, List.nil_append], rfl, fun h => burnt_neg (h5 h)⟩
    · rw [k1]
      refine .inr ⟨rfl, rfl, h3, ⟨ws.length, by show e.loose = _; rw [h4, hl, List.take_length, List.nil_append]⟩, ?_⟩
      rcases Int.lt_or_le d.fuel 0 with hn | hn
      · have := h5 hn; omega
      · exact hn
  · generalize wrs (false, d) ws = s at *
    obtain ⟨b, e⟩ := s
    simp only at h1 h2 h3 h4 h5
    subst h1
    rw [fl_down]
    exact .inr ⟨rfl, h2, h3, ⟨j, by rw [h4, hl, List.nil_append]⟩, h5⟩

/-- Whatever is kept in a fall, what stands then are homes of which S says so. -/
def Safe (ring N : Nat) (d : Disk) (S : List Text → Prop) : Prop := ∀ keep, ∃ a n gs H, Good ring (puts d.firm (kept keep d.loose)) a n gs H ∧ S H ∧ n + gs.length ≤ N
theorem Safe.mono {ring N M : Nat} {d : Disk} {S T : List Text → Prop} (h : Safe ring N d S) (hN : N ≤ M) (hS : ∀ H, S H → T H) : Safe ring M d T := fun keep => by
  obtain ⟨a, n, gs, H, h1, h2, h3⟩ := h keep
  exact ⟨a, n, gs, H, h1, hS H h2, by omega⟩
theorem Good.safe {ring : Nat} {d : Disk} {a n : Nat} {gs : List Grp} {H : List Text} (h : Good ring d.firm a n gs H) (hl : d.loose = []) : Safe ring (n + gs.length) d (· = H) := fun keep =>
  ⟨a, n, gs, H, by rw [hl, Dk.kept_nil]; exact h, rfl, Nat.le_refl _⟩
theorem kept_one {α : Type} (keep : List Bool) (x : α) : kept keep [x] = [] ∨ kept keep [x] = [x] := by
  cases keep with
  | nil => exact .inl rfl
  | cons b keep => cases b <;> simp [kept, Dk.kept_nil]
theorem map_fw_take (ws : List (Nat × Text)) (j : Nat) : ∀ x ∈ (ws.take j).map fw, x ∈ ws.map fw := by
  intro x hx
  obtain ⟨y, hy, rfl⟩ := List.mem_map.1 hx
  exact List.mem_map.2 ⟨y, List.mem_of_mem_take hy, rfl⟩
theorem take_one_map (x : Nat × Text) (j : Nat) : ([x].take j).map fw = [] ∨ ([x].take j).map fw = [fw x] := by
  cases j with
  | zero => exact .inl rfl
  | succ j => exact .inr (by simp)
theorem full_of_full {t : Text} (h : t.length = 512) : full t = t := by simp [full, h]

/-! ### Checkpoint. -/
def homeWrites (ring : Nat) (W : Grp) : List (Nat × Text) := W.map fun x => (1 + ring + x.1, x.2)
theorem Good.gainedFits {ring : Nat} {F : List Text} {a n : Nat} {gs : List Grp} {H : List Text} (h : Good ring F a n gs H) : Fits H.length (gained gs) := gained_fits fun g hg => (h.fits g hg).2
theorem mem_homeWrites {ring homes : Nat} {W : Grp} (hW : Fits homes W) : ∀ x ∈ (homeWrites ring W).map fw, ∃ i, x.1 = 1 + ring + i ∧ look i W = some x.2 ∧ x.2.length = 512 := by
  intro x hx
  simp only [homeWrites, List.map_map, List.mem_map] at hx
  obtain ⟨y, hy, rfl⟩ := hx
  have := hW.2 y hy
  refine ⟨y.1, rfl, ?_, ?_⟩
  · show look y.1 W = some (full y.2)
    rw [full_of_full this.2]
    exact look_of_mem hW.1 hy
  · show (full y.2).length = 512
    rw [full_of_full this.2]; exact this.2
theorem Good.first_set {ring : Nat} {F : List Text} {a n : Nat} {gs : List Grp} {H : List Text} (h : Good ring F a n gs H) (hd : F.drop (1 + ring) = H) :
    Good ring (puts F [fw (0, Wl.first F.length ring ((a + total gs) % ring) (n + gs.length))]) ((a + total gs) % ring) (n + gs.length) [] H := by
  have hr : 0 < ring := by have := h.r1; omega
  have hlen := h.len
  have hn := h.n_pos
  have hnm := h.n_max
  have e0 : puts F [fw (0, Wl.first F.length ring ((a + total gs) % ring) (n + gs.length))] = F.set 0 (full (Wl.first F.length ring ((a + total gs) % ring) (n + gs.length))) := rfl
  rw [e0]
  refine ⟨h.r1, h.r2, by rw [List.length_set]; exact hlen, h.hpos, by rw [List.length_set]; exact h.hmax, ?_, ?_, Nat.mod_lt _ hr, by omega, by simpa using hnm, trivial, by simp [total], (fun g hg => by cases hg), fun i hi => ?_, ?_⟩
  · intro s hs
    rcases List.mem_or_eq_of_mem_set hs with hs | rfl
    · exact h.all s hs
    · exact Dk.full_length _ (by rw [first_length]; decide)
  · rw [List.length_set, List.getElem?_set_self (by omega)]
  · obtain ⟨s, h1, h2⟩ := h.old i hi
    exact ⟨s, by rw [List.getElem?_set_ne (by omega)]; exact h1, by simpa using h2⟩
  · rw [show gained ([] : List Grp) = [] from rfl, Dk.puts_nil]
    rw [← hd, List.drop_set, if_pos (by omega)]
def checked (ring size a n : Nat) (W : Grp) (s : Bool × Disk) : Bool × Disk := fl (wr (fl (wrs s (homeWrites ring W))) (0, first size ring a n))
theorem check_step {ring : Nat} {d : Disk} {a n : Nat} {gs : List Grp} {H : List Text} (h : Good ring d.firm a n gs H) (ho : d.off = false) (hl : d.loose = []) :
    let r := checked ring d.firm.length ((a + total gs) % ring) (n + gs.length) (gained gs) (false, d)
    (r.1 = false ∧ r.2.off = false ∧ r.2.loose = [] ∧ Good ring r.2.firm ((a + total gs) % ring) (n + gs.length) [] H ∧ (d.fuel < 0 → r.2.fuel < 0)) ∨
    (r.1 = true ∧ r.2.off = true ∧ Safe ring (n + gs.length) r.2 (· = H) ∧ 0 ≤ d.fuel) := by
  intro r
  have hW := h.gainedFits
  have hlen := h.len
  have hmem := mem_homeWrites (ring := ring) hW
  have hok : ∀ x ∈ homeWrites ring (gained gs), x.1 < d.firm.length ∧ x.2.length ≤ 512 := by
    intro x hx
    obtain ⟨y, hy, rfl⟩ := List.mem_map.1 hx
    have := hW.2 y hy
    exact ⟨by show 1 + ring + y.1 < _; omega, by show y.2.length ≤ 512; omega⟩
  rcases burst (homeWrites ring (gained gs)) d ho hl hok with ⟨h1, h2, h3, h4, h5⟩ | ⟨h1, h2, h3, ⟨j, h4⟩, h5⟩
  · have hG1 := h.toHomes _ hmem
    rw [← h3] at hG1
    have hr : r = fl (wr (fl (wrs (false, d) (homeWrites ring (gained gs)))) (0, first d.firm.length ring ((a + total gs) % ring) (n + gs.length))) := rfl
    have hlen1 : (fl (wrs (false, d) (homeWrites ring (gained gs)))).2.firm.length = d.firm.length := by rw [h3, Dk.puts_length]
    have hdrop : (fl (wrs (false, d) (homeWrites ring (gained gs)))).2.firm.drop (1 + ring) = H := by
      rw [h3, h.homes]
      refine List.ext_getElem? fun k => ?_
      rw [List.getElem?_drop, puts_look hW.1, List.length_drop]
      split
      · rename_i hk
        cases e : look k (gained gs) with
        | none =>
          rw [Option.none_or, List.getElem?_drop]
          refine Dk.puts_other _ _ _ fun x hx e' => ?_
          obtain ⟨i, hi, hli, _⟩ := hmem x hx
          obtain rfl : i = k := by omega
          rw [e] at hli; cases hli
        | some t =>
          rw [Option.some_or]
          have hin := look_mem e
          refine puts_hit (by omega) (List.mem_map.2 ⟨(1 + ring + k, t), List.mem_map.2 ⟨_, hin, rfl⟩, by unfold fw; rw [full_of_full (hW.2 _ hin).2]⟩) fun t' ht' => ?_
          obtain ⟨i, hi, hli, _⟩ := hmem _ ht'
          obtain rfl : i = k := by simp only at hi; omega
          rw [e] at hli
          injection hli with hli
          exact hli.symm
      · rename_i hk
        exact List.getElem?_eq_none (by rw [Dk.puts_length]; omega)
    rw [hr]
    generalize fl (wrs (false, d) (homeWrites ring (gained gs))) = s at *
    obtain ⟨b, e⟩ := s
    simp only at h1 h2 h3 h4 h5 hG1 hlen1 hdrop
    subst h1
    have e1 : fl (wr (false, e) (0, first d.firm.length ring ((a + total gs) % ring) (n + gs.length))) = fl (wrs (false, e) [(0, first d.firm.length ring ((a + total gs) % ring) (n + gs.length))]) := rfl
    rw [e1]
    rcases burst [(0, first d.firm.length ring ((a + total gs) % ring) (n + gs.length))] e h2 h4 (by
      intro x hx
      rw [List.mem_singleton.1 hx]
      exact ⟨by show 0 < _; omega, by rw [first_length]; decide⟩) with ⟨k1, k2, k3, k4, k5⟩ | ⟨k1, k2, k3, ⟨j, k4⟩, k5⟩
    · refine .inl ⟨k1, k2, k4, ?_, fun hf => k5 (h5 hf)⟩
      rw [k3, ← hlen1]
      exact hG1.first_set hdrop
    · refine .inr ⟨k1, k2, fun keep => ?_, ?_⟩
      · rw [k3, k4]
        have hkk : kept keep (([(0, first d.firm.length ring ((a + total gs) % ring) (n + gs.length))].take j).map fw) = [] ∨ kept keep (([(0, first d.firm.length ring ((a + total gs) % ring) (n + gs.length))].take j).map fw) = [fw (0, first d.firm.length ring ((a + total gs) % ring) (n + gs.length))] := by
          rcases take_one_map (0, first d.firm.length ring ((a + total gs) % ring) (n + gs.length)) j with e | e
          · rw [e]; exact .inl (Dk.kept_nil _)
          · rw [e]; exact kept_one _ _
        rcases hkk with e' | e'
        · rw [e', Dk.puts_nil]
          exact ⟨a, n, gs, H, hG1, rfl, Nat.le_refl _⟩
        · rw [e', ← hlen1]
          exact ⟨_, _, [], H, hG1.first_set hdrop, rfl, by simp⟩
      · rcases Int.lt_or_le d.fuel 0 with hn | hn
        · have := h5 hn; omega
        · exact hn
  · have hr : r = (true, (fl (wrs (false, d) (homeWrites ring (gained gs)))).2) := by
      show fl (wr (fl (wrs (false, d) (homeWrites ring (gained gs)))) _) = _
      generalize fl (wrs (false, d) (homeWrites ring (gained gs))) = s at *
      obtain ⟨b, e⟩ := s
      simp only at h1
      subst h1
      rfl
    rw [hr]
    refine .inr ⟨rfl, h2, fun keep => ⟨a, n, gs, H, ?_, rfl, Nat.le_refl _⟩, h5⟩
    rw [h3, h4]
    exact h.toHomes _ fun x hx => hmem x (map_fw_take _ j x (Dk.kept_mem _ _ _ hx))

/-! ### A group. -/
def ringWrites (ring a : Nat) (ts : List Text) : List (Nat × Text) := ts.mapIdx fun k t => (pos ring (a + 1 + k), t)
theorem mem_ringWrites {ring a : Nat} {ts : List Text} {x : Nat × Text} : x ∈ ringWrites ring a ts ↔ ∃ k t, ts[k]? = some t ∧ x = (pos ring (a + 1 + k), t) := by
  unfold ringWrites
  rw [List.mem_mapIdx]
  constructor
  · rintro ⟨k, hk, rfl⟩; exact ⟨k, _, List.getElem?_eq_getElem hk, rfl⟩
  · rintro ⟨k, t, hk, rfl⟩
    obtain ⟨h1, h2⟩ := List.getElem?_eq_some_iff.1 hk
    exact ⟨k, h1, by rw [h2]⟩
theorem ringWrites_mod (ring a : Nat) (ts : List Text) : ringWrites ring (a % ring) ts = ringWrites ring a ts := by
  unfold ringWrites
  congr 1
  funext k t
  rw [Nat.add_assoc, Nat.add_assoc, pos_mod]
theorem Good.head_set {ring : Nat} {F : List Text} {a n : Nat} {gs : List Grp} {H : List Text} (h : Good ring F a n gs H) (g : Grp) (hg : g ≠ []) (hf : Fits H.length g) (ht : total gs + sizeOf g.length ≤ ring) (hn : n + gs.length + 1 < 1000000)
    (hp : ∀ k t, (putsTexts g)[k]? = some t → F[pos ring (a + total gs + 1 + k)]? = some (full t)) :
    Good ring (puts F [fw (pos ring (a + total gs), head (n + gs.length) g.length)]) a n (gs ++ [g]) (puts H g) := by
  have hr : 0 < ring := by have := h.r1; omega
  have hr2 := h.r2
  have hlen := h.len
  have hn1 := h.n_pos
  have hgl : 1 ≤ g.length := List.length_pos_iff.2 hg
  have hsz := sizeOf_ge g.length hgl
  have hpl := putsTexts_length hf.2
  have hpp := pos_lt hr (a + total gs)
  obtain ⟨X, hX⟩ : ∃ X, X = full (head (n + gs.length) g.length) := ⟨_, rfl⟩
  have e0 : puts F [fw (pos ring (a + total gs), head (n + gs.length) g.length)] = F.set (pos ring (a + total gs)) X := by rw [hX]; rfl
  rw [e0]
  have hX5 : X.length = 512 := by rw [hX]; exact Dk.full_length _ (by rw [head_length]; decide)
  have hXr : readHead X ring = (n + gs.length, g.length, true) := by rw [hX]; exact readHead_head _ _ _ (by omega) (by omega) hgl (by omega) (by omega) h.r2
  have hdrop : (F.set (pos ring (a + total gs)) X).drop (1 + ring) = F.drop (1 + ring) := by rw [List.drop_set, if_pos (by omega)]
  refine ⟨h.r1, h.r2, by rw [List.length_set, Dk.puts_length]; exact hlen, by rw [Dk.puts_length]; exact h.hpos, by rw [List.length_set]; exact h.hmax, ?_, ?_, h.a_lt, hn1, by rw [List.length_append]; exact hn, ?_, ?_, ?_, ?_, ?_⟩
  · intro s hs
    rcases List.mem_or_eq_of_mem_set hs with hs | rfl
    · exact h.all s hs
    · exact hX5
  · rw [List.length_set, List.getElem?_set_ne (by omega)]; exact h.first
  · refine Laid.append (h.laid.same (fun x hx => (h.fits x hx).2) fun i hi => ?_) ⟨?_, fun k t hk => ?_, trivial⟩
    · rw [List.getElem?_set_ne]
      intro e
      have := pos_inj e.symm (by omega) (by omega)
      omega
    · rw [List.getElem?_set_self (by omega), hX]
    · have hk' := (List.getElem?_eq_some_iff.1 hk).1
      rw [List.getElem?_set_ne]
      · exact hp k t hk
      · intro e
        have := pos_inj e (by omega) (by omega)
        omega
  · rw [total_append, total_one]; exact ht
  · intro x hx
    rw [Dk.puts_length]
    rcases List.mem_append.1 hx with hx | hx
    · exact h.fits x hx
    · rw [List.mem_singleton.1 hx]; exact ⟨hg, hf⟩
  · intro i hi
    by_cases e : pos ring (a + total gs) = 1 + i
    · refine ⟨X, by rw [← e, List.getElem?_set_self (by omega)], .inr (.inr ⟨_, _, hXr, ?_⟩)⟩
      rw [List.length_append]; exact Nat.lt_succ_self _
    · obtain ⟨s, h1, h2⟩ := (h.old i hi).mono (M := n + (gs ++ [g]).length) (by rw [List.length_append]; omega)
      exact ⟨s, by rw [List.getElem?_set_ne e]; exact h1, h2⟩
  · rw [hdrop, gained_append, puts_merge _ (gained_rising gs) hf.1, ← h.homes]
def recorded (ring a n : Nat) (g : Grp) (s : Bool × Disk) : Bool × Disk := fl (wr (fl (wrs s (ringWrites ring a (putsTexts g)))) (pos ring a, head n g.length))
theorem record_step {ring : Nat} {d : Disk} {a n : Nat} {gs : List Grp} {H : List Text} (h : Good ring d.firm a n gs H) (ho : d.off = false) (hl : d.loose = []) (g : Grp) (hg : g ≠ []) (hf : Fits H.length g)
    (ht : total gs + sizeOf g.length ≤ ring) (hn : n + gs.length + 1 < 1000000) :
    let r := recorded ring ((a + total gs) % ring) (n + gs.length) g (false, d)
    (r.1 = false ∧ r.2.off = false ∧ r.2.loose = [] ∧ Good ring r.2.firm a n (gs ++ [g]) (puts H g) ∧ (d.fuel < 0 → r.2.fuel < 0)) ∨
    (r.1 = true ∧ r.2.off = true ∧ Safe ring (n + gs.length + 1) r.2 (fun K => K = H ∨ K = puts H g) ∧ 0 ≤ d.fuel) := by
  intro r
  have hr0 : 0 < ring := by have := h.r1; omega
  have hlen := h.len
  have hpl := putsTexts_length hf.2
  have hr : r = fl (wr (fl (wrs (false, d) (ringWrites ring (a + total gs) (putsTexts g)))) (pos ring (a + total gs), head (n + gs.length) g.length)) := by
    show recorded _ _ _ _ _ = _
    unfold recorded
    rw [ringWrites_mod, show pos ring ((a + total gs) % ring) = pos ring (a + total gs) from by have := pos_mod ring (a + total gs) 0; simpa using this]
  have hmem : ∀ x ∈ (ringWrites ring (a + total gs) (putsTexts g)).map fw, ∃ i, x.1 = pos ring (a + total gs + i) ∧ total gs + i < ring ∧ isPuts x.2 = true ∧ x.2.length = 512 := by
    intro x hx
    obtain ⟨y, hy, rfl⟩ := List.mem_map.1 hx
    obtain ⟨k, t, hk, rfl⟩ := mem_ringWrites.1 hy
    obtain ⟨hk1, hk2⟩ := List.getElem?_eq_some_iff.1 hk
    have hin : t ∈ putsTexts g := List.mem_of_getElem? hk
    exact ⟨1 + k, by rw [← Nat.add_assoc]; rfl, by omega, putsTexts_isPuts g t hin, Dk.full_length _ (putsTexts_le g t hin)⟩
  have hok : ∀ x ∈ ringWrites ring (a + total gs) (putsTexts g), x.1 < d.firm.length ∧ x.2.length ≤ 512 := by
    intro x hx
    obtain ⟨k, t, hk, rfl⟩ := mem_ringWrites.1 hx
    have := pos_lt hr0 (a + total gs + 1 + k)
    exact ⟨by show pos _ _ < _; omega, putsTexts_le g t (List.mem_of_getElem? hk)⟩
  have hpp := pos_lt hr0 (a + total gs)
  rw [hr]
  rcases burst (ringWrites ring (a + total gs) (putsTexts g)) d ho hl hok with ⟨h1, h2, h3, h4, h5⟩ | ⟨h1, h2, h3, ⟨j, h4⟩, h5⟩
  · have hG1 := h.toRing _ hmem
    have hp : ∀ k t, (putsTexts g)[k]? = some t → (puts d.firm ((ringWrites ring (a + total gs) (putsTexts g)).map fw))[pos ring (a + total gs + 1 + k)]? = some (full t) := by
      intro k t hk
      have hk1 := (List.getElem?_eq_some_iff.1 hk).1
      have := pos_lt hr0 (a + total gs + 1 + k)
      refine puts_hit (by omega) (List.mem_map.2 ⟨_, mem_ringWrites.2 ⟨k, t, hk, rfl⟩, rfl⟩) fun t' ht' => ?_
      obtain ⟨y, hy, hye⟩ := List.mem_map.1 ht'
      obtain ⟨k', t2, hk', rfl⟩ := mem_ringWrites.1 hy
      have hk2 := (List.getElem?_eq_some_iff.1 hk').1
      unfold fw at hye
      injection hye with e1 e2
      simp only at e1 e2
      have : k' = k := by
        rcases Nat.le_total k' k with hle | hle
        · have := pos_inj e1 (by omega) (by omega); omega
        · have := pos_inj e1.symm (by omega) (by omega); omega
      subst this
      rw [hk] at hk'
      injection hk' with hk'
      rw [← e2, hk']
    rw [← h3] at hG1 hp
    have hlen1 : (fl (wrs (false, d) (ringWrites ring (a + total gs) (putsTexts g)))).2.firm.length = d.firm.length := by rw [h3, Dk.puts_length]
    generalize fl (wrs (false, d) (ringWrites ring (a + total gs) (putsTexts g))) = s at *
    obtain ⟨b, e⟩ := s
    simp only at h1 h2 h3 h4 h5 hG1 hlen1 hp
    subst h1
    have hH := hG1.head_set g hg hf ht hn hp
    have e1 : fl (wr (false, e) (pos ring (a + total gs), head (n + gs.length) g.length)) = fl (wrs (false, e) [(pos ring (a + total gs), head (n + gs.length) g.length)]) := rfl
    rw [e1]
    rcases burst [(pos ring (a + total gs), head (n + gs.length) g.length)] e h2 h4 (by
      intro x hx
      rw [List.mem_singleton.1 hx]
      exact ⟨by show pos _ _ < _; omega, by rw [head_length]; decide⟩) with ⟨k1, k2, k3, k4, k5⟩ | ⟨k1, k2, k3, ⟨j, k4⟩, k5⟩
    · refine .inl ⟨k1, k2, k4, ?_, fun hf => k5 (h5 hf)⟩
      rw [k3]
      exact hH
    · refine .inr ⟨k1, k2, fun keep => ?_, ?_⟩
      · rw [k3, k4]
        have hkk : kept keep (([(pos ring (a + total gs), head (n + gs.length) g.length)].take j).map fw) = [] ∨ kept keep (([(pos ring (a + total gs), head (n + gs.length) g.length)].take j).map fw) = [fw (pos ring (a + total gs), head (n + gs.length) g.length)] := by
          rcases take_one_map (pos ring (a + total gs), head (n + gs.length) g.length) j with e | e
          · rw [e]; exact .inl (Dk.kept_nil _)
          · rw [e]; exact kept_one _ _
        rcases hkk with e' | e'
        · rw [e', Dk.puts_nil]
          exact ⟨a, n, gs, H, hG1, .inl rfl, by omega⟩
        · rw [e']
          exact ⟨_, _, _, _, hH, .inr rfl, by rw [List.length_append]; exact Nat.le_refl _⟩
      · rcases Int.lt_or_le d.fuel 0 with hn | hn
        · have := h5 hn; omega
        · exact hn
  · have hr' : fl (wr (fl (wrs (false, d) (ringWrites ring (a + total gs) (putsTexts g)))) (pos ring (a + total gs), head (n + gs.length) g.length)) = (true, (fl (wrs (false, d) (ringWrites ring (a + total gs) (putsTexts g)))).2) := by
      generalize fl (wrs (false, d) (ringWrites ring (a + total gs) (putsTexts g))) = s at *
      obtain ⟨b, e⟩ := s
      simp only at h1
      subst h1
      rfl
    rw [hr']
    refine .inr ⟨rfl, h2, fun keep => ⟨a, n, gs, H, ?_, .inl rfl, by omega⟩, h5⟩
    rw [h3, h4]
    exact h.toRing _ fun x hx => hmem x (map_fw_take _ j x (Dk.kept_mem _ _ _ hx))
end Wl
end Go.Proofs.YthkblabpiajbhaaDoor
