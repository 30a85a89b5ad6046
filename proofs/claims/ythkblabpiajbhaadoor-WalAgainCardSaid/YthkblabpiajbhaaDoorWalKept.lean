/- A log that is up over a disk without a limit, for the laws: what stands outside it (A) stays. -/
import Derived.Test.YthkblabpiajbhaaDoorWalHolds
import Derived.Test.YthkblabpiajbhaaDoorSecFall
namespace Go.Proofs.YthkblabpiajbhaaDoor
open Go.RowKit Lib

/-- In block b there is a log over disk g, up, without a limit; its homes hold H; none of its blocks is of A. -/
def Kept (A : Nat → Prop) (ring : Nat) (wr : World) (b g N : Nat) (H : List Wl.Text) : Prop :=
  ∃ F s, Log wr F b g s ∧ Wl.Live ring N s H ∧ s.d.fuel < 0 ∧ (∀ x, F x → ¬ A x) ∧ ∀ x, A x → x < wr.heap.size
/-- What a call may turn: not A. -/
abbrev Off (A : Nat → Prop) (w w' : World) : Prop := But (fun x => ¬ A x) w w'
theorem Off.below {A : Nat → Prop} {B : Nat} {w w' : World} (h : Off A w w') (hA : ∀ x, x < B → A x) (hB : B ≤ w.heap.size) : Below B w w' := But.below h hB (fun k hk hn => hn (hA k hk))
theorem Kept.aside {A : Nat → Prop} {ring b g N : Nat} {H : List Wl.Text} {w w' : World} (h : Kept A ring w b g N H) (hb : Below w.heap.size w w') : Kept A ring w' b g N H := by
  obtain ⟨F, s, hl, hv, hf, ha, hlt⟩ := h
  exact ⟨F, s, hl.below hb, hv, hf, ha, fun x hx => Nat.lt_of_lt_of_le (hlt x hx) hb.size⟩
/-- A block that is new is let be from here on. -/
theorem Kept.more {A : Nat → Prop} {ring b g N : Nat} {H : List Wl.Text} {w w' : World} (h : Kept A ring w b g N H) (hb : Below w.heap.size w w') (q : Nat) (hq : w.heap.size ≤ q) (hq' : q < w'.heap.size) : Kept (fun x => A x ∨ x = q) ring w' b g N H := by
  obtain ⟨F, s, hl, hv, hf, ha, hlt⟩ := h
  refine ⟨F, s, hl.below hb, hv, hf, fun x hx hn => ?_, fun x hx => ?_⟩
  · rcases hn with hn | hn
    · exact ha x hx hn
    · have := hl.lt x hx; omega
  · rcases hx with hx | hx
    · exact Nat.lt_of_lt_of_le (hlt x hx) hb.size
    · omega
theorem Kept.fewer {A A' : Nat → Prop} {ring b g N : Nat} {H : List Wl.Text} {w : World} (h : Kept A ring w b g N H) (hA : ∀ x, A' x → A x) : Kept A' ring w b g N H := by
  obtain ⟨F, s, hl, hv, hf, ha, hlt⟩ := h
  exact ⟨F, s, hl, hv, hf, fun x hx hn => ha x hx (hA x hn), fun x hx => hlt x (hA x hx)⟩
theorem Kept.left {A : Nat → Prop} {ring b g N : Nat} {H : List Wl.Text} {w w' : World} {F F' : Nat → Prop} {s' : Wl.Lg} (ha : ∀ x, F x → ¬ A x) (hlt : ∀ x, A x → x < w.heap.size) (hL : Log w' F' b g s') (hM : Moved F w F' w') (hv : Wl.Live ring N s' H) (hf : s'.d.fuel < 0) :
    Kept A ring w' b g N H ∧ Off A w w' :=
  ⟨⟨F', s', hL, hv, hf, fun x hx hn => by
    rcases hM.2 x hx with h | h
    · exact ha x h hn
    · have := hlt x hn; omega, fun x hx => Nat.lt_of_lt_of_le (hlt x hx) hM.1.size⟩, hM.1.mono (fun x _ hx => ha x hx)⟩
def KeptTo (A : Nat → Prop) (ring : Nat) (w w' : World) (b g N : Nat) (H : List Wl.Text) : Prop := Kept A ring w' b g N H ∧ Off A w w'
theorem kept_commit {A : Nat → Prop} {ring b g N : Nat} {H : List Wl.Text} {w : World} (h : Kept A ring w b g N H) (hN : N + 1 < 1000000) (va : Value) (ll : List (Value × List PutD)) (ha : RdL w va ll) :
    Calls Tryd.prog 8 #[ptr b, va] w fun e w' => e = .returned (.int .i64 (Wl.comm ring H (ptsL ll)).1) ∧ KeptTo A ring w w' b g (N + 1) (Wl.comm ring H (ptsL ll)).2 := by
  obtain ⟨F, s, hl, hv, hf, hA, hlt⟩ := h
  refine (commit_live w F b g ring N s H va ll hl hv hN ha).mono ?_
  rintro e w' ⟨F', s', hL, hM, hq⟩
  rcases hq with ⟨rfl, hv', hf'⟩ | ⟨_, _, hbad⟩
  · exact ⟨rfl, Kept.left hA hlt hL hM hv' (hf' hf)⟩
  · omega
theorem kept_check {A : Nat → Prop} {ring b g N : Nat} {H : List Wl.Text} {w : World} (h : Kept A ring w b g N H) :
    Calls Tryd.prog 10 #[ptr b] w fun e w' => e = .returned (.int .i64 0) ∧ KeptTo A ring w w' b g N H := by
  obtain ⟨F, s, hl, hv, hf, hA, hlt⟩ := h
  refine (check_live w F b g ring N s H hl hv).mono ?_
  rintro e w' ⟨F', s', hL, hM, hq⟩
  rcases hq with ⟨rfl, hv', hf'⟩ | ⟨_, _, hbad⟩
  · exact ⟨rfl, Kept.left hA hlt hL hM hv' (hf' hf)⟩
  · omega
theorem kept_read {A : Nat → Prop} {ring b g N : Nat} {H : List Wl.Text} {w : World} (h : Kept A ring w b g N H) (i : Int) :
    Calls Tryd.prog 9 #[ptr b, .int .i64 i] w fun e w' => e = .returned (.tuple #[.string (bs (homeOf H i).1), .int .i64 (homeOf H i).2]) ∧ Below w.heap.size w w' := by
  obtain ⟨F, s, hl, hv, hf, hA, hlt⟩ := h
  exact read_live w F b g ring N s H i hl hv
theorem kept_holds {A : Nat → Prop} {ring b g N : Nat} {H T : List Wl.Text} {w : World} (h : Kept A ring w b g N H) (vt : Value) (ht : Reads w vt T) (hT : T.length ≤ 1000000) :
    Calls Tryd.prog 12 #[ptr b, vt] w fun e w' => e = .returned (.bool (decide (H = T))) ∧ Below w.heap.size w w' := by
  obtain ⟨F, s, hl, hv, hf, hA, hlt⟩ := h
  exact holds_live w F b g ring N s H T vt hl hv ht hT
/-- The disk g behind a fall: a log stands on it whose homes hold H. -/
def Fallen (A : Nat → Prop) (ring : Nat) (w : World) (g N : Nat) (H : List Wl.Text) : Prop :=
  ∃ FD d, Sec w FD g d ∧ d.off = false ∧ d.loose = [] ∧ d.fuel < 0 ∧ (∃ a n gs, Wl.Good ring d.firm a n gs H ∧ n + gs.length ≤ N) ∧ (∀ x, FD x → ¬ A x) ∧ ∀ x, A x → x < w.heap.size
theorem kept_fall {A : Nat → Prop} {ring b g N : Nat} {H : List Wl.Text} {w : World} (h : Kept A ring w b g N H) (vk : Value) (keep : List Bool) (hk : RdB w vk keep) (hv : ∀ q, vk.ownBlock = some q → A q) :
    Calls Tryd.prog 11 #[ptr g, vk] w fun e w' => e = .returned (.tuple #[]) ∧ Fallen A ring w' g N H ∧ Off A w w' := by
  obtain ⟨F, s, hl, hlv, hf, hA, hlt⟩ := h
  obtain ⟨FD, hs, hfd⟩ := hl.sec
  refine (fall_any w FD g s.d vk keep hs hk (fun _ q hq hn => hA q (hfd q hn) (hv q hq))).mono ?_
  rintro e w' ⟨rfl, hs', hM⟩
  obtain ⟨a, n, gs, K, hg, rfl, hN⟩ := hlv.safe keep
  exact ⟨rfl, ⟨FD, _, hs', rfl, rfl, by show (-1 : Int) < 0; decide, ⟨a, n, gs, hg, hN⟩, fun x hx => hA x (hfd x hx), fun x hx => Nat.lt_of_lt_of_le (hlt x hx) hM.1.size⟩, hM.1.mono (fun x _ hx => hA x (hfd x hx))⟩
theorem fallen_open {A : Nat → Prop} {ring g N : Nat} {H : List Wl.Text} {w : World} (h : Fallen A ring w g N H) :
    Calls Tryd.prog 7 #[ptr g, .int .i64 ring] w fun e w' => ∃ b, e = .returned (.tuple #[ptr b, .int .i64 0]) ∧ KeptTo A ring w w' b g N H := by
  obtain ⟨FD, d, hs, h1, h2, h3, ⟨a, n, gs, hg, hN⟩, hA, hlt⟩ := h
  refine (open_live w FD g ring N d a n gs H hs hg h1 h2 hN).mono ?_
  rintro e w' ⟨b, F', s', hL, hM, hq⟩
  rcases hq with ⟨rfl, hv', hf'⟩ | ⟨_, _, hbad⟩
  · exact ⟨b, rfl, Kept.left hA hlt hL hM hv' (hf' h3)⟩
  · omega
/-- New, then Open. -/
theorem kept_begun {A : Nat → Prop} {g ring size : Nat} {w : World} {FD : Nat → Prop} (hs : Sec w FD g (Dk.fresh size)) (hA : ∀ x, FD x → ¬ A x) (hlt : ∀ x, A x → x < w.heap.size) (hr1 : 4 ≤ ring) (hr2 : ring ≤ 4096) (hs1 : ring + 2 ≤ size) (hs2 : size ≤ 65536) :
    Calls Tryd.prog 7 #[ptr g, .int .i64 ring] w fun e w' => ∃ b, e = .returned (.tuple #[ptr b, .int .i64 0]) ∧ KeptTo A ring w w' b g 1 (Wl.noughts (size - 1 - ring)) := by
  refine (open_begun w FD g ring size hs hr1 hr2 hs1 hs2).mono ?_
  rintro e w' ⟨b, rfl, F', s', hL, hM, hv, hf⟩
  exact ⟨b, rfl, Kept.left hA hlt hL hM hv hf⟩
/-- One put of a log of 20 homes, which has room. -/
theorem comm_one {ring : Nat} {H : List Wl.Text} (hr : 3 ≤ ring) (a : Nat) (ha : a < H.length) (t : Wl.Text) (ht : t.length ≤ 512) : Wl.comm ring H [((a : Int), t)] = (0, Dk.puts H [(a, Dk.full t)]) := by
  have hg : Wl.gather H.length [] [((a : Int), t)] = (0, [(a, Dk.full t)]) := by
    simp only [Wl.gather]
    rw [if_neg (by omega), if_neg (by omega), Int.toNat_natCast]
    rfl
  unfold Wl.comm
  have h1 : Wl.sizeOf 1 = 3 := by decide
  rw [hg, if_neg (by simp), if_neg (by show ¬ ring < Wl.sizeOf 1; omega)]
end Go.Proofs.YthkblabpiajbhaaDoor
