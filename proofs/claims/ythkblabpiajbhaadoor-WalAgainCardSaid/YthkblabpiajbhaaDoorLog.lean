/- A log as the program has it in memory: Log w F b g s: block b holds the log s on the disk in block g; F: all blocks that it is in. -/
import Derived.Test.YthkblabpiajbhaaDoorSecFlush
import Derived.Test.YthkblabpiajbhaaDoorIMap
import Derived.Test.YthkblabpiajbhaaDoorLogLive
namespace Go.Proofs.YthkblabpiajbhaaDoor
open Go.RowKit

def lcells (g mb : Nat) (s : Wl.Lg) : List Value := [ptr g, .int .i64 s.ring, .int .i64 s.homes, .int .i64 s.place, .int .u64 s.num, .int .i64 s.filled, .map (some mb), .bool s.down]
abbrev KInt : TypeId := 3
/-- A map of contents. -/
abbrev CMap (w : World) (b : Nat) (m : Wl.Grp) : Prop := IMap Tryd.prog KInt contentE w b m
structure LogP (w : World) (F : Nat → Prop) (b g mb : Nat) (FD : Nat → Prop) (s : Wl.Lg) : Prop where
  blk : Blk w b 57 (lcells g mb s)
  mp : CMap w mb s.wait
  sec : Sec w FD g s.d
  nb : ¬ FD b
  nm : ¬ FD mb
  fb : F b
  fm : F mb
  fd : ∀ k, FD k → F k
  lt : ∀ k, F k → k < w.heap.size
def Log (w : World) (F : Nat → Prop) (b g : Nat) (s : Wl.Lg) : Prop := ∃ mb FD, LogP w F b g mb FD s
/-- What of a log's numbers is small. -/
structure Bnd (s : Wl.Lg) : Prop where
  r1 : 4 ≤ s.ring
  r2 : s.ring ≤ 4096
  h : s.homes ≤ 65536
  p : s.place < s.ring
  n : s.num < 1000000
  f : s.filled ≤ 1000000
  w : Wl.Fits s.homes s.wait
  wl : s.wait.length ≤ 65536
  len : s.d.firm.length = 1 + s.ring + s.homes
theorem Wl.Live.bnd {ring N : Nat} {s : Wl.Lg} {H : List (List UInt8)} (h : Wl.Live ring N s H) : Bnd s := by
  obtain ⟨h1, h2, h3, h4, h5, h6, h7, h8, h9, h10, h11, h12, _⟩ := h.read
  have e1 := h.ring_eq
  have e2 := h.homes_eq
  exact ⟨by omega, by omega, by omega, by omega, by omega, by omega, ⟨h2, h1⟩, h12, by omega⟩

def both (F G : Nat → Prop) (k : Nat) : Prop := F k ∨ G k
theorem Moved.both {F FD FD' : Nat → Prop} {w w1 : World} (hfd : ∀ k, FD k → F k) (h : Moved FD w FD' w1) : Moved F w (both F FD') w1 :=
  ⟨h.1.mono fun k _ hk => hfd k hk, fun k hk => by
    rcases hk with hk | hk
    · exact .inl hk
    · rcases h.2 k hk with h' | h'
      · exact .inl (hfd k h')
      · exact .inr h'⟩
theorem not_moved {FD FD' : Nat → Prop} {w w1 : World} (h : Moved FD w FD' w1) {b : Nat} (hb : b < w.heap.size) (hn : ¬ FD b) : ¬ FD' b := fun hk => by
  rcases h.2 b hk with h' | h'
  · exact hn h'
  · omega
namespace LogP
variable {w w1 : World} {F FD FD' : Nat → Prop} {b g mb : Nat} {s : Wl.Lg}
theorem log (h : LogP w F b g mb FD s) : Log w F b g s := ⟨mb, FD, h⟩
theorem c0 (h : LogP w F b g mb FD s) : w.cell? ⟨b, 0, none⟩ = some (.pointer (some ⟨g, 0, none⟩)) := h.blk.cell rfl
theorem c1 (h : LogP w F b g mb FD s) : w.cell? ⟨b, 1, none⟩ = some (.int .i64 s.ring) := h.blk.cell rfl
theorem c2 (h : LogP w F b g mb FD s) : w.cell? ⟨b, 2, none⟩ = some (.int .i64 s.homes) := h.blk.cell rfl
theorem c3 (h : LogP w F b g mb FD s) : w.cell? ⟨b, 3, none⟩ = some (.int .i64 s.place) := h.blk.cell rfl
theorem c4 (h : LogP w F b g mb FD s) : w.cell? ⟨b, 4, none⟩ = some (.int .u64 s.num) := h.blk.cell rfl
theorem c5 (h : LogP w F b g mb FD s) : w.cell? ⟨b, 5, none⟩ = some (.int .i64 s.filled) := h.blk.cell rfl
theorem c6 (h : LogP w F b g mb FD s) : w.cell? ⟨b, 6, none⟩ = some (.map (some mb)) := h.blk.cell rfl
theorem c7 (h : LogP w F b g mb FD s) : w.cell? ⟨b, 7, none⟩ = some (.bool s.down) := h.blk.cell rfl
theorem mne (h : LogP w F b g mb FD s) : mb ≠ b := h.mp.ne_blk h.blk
/-- The disk was turned. -/
theorem turned (h : LogP w F b g mb FD s) {d : Dk.Disk} (hs : Sec w1 FD' g d) (hm : Moved FD w FD' w1) : LogP w1 (both F FD') b g mb FD' { s with d := d } ∧ Moved F w (both F FD') w1 :=
  ⟨⟨h.blk.but hm.1 h.nb, h.mp.but hm.1 h.nm, hs, not_moved hm (h.lt b h.fb) h.nb, not_moved hm (h.lt mb h.fm) h.nm, .inl h.fb, .inl h.fm, fun k hk => .inr hk, fun k hk => by
    rcases hk with hk | hk
    · exact Nat.lt_of_lt_of_le (h.lt k hk) hm.1.size
    · exact hs.lt k hk⟩, hm.both h.fd⟩
/-- Nothing of it was turned. -/
theorem but {S : Nat → Prop} (h : LogP w F b g mb FD s) (hb : But S w w1) (hn : ∀ k, F k → ¬ S k) : LogP w1 F b g mb FD s :=
  ⟨h.blk.but hb (hn b h.fb), h.mp.but hb (hn mb h.fm), h.sec.but hb (fun k hk => hn k (h.fd k hk)), h.nb, h.nm, h.fb, h.fm, h.fd, fun k hk => Nat.lt_of_lt_of_le (h.lt k hk) hb.size⟩
theorem below (h : LogP w F b g mb FD s) (hb : Below w.heap.size w w1) : LogP w1 F b g mb FD s := h.but (But.of_below hb (fun _ => False)) (fun _ _ hf => hf)
/-- A store into the log's own block. -/
theorem set (h : LogP w F b g mb FD s) (j : Nat) (u : Value) (s' : Wl.Lg) (hc : (lcells g mb s).set j u = lcells g mb s') (hw : s'.wait = s.wait) (hd : s'.d = s.d) : LogP (w.setCell ⟨b, j, none⟩ u) F b g mb FD s' ∧ Moved F w F (w.setCell ⟨b, j, none⟩ u) := by
  have hb : But (· = b) w (w.setCell ⟨b, j, none⟩ u) := (But.refl _ w).setCell _ _ (fun _ => rfl)
  refine ⟨⟨?_, ?_, ?_, h.nb, h.nm, h.fb, h.fm, h.fd, fun k hk => Nat.lt_of_lt_of_le (h.lt k hk) hb.size⟩, hb.mono (fun k _ e => e ▸ h.fb), fun k hk => .inl hk⟩
  · rw [← hc]; exact h.blk.set j u
  · rw [hw]; exact h.mp.but hb h.mne
  · rw [hd]; exact h.sec.but hb (fun k hk e => h.nb (e ▸ hk))
end LogP
theorem Log.lt {w : World} {F : Nat → Prop} {b g : Nat} {s : Wl.Lg} (h : Log w F b g s) : ∀ k, F k → k < w.heap.size := by
  obtain ⟨_, _, h⟩ := h
  exact h.lt
theorem Log.but {S : Nat → Prop} {w w1 : World} {F : Nat → Prop} {b g : Nat} {s : Wl.Lg} (h : Log w F b g s) (hb : But S w w1) (hn : ∀ k, F k → ¬ S k) : Log w1 F b g s := by
  obtain ⟨_, _, h⟩ := h
  exact (h.but hb hn).log
theorem Log.below {w w1 : World} {F : Nat → Prop} {b g : Nat} {s : Wl.Lg} (h : Log w F b g s) (hb : Below w.heap.size w w1) : Log w1 F b g s := by
  obtain ⟨_, _, h⟩ := h
  exact (h.below hb).log
end Go.Proofs.YthkblabpiajbhaaDoor
