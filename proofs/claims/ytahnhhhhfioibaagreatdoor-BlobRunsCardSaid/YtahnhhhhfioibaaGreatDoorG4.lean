/- Elder texts, merged (4). -/
import Derived.Test.YtahnhhhhfioibaaGreatDoorG1
import Derived.Test.YtahnhhhhfioibaaGreatDoorG3
import Derived.Maps.OwnSet
import Derived.Maps.RangeWalk
import Derived.Maps.Ext
import Derived.Lib.Hide
import Derived.Lib.SlKeysI
import Derived.Laws.Tables
import Derived.Laws.Rows
import Derived.Test.YtahnhhhhfioibaaGreatDoorIter
import Derived.Lib.SlMapMerge
import Derived.StillTailTactics
import Derived.Test.YtahnhhhhfioibaaGreatDoorG2
namespace Go.Proofs.YtahnhhhhfioibaaGreatDoor
open Go.RowKit Go.Maps
open Wl (Grp ins Rising)

/-- How a map's elements, texts, stand in memory. -/
structure ME where
  enc : List UInt8 → Value
  R : Value → Option (DataW Unit × List MemPlace)
  fits : List UInt8 → Prop
  read : ∀ l, fits l → R (enc l) = some (.lit (.string l), [])
  inv : ∀ v y, R v = some y → ∃ l, v = enc l ∧ fits l ∧ y = (.lit (.string l), [])

/-! ### Contents: 512 bytes. -/
def ctext (l : List UInt8) : Value := .agg (l.map bcell).toArray
def unbyte : Value → Option UInt8
  | .int .u8 n => if 0 ≤ n ∧ n ≤ 255 then some (UInt8.ofNat n.toNat) else none
  | _ => none
def unbytes : List Value → Option (List UInt8)
  | [] => some []
  | v :: r => match unbyte v, unbytes r with
    | some b, some l => some (b :: l)
    | _, _ => none
def readC : Value → Option (DataW Unit × List MemPlace)
  | .agg cs => match unbytes cs.toList with
    | some l => if l.length = 512 then some (.lit (.string l), []) else none
    | none => none
  | _ => none
theorem unbyte_bcell (b : UInt8) : unbyte (bcell b) = some b := by
  have := b.toNat_lt
  unfold unbyte bcell
  simp only
  rw [if_pos (by omega)]
  simp
theorem unbytes_map : ∀ l : List UInt8, unbytes (l.map bcell) = some l
  | [] => rfl
  | b :: l => by simp only [List.map_cons, unbytes, unbyte_bcell, unbytes_map l]
theorem unbyte_inv {v : Value} {b : UInt8} (h : unbyte v = some b) : v = bcell b := by
  unfold unbyte at h
  split at h
  · rename_i n
    split at h
    · injection h with h
      subst h
      unfold bcell
      rw [UInt8.toNat_ofNat']
      congr 1
      omega
    · cases h
  · cases h
theorem unbytes_inv : ∀ {cs : List Value} {l : List UInt8}, unbytes cs = some l → cs = l.map bcell
  | [], l, h => by injection h with h; subst h; rfl
  | v :: r, l, h => by
    unfold unbytes at h
    split at h
    · rename_i b l' h1 h2
      injection h with h
      subst h
      rw [List.map_cons, unbyte_inv h1, unbytes_inv h2]
    · cases h
theorem readC_ctext {l : List UInt8} (h : l.length = 512) : readC (ctext l) = some (.lit (.string l), []) := by
  unfold readC ctext
  simp only [unbytes_map]
  rw [if_pos h]
theorem readC_inv {v : Value} {y : DataW Unit × List MemPlace} (h : readC v = some y) : ∃ l, v = ctext l ∧ l.length = 512 ∧ y = (.lit (.string l), []) := by
  unfold readC at h
  split at h
  · rename_i cs
    split at h
    · rename_i l hl
      split at h
      · rename_i h5
        injection h with h
        refine ⟨l, ?_, h5, h.symm⟩
        unfold ctext
        rw [← unbytes_inv hl]
      · cases h
    · cases h
  · cases h
def contentE : ME := ⟨ctext, readC, fun l => l.length = 512, fun _ h => readC_ctext h, fun _ _ h => readC_inv h⟩

/-! ### What a map holds. -/
def ent (x : Nat × List UInt8) : Lit × DataW Unit := (.int .i64 x.1, .lit (.string x.2))
def dat (m : Grp) : DataW Unit := .map (m.map ent)
theorem ent_same (x : Nat × List UInt8) (k : Nat) : (ent x).1.sameKey (.int .i64 k) = decide (x.1 = k) := by
  simp only [ent, Lit.sameKey, true_and]
  exact decide_eq_decide.2 ⟨fun h => by omega, fun h => by omega⟩
theorem dat_find (m : Grp) (k : Nat) : ((m.map ent).find? (fun p => p.1.sameKey (.int .i64 k))).map (·.2) = (Wl.look k m).map fun t => .lit (.string t) := by
  induction m with
  | nil => rfl
  | cons x m ih =>
    rw [List.map_cons, List.find?_cons, ent_same]
    unfold Wl.look
    by_cases h : x.1 = k
    · rw [if_pos h, decide_eq_true h]; rfl
    · rw [if_neg h, decide_eq_false h]; exact ih
theorem dat_at_some {m : Grp} {k : Nat} {t : List UInt8} (h : Wl.look k m = some t) (z : DataW Unit) : (dat m).atKey (.int .i64 k) z = .lit (.string t) := by
  have := dat_find m k
  rw [h] at this
  unfold dat DataW.atKey
  simp only
  cases e : (m.map ent).find? (fun p => p.1.sameKey (.int .i64 k)) with
  | none => rw [e] at this; cases this
  | some p => rw [e] at this; injection this
theorem dat_at_none {m : Grp} {k : Nat} (h : Wl.look k m = none) (z : DataW Unit) : (dat m).atKey (.int .i64 k) z = z := by
  have := dat_find m k
  rw [h] at this
  unfold dat DataW.atKey
  simp only
  cases e : (m.map ent).find? (fun p => p.1.sameKey (.int .i64 k)) with
  | none => rfl
  | some p => rw [e] at this; cases this
theorem dat_has (m : Grp) (k : Nat) : Maps.has (dat m) (.int .i64 k) = (Wl.look k m).isSome := by
  show (m.map ent).any (fun p => p.1.sameKey (.int .i64 k)) = _
  induction m with
  | nil => rfl
  | cons x m ih =>
    rw [List.map_cons, List.any_cons, ent_same]
    unfold Wl.look
    by_cases h : x.1 = k
    · rw [if_pos h, decide_eq_true h]; rfl
    · rw [if_neg h, decide_eq_false h, ih]; rfl
theorem dat_size (m : Grp) : Maps.size (dat m) = m.length := by show (m.map ent).length = _; rw [List.length_map]
theorem dat_keys (m : Grp) : intKeys (dat m) = m.map fun x => (x.1 : Int) := by
  show (m.map ent).map (fun p => Go.intOf p.1) = _
  rw [List.map_map]; rfl
theorem filter_above (k : Nat) : ∀ m : Grp, (∀ x ∈ m, k < x.1) → (m.map ent).filter (fun p => !p.1.sameKey (.int .i64 k)) = m.map ent
  | [], _ => rfl
  | x :: m, h => by
    rw [List.map_cons, List.filter_cons, ent_same, decide_eq_false (by have := h x List.mem_cons_self; omega), filter_above k m fun y hy => h y (List.mem_cons_of_mem _ hy)]
    rfl
theorem insert_above (k : Nat) (t : List UInt8) : ∀ m : Grp, (∀ x ∈ m, k < x.1) → DataW.insert (ent (k, t)) (m.map ent) = ent (k, t) :: m.map ent
  | [], _ => rfl
  | x :: m, h => by
    have hb : (ent (k, t)).1.before (ent x).1 = true := by
      have := h x List.mem_cons_self
      show decide ((k : Int) < (x.1 : Int)) = true
      exact decide_eq_true (by omega)
    rw [List.map_cons]
    unfold DataW.insert
    rw [if_pos hb]
theorem dat_put (k : Nat) (t : List UInt8) : ∀ m : Grp, Rising m → DataW.insert (ent (k, t)) ((m.map ent).filter (fun p => !p.1.sameKey (.int .i64 k))) = (ins k t m).map ent
  | [], _ => rfl
  | x :: m, hr => by
    obtain ⟨h1, h2⟩ := List.pairwise_cons.1 hr
    unfold ins
    by_cases hk : k < x.1
    · rw [if_pos hk, filter_above k (x :: m) (fun y hy => by
        rcases List.mem_cons.1 hy with rfl | hy
        · exact hk
        · exact Nat.lt_trans hk (h1 y hy)), insert_above k t (x :: m) (fun y hy => by
        rcases List.mem_cons.1 hy with rfl | hy
        · exact hk
        · exact Nat.lt_trans hk (h1 y hy))]
      rfl
    · rw [if_neg hk]
      by_cases he : k = x.1
      · rw [if_pos he, List.map_cons, List.filter_cons, ent_same, decide_eq_true he.symm]
        rw [if_neg (by decide), filter_above k m (fun y hy => by have := h1 y hy; omega), insert_above k t m (fun y hy => by have := h1 y hy; omega)]
        rfl
      · rw [if_neg he, List.map_cons, List.filter_cons, ent_same, decide_eq_false (by omega), if_pos (by decide)]
        have hb : ¬ (ent (k, t)).1.before (ent x).1 = true := by
          show ¬ decide ((k : Int) < (x.1 : Int)) = true
          rw [decide_eq_true_eq]; omega
        unfold DataW.insert
        rw [if_neg hb, dat_put k t m h2]
        rfl
theorem dat_ins (k : Nat) (t : List UInt8) (m : Grp) (hr : Rising m) : (dat m).put (.int .i64 k) (.lit (.string t)) = dat (ins k t m) := by
  show DataW.map _ = DataW.map _
  rw [← dat_put k t m hr]
  rfl

/-! ### A map in memory. -/
section
variable {P : Program} {T E : TypeId} (M : ME) {w w' : World} {b : Nat} {m : Grp}
/-- Block b is a map that holds m. -/
def IMap (P : Program) (K : TypeId) (M : ME) (w : World) (b : Nat) (m : Grp) : Prop :=
  w.ownsMap P K M.R b m.length (dat m) ∧ Rising m ∧ ∀ x ∈ m, x.1 ≤ 1000000
variable {K : TypeId}
theorem key_wf {k : Nat} (h : k ≤ 1000000) : (Lit.int .i64 (k : Int)).wf = true := by
  simp [Lit.wf, IntKind.min, IntKind.max, IntKind.signed, IntKind.bits]
  omega
theorem ownsMap_len {n : Nat} (h : w.ownsMap P K M.R b n (dat m)) : w.ownsMap P K M.R b m.length (dat m) := by
  obtain ⟨es, clock, hb, F, _, hD⟩ := h
  refine ⟨es, clock, hb, F, ?_, hD⟩
  have : Maps.size (dat m) = es.size := by rw [hD]; simp [Maps.size, length_sorted]
  rw [dat_size] at this
  omega
theorem IMap.kept {M : ME} {row : Option Nat} (h : IMap P K M w b m) (hg : w.grownBy w' row) (hne : some b ≠ row) : IMap P K M w' b m := ⟨h.1.kept hg hne, h.2⟩
theorem IMap.lt {M : ME} (h : IMap P K M w b m) : b < w.heap.size := h.1.lt
theorem IMap.but {M : ME} {S : Nat → Prop} (h : IMap P K M w b m) (hb : But S w w') (hn : ¬ S b) : IMap P K M w' b m := by
  obtain ⟨⟨es, clock, h1, r⟩, h2⟩ := h
  exact ⟨⟨es, clock, (hb.block b (Array.getElem?_eq_some_iff.1 h1).1 hn).trans h1, r⟩, h2⟩
theorem IMap.isMap {M : ME} (h : IMap P K M w b m) : ∃ es clock, w.heap[b]? = some (.map es clock) := by
  obtain ⟨⟨es, clock, h1, _⟩, _⟩ := h
  exact ⟨es, clock, h1⟩
theorem IMap.ne_blk {M : ME} {g : Nat} {t : TypeId} {cs : List Value} (h : IMap P K M w b m) (hg : Blk w g t cs) : b ≠ g := by
  intro e
  obtain ⟨es, clock, h1⟩ := h.isMap
  unfold Blk at hg
  rw [e, hg] at h1
  cases h1
theorem IMap.made (P : Program) (K : TypeId) (M : ME) (w : World) : IMap P K M (w.alloc (.map #[] 0)) w.heap.size [] :=
  ⟨World.ownsMap_made w P K M.R, List.Pairwise.nil, fun x hx => by cases hx⟩
/-- m[k] with ok. -/
theorem IMap.look_some {M : ME} (h : IMap P K M w b m) (hk : P.underlying K = some (.int .i64)) (ht : P.underlying T = some (.map K E)) {z : List UInt8} (hz : (zeroValue E).run P w = .ok (M.enc z) w) (hzf : M.fits z)
    {k : Nat} (hkw : k ≤ 1000000) {t : List UInt8} (hl : Wl.look k m = some t) : (Instr.lookup T (.map (some b)) (.int .i64 k) true).run P w = .ok (.tuple #[M.enc t, .bool true]) w ∧ M.fits t := by
  obtain ⟨v, ps, hr, hv⟩ := h.1.look_ok (int_keyed hk) ht hz (M.read z hzf) (keyOf_int_mk hk (key_wf hkw))
  rw [dat_at_some hl] at hv
  rw [dat_has, hl] at hr
  obtain ⟨l, rfl, hf, he⟩ := M.inv _ _ hv
  injection he with he _
  injection he with he
  injection he with he
  subst he
  exact ⟨hr, hf⟩
theorem IMap.look_none {M : ME} (h : IMap P K M w b m) (hk : P.underlying K = some (.int .i64)) (ht : P.underlying T = some (.map K E)) {z : List UInt8} (hz : (zeroValue E).run P w = .ok (M.enc z) w) (hzf : M.fits z)
    {k : Nat} (hkw : k ≤ 1000000) (hl : Wl.look k m = none) : (Instr.lookup T (.map (some b)) (.int .i64 k) true).run P w = .ok (.tuple #[M.enc z, .bool false]) w := by
  obtain ⟨v, ps, hr, hv⟩ := h.1.look_ok (int_keyed hk) ht hz (M.read z hzf) (keyOf_int_mk hk (key_wf hkw))
  rw [dat_at_none hl] at hv
  rw [dat_has, hl] at hr
  obtain ⟨l, rfl, hf, he⟩ := M.inv _ _ hv
  injection he with he _
  injection he with he
  injection he with he
  subst he
  exact hr
/-- m[k] without ok. -/
theorem IMap.at {M : ME} (h : IMap P K M w b m) (hk : P.underlying K = some (.int .i64)) (ht : P.underlying T = some (.map K E)) {z : List UInt8} (hz : (zeroValue E).run P w = .ok (M.enc z) w) (hzf : M.fits z)
    {k : Nat} (hkw : k ≤ 1000000) {t : List UInt8} (hl : Wl.look k m = some t) : (Instr.lookup T (.map (some b)) (.int .i64 k) false).run P w = .ok (M.enc t) w ∧ M.fits t := by
  obtain ⟨v, ps, hr, hv⟩ := h.1.lookup (int_keyed hk) ht hz (M.read z hzf) (keyOf_int_mk hk (key_wf hkw))
  rw [dat_at_some hl] at hv
  obtain ⟨l, rfl, hf, he⟩ := M.inv _ _ hv
  injection he with he _
  injection he with he
  injection he with he
  subst he
  exact ⟨hr, hf⟩
theorem IMap.fits {M : ME} (h : IMap P K M w b m) (hk : P.underlying K = some (.int .i64)) (ht : P.underlying T = some (.map K E)) {z : List UInt8} (hz : (zeroValue E).run P w = .ok (M.enc z) w) (hzf : M.fits z) : ∀ x ∈ m, M.fits x.2 :=
  fun x hx => (h.at hk ht hz hzf (h.2.2 x hx) (Wl.look_of_mem h.2.1 (show (x.1, x.2) ∈ m from hx))).2
/-- m[k] = t. -/
theorem IMap.store {M : ME} (h : IMap P K M w b m) (hk : P.underlying K = some (.int .i64)) (ht : P.underlying T = some (.map K E)) (hn : m.length ≤ 1000000) {k : Nat} (hkw : k ≤ 1000000) {t : List UInt8} (hf : M.fits t) :
    ∃ w', (Instr.mapUpdate T (.map (some b)) (.int .i64 k) (M.enc t)).run P w = .ok () w' ∧ IMap P K M w' b (ins k t m) ∧ w.grownBy w' (some b) := by
  obtain ⟨w', h1, h2, h3⟩ := h.1.update (int_keyed hk) ht (by unfold maxLen; omega) (keyOf_int_mk hk (key_wf hkw)) (M.read t hf)
  rw [dat_ins k t m h.2.1] at h2
  exact ⟨w', h1, ⟨ownsMap_len M h2, Wl.ins_rising k t h.2.1, fun x hx => by
    rcases Wl.ins_mem hx with rfl | hx
    · exact hkw
    · exact h.2.2 x hx⟩, h3⟩
/-- At the operation, for the walk. -/
theorem wpList_store {M : ME} {ops : Array Oper} {rest : List Oper} {o : Oper} {a : Act} {Q : Exit → Act → World → Prop} (hg : o.guard = none) (mm x v : Operand) (hop : o.op = Op.mapUpdate T mm x v)
    (h : IMap P K M w b m) (hk : P.underlying K = some (.int .i64)) (ht : P.underlying T = some (.map K E)) (hn : m.length ≤ 1000000) (k : Nat) (hkw : k ≤ 1000000) (t : List UInt8) (hf : M.fits t)
    (hm : a.eval mm = .map (some b)) (hx : a.eval x = .int .i64 k) (hv : a.eval v = M.enc t)
    (hK : ∀ w', IMap P K M w' b (ins k t m) → w.grownBy w' (some b) → wpList P ops Q rest (a.put o.dst undef) w') : wpList P ops Q (o :: rest) a w := by
  refine wpList_plain hg fun K' hK' => ?_
  obtain ⟨w', hr, h1, h2⟩ := h.store hk ht hn hkw hf
  unfold Oper.wp
  simp [execOp, hop, hm, hx, hv, hr, Result.andThen]
  exact hK' _ _ (hK w' h1 h2)
theorem IMap.len {M : ME} (h : IMap P K M w b m) (ht : P.underlying T = some (.map K E)) (ty : TypeId) : (Builtin.len_ #[T] ty #[.map (some b)]).run P w = .ok (.int .i64 m.length) w := by
  have := h.1.len ht ty
  rw [dat_size] at this
  exact this
end
end Go.Proofs.YtahnhhhhfioibaaGreatDoor

namespace Go.Proofs.YtahnhhhhfioibaaGreatDoor
open Go.RowKit

def lcells (g mb : Nat) (s : Wl.Lg) : List Value := [ptr g, .int .i64 s.ring, .int .i64 s.homes, .int .i64 s.place, .int .u64 s.num, .int .i64 s.filled, .map (some mb), .bool s.down]
abbrev KInt : TypeId := 3
/-- A map of contents. -/
abbrev CMap (w : World) (b : Nat) (m : Wl.Grp) : Prop := IMap Tryz.prog KInt contentE w b m
structure LogP (w : World) (F : Nat → Prop) (b g mb : Nat) (FD : Nat → Prop) (s : Wl.Lg) : Prop where
  blk : Blk w b 93 (lcells g mb s)
  mp : CMap w mb s.wait
  sec : Sec w FD g s.d
  nb : ¬ FD b
  nm : ¬ FD mb
  fb : F b
  fm : F mb
  fd : ∀ k, FD k → F k
  lt : ∀ k, F k → k < w.heap.size
def Log (w : World) (F : Nat → Prop) (b g : Nat) (s : Wl.Lg) : Prop := ∃ mb FD, LogP w F b g mb FD s
/-- What of a log's numbers is small. -/
structure Bnd (s : Wl.Lg) : Prop where
  r1 : 4 ≤ s.ring
  r2 : s.ring ≤ 4096
  h : s.homes ≤ 65536
  p : s.place < s.ring
  n : s.num < 1000000
  f : s.filled ≤ 1000000
  w : Wl.Fits s.homes s.wait
  wl : s.wait.length ≤ 65536
  len : s.d.firm.length = 1 + s.ring + s.homes
theorem Wl.Live.bnd {ring N : Nat} {s : Wl.Lg} {H : List (List UInt8)} (h : Wl.Live ring N s H) : Bnd s := by
  obtain ⟨h1, h2, h3, h4, h5, h6, h7, h8, h9, h10, h11, h12, _⟩ := h.read
  have e1 := h.ring_eq
  have e2 := h.homes_eq
  exact ⟨by omega, by omega, by omega, by omega, by omega, by omega, ⟨h2, h1⟩, h12, by omega⟩

def both (F G : Nat → Prop) (k : Nat) : Prop := F k ∨ G k
theorem Moved.both {F FD FD' : Nat → Prop} {w w1 : World} (hfd : ∀ k, FD k → F k) (h : Moved FD w FD' w1) : Moved F w (both F FD') w1 :=
  ⟨h.1.mono fun k _ hk => hfd k hk, fun k hk => by
    rcases hk with hk | hk
    · exact .inl hk
    · rcases h.2 k hk with h' | h'
      · exact .inl (hfd k h')
      · exact .inr h'⟩
theorem not_moved {FD FD' : Nat → Prop} {w w1 : World} (h : Moved FD w FD' w1) {b : Nat} (hb : b < w.heap.size) (hn : ¬ FD b) : ¬ FD' b := fun hk => by
  rcases h.2 b hk with h' | h'
  · exact hn h'
  · omega
namespace LogP
variable {w w1 : World} {F FD FD' : Nat → Prop} {b g mb : Nat} {s : Wl.Lg}
theorem log (h : LogP w F b g mb FD s) : Log w F b g s := ⟨mb, FD, h⟩
theorem c0 (h : LogP w F b g mb FD s) : w.cell? ⟨b, 0, none⟩ = some (.pointer (some ⟨g, 0, none⟩)) := h.blk.cell rfl
theorem c1 (h : LogP w F b g mb FD s) : w.cell? ⟨b, 1, none⟩ = some (.int .i64 s.ring) := h.blk.cell rfl
theorem c2 (h : LogP w F b g mb FD s) : w.cell? ⟨b, 2, none⟩ = some (.int .i64 s.homes) := h.blk.cell rfl
theorem c3 (h : LogP w F b g mb FD s) : w.cell? ⟨b, 3, none⟩ = some (.int .i64 s.place) := h.blk.cell rfl
theorem c4 (h : LogP w F b g mb FD s) : w.cell? ⟨b, 4, none⟩ = some (.int .u64 s.num) := h.blk.cell rfl
theorem c5 (h : LogP w F b g mb FD s) : w.cell? ⟨b, 5, none⟩ = some (.int .i64 s.filled) := h.blk.cell rfl
theorem c6 (h : LogP w F b g mb FD s) : w.cell? ⟨b, 6, none⟩ = some (.map (some mb)) := h.blk.cell rfl
theorem c7 (h : LogP w F b g mb FD s) : w.cell? ⟨b, 7, none⟩ = some (.bool s.down) := h.blk.cell rfl
theorem mne (h : LogP w F b g mb FD s) : mb ≠ b := h.mp.ne_blk h.blk
/-- The disk was turned. -/
theorem turned (h : LogP w F b g mb FD s) {d : Dk.Disk} (hs : Sec w1 FD' g d) (hm : Moved FD w FD' w1) : LogP w1 (both F FD') b g mb FD' { s with d := d } ∧ Moved F w (both F FD') w1 :=
  ⟨⟨h.blk.but hm.1 h.nb, h.mp.but hm.1 h.nm, hs, not_moved hm (h.lt b h.fb) h.nb, not_moved hm (h.lt mb h.fm) h.nm, .inl h.fb, .inl h.fm, fun k hk => .inr hk, fun k hk => by
    rcases hk with hk | hk
    · exact Nat.lt_of_lt_of_le (h.lt k hk) hm.1.size
    · exact hs.lt k hk⟩, hm.both h.fd⟩
/-- Nothing of it was turned. -/
theorem but {S : Nat → Prop} (h : LogP w F b g mb FD s) (hb : But S w w1) (hn : ∀ k, F k → ¬ S k) : LogP w1 F b g mb FD s :=
  ⟨h.blk.but hb (hn b h.fb), h.mp.but hb (hn mb h.fm), h.sec.but hb (fun k hk => hn k (h.fd k hk)), h.nb, h.nm, h.fb, h.fm, h.fd, fun k hk => Nat.lt_of_lt_of_le (h.lt k hk) hb.size⟩
theorem below (h : LogP w F b g mb FD s) (hb : Below w.heap.size w w1) : LogP w1 F b g mb FD s := h.but (But.of_below hb (fun _ => False)) (fun _ _ hf => hf)
/-- A store into the log's own block. -/
theorem set (h : LogP w F b g mb FD s) (j : Nat) (u : Value) (s' : Wl.Lg) (hc : (lcells g mb s).set j u = lcells g mb s') (hw : s'.wait = s.wait) (hd : s'.d = s.d) : LogP (w.setCell ⟨b, j, none⟩ u) F b g mb FD s' ∧ Moved F w F (w.setCell ⟨b, j, none⟩ u) := by
  have hb : But (· = b) w (w.setCell ⟨b, j, none⟩ u) := (But.refl _ w).setCell _ _ (fun _ => rfl)
  refine ⟨⟨?_, ?_, ?_, h.nb, h.nm, h.fb, h.fm, h.fd, fun k hk => Nat.lt_of_lt_of_le (h.lt k hk) hb.size⟩, hb.mono (fun k _ e => e ▸ h.fb), fun k hk => .inl hk⟩
  · rw [← hc]; exact h.blk.set j u
  · rw [hw]; exact h.mp.but hb h.mne
  · rw [hd]; exact h.sec.but hb (fun k hk e => h.nb (e ▸ hk))
end LogP
theorem Log.lt {w : World} {F : Nat → Prop} {b g : Nat} {s : Wl.Lg} (h : Log w F b g s) : ∀ k, F k → k < w.heap.size := by
  obtain ⟨_, _, h⟩ := h
  exact h.lt
theorem Log.but {S : Nat → Prop} {w w1 : World} {F : Nat → Prop} {b g : Nat} {s : Wl.Lg} (h : Log w F b g s) (hb : But S w w1) (hn : ∀ k, F k → ¬ S k) : Log w1 F b g s := by
  obtain ⟨_, _, h⟩ := h
  exact (h.but hb hn).log
theorem Log.below {w w1 : World} {F : Nat → Prop} {b g : Nat} {s : Wl.Lg} (h : Log w F b g s) (hb : Below w.heap.size w w1) : Log w1 F b g s := by
  obtain ⟨_, _, h⟩ := h
  exact (h.below hb).log
end Go.Proofs.YtahnhhhhfioibaaGreatDoor

namespace Go.Proofs.YtahnhhhhfioibaaGreatDoor
open Go.RowKit Lib

theorem ldown_nil (w : World) : Calls Tryz.prog 55 #[.pointer none] w fun e w' => e = .returned (.bool true) ∧ w' = w := by
  go_enter Tryz.func55, Tryz.ntmps55
  go_wp2
  go_ret
  exact ⟨rfl, rfl⟩
theorem ldown_any (w : World) (F : Nat → Prop) (b g : Nat) (s : Wl.Lg) (hl : Log w F b g s) :
    Calls Tryz.prog 55 #[ptr b] w fun e w' => e = .returned (.bool s.off) ∧ w' = w := by
  obtain ⟨mb, FD, h⟩ := hl
  have c0 := h.c0
  have c7 := h.c7
  have HS := Lib.hid h.sec
  clear h
  unfold Wl.Lg.off
  cases hd : s.down
  · rw [hd] at c7
    go_enter Tryz.func55, Tryz.ntmps55
    unfold ptr
    go_wp2_with fail
    refine (down_any _ _ _ _ HS.out).mono ?_
    rintro e w1 ⟨rfl, rfl⟩
    go_wp2
    go_ret
    exact ⟨rfl, rfl⟩
  · rw [hd] at c7
    go_enter Tryz.func55, Tryz.ntmps55
    unfold ptr
    go_wp2
    go_ret
    exact ⟨rfl, rfl⟩
theorem homes_nil (w : World) : Calls Tryz.prog 47 #[.pointer none] w fun e w' => e = .returned (.int .i64 0) ∧ w' = w := by
  go_enter Tryz.func47, Tryz.ntmps47
  go_wp2
  go_ret
  exact ⟨rfl, rfl⟩
theorem homes_any (w : World) (F : Nat → Prop) (b g : Nat) (s : Wl.Lg) (hl : Log w F b g s) :
    Calls Tryz.prog 47 #[ptr b] w fun e w' => e = .returned (.int .i64 s.homes) ∧ w' = w := by
  obtain ⟨mb, FD, h⟩ := hl
  have c2 := h.c2
  clear h
  go_enter Tryz.func47, Tryz.ntmps47
  unfold ptr
  go_wp2
  go_ret
  exact ⟨rfl, rfl⟩
def Wl.Lg.has (s : Wl.Lg) (i : Int) : Bool := decide (0 ≤ i) && decide (i < s.homes)
theorem lhas_any (w : World) (F : Nat → Prop) (b g : Nat) (s : Wl.Lg) (i : Int) (hl : Log w F b g s) :
    Calls Tryz.prog 56 #[ptr b, .int .i64 i] w fun e w' => e = .returned (.bool (s.has i)) ∧ w' = w := by
  obtain ⟨mb, FD, h⟩ := hl
  have c2 := h.c2
  clear h
  unfold Wl.Lg.has
  by_cases hi : 0 ≤ i
  · go_enter Tryz.func56, Tryz.ntmps56
    unfold ptr
    go_wp2
    go_ret
    refine ⟨ret_bool' ?_, rfl⟩
    simp [hi]
  · go_enter Tryz.func56, Tryz.ntmps56
    unfold ptr
    go_wp2
    go_ret
    refine ⟨ret_bool' ?_, rfl⟩
    simp only [Bool.false_eq, Bool.and_eq_false_iff, decide_eq_false_iff_not]
    omega
theorem sectorOf_any (w : World) (F : Nat → Prop) (b g : Nat) (s : Wl.Lg) (i : Nat) (hl : Log w F b g s) (hr : s.ring ≤ 4096) (hi : i ≤ 1000000) :
    Calls Tryz.prog 58 #[ptr b, .int .i64 i] w fun e w' => e = .returned (.int .i64 ((1 + s.ring + i : Nat) : Int)) ∧ w' = w := by
  obtain ⟨mb, FD, h⟩ := hl
  have c1 := h.c1
  clear h
  have hr' : (s.ring : Int) ≤ 4096 := by omega
  have hi' : (i : Int) ≤ 1000000 := by omega
  go_enter Tryz.func58, Tryz.ntmps58
  unfold ptr
  go_wp2
  go_ret
  exact ⟨ret_int' (by omega), rfl⟩
theorem sectorOfRing_any (w : World) (F : Nat → Prop) (b g : Nat) (s : Wl.Lg) (i : Nat) (hl : Log w F b g s) (hr : s.ring ≤ 4096) (hr1 : 1 ≤ s.ring) (hi : i ≤ 1000000) :
    Calls Tryz.prog 109 #[ptr b, .int .i64 i] w fun e w' => e = .returned (.int .i64 (Wl.pos s.ring i : Nat)) ∧ w' = w := by
  obtain ⟨mb, FD, h⟩ := hl
  have c1 := h.c1
  clear h
  have hr' : (s.ring : Int) ≤ 4096 := by omega
  have hr1' : (1 : Int) ≤ s.ring := by omega
  have hr0 : ((s.ring : Int) == 0) = false := by rw [beq_eq_false_iff_ne]; omega
  have hi' : (i : Int) ≤ 1000000 := by omega
  have hm : (i : Int) % (s.ring : Int) < 4096 := by have := Int.emod_lt_of_pos (i : Int) (b := (s.ring : Int)) (by omega); omega
  have hm0 : 0 ≤ (i : Int) % (s.ring : Int) := Int.emod_nonneg _ (by omega)
  go_enter Tryz.func109, Tryz.ntmps109
  unfold ptr
  go_wp2
  go_ret
  exact ⟨ret_int' (by unfold Wl.pos; omega), rfl⟩
theorem sizeOf_any (w : World) (n : Nat) (hn : n ≤ 1000000) : Calls Tryz.prog 82 #[.int .i64 n] w fun e w' => e = .returned (.int .i64 (Wl.sizeOf n : Nat)) ∧ w' = w := by
  have hn' : (n : Int) ≤ 1000000 := by omega
  go_enter Tryz.func82, Tryz.ntmps82
  go_wp2
  go_ret
  exact ⟨ret_int' (by unfold Wl.sizeOf; omega), rfl⟩
end Go.Proofs.YtahnhhhhfioibaaGreatDoor

namespace Go.Proofs.YtahnhhhhfioibaaGreatDoor
open Go.RowKit Lib

theorem Wl.Lg.with_same (s : Wl.Lg) : s.with (s.down, s.d) = s := by cases s; rfl
set_option maxHeartbeats 1000000 in
theorem lwrite_any (w : World) (F : Nat → Prop) (b g : Nat) (s : Wl.Lg) (i : Nat) (t : ByteArray) (hl : Log w F b g s) (hn : s.d.loose.length ≤ 900000000) :
    Calls Tryz.prog 71 #[ptr b, .int .i64 i, .string t] w fun e w' => e = .returned (.tuple #[]) ∧ ∃ F', Log w' F' b g (s.with (Wl.wr (s.down, s.d) (i, t.data.toList))) ∧ Moved F w F' w' := by
  obtain ⟨mb, FD, h⟩ := hl
  have c0 := h.c0
  have c7 := h.c7
  have HH := Lib.hid h
  clear h
  by_cases hd : s.down = true
  · have HR : s.with (Wl.wr (s.down, s.d) (i, t.data.toList)) = s := by
      rw [hd, Wl.wr_down, ← hd, Wl.Lg.with_same]
    rw [HR]
    clear HR
    rw [hd] at c7
    clear hd
    go_enter Tryz.func71, Tryz.ntmps71
    unfold ptr
    go_wp2
    refine bodyPost_end (results_none rfl _ _ _) rfl ?_
    exact ⟨rfl, F, HH.out.log, Moved.refl _ _⟩
  · have hd' : s.down = false := by simpa using hd
    have HR : s.with (Wl.wr (s.down, s.d) (i, t.data.toList)) = { s with down := decide ((s.d.write i t.data.toList).1 ≠ 0), d := (s.d.write i t.data.toList).2 } := by
      unfold Wl.wr Wl.Lg.with
      rw [hd']
      rfl
    rw [HR]
    rw [hd'] at c7
    have HW := Lib.hid (Lib.hid hd')
    clear HR hd hd'
    go_enter Tryz.func71, Tryz.ntmps71
    unfold ptr
    go_wp2_with fail
    refine (write_any w FD g s.d i t HH.out.sec hn).mono ?_
    rintro e w1 ⟨rfl, FD', hs1, hm1⟩
    obtain ⟨hp, hm⟩ := HH.out.turned hs1 hm1
    have k7 := hp.c7
    have f7 := hp.blk.frozen 7
    have e7 : ({ s with d := (s.d.write i t.data.toList).2 } : Wl.Lg).down = false := HW.out.out
    rw [e7] at k7
    have HP := Lib.hid (And.intro hp hm)
    clear hs1 hm1 hp hm e7
    generalize hq : s.d.write i t.data.toList = q at *
    obtain ⟨c, d'⟩ := q
    simp only at HP ⊢
    have HQ := Lib.hid hq
    clear hq c0 c7
    by_cases hc : c = 0
    · subst hc
      go_wp2
      refine bodyPost_end (results_none rfl _ _ _) rfl ?_
      refine ⟨rfl, _, ?_, HP.out.2⟩
      rw [HQ.out]
      have e : ({ s with down := decide ((0 : Int) ≠ 0), d := d' } : Wl.Lg) = { s with d := d' } := by
        have := HW.out.out
        cases s; simp only at this; subst this; rfl
      rw [e]
      exact HP.out.1.log
    · have hc1 : (c != 0) = true := by rw [bne_iff_ne]; exact hc
      have hc2 : (c == 0) = false := beq_eq_false_iff_ne.2 hc
      have HC := Lib.hid hc
      clear hc
      go_wp2
      refine bodyPost_end (results_none rfl _ _ _) rfl ?_
      rw [HQ.out]
      have hs := HP.out.1.set 7 (.bool true) { s with down := decide (c ≠ 0), d := d' } (by rw [decide_eq_true HC.out]; rfl) rfl rfl
      exact ⟨rfl, _, hs.1.log, HP.out.2.trans hs.2⟩
set_option maxHeartbeats 1000000 in
theorem lflush_any (w : World) (F : Nat → Prop) (b g : Nat) (s : Wl.Lg) (hl : Log w F b g s) :
    Calls Tryz.prog 44 #[ptr b] w fun e w' => e = .returned (.tuple #[]) ∧ ∃ F', Log w' F' b g (s.with (Wl.fl (s.down, s.d))) ∧ Moved F w F' w' := by
  obtain ⟨mb, FD, h⟩ := hl
  have c0 := h.c0
  have c7 := h.c7
  have HH := Lib.hid h
  clear h
  by_cases hd : s.down = true
  · have HR : s.with (Wl.fl (s.down, s.d)) = s := by
      rw [hd, Wl.fl_down, ← hd, Wl.Lg.with_same]
    rw [HR]
    clear HR
    rw [hd] at c7
    clear hd
    go_enter Tryz.func44, Tryz.ntmps44
    unfold ptr
    go_wp2
    refine bodyPost_end (results_none rfl _ _ _) rfl ?_
    exact ⟨rfl, F, HH.out.log, Moved.refl _ _⟩
  · have hd' : s.down = false := by simpa using hd
    have HR : s.with (Wl.fl (s.down, s.d)) = { s with down := decide (s.d.flush.1 ≠ 0), d := s.d.flush.2 } := by
      unfold Wl.fl Wl.Lg.with
      rw [hd']
      rfl
    rw [HR]
    rw [hd'] at c7
    have HW := Lib.hid (Lib.hid hd')
    clear HR hd hd'
    go_enter Tryz.func44, Tryz.ntmps44
    unfold ptr
    go_wp2_with fail
    refine (flush_any w FD g s.d HH.out.sec).mono ?_
    rintro e w1 ⟨rfl, hs1, hm1⟩
    obtain ⟨hp, hm⟩ := HH.out.turned hs1 hm1
    have k7 := hp.c7
    have f7 := hp.blk.frozen 7
    have e7 : ({ s with d := s.d.flush.2 } : Wl.Lg).down = false := HW.out.out
    rw [e7] at k7
    have HP := Lib.hid (And.intro hp hm)
    clear hs1 hm1 hp hm e7
    generalize hq : s.d.flush = q at *
    obtain ⟨c, d'⟩ := q
    simp only at HP ⊢
    have HQ := Lib.hid hq
    clear hq c0 c7
    by_cases hc : c = 0
    · subst hc
      go_wp2
      refine bodyPost_end (results_none rfl _ _ _) rfl ?_
      refine ⟨rfl, _, ?_, HP.out.2⟩
      rw [HQ.out]
      have e : ({ s with down := decide ((0 : Int) ≠ 0), d := d' } : Wl.Lg) = { s with d := d' } := by
        have := HW.out.out
        cases s; simp only at this; subst this; rfl
      rw [e]
      exact HP.out.1.log
    · have hc1 : (c != 0) = true := by rw [bne_iff_ne]; exact hc
      have hc2 : (c == 0) = false := beq_eq_false_iff_ne.2 hc
      have HC := Lib.hid hc
      clear hc
      go_wp2
      refine bodyPost_end (results_none rfl _ _ _) rfl ?_
      rw [HQ.out]
      have hs := HP.out.1.set 7 (.bool true) { s with down := decide (c ≠ 0), d := d' } (by rw [decide_eq_true HC.out]; rfl) rfl rfl
      exact ⟨rfl, _, hs.1.log, HP.out.2.trans hs.2⟩
theorem held_any (w : World) (F : Nat → Prop) (b g : Nat) (s : Wl.Lg) (i : Int) (hl : Log w F b g s) :
    Calls Tryz.prog 70 #[ptr b, .int .i64 i] w fun e w' => e = .returned (.string (bs (s.d.read i).1)) ∧ w' = w := by
  obtain ⟨mb, FD, h⟩ := hl
  have c0 := h.c0
  have HS := Lib.hid h.sec
  clear h
  go_enter Tryz.func70, Tryz.ntmps70
  unfold ptr
  go_wp2_with fail
  refine (read_any w FD g s.d i HS.out).mono ?_
  rintro e w1 ⟨rfl, rfl⟩
  go_wp2
  go_ret
  exact ⟨rfl, rfl⟩
theorem heldInRing_any (w : World) (F : Nat → Prop) (b g : Nat) (s : Wl.Lg) (i : Nat) (hl : Log w F b g s) (hr : s.ring ≤ 4096) (hr1 : 1 ≤ s.ring) (hi : i ≤ 1000000) :
    Calls Tryz.prog 75 #[ptr b, .int .i64 i] w fun e w' => e = .returned (.string (bs (s.d.read (Wl.pos s.ring i : Nat)).1)) ∧ w' = w := by
  have HL := Lib.hid hl
  clear hl
  go_enter Tryz.func75, Tryz.ntmps75
  go_wp2_with fail
  refine (sectorOfRing_any w F b g s i HL.out hr hr1 hi).mono ?_
  rintro e w1 ⟨rfl, rfl⟩
  go_wp2_with fail
  refine (held_any w1 F b g s _ HL.out).mono ?_
  rintro e w2 ⟨rfl, rfl⟩
  go_wp2
  go_ret
  exact ⟨rfl, rfl⟩
/-- What an up disk's sector has. -/
theorem Dk.read_on {d : Dk.Disk} (ho : d.off = false) {i : Nat} (h : i < d.firm.length) : d.read i = (d.now.getD i [], 0) := by
  unfold Dk.Disk.read
  rw [ho, if_neg (by decide), if_pos (by simp [Dk.Disk.has, h])]
  rfl
theorem Dk.read_at {d : Dk.Disk} (ho : d.off = false) {i : Nat} {t : List UInt8} (h : d.now[i]? = some t) : d.read i = (t, 0) := by
  have hl : i < d.firm.length := by
    have := (List.getElem?_eq_some_iff.1 h).1
    rw [Dk.Disk.now, Dk.puts_length] at this
    exact this
  rw [Dk.read_on ho hl, List.getD_eq_getElem?_getD, h]; rfl
end Go.Proofs.YtahnhhhhfioibaaGreatDoor

namespace Go.Proofs.YtahnhhhhfioibaaGreatDoor
open Go.RowKit Lib

theorem rest_take (s : ByteArray) : ((s.extract 1 s.size).extract 0 8).data.toList = (s.data.toList.drop 1).take 8 := by
  rw [ext_take, bs_list, ext_drop]
theorem rest_mid (s : ByteArray) : ((s.extract 1 s.size).extract 8 12).data.toList = (s.data.toList.drop 9).take 4 := by
  rw [ByteArray.data_extract, Array.toList_extract, List.extract_eq_take_drop, ext_drop, List.drop_drop]
set_option maxRecDepth 100000 in
set_option maxHeartbeats 2000000 in
theorem readHead_any (s : ByteArray) (ring : Nat) (w : World) (hs : s.size = 512) (hr : ring ≤ 4096) :
    Calls Tryz.prog 108 #[.string s, .int .i64 ring] w fun e w' => e = .returned (.tuple #[.int .u64 (Wl.readHead s.data.toList ring).1, .int .i64 (Wl.readHead s.data.toList ring).2.1, .bool (Wl.readHead s.data.toList ring).2.2]) ∧ Below w.heap.size w w' := by
  have hsI : (512 : Int) ≤ s.size := by omega
  have hsJ : (s.size : Int) ≤ 512 := by omega
  have hr1 : (s.extract 1 s.size).size = 511 := by rw [ByteArray.size_extract]; omega
  have hr1I : (511 : Int) ≤ (s.extract 1 s.size).size := by omega
  have hr1J : ((s.extract 1 s.size).size : Int) ≤ 511 := by omega
  have HS := Lib.hid hs
  clear hs
  go_enter Tryz.func108, Tryz.ntmps108
  go_wp2
  go_quiet ((go_at_call 106; exact Calls.quiet_of_same (numberOf_any _ _ (by rw [ByteArray.size_extract]; omega))))
  obtain ⟨a, ha⟩ : ∃ a, a = Wl.dec ((s.data.toList.drop 1).take 8) := ⟨_, rfl⟩
  obtain ⟨n, hn⟩ : ∃ n, n = Wl.dec ((s.data.toList.drop 9).take 4) := ⟨_, rfl⟩
  rw [rest_take s, rest_mid s, ← ha, ← hn]
  have haL : a < 2 ^ 64 := by
    have := Wl.dec_snoc_lt ((s.data.toList.drop 1).take 8)
    rw [← ha, List.length_take, List.length_drop, Array.length_toList, show s.data.size = 512 from HS.out] at this
    exact Nat.lt_of_lt_of_le this (by decide)
  have hnL : n < 2 ^ 32 := by
    have := Wl.dec_snoc_lt ((s.data.toList.drop 9).take 4)
    rw [← hn, List.length_take, List.length_drop, Array.length_toList, show s.data.size = 512 from HS.out] at this
    exact Nat.lt_of_lt_of_le this (by decide)
  have hnI : (n : Int) < 4294967296 := by omega
  have HA := Lib.hid (And.intro ha (And.intro hn haL))
  have HRH := Lib.hid (show Wl.readHead s.data.toList ring = if a = 0 ∨ n = 0 ∨ ring < n ∨ ring < Wl.sizeOf n then (0, 0, false) else (a, n, Wl.holds s.data.toList (Wl.head a n)) by unfold Wl.readHead; rw [← ha, ← hn])
  have HB0 := Lib.hid (below_drawn w nq)
  clear ha hn haL hnL
  have bad : ∀ w2, (a = 0 ∨ n = 0 ∨ ring < n ∨ ring < Wl.sizeOf n) → Below w.heap.size w w2 → (Ending.returned (.tuple #[.int .u64 0, .int .i64 0, .bool false]) = Ending.returned (.tuple #[.int .u64 (Wl.readHead s.data.toList ring).1, .int .i64 (Wl.readHead s.data.toList ring).2.1, .bool (Wl.readHead s.data.toList ring).2.2])) ∧ Below w.heap.size w w2 := fun w2 h hb => ⟨by rw [HRH.out, if_pos h]; rfl, hb⟩
  have BAD := Lib.hid bad
  clear bad
  have hrI : (ring : Int) ≤ 4096 := by omega
  by_cases h1 : a = 0
  · have h1b : ((a : Int) == 0) = true := by rw [beq_iff_eq]; omega
    have H1 := Lib.hid h1
    clear h1
    go_wp2
    go_ret3
    exact BAD.out _ (.inl H1.out) HB0.out
  · have h1b : ((a : Int) == 0) = false := by rw [beq_eq_false_iff_ne]; omega
    by_cases h2 : n = 0
    · have h2b : ((n : Int) == 0) = true := by rw [beq_iff_eq]; omega
      have H2 := Lib.hid h2
      clear h1 h2
      go_wp2
      go_ret3
      exact BAD.out _ (.inr (.inl H2.out)) HB0.out
    · have h2b : ((n : Int) == 0) = false := by rw [beq_eq_false_iff_ne]; omega
      by_cases h3 : ring < n
      · have h3b : (ring : Int) < n := by omega
        have H3 := Lib.hid h3
        clear h1 h2 h3
        go_wp2
        go_ret3
        exact BAD.out _ (.inr (.inr (.inl H3.out))) HB0.out
      · have h3b : ¬ (ring : Int) < n := by omega
        have HN := Lib.hid (show n ≤ 4096 by omega)
        by_cases h4 : ring < Wl.sizeOf n
        · have h4b : (ring : Int) < (Wl.sizeOf n : Nat) := by omega
          have H4 := Lib.hid h4
          clear h1 h2 h3 h4
          go_wp2_with fail
          refine (sizeOf_any _ n (by have := HN.out; omega)).mono ?_
          rintro e w1 ⟨rfl, rfl⟩
          go_wp2
          go_ret3
          exact BAD.out _ (.inr (.inr (.inr H4.out))) HB0.out
        · have h4b : ¬ (ring : Int) < (Wl.sizeOf n : Nat) := by omega
          have h4c : ((Wl.sizeOf n : Nat) : Int) ≤ ring := by omega
          have HG := Lib.hid (show Wl.readHead s.data.toList ring = (a, n, Wl.holds s.data.toList (Wl.head a n)) by rw [HRH.out, if_neg (by omega)])
          have hn4 : (n : Int) ≤ 4096 := by omega
          have hn0 : (0 : Int) ≤ n := by omega
          clear h1 h2 h3 h4 h4b hr1 hr1I hr1J hsI hsJ hnI hrI
          have hZ := sizeOf_any (w.drewN nq) n (by have := HN.out; omega)
          obtain ⟨z, hz⟩ : ∃ z, z = Wl.sizeOf n := ⟨_, rfl⟩
          have h4n : ¬ ring < z := by omega
          rw [← hz] at hZ h4c
          have HZ := Lib.hid hZ
          clear hz hZ
          go_wp2_with fail
          refine HZ.out.mono ?_
          rintro e w1 ⟨rfl, rfl⟩
          clear HZ h1b h2b h3b
          go_wp2_with fail
          refine (headText_any a n _ HA.out.2.2 (by have := HN.out; omega)).mono ?_
          rintro e w2 ⟨rfl, hb2⟩
          have HB2 := Lib.hid (HB0.out.trans hb2)
          clear hb2
          go_wp2_with fail
          refine (holds_any s _ w2 (by have := HS.out; omega)).mono ?_
          rintro e w3 ⟨rfl, m, rfl⟩
          rw [bs_list]
          go_wp2
          go_ret3
          refine ⟨?_, HB2.out.trans ((below_drawn w2 m).mono HB2.out.size)⟩
          rw [HG.out]
          rfl
end Go.Proofs.YtahnhhhhfioibaaGreatDoor

namespace Go.Proofs.YtahnhhhhfioibaaGreatDoor
open Go.RowKit Lib

theorem first_read (size ring a n : Nat) (h3 : a < 2 ^ 64) (h4 : n < 2 ^ 64) : Wl.dec (((Dk.full (Wl.first size ring a n)).drop 30).take 8) = a ∧ Wl.dec (((Dk.full (Wl.first size ring a n)).drop 38).take 8) = n := by
  have e : Dk.full (Wl.first size ring a n) = (Wl.title ++ (Wl.enc 8 size ++ Wl.enc 8 ring)) ++ (Wl.enc 8 a ++ (Wl.enc 8 n ++ List.replicate (512 - 46) 0)) := by
    unfold Dk.full
    rw [Wl.first_length]
    unfold Wl.first
    simp only [List.append_assoc]
  have hl : (Wl.title ++ (Wl.enc 8 size ++ Wl.enc 8 ring)).length = 30 := by simp [Wl.enc_length, Wl.title]
  have e1 : (Dk.full (Wl.first size ring a n)).drop 30 = Wl.enc 8 a ++ (Wl.enc 8 n ++ List.replicate (512 - 46) 0) := by rw [e, List.drop_left' hl]
  have e2 : (Dk.full (Wl.first size ring a n)).drop 38 = Wl.enc 8 n ++ List.replicate (512 - 46) 0 := by
    rw [show (38 : Nat) = 30 + 8 from rfl, ← List.drop_drop, e1, List.drop_left' (Wl.enc_length 8 a)]
  rw [e1, e2, List.take_left' (Wl.enc_length 8 a), List.take_left' (Wl.enc_length 8 n)]
  exact ⟨Wl.dec_enc 8 a (by omega), Wl.dec_enc 8 n (by omega)⟩
theorem rest_a (s : ByteArray) : ((s.extract 30 s.size).extract 0 8).data.toList = (s.data.toList.drop 30).take 8 := by
  rw [ext_take, bs_list, ext_drop]
theorem rest_n (s : ByteArray) : ((s.extract 30 s.size).extract 8 16).data.toList = (s.data.toList.drop 38).take 8 := by
  rw [ByteArray.data_extract, Array.toList_extract, List.extract_eq_take_drop, ext_drop, List.drop_drop]
set_option maxRecDepth 100000 in
set_option maxHeartbeats 2000000 in
theorem readFirst_any (size ring a n : Nat) (w : World) (h1 : size ≤ 1000000) (hr : ring ≤ 4096) (h3 : a < ring) (h4 : 1 ≤ n) (h5 : n < 2 ^ 60) :
    Calls Tryz.prog 73 #[.string (bs (Dk.full (Wl.first size ring a n))), .int .i64 size, .int .i64 ring] w fun e w' => e = .returned (.tuple #[.agg #[.int .i64 a, .int .u64 n], .bool true]) ∧ Below w.heap.size w w' := by
  obtain ⟨s, hs⟩ : ∃ s, s = bs (Dk.full (Wl.first size ring a n)) := ⟨_, rfl⟩
  rw [← hs]
  have hsz : s.size = 512 := by rw [hs, bs_size]; exact Dk.full_length _ (by rw [Wl.first_length]; decide)
  obtain ⟨f1, f2⟩ := first_read size ring a n (by omega) (by omega)
  have hl : s.data.toList = Dk.full (Wl.first size ring a n) := by rw [hs]; rfl
  rw [← hl] at f1 f2
  have HH := Lib.hid (show Wl.holds s.data.toList (Wl.first size ring a n) = true by rw [hl]; exact Wl.holds_full _)
  have HF := Lib.hid (And.intro f1 (And.intro f2 hsz))
  have HB := Lib.hid (And.intro h1 (And.intro h3 (And.intro h4 h5)))
  have hsI : (512 : Int) ≤ s.size := by omega
  have hsJ : (s.size : Int) ≤ 512 := by omega
  have hr1 : (s.extract 30 s.size).size = 482 := by rw [ByteArray.size_extract]; omega
  have hr1I : (482 : Int) ≤ (s.extract 30 s.size).size := by omega
  have hr1J : ((s.extract 30 s.size).size : Int) ≤ 482 := by omega
  have hnb : ((n : Int) == 0) = false := by rw [beq_eq_false_iff_ne]; omega
  have har : (a : Int) < ring := by omega
  have hrI : (ring : Int) ≤ 4096 := by omega
  have hnI : (n : Int) ≤ 1152921504606846976 := by omega
  have han : ¬ ring ≤ a := by omega
  clear hs f1 f2 hl hsz h1 hr h3 h4 h5
  go_enter Tryz.func73, Tryz.ntmps73
  go_wp2
  go_quiet ((go_at_call 106; exact Calls.quiet_of_same (numberOf_any _ _ (by rw [ByteArray.size_extract]; omega))))
  rw [rest_a s, rest_n s, HF.out.1, HF.out.2.1]
  clear hr1 hr1I hr1J hsI hsJ
  go_wp2
  obtain ⟨q, hq⟩ : ∃ q, w.heap.size = q := ⟨_, rfl⟩
  obtain ⟨V, hV⟩ : ∃ V, V = (((w.alloc (.cells #[.int .i64 0, .int .u64 0] 91)).drewN nq).alloc (.cells #[.int .i64 a, .int .u64 n] 91)) := ⟨_, rfl⟩
  rw [← hV, hq]
  have hbW : Below w.heap.size w V := by rw [hV]; exact (((Below.refl _ _).alloc (Nat.le_refl _) _).trans ((below_drawn (w.alloc (.cells #[.int .i64 0, .int .u64 0] 91)) nq).mono (by simp))).alloc (by simp) _
  have b1 : Blk V (q + 1) 91 [.int .i64 a, .int .u64 n] := by
    have := Blk.new ((w.alloc (.cells #[.int .i64 0, .int .u64 0] 91)).drewN nq) #[.int .i64 a, .int .u64 n] 91
    rw [hV, ← hq]; simpa using this
  have b0 : Blk V q 91 [.int .i64 0, .int .u64 0] := by
    rw [hV, ← hq]; exact ((Blk.new w #[.int .i64 0, .int .u64 0] 91).drewN nq).alloc _
  have hVs : q + 2 ≤ V.heap.size := by rw [hV, ← hq]; simp
  have q0 : V.cell? ⟨q, 0, none⟩ = some (.int .i64 0) := b0.cell rfl
  have q1 : V.cell? ⟨q, 1, none⟩ = some (.int .u64 0) := b0.cell rfl
  have q2 : V.frozen? ⟨q, 0, none⟩ = false := b0.frozen 0
  have q3 : V.frozen? ⟨q, 1, none⟩ = false := b0.frozen 1
  have p0 : V.cell? ⟨q + 1, 0, none⟩ = some (.int .i64 a) := b1.cell rfl
  have p1 : V.cell? ⟨q + 1, 1, none⟩ = some (.int .u64 n) := b1.cell rfl
  have HBW := Lib.hid (And.intro hbW (And.intro b0 (And.intro b1 hq)))
  clear hV hbW b0 b1 hq
  go_region_held3 (fun w' => w'.cell? ⟨q + 1, 0, none⟩ = some (.int .i64 a) ∧ w'.cell? ⟨q + 1, 1, none⟩ = some (.int .u64 n))
    (first
      | (exact ⟨by assumption, by assumption⟩)
      | go_keep)
    (first
      | (go_at_call 72; refine (firstText_any size ring a n _ HB.out.1 (by have := HB.out; omega) (by have := HB.out; omega) (by have := HB.out; omega)).mono ?_; rintro e w1 ⟨rfl, hb1⟩; have c11 : w1.cell? ⟨q + 1, 0, none⟩ = some (.int .i64 a) := (hb1.cell (p := ⟨q + 1, 0, none⟩) (by simp; omega)).trans (by first | assumption | simp [*]); have c12 : w1.cell? ⟨q + 1, 1, none⟩ = some (.int .u64 n) := (hb1.cell (p := ⟨q + 1, 1, none⟩) (by simp; omega)).trans (by first | assumption | simp [*]); have e0 := hb1.cell (p := ⟨q, 0, none⟩) (by simp; omega); have e1 := hb1.cell (p := ⟨q, 1, none⟩) (by simp; omega); have g0 := hb1.frozen (p := ⟨q, 0, none⟩) (by simp; omega); have g1 := hb1.frozen (p := ⟨q, 1, none⟩) (by simp; omega))
      | (go_at_call 107; refine (holds_any s _ _ (by have := HF.out.2.2; omega)).mono ?_; rintro e w2 ⟨rfl, m, rfl⟩))
  rw [bs_list, HH.out]
  have HB2 := Lib.hid (show Below w.heap.size w (((w1.drewN m).setCell ⟨q, 0, none⟩ (.int .i64 a)).setCell ⟨q, 1, none⟩ (.int .u64 n)) by
    have hV := HBW.out.1
    have hq := HBW.out.2.2.2
    have hw1 : Below w.heap.size w w1 := hV.drew.trans (hb1.mono hV.size)
    exact ((hw1.trans ((below_drawn w1 m).mono hw1.size)).setCell (p := ⟨q, 0, none⟩) (by show _ ≤ q; omega) _).setCell (p := ⟨q, 1, none⟩) (by show _ ≤ q; omega) _)
  clear hb1
  go_wp2
  refine bodyPost_ret (v := .tuple #[.agg #[.int .i64 a, .int .u64 n], .bool true]) ?_ rfl ⟨rfl, HB2.out⟩
  simp [results, Tryz.results73, go_sem, e0, e1, q0, q1]
end Go.Proofs.YtahnhhhhfioibaaGreatDoor

namespace Go.Proofs.YtahnhhhhfioibaaGreatDoor
open Go.RowKit Lib

abbrev CT : TypeId := 108
def zeros : List UInt8 := List.replicate 512 0
theorem zeros_len : zeros.length = 512 := List.length_replicate
theorem info_CT : (Tryz.prog.info? CT).map (·.size) = some 512 := by kernel_rfl
theorem zero_CT (w : World) : (zeroValue CT).run Tryz.prog w = .ok (ctext zeros) w := by kernel_rfl
theorem ctext_one (l : List UInt8) : (l.map bcell).toArray.all (·.oneCell') = true := by
  rw [Array.all_eq_true_iff_forall_mem]
  intro v hv
  simp only [List.mem_toArray, List.mem_map] at hv
  obtain ⟨b, _, rfl⟩ := hv
  rfl
def CBlk (w : World) (g : Nat) (l : List UInt8) : Prop := Blk w g CT (l.map bcell) ∧ l.length = 512
theorem CBlk.but {S : Nat → Prop} {w w' : World} {g : Nat} {l : List UInt8} (h : CBlk w g l) (hb : But S w w') (hn : ¬ S g) : CBlk w' g l := ⟨h.1.but hb hn, h.2⟩
theorem CBlk.lt {w : World} {g : Nat} {l : List UInt8} (h : CBlk w g l) : g < w.heap.size := h.1.lt
theorem World.grownBy_but {w w' : World} {g : Nat} (h : But (fun k => k = g) w w') : w.grownBy w' (some g) := ⟨h.os, h.tape, h.output, h.size, fun k hk hn => h.block k hk (fun e => hn (by rw [e]))⟩
theorem Below.but {B : Nat} {S : Nat → Prop} {w w' w'' : World} (h : Below B w w') (hb : But S w' w'') (hB : B ≤ w'.heap.size) (hS : ∀ k, k < B → ¬ S k) : Below B w w'' := h.trans (hb.below hB hS)
theorem wpList_storeC {ops : Array Oper} {rest : List Oper} {o : Oper} {a : Act} {w : World} {Q : Exit → Act → World → Prop} (hgd : o.guard = none) (x y : Operand) (ho : o.op = .store CT x y)
    (g : Nat) (c old : List UInt8) (hx : a.eval x = .pointer (some ⟨g, 0, none⟩)) (hy : a.eval y = ctext c) (hc : c.length = 512) (hb : CBlk w g old)
    (h : ∀ w', CBlk w' g c → But (fun k => k = g) w w' → wpList Tryz.prog ops Q rest (a.put o.dst undef) w') : wpList Tryz.prog ops Q (o :: rest) a w := by
  refine wpList_store_row hgd CT x y ho g (c.map bcell).toArray hx hy CT (old.map bcell).toArray hb.1 (by rw [info_CT]; simp [hc]) (by simp [hb.2, hc]) (ctext_one c) ?_
  exact h _ ⟨setRow_heap w g _ _ _ _ hb.1, hc⟩ ((But.refl _ w).setRow g _ (fun _ => rfl))
theorem wpList_loadC {ops : Array Oper} {rest : List Oper} {o : Oper} {a : Act} {w : World} {Q : Exit → Act → World → Prop} (hgd : o.guard = none) (x : Operand) (ho : o.op = .load CT x)
    (g : Nat) (c : List UInt8) (hx : a.eval x = .pointer (some ⟨g, 0, none⟩)) (hb : CBlk w g c)
    (h : wpList Tryz.prog ops Q rest (a.put o.dst (ctext c)) w) : wpList Tryz.prog ops Q (o :: rest) a w :=
  wpList_load_row hgd CT x ho g hx CT (c.map bcell).toArray (0, 0) _ hb.1 Tryz.underlying108 rfl (by rw [info_CT]; simp [hb.2]) h
theorem slice_CT (w : World) (c : Nat) : (Instr.sliceAt CT (.pointer (some ⟨c, 0, none⟩)) none none none).run Tryz.prog w = .ok (.slice (some ⟨c, 0, none⟩) 512 512) w := by
  have e1 : Tryz.prog.arrayLen CT = 512 := by kernel_rfl
  have e2 : Tryz.prog.elem CT = 5 := by kernel_rfl
  have e3 := run_sliceAt_array_all (P := Tryz.prog) w CT ⟨c, 0, none⟩ (by rw [e1, e2]; kernel_rfl)
  rw [e3, e1, e2]
  show ((sizeOf 5).run Tryz.prog w).andThen _ = _
  rw [Tryz.sizeOf5]
  simp [go_sem, Addr.add]
theorem CBlk.back {w : World} {c : Nat} {t : List UInt8} (hb : CBlk w c t) : (convert 110 9 (.slice (some ⟨c, 0, none⟩) 512 512)).run Tryz.prog w = .ok (.string (bs t)) w := by
  have := run_convert_bytes_back (P := Tryz.prog) w 110 9 5 ⟨c, 0, none⟩ 512 t (by kernel_rfl) (by kernel_rfl) (by kernel_rfl) (by
    intro i hi
    rw [addr_add0]
    refine hb.1.cell ?_
    rw [List.getElem?_map, List.getElem?_eq_getElem hi]
    rfl)
  rw [hb.2] at this
  exact this
theorem CBlk.new (w : World) (Z : Array Value) (hZ : Z = (zeros.map bcell).toArray) : CBlk (w.alloc (.cells Z CT)) w.heap.size zeros := by
  subst hZ
  exact ⟨Blk.new w _ _, zeros_len⟩
theorem underMap : Tryz.prog.underlying 88 = some (.map KInt CT) := Tryz.underlying88
theorem underInt : Tryz.prog.underlying KInt = some (.int .i64) := Tryz.underlying3
theorem CMap.look_some {w : World} {b : Nat} {m : Wl.Grp} (h : CMap w b m) {k : Nat} (hk : k ≤ 1000000) {t : List UInt8} (hl : Wl.look k m = some t) : (Instr.lookup 88 (.map (some b)) (.int .i64 k) true).run Tryz.prog w = .ok (.tuple #[ctext t, .bool true]) w ∧ t.length = 512 :=
  IMap.look_some (M := contentE) h underInt underMap (zero_CT w) zeros_len hk hl
theorem CMap.look_none {w : World} {b : Nat} {m : Wl.Grp} (h : CMap w b m) {k : Nat} (hk : k ≤ 1000000) (hl : Wl.look k m = none) : (Instr.lookup 88 (.map (some b)) (.int .i64 k) true).run Tryz.prog w = .ok (.tuple #[ctext zeros, .bool false]) w :=
  IMap.look_none (M := contentE) h underInt underMap (zero_CT w) zeros_len hk hl
theorem CMap.at {w : World} {b : Nat} {m : Wl.Grp} (h : CMap w b m) {k : Nat} (hk : k ≤ 1000000) {t : List UInt8} (hl : Wl.look k m = some t) : (Instr.lookup 88 (.map (some b)) (.int .i64 k) false).run Tryz.prog w = .ok (ctext t) w ∧ t.length = 512 :=
  IMap.at (M := contentE) h underInt underMap (zero_CT w) zeros_len hk hl
theorem wpList_lenC {ops : Array Oper} {rest : List Oper} {o : Oper} {a : Act} {w : World} {Q : Exit → Act → World → Prop} (hgd : o.guard = none) (x : Operand) (ho : o.op = Op.call { callee := Callee.builtin Builtin.len, args := #[x], argTypes := #[88] })
    (b : Nat) (m : Wl.Grp) (hx : a.eval x = .map (some b)) (hb : CMap w b m) (h : wpList Tryz.prog ops Q rest (a.put o.dst (.int .i64 m.length)) w) : wpList Tryz.prog ops Q (o :: rest) a w := by
  refine wpList_len_own _ hgd x 88 ho KInt CT underMap contentE.R b m.length (dat m) hx hb.1 ?_
  rw [dat_size]; exact h
end Go.Proofs.YtahnhhhhfioibaaGreatDoor

namespace Go.Proofs.YtahnhhhhfioibaaGreatDoor
open Go.RowKit Go.Maps Go.Sort Go.Shelf

theorem sortsA (m : Nat) : AnyZI.SortsIn Tryz.prog sortedA_ren Fence.wide m :=
  ⟨fun blk off cap ss W hH hblk hsz => callsIn_wide.2 (AnyM.slices_Sort_int sortA blk off cap ss W hH hblk hsz),
   fun p cap W => callsIn_wide.2 (AnyM.slices_Sort_int_none sortA p cap W)⟩
theorem keys_any (mb : Option Nat) (w : World) : Calls Tryz.prog 114 #[.map mb] w fun e w' =>
    e = .returned (.func (.func 134) #[] #[.pointer (some ⟨w.heap.size, 0, none⟩)]) ∧ w' = w.alloc (.cells #[.map mb] 88) :=
  (callsIn_wide (n := 5)).1 (AnyZI.keys_in keysA Fence.wide 5 trivial rfl mb w)
theorem sorted_keys {m : Wl.Grp} (h : Wl.Rising m) {ss : List Int} (hp : ss.Perm (m.map fun x => (x.1 : Int))) : ss.mergeSort (fun x y => decide (x ≤ y)) = m.map fun x => (x.1 : Int) := by
  rw [mergeSort_of_perm_i hp]
  refine List.mergeSort_of_pairwise ?_
  rw [List.pairwise_map]
  exact h.imp fun {x y} hxy => by simp only [leI, decide_eq_true_eq]; omega
theorem sorted_any (b q : Nat) (m : Wl.Grp) (w : World) (hm : CMap w b m) (hlen : m.length ≤ 1000000) (hq : w.cell? ⟨q, 0, none⟩ = some (.map (some b))) :
    Calls Tryz.prog 113 #[.func (.func 134) #[] #[.pointer (some ⟨q, 0, none⟩)]] w fun e w' =>
      ∃ v, e = .returned v ∧ Own (intElem .i64) 3 w.heap.size w' v (m.map fun x => (x.1 : Int)) ∧ Below w.heap.size w w' := by
  have hseq : SeqGives Fence.wide 2 Tryz.prog 134 #[.pointer (some ⟨q, 0, none⟩)] encZ (fun ss => ss.Perm (intKeys (dat m))) (Maps.size (dat m)) w :=
    AnyZI.keys_gives (ρ := keysA_ren) { keysA with } Fence.wide _ trivial rfl (by omega) q b m.length (dat m) _ (World.block_lt_of_cell? _ _ hq) hq hm.1
  have cS := AnyZI.sorted_in sortedA Fence.wide 5 trivial trivial trivial trivial rfl (by omega) (sortsA _) (enters_of Tryz.func133 (by kernel_rfl) rfl) 134 #[.pointer (some ⟨q, 0, none⟩)] trivial (enters_of Tryz.func134 (by kernel_rfl) rfl) _ _ (by rw [dat_size]; unfold maxLen; omega) (by rw [dat_size]; omega) w hseq
  change CallsIn _ _ Tryz.prog 113 _ _ _ at cS
  refine ((callsIn_wide (n := 5)).1 cS).mono ?_
  rintro e w' ⟨v, ss, rfl, hS, hrow, hnil, hb⟩
  refine ⟨v, rfl, ?_, hb⟩
  rw [dat_keys] at hS
  rw [sorted_keys hm.2.1 hS] at hrow
  have hl : ss.length = (m.map fun x => (x.1 : Int)).length := hS.length_eq
  rw [hl] at hrow
  unfold Own
  rw [show (intElem .i64).cells (m.map fun x => (x.1 : Int)) = (m.map fun x => (x.1 : Int)).map (fun n => Value.int .i64 n) from oneElem_cells _ _ _]
  exact hrow
end Go.Proofs.YtahnhhhhfioibaaGreatDoor

namespace Go.Proofs.YtahnhhhhfioibaaGreatDoor
open Go.RowKit Go.Maps Lib

theorem merge_dat : ∀ (g m : Wl.Grp), Wl.Rising m → Lib.mergeD (dat m) (dat g) = dat (Wl.merge m g)
  | [], m, _ => rfl
  | x :: g, m, h => by
    have ih := merge_dat g (Wl.ins x.1 x.2 m) (Wl.ins_rising x.1 x.2 h)
    rw [← dat_ins x.1 x.2 m h] at ih
    exact ih
set_option maxRecDepth 100000 in
set_option maxHeartbeats 2000000 in
theorem copy_any (bd bs : Nat) (m g : Wl.Grp) (w : World) (hd : CMap w bd m) (hs : CMap w bs g) (hne : bd ≠ bs) (hl1 : m.length ≤ 100000) (hl2 : g.length ≤ 100000) :
    Calls Tryz.prog 117 #[.map (some bd), .map (some bs)] w fun e w' => e = .returned (.tuple #[]) ∧ CMap w' bd (Wl.merge m g) ∧ But (fun k => k = bd) w w' := by
  obtain ⟨Z, hZ⟩ : ∃ Z, Z = (zeros.map bcell).toArray := ⟨_, rfl⟩
  have hz : ∀ w, (zeroValue CT).run Tryz.prog w = .ok (.agg Z) w := fun w => by rw [hZ]; exact zero_CT w
  have hzs : Z.size = 512 := by rw [hZ]; simp [zeros_len]
  have hzn : ¬ Z = #[] := by intro e; rw [e] at hzs; cases hzs
  have HZ := Lib.hid hZ
  clear hZ
  have K : Keyed Tryz.prog KInt := int_keyed underInt
  have HD := Lib.hid hd
  have HS := Lib.hid hs
  have hbd := hd.lt
  have hbs := hs.lt
  have hs1 := hs.1
  clear hd hs
  go_enter Tryz.func117, Tryz.ntmps117
  go_wp2_with (first
    | (at_range; refine wpList_range_own _ rfl _ 88 rfl KInt CT K underMap readC bs g.length _ rfl hs1 ?_; intro w0 hrg0 hg0 hs0)
    | go_in)
  go_frame
  obtain ⟨q, hq⟩ : ∃ q, w.heap.size = q := ⟨_, rfl⟩
  rw [hq] at hrg0 ⊢
  have HQ := Lib.hid (And.intro hq hs0)
  have H0 := Lib.hid (And.intro hrg0 hg0)
  have HL := Lib.hid (And.intro hl1 hl2)
  have HB := Lib.hid (And.intro hbd (And.intro hbs hne))
  clear hs1 hrg0 hg0 hs0 hl1 hl2 hq hbd hbs hne
  go_loopw [8] (fun _ wr => ∃ (left : Lit → Bool) (cnt : Nat) (Dout : DataW Unit), Hid (wr.ranges Tryz.prog KInt readC bs q g.length (dat g) left cnt) ∧ Hid (cnt ≤ g.length) ∧
      Hid (wr.ownsMap Tryz.prog KInt readC bd (m.length + (g.length - cnt)) Dout) ∧ Hid (Merged Dout (dat m) (dat g) left) ∧ Hid (w.grownBy wr (some bd)) ∧ Hid (q < wr.heap.size))
    (fun _ wr => wr.rangeLeft bs q)
  case atStart =>
    refine ⟨_, _, dat m, Lib.hid H0.out.1, Lib.hid (by rw [dat_size]; exact Nat.le_refl _), Lib.hid ?_, Lib.hid (merged_start _ _), Lib.hid (H0.out.2.but _), Lib.hid (by have := HQ.out; omega)⟩
    exact (HD.out.1.kept H0.out.2 (by simp)).mono (by omega)
  case round =>
    obtain ⟨left, cnt, Dout, hrg, hcs, hout, hM, hgw, hqs⟩ := hrel
    have hrg' := hrg.out
    go_wp2_with (first
      | (at_next; refine wpList_next_ranges _ rfl _ rfl KInt K readC id id (fun key _ _ => ⟨key, rfl⟩) (fun v _ _ => ⟨v, rfl⟩) bs q g.length _ _ _ rfl hrg' ?_ ?_)
      | go_in)
    · intro hc0 hl0
      go_wp2
      go_end0
      have e := merged_eq K.one hM.out hl0 (hout.out.canon K) (HD.out.1.canonK K) (HS.out.1.canonK K)
      rw [merge_dat g m HD.out.2.1] at e
      have ho := hout.out
      rw [e] at ho
      refine ⟨rfl, ⟨ownsMap_len contentE ho, Wl.merge_rising g HD.out.2.1, fun x hx => ?_⟩, ⟨hgw.out.os, hgw.out.tape, hgw.out.output, hgw.out.size, fun k hk hn => hgw.out.block k hk (fun e => hn (Option.some.inj e))⟩⟩
      have hkx := Wl.look_of_mem (Wl.merge_rising g HD.out.2.1) (show (x.1, x.2) ∈ Wl.merge m g from hx)
      rw [Wl.look_merge g m x.1 HS.out.2.1] at hkx
      cases hg : Wl.look x.1 g with
      | some t => exact HS.out.2.2 (x.1, t) (Wl.look_mem hg)
      | none => rw [hg, Option.none_or] at hkx; exact HD.out.2.2 (x.1, x.2) (Wl.look_mem hkx)
    · intro x c kl yd yp w1 cnt1 hkey hlx hv hat hrg1 hlt hg1 hs1 hen
      obtain ⟨l, rfl, hl5, hyd⟩ := readC_inv hv
      have hout1 := hout.out.kept hg1 (fun e => by have := Option.some.inj e; have := HB.out; have := HQ.out; omega)
      have HX := Lib.hid (And.intro hkey (And.intro hlx (And.intro hv (And.intro hat (And.intro hrg1 (And.intro hlt (And.intro hg1 (And.intro hs1 (And.intro hout1 hl5)))))))))
      clear hkey hlx hv hat hrg1 hlt hg1 hs1 hout1 hl5 hyd hrg'
      have hcb := CBlk.new w1 Z HZ.out
      have HCB := Lib.hid hcb
      clear hcb
      go_wp2_with (refine wpList_storeC rfl _ _ rfl w1.heap.size l zeros rfl rfl HX.out.2.2.2.2.2.2.2.2.2 HCB.out ?_; intro w2 hb2 hbt2; have H2 := Lib.hid (And.intro hb2 hbt2); clear hb2 hbt2; refine Hid.out ?_)
      refine Lib.hid ?_
      have hg2 : (w1.alloc (.cells Z CT)).grownBy w2 (some w1.heap.size) := World.grownBy_but H2.out.2
      have hne1 : bd ≠ w1.heap.size := by have := HX.out.2.2.2.2.2.2.2.2.1.lt; omega
      have hout2 := (HX.out.2.2.2.2.2.2.2.2.1.alloc (.cells Z CT)).kept hg2 (fun e => hne1 (Option.some.inj e))
      have HR2 := Lib.hid ((HX.out.2.2.2.2.1.kept (World.grownBy_alloc w1 (.cells Z CT) none) (by simp) (by simp)).kept hg2 (fun e => by have := Option.some.inj e; have := HX.out.2.2.2.2.1.owns.lt; omega) (fun e => by have := Option.some.inj e; have := HX.out.2.2.2.2.1.lt; omega))
      have HG2 := Lib.hid (((hgw.out.andThen HX.out.2.2.2.2.2.2.1 (fun j hj => .inl (by cases hj; have := HQ.out; omega))).andThen (World.grownBy_alloc w1 (.cells Z CT) none) (fun j hj => by cases hj)).andThen hg2 (fun j hj => .inl (by cases hj; have := hgw.out.size; have := HX.out.2.2.2.2.2.2.2.1; omega)))
      have hkey := HX.out.1
      have hv := HX.out.2.2.1
      have hroom : m.length + (g.length - cnt) < maxLen := by have := HL.out; unfold maxLen; omega
      clear hen hg2 hne1
      go_wp2_with (first
        | (refine wpList_loadC rfl _ rfl w1.heap.size l rfl H2.out.1 ?_)
        | (at_mapUpdate; refine wpList_mapUpdate_own _ rfl _ _ _ 88 rfl KInt CT K underMap readC bd _ _ rfl hout2 hroom _ _ _ rfl rfl hkey yd yp hv ?_; intro w3 hout3 hg3; go_frame))
      have hrg3 := HR2.out.kept hg3 (fun e => HB.out.2.2 (Option.some.inj e).symm) (fun e => by have := Option.some.inj e; have := HB.out; have := HQ.out; omega)
      have H3 := Lib.hid (And.intro hrg3 (And.intro hout3 hg3))
      clear hrg3 hout3 hg3 hout2 hkey hv
      go_roundw
      case rel =>
        refine ⟨_, cnt1, _, Lib.hid H3.out.1, Lib.hid (by have := hcs.out; have := HX.out.2.2.2.2.2.1; omega), Lib.hid (H3.out.2.1.mono (by have := hcs.out; have := HX.out.2.2.2.2.2.1; omega)), Lib.hid (merged_step hM.out hout.out.isMap (K.key HX.out.1) HX.out.2.2.2.1), Lib.hid (HG2.out.andThen H3.out.2.2 (fun j hj => .inr hj)), Lib.hid H3.out.1.lt⟩
      case measure => rw [H3.out.1.left_eq, hrg.out.left_eq]; exact HX.out.2.2.2.2.2.1
end Go.Proofs.YtahnhhhhfioibaaGreatDoor

namespace Go.Proofs.YtahnhhhhfioibaaGreatDoor
open Go.RowKit Go.Maps Lib

theorem LogP.merged {w w1 : World} {F FD : Nat → Prop} {b g mb : Nat} {s : Wl.Lg} {m' : Wl.Grp} (h : LogP w F b g mb FD s) (hm : CMap w1 mb m') (hb : But (fun k => k = mb) w w1) : LogP w1 F b g mb FD { s with wait := m' } ∧ Moved F w F w1 :=
  ⟨⟨h.blk.but hb (fun e => h.mne e.symm), hm, h.sec.but hb (fun _ hk e => h.nm (e ▸ hk)), h.nb, h.nm, h.fb, h.fm, h.fd, fun k hk => Nat.lt_of_lt_of_le (h.lt k hk) hb.size⟩, hb.mono (fun _ _ e => e ▸ h.fm), fun _ hk => .inl hk⟩
set_option maxRecDepth 100000 in
set_option maxHeartbeats 2000000 in
theorem take_any (w : World) (F : Nat → Prop) (b g gb : Nat) (s : Wl.Lg) (grp : Wl.Grp) (hl : Log w F b g s) (hb : Bnd s) (hg : CMap w gb grp) (hn : ¬ F gb) (hgl : grp.length ≤ 65536) :
    Calls Tryz.prog 85 #[ptr b, .map (some gb)] w fun e w' => e = .returned (.tuple #[]) ∧ Log w' F b g (s.take grp) ∧ Moved F w F w' := by
  obtain ⟨mb, FD, h⟩ := hl
  have c6 := h.c6
  have HH := Lib.hid h
  have hne : mb ≠ gb := fun e => hn (e ▸ h.fm)
  have HG := Lib.hid hg
  have HN := Lib.hid (And.intro hgl (And.intro hb (And.intro hne hn)))
  have hgI : (grp.length : Int) ≤ 65536 := by omega
  clear h hgl hb hne hn hg
  go_enter Tryz.func85, Tryz.ntmps85
  unfold ptr
  go_wp2_with (at_len; refine wpList_lenC rfl _ rfl gb grp rfl HG.out ?_)
  refine (sizeOf_any w grp.length (by have := HN.out.1; omega)).mono ?_
  rintro e w1 ⟨rfl, rfl⟩
  have hz : ((Wl.sizeOf grp.length : Nat) : Int) ≤ 1000000 := by have := HN.out.1; unfold Wl.sizeOf; omega
  have hz0 : (0 : Int) ≤ ((Wl.sizeOf grp.length : Nat) : Int) := by omega
  have HT := Lib.hid (show s.take grp = { s with wait := Wl.merge s.wait grp, filled := s.filled + Wl.sizeOf grp.length, place := (s.place + Wl.sizeOf grp.length) % s.ring, num := s.num + 1 } from rfl)
  generalize Wl.sizeOf grp.length = z at *
  go_wp2_with fail
  refine (copy_any mb gb s.wait grp w1 HH.out.mp HG.out HN.out.2.2.1 (by have := HN.out.2.1.wl; omega) (by have := HN.out.1; omega)).mono ?_
  rintro e w2 ⟨rfl, hm2, hb2⟩
  obtain ⟨h2, mv2⟩ := HH.out.merged hm2 hb2
  have c5 := h2.c5
  have f5 := h2.blk.frozen 5
  have hb := HN.out.2.1
  have i5 : (s.filled : Int) ≤ 1000000 := by have := hb.f; omega
  have h3 := h2.set 5 (.int .i64 ((s.filled : Int) + z)) { s with wait := Wl.merge s.wait grp, filled := s.filled + z } rfl rfl rfl
  have H3 := Lib.hid (And.intro h3.1 (mv2.trans h3.2))
  clear hm2 hb2 h2 mv2 h3 c6 hb HH HG
  simp only at c5
  go_wp2
  obtain ⟨W, hW⟩ : ∃ W, W = w2.setCell ⟨b, 5, none⟩ (.int .i64 ((s.filled : Int) + z)) := ⟨_, rfl⟩
  rw [← hW] at H3 ⊢
  have k1 := H3.out.1.c1
  have k3 := H3.out.1.c3
  have k4 := H3.out.1.c4
  have f3 := H3.out.1.blk.frozen 3
  have f4 := H3.out.1.blk.frozen 4
  simp only at k1 k3 k4
  have hb := HN.out.2.1
  have r1 := hb.r1
  have r2 := hb.r2
  have r3 := hb.p
  have r4 := hb.n
  have hr0 : ((s.ring : Int) == 0) = false := by rw [beq_eq_false_iff_ne]; omega
  have hrne : ¬ s.ring = 0 := by omega
  have w1' : IntKind.i64.wrap ((s.place : Int) + z) = (s.place : Int) + z := by rw [IntKind.wrap_i64]; omega
  have w2' : IntKind.u64.wrap ((s.num : Int) + 1) = (s.num : Int) + 1 := by rw [IntKind.wrap_u64]; omega
  have hm : ((s.place : Int) + z).tmod s.ring = (((s.place + z) % s.ring : Nat) : Int) := by
    rw [Int.tmod_eq_emod_of_nonneg (by omega), Int.natCast_emod, Int.natCast_add]
  have H3D := Lib.hid (show LogP W.drew F b g mb FD { s with wait := Wl.merge s.wait grp, filled := s.filled + z } ∧ Moved F w1 F W.drew from ⟨H3.out.1.but ((But.refl (fun _ => False) W).drew) (fun _ _ h => h), H3.out.2.trans ⟨(But.refl _ W).drew, fun _ h => .inl h⟩⟩)
  clear hW c5 f5 hb r1 r2 r3 r4 H3
  go_still_tail 22, (by kernel_rfl)
  change wpList _ _ _ _ _ W.drew
  obtain ⟨U, hU⟩ : ∃ U, U = W.drew := ⟨_, rfl⟩
  rw [← hU] at H3D ⊢
  clear hU k1 k3 k4 f3 f4 w1' w2' hm
  have h4 := H3D.out.1.set 3 (.int .i64 (((s.place + z) % s.ring : Nat) : Int)) { s with wait := Wl.merge s.wait grp, filled := s.filled + z, place := (s.place + z) % s.ring } rfl rfl rfl
  have h5 := h4.1.set 4 (.int .u64 ((s.num : Int) + 1)) (s.take grp) (by rw [HT.out]; rfl) (by rw [HT.out]) (by rw [HT.out])
  have H5 := Lib.hid (And.intro h5.1.log (H3D.out.2.trans (h4.2.trans h5.2)))
  have k3 := H3D.out.1.c3
  have k4 := H3D.out.1.c4
  have f3 := H3D.out.1.blk.frozen 3
  have f4 := H3D.out.1.blk.frozen 4
  simp only at k3 k4
  clear h4 h5
  go_wp2
  refine bodyPost_end (results_none rfl _ _ _) rfl ?_
  exact ⟨rfl, H5.out⟩
end Go.Proofs.YtahnhhhhfioibaaGreatDoor

namespace Go.Proofs.YtahnhhhhfioibaaGreatDoor
open Go.RowKit Lib

abbrev PutD := Int × ByteArray
/-- v reads as the puts l. -/
def RdP (w : World) (v : Value) (l : List PutD) : Prop :=
  ∃ (a : Option Addr) (cap : Nat), v = .slice a l.length cap ∧ l.length ≤ cap ∧ l.length ≤ 9223372036854775807 ∧ ∀ i (_ : i < l.length), (-9223372036854775808 ≤ l[i].1 ∧ l[i].1 ≤ 9223372036854775807) ∧ ∃ g o, a = some ⟨g, o, none⟩ ∧ g < w.heap.size ∧
    ∀ j (hj : j < l.length), w.cell? ⟨g, o + j * 2, none⟩ = some (.int .i64 l[j].1) ∧ w.cell? ⟨g, o + j * 2 + 1, none⟩ = some (.string l[j].2)
/-- v reads as the lists ll; each lies in the value beside it. -/
def RdL (w : World) (v : Value) (ll : List (Value × List PutD)) : Prop :=
  ∃ (a : Option Addr) (cap : Nat), v = .slice a ll.length cap ∧ ll.length ≤ cap ∧ ll.length ≤ 9223372036854775807 ∧ ∀ i (hi : i < ll.length), RdP w ll[i].1 ll[i].2 ∧ ∃ g o, a = some ⟨g, o, none⟩ ∧ g < w.heap.size ∧
    ∀ j (hj : j < ll.length), w.cell? ⟨g, o + j, none⟩ = some ll[j].1
theorem RdP.below {w w' : World} {v : Value} {l : List PutD} (h : RdP w v l) (hb : Below w.heap.size w w') : RdP w' v l := by
  obtain ⟨a, cap, rfl, hc, hm, hi⟩ := h
  refine ⟨a, cap, rfl, hc, hm, fun i hil => ?_⟩
  obtain ⟨h0, g, o, rfl, e2, e3⟩ := hi i hil
  exact ⟨h0, g, o, rfl, Nat.lt_of_lt_of_le e2 hb.size, fun j hj => ⟨(hb.cell (p := ⟨g, o + j * 2, none⟩) e2).trans (e3 j hj).1, (hb.cell (p := ⟨g, o + j * 2 + 1, none⟩) e2).trans (e3 j hj).2⟩⟩
theorem RdL.below {w w' : World} {v : Value} {l : List (Value × List PutD)} (h : RdL w v l) (hb : Below w.heap.size w w') : RdL w' v l := by
  obtain ⟨a, cap, rfl, hc, hm, hi⟩ := h
  refine ⟨a, cap, rfl, hc, hm, fun i hil => ?_⟩
  obtain ⟨h0, g, o, rfl, e2, e3⟩ := hi i hil
  exact ⟨h0.below hb, g, o, rfl, Nat.lt_of_lt_of_le e2 hb.size, fun j hj => (hb.cell (p := ⟨g, o + j, none⟩) e2).trans (e3 j hj)⟩
theorem RdP.nil (w : World) : RdP w (.slice none 0 0) [] := ⟨none, 0, rfl, Nat.le_refl _, by decide, fun i hi => by cases hi⟩
theorem RdL.nil (w : World) : RdL w (.slice none 0 0) [] := ⟨none, 0, rfl, Nat.le_refl _, by decide, fun i hi => by cases hi⟩
/-- A put in the mathematics' words; all puts of some lists. -/
def pt (p : PutD) : Int × Wl.Text := (p.1, p.2.data.toList)
def pts (l : List PutD) : List (Int × Wl.Text) := l.map pt
def ptsL (ll : List (Value × List PutD)) : List (Int × Wl.Text) := (ll.map fun x => pts x.2).flatten
theorem pts_take (l : List PutD) (k : Nat) (h : k < l.length) : pts (l.take (k + 1)) = pts (l.take k) ++ [pt l[k]] := by
  unfold pts; rw [List.take_succ_eq_append_getElem h, List.map_append]; rfl
theorem ptsL_take (ll : List (Value × List PutD)) (k : Nat) (h : k < ll.length) : ptsL (ll.take (k + 1)) = ptsL (ll.take k) ++ pts ll[k].2 := by
  unfold ptsL; rw [List.take_succ_eq_append_getElem h, List.map_append, List.flatten_append]; simp
theorem ptsL_split (ll : List (Value × List PutD)) (k : Nat) : ptsL ll = ptsL (ll.take k) ++ ptsL (ll.drop k) := by
  unfold ptsL; rw [← List.flatten_append, ← List.map_append, List.take_append_drop]
theorem pts_split (l : List PutD) (k : Nat) : pts l = pts (l.take k) ++ pts (l.drop k) := by
  unfold pts; rw [← List.map_append, List.take_append_drop]
namespace Wl
theorem gather_stop {homes : Nat} {a : List (Int × Text)} {c : Int} (hc : c ≠ 0) (h : gather homes [] a = (c, [])) (b : List (Int × Text)) : gather homes [] (a ++ b) = (c, []) := by
  rw [gather_append, h, if_neg hc]
theorem gather_go {homes : Nat} {a : List (Int × Text)} {G : Grp} (h : gather homes [] a = (0, G)) (p : Int × Text) : gather homes [] (a ++ [p]) = if p.1 < 0 ∨ (homes : Int) ≤ p.1 then (2, []) else if 512 < p.2.length then (5, []) else (0, ins p.1.toNat (Dk.full p.2) G) := by
  rw [gather_append, h, if_pos rfl, gather_cons]
  rfl
theorem rising_length : ∀ (m : Grp) (b c : Nat), Rising m → (∀ x ∈ m, b ≤ x.1 ∧ x.1 < c) → m.length ≤ c - b
  | [], _, _, _, _ => Nat.zero_le _
  | x :: m, b, c, hr, hb => by
    obtain ⟨r1, r2⟩ := List.pairwise_cons.1 hr
    have h0 := hb x List.mem_cons_self
    have := rising_length m (x.1 + 1) c r2 fun y hy => ⟨r1 y hy, (hb y (List.mem_cons_of_mem _ hy)).2⟩
    rw [List.length_cons]; omega
theorem fits_length {homes : Nat} {m : Grp} (h : Fits homes m) : m.length ≤ homes := rising_length m 0 homes h.1 fun x hx => ⟨Nat.zero_le _, (h.2 x hx).1⟩
end Wl
end Go.Proofs.YtahnhhhhfioibaaGreatDoor

namespace Go.Proofs.YtahnhhhhfioibaaGreatDoor
open Go.RowKit Lib

theorem full_cellsZ (s : ByteArray) : strCells s ++ (zeros.map bcell).drop s.size = (Dk.full s.data.toList).map bcell := by
  rw [← full_cells s, zeros, List.map_replicate]; rfl
/-- What gather hands back. -/
def Gathered (w w' : World) (homes : Nat) (ps : List (Int × Wl.Text)) (e : Ending) : Prop := ∃ mv, e = .returned (.tuple #[mv, .int .i64 (Wl.gather homes [] ps).1]) ∧ Below w.heap.size w w' ∧
      ((Wl.gather homes [] ps).1 = 0 → ∃ gb, mv = .map (some gb) ∧ CMap w' gb (Wl.gather homes [] ps).2 ∧ w.heap.size ≤ gb)
theorem Gathered.no {w w' : World} {homes : Nat} {ps : List (Int × Wl.Text)} {c : Int} (h : Wl.gather homes [] ps = (c, [])) (hc : c ≠ 0) (hb : Below w.heap.size w w') : Gathered w w' homes ps (.returned (.tuple #[.map none, .int .i64 c])) :=
  ⟨.map none, by rw [h], hb, fun e => by rw [h] at e; exact absurd e hc⟩
set_option maxRecDepth 100000 in
set_option maxHeartbeats 4000000 in
theorem gather_any (w : World) (F : Nat → Prop) (b g : Nat) (s : Wl.Lg) (va : Value) (ll : List (Value × List PutD)) (hl : Log w F b g s) (hh : s.homes ≤ 65536) (ha : RdL w va ll) :
    Calls Tryz.prog 81 #[ptr b, va] w fun e w' => Gathered w w' s.homes (ptsL ll) e := by
  obtain ⟨a, cap, rfl, hc, hm, hr⟩ := ha
  have HL := Lib.hid hl
  have HR := Lib.hid hr
  have HH := Lib.hid hh
  obtain ⟨Z, hZ⟩ : ∃ Z, Z = (zeros.map bcell).toArray := ⟨_, rfl⟩
  have hz : ∀ w, (zeroValue CT).run Tryz.prog w = .ok (.agg Z) w := fun w => by rw [hZ]; exact zero_CT w
  have hzs : Z.size = 512 := by rw [hZ]; simp [zeros_len]
  have hzn : ¬ Z = #[] := by intro e; rw [e] at hzs; cases hzs
  have HZ := Lib.hid hZ
  have hmm := @run_makeMap Tryz.prog
  clear hl hr hh hZ
  go_enter Tryz.func81, Tryz.ntmps81
  unfold ptr
  go_wp2
  obtain ⟨q, hq⟩ : ∃ q, w.heap.size = q := ⟨_, rfl⟩
  obtain ⟨V, hV⟩ : ∃ V, V = w.alloc (.map #[] 0) := ⟨_, rfl⟩
  rw [← hV, hq]
  have H0 := Lib.hid (show CMap V q [] ∧ Below w.heap.size w V by
    rw [hV, ← hq]; exact ⟨IMap.made _ _ _ _, (Below.refl _ _).alloc (Nat.le_refl _) _⟩)
  have HQ := Lib.hid hq
  have HC := Lib.hid hc
  clear hV hq hmm hc
  go_loopw [15] (fun i wr => ∃ (k : Nat) (G : Wl.Grp), k ≤ ll.length ∧ i = .int .i64 k ∧ Hid (Wl.gather s.homes [] (ptsL (ll.take k)) = (0, G)) ∧ Hid (CMap wr q G) ∧ Hid (Below w.heap.size w wr)) (fun i _ => ll.length - (Go.RowKit.intOf i).toNat)
  case atStart => exact ⟨0, [], Nat.zero_le _, rfl, Lib.hid rfl, Lib.hid H0.out.1, Lib.hid H0.out.2⟩
  case round =>
    obtain ⟨k, G, hk, rfl, hG, hM, hB⟩ := hrel
    by_cases hlt : k < ll.length
    · have hI : (k : Int) < ll.length := by omega
      obtain ⟨hP, ga, oa, rfl, hga, hxa⟩ := HR.out k hlt
      have hcl : wr.cell? ⟨ga, oa + k, none⟩ = some ll[k].1 := (hB.out.cell (p := ⟨ga, oa + k, none⟩) hga).trans (hxa k hlt)
      obtain ⟨al, capl, hv, hcl2, hml, hrl⟩ := hP
      rw [hv] at hcl
      have HT := Lib.hid (ptsL_take ll k hlt)
      have HSP := Lib.hid (ptsL_split ll (k + 1))
      have HRL := Lib.hid hrl
      clear hxa hv hrl
      obtain ⟨l, hl⟩ : ∃ l, l = ll[k].2 := ⟨_, rfl⟩
      rw [← hl] at hcl hcl2 hml HRL HT
      have HL2 := Lib.hid hl
      clear hl
      go_wp2
      go_loopw [21] (fun i wq => ∃ (j : Nat) (G' : Wl.Grp), j ≤ l.length ∧ i = .int .i64 j ∧ Hid (Wl.gather s.homes [] (ptsL (ll.take k) ++ pts (l.take j)) = (0, G')) ∧ Hid (CMap wq q G') ∧ Hid (Below w.heap.size w wq)) (fun i _ => l.length - (Go.RowKit.intOf i).toNat)
      case atStart => exact ⟨0, G, Nat.zero_le _, rfl, Lib.hid (by rw [List.take_zero]; unfold pts; rw [List.map_nil, List.append_nil]; exact hG.out), hM, hB⟩
      case round =>
        clear hG hM hB hcl
        obtain ⟨j, G', hj, rfl, hG, hM, hB⟩ := hrel
        by_cases hlt2 : j < l.length
        · have hI2 : (j : Int) < l.length := by omega
          obtain ⟨⟨hi1, hi2⟩, gp, op, rfl, hgp, hxp⟩ := HRL.out j hlt2
          obtain ⟨cp0, cp1⟩ := hxp j hlt2
          have d0 : wr.cell? ⟨gp, op + j * 2, none⟩ = some (.int .i64 l[j].1) := (hB.out.cell (p := ⟨gp, op + j * 2, none⟩) hgp).trans cp0
          have d1 : wr.cell? ⟨gp, op + j * 2 + 1, none⟩ = some (.string l[j].2) := (hB.out.cell (p := ⟨gp, op + j * 2 + 1, none⟩) hgp).trans cp1
          have HPT := Lib.hid (pts_take l j hlt2)
          have HGO := Lib.hid (Wl.gather_go hG.out (pt l[j]))
          have HSL := Lib.hid (pts_split l (j + 1))
          clear hxp cp0 cp1
          generalize l[j] = p at *
          obtain ⟨at_, text⟩ := p
          simp only at d0 d1 hi1 hi2
          have HGO := Lib.hid (show Wl.gather s.homes [] (ptsL (ll.take k) ++ pts (l.take j) ++ [pt (at_, text)]) = if at_ < 0 ∨ (s.homes : Int) ≤ at_ then (2, []) else if 512 < text.size then (5, []) else (0, Wl.ins at_.toNat (Dk.full text.data.toList) G') by
            rw [HGO.out]
            show (if at_ < 0 ∨ _ then _ else if 512 < text.data.toList.length then _ else _) = _
            rw [Array.length_toList]; rfl)
          have HALL := Lib.hid (show ptsL ll = (ptsL (ll.take k) ++ pts (l.take j) ++ [pt (at_, text)]) ++ (pts (l.drop (j + 1)) ++ ptsL (ll.drop (k + 1))) by
            rw [HSP.out, HT.out, HSL.out, HPT.out]; simp only [List.append_assoc])
          obtain ⟨r, hr⟩ : ∃ r, wr.heap.size = r := ⟨_, rfl⟩
          have HRR := Lib.hid hr
          have HFG := Lib.hid (show Wl.Fits s.homes G' by have := Wl.gather_fits s.homes (ptsL (ll.take k) ++ pts (l.take j)) [] (Wl.fits_nil _); rw [hG.out] at this; exact this)
          have HLr := Lib.hid (show Log (wr.alloc (.cells #[.int .i64 at_, .string text] 99)) F b g s from HL.out.below (hB.out.alloc hB.out.size _))
          have HBr := Lib.hid (hB.out.alloc hB.out.size (.cells #[.int .i64 at_, .string text] 99))
          have hqr : q < wr.heap.size := hM.out.lt
          have hBr' := (hB.out.alloc hB.out.size (.cells #[.int .i64 at_, .string text] 99)).alloc (by simp; have := hB.out.size; omega) (.cells Z CT)
          go_wp2_with fail
          refine (lhas_any _ F b g s at_ HLr.out).mono ?_
          rintro e w1 ⟨rfl, rfl⟩
          by_cases hhas : s.has at_ = true
          · rw [hhas]
            have hat : 0 ≤ at_ ∧ at_ < s.homes := by simpa [Wl.Lg.has] using hhas
            obtain ⟨i, rfl⟩ : ∃ i : Nat, at_ = i := ⟨at_.toNat, by omega⟩
            by_cases h5 : text.size ≤ 512
            · have h5I : (text.size : Int) ≤ 512 := by omega
              have HGO := Lib.hid (show Wl.gather s.homes [] (ptsL (ll.take k) ++ pts (l.take j) ++ [pt ((i : Int), text)]) = (0, Wl.ins i (Dk.full text.data.toList) G') by
                rw [HGO.out, if_neg (by omega), if_neg (by omega), Int.toNat_natCast])
              have HI := Lib.hid (show i ≤ 1000000 by have := HH.out; omega)
              have H5 := Lib.hid h5
              clear hhas hat
              go_wp2
              obtain ⟨X, hX⟩ : ∃ X, X = (wr.alloc (.cells #[.int .i64 i, .string text] 99)).alloc (.cells Z CT) := ⟨_, rfl⟩
              rw [← hX]
              have x0 : X.cell? ⟨r, 1, none⟩ = some (.string text) := by rw [hX]; simp [← hr]
              have x1 : X.cell? ⟨r, 0, none⟩ = some (.int .i64 i) := by rw [hX]; simp [← hr]
              have hxs := slice_CT X
              have HX := Lib.hid (show CBlk X (r + 1) zeros ∧ CMap X q G' ∧ Below w.heap.size w X ∧ X.heap.size = r + 2 by
                rw [hX]
                refine ⟨?_, ?_, hBr', by simp [hr]⟩
                · have := CBlk.new (wr.alloc (.cells #[.int .i64 i, .string text] 99)) Z HZ.out
                  rw [World.size_alloc, hr] at this
                  exact this
                · exact (hM.out.kept (World.grownBy_alloc _ _ none) (by simp)).kept (World.grownBy_alloc _ _ none) (by simp))
              clear hX hBr' d0 d1 h5 h5I hr
              go_still_tail 3, (by kernel_rfl)
              change wpList _ _ _ _ _ X.drew
              obtain ⟨U, hU⟩ : ∃ U, U = X.drew := ⟨_, rfl⟩
              rw [← hU]
              have hbU : But (fun _ => False) X U := by rw [hU]; exact (But.refl _ _).drew
              have u1 : U.cell? ⟨r, 0, none⟩ = some (.int .i64 i) := hbU.cell x1 id
              have HU := Lib.hid (show CBlk U (r + 1) zeros ∧ CMap U q G' ∧ Below w.heap.size w U ∧ U.heap.size = r + 2 by
                obtain ⟨h1, h2, h3, h6⟩ := HX.out
                rw [hU]
                exact ⟨h1, h2.but ((But.refl (fun _ => False) X).drew) id, h3.drew, h6⟩)
              clear hU hbU x0 x1 hxs HX
              go_wp2_with (refine wpList_copy_str rfl _ _ _ _ rfl 5 Tryz.underlying110 (by kernel_rfl) (r + 1) 512 512 text rfl rfl _ CT HU.out.1.1 H5.out (by have := H5.out; simp [zeros_len]; exact this) ?_; refine Hid.out ?_)
              refine Lib.hid ?_
              obtain ⟨Y, hY⟩ : ∃ Y, Y = U.setRow (r + 1) (strCells text ++ List.drop text.size (List.map bcell zeros)).toArray := ⟨_, rfl⟩
              rw [← hY]
              have hbY : But (fun k => k = r + 1) U Y := by rw [hY]; exact (But.refl _ _).setRow _ _ (fun _ => rfl)
              have HRQ := Lib.hid hqr
              have HY := Lib.hid (show CBlk Y (r + 1) (Dk.full text.data.toList) ∧ CMap Y q G' ∧ Below w.heap.size w Y ∧ Y.cell? ⟨r, 0, none⟩ = some (.int .i64 i) by
                obtain ⟨h1, h2, h3, h6⟩ := HU.out
                have hB1 := hB.out.size
                have hwr := HRR.out
                refine ⟨⟨?_, Dk.full_length _ (by rw [Array.length_toList]; exact H5.out)⟩, h2.but hbY (by omega), Below.but h3 hbY h3.size (fun k hk e => by omega), hbY.cell u1 (by simp)⟩
                rw [hY, ← full_cellsZ text]
                exact setRow_heap U (r + 1) _ _ _ _ h1.1)
              have y0 := HY.out.2.2.2
              clear hY hbY HU u1 hqr
              go_wp2_with (first
                | (refine wpList_loadC rfl _ rfl (r + 1) (Dk.full text.data.toList) rfl HY.out.1 ?_)
                | (at_mapUpdate; refine wpList_store (M := contentE) rfl _ _ _ rfl HY.out.2.1 underInt underMap (by have := Wl.fits_length (HFG.out); have := HH.out; omega) i HI.out (Dk.full text.data.toList) HY.out.1.2 rfl rfl rfl ?_; intro w8 hM8 hg8; have H8 := Lib.hid (And.intro hM8 hg8); clear hM8 hg8; go_frame))
              go_roundw
              case rel =>
                have hq8 : ∀ j, some q = some j → w.heap.size ≤ j := fun j e => by cases e; have := HQ.out; omega
                refine ⟨j + 1, _, by omega, by go_num, Lib.hid (by rw [HPT.out, ← List.append_assoc]; exact HGO.out), Lib.hid H8.out.1, Lib.hid (HY.out.2.2.1.grown H8.out.2 (HY.out.2.2.1.size) (fun j e => hq8 j e))⟩
              case measure => simp [Go.RowKit.intOf]; omega
            · have h5I : (text.size : Int) > 512 := by omega
              have HE := Lib.hid (show Wl.gather s.homes [] (ptsL ll) = (5, []) by
                rw [HALL.out]
                refine Wl.gather_stop (by decide) ?_ _
                rw [HGO.out, if_neg (by omega), if_pos (by omega)])
              clear hhas hat hBr'
              go_wp2
              go_ret2
              exact Gathered.no HE.out (by decide) HBr.out
          · have hh' : s.has at_ = false := by simpa using hhas
            have hat : at_ < 0 ∨ (s.homes : Int) ≤ at_ := by
              simp only [Wl.Lg.has, Bool.and_eq_false_iff, decide_eq_false_iff_not] at hh'
              omega
            have HE := Lib.hid (show Wl.gather s.homes [] (ptsL ll) = (2, []) by
              rw [HALL.out]
              refine Wl.gather_stop (by decide) ?_ _
              rw [HGO.out, if_pos hat])
            rw [hh']
            clear hhas hat hh' hBr'
            go_wp2
            go_ret2
            exact Gathered.no HE.out (by decide) HBr.out
        · have hje : j = l.length := by omega
          subst hje
          rw [List.take_length] at hG
          go_wp2
          go_roundw
          case rel => exact ⟨k + 1, G', by omega, by go_num, Lib.hid (by rw [HT.out]; exact hG.out), hM, hB⟩
          case measure => simp [Go.RowKit.intOf]; omega
    · have hke : k = ll.length := by omega
      subst hke
      rw [List.take_length] at hG
      go_wp2
      go_ret2
      refine ⟨.map (some q), by rw [hG.out]; rfl, hB.out, fun _ => ⟨q, rfl, by rw [hG.out]; exact hM.out, by have := HQ.out; omega⟩⟩
end Go.Proofs.YtahnhhhhfioibaaGreatDoor

namespace Go.Proofs.YtahnhhhhfioibaaGreatDoor
open Go.RowKit Go.Shelf Lib

attribute [local go_sem] Oper.semAt_some

/-- While the bytes are laid: u holds l; the keys stand in block kb. -/
structure PI (w wr : World) (kb : Nat) (keys : List Int) (u : Value) (l : List UInt8) : Prop where
  own : OwnZ true w.heap.size wr u l
  bel : Below w.heap.size w wr
  ne : ∀ k, u.ownBlock = some k → k ≠ kb
  lt : kb < wr.heap.size
  keys : ∀ j (hj : j < keys.length), wr.cell? ⟨kb, j, none⟩ = some (.int .i64 keys[j])
theorem PI.turn {w wr w' : World} {kb : Nat} {keys : List Int} {u v : Value} {l l' : List UInt8} (h : PI w wr kb keys u l) (ho : OwnZ true w.heap.size w' v l') (hb : But (fun k => u.ownBlock = some k) wr w')
    (hat : v.ownBlock = u.ownBlock ∨ ∀ k, v.ownBlock = some k → wr.heap.size ≤ k) : PI w w' kb keys v l' :=
  ⟨ho, But.belowNew h.bel hb (fun k hk => (h.own.block k hk).1), fun k hk e => by
    rcases hat with e1 | e1
    · exact h.ne k (by rw [← e1]; exact hk) e
    · have := e1 k hk; have := h.lt; omega, Nat.lt_of_lt_of_le h.lt hb.size, fun j hj => hb.cell (h.keys j hj) (fun e => h.ne kb e rfl)⟩
theorem PI.same {w wr w' : World} {kb : Nat} {keys : List Int} {u : Value} {l : List UInt8} (h : PI w wr kb keys u l) (hb : But (fun _ => False) wr w') : PI w w' kb keys u l :=
  ⟨h.own.but hb (fun _ _ h => h), h.bel.trans (hb.below h.bel.size (fun _ _ h => h)), h.ne, Nat.lt_of_lt_of_le h.lt hb.size, fun j hj => hb.cell (h.keys j hj) id⟩
theorem pack_take (g : Wl.Grp) (k : Nat) (hk : k < g.length) : Wl.pack (g.take (k + 1)) = Wl.pack (g.take k) ++ Wl.enc 4 g[k].1 ++ g[k].2 := by
  rw [List.take_succ_eq_append_getElem hk, Wl.pack_append, Wl.pack_cons, Wl.pack_nil, List.append_nil, List.append_assoc]
theorem pack_take_len {homes : Nat} {g : Wl.Grp} (h : Wl.Fits homes g) (k : Nat) : (Wl.pack (g.take k)).length ≤ 516 * g.length := by
  rw [Wl.pack_length (homes := homes) (fun x hx => h.2 x (List.mem_of_mem_take hx)), List.length_take]; omega
theorem look_rising {g : Wl.Grp} (h : Wl.Rising g) (k : Nat) (hk : k < g.length) : Wl.look g[k].1 g = some g[k].2 := by
  induction g generalizing k with
  | nil => cases hk
  | cons x g ih =>
    cases k with
    | zero => simp [Wl.look]
    | succ k =>
      have h' := List.pairwise_cons.1 h
      rw [Wl.look, if_neg, List.getElem_cons_succ]
      · exact ih h'.2 k (by simpa using hk)
      · have := h'.1 _ (List.getElem_mem (by simpa using hk : k < g.length))
        simp only [List.getElem_cons_succ]; omega
/-- The texts of the first pieces. -/
def cutTexts (l : List UInt8) (pre : List Nat) : List (List UInt8) := pre.map fun k => 112 :: ((l.drop (511 * k)).take 511)
theorem cutTexts_snoc (l : List UInt8) (pre : List Nat) (x : Nat) : ((cutTexts l (pre ++ [x])).map fun t => Value.string (bs t)) = ((cutTexts l pre).map fun t => Value.string (bs t)) ++ [.string (bs (112 :: ((l.drop (511 * x)).take 511)))] := by simp [cutTexts]
theorem cutTexts_all (g : Wl.Grp) : cutTexts (Wl.pack g) (List.range (((Wl.pack g).length + 510) / 511)) = Wl.putsTexts g := by
  rw [cutTexts, Wl.putsTexts, Wl.pieces, List.map_map]; rfl
/-- While the list is laid. -/
def LI (w : World) (p : Nat) (g : Wl.Grp) (dg dc : Nat) (cur : Array Value) (pre : List Nat) (W : World) : Prop :=
  ((∃ v, Boxed W p 34 v ∧ W.ownsRow p 9 1 v pre.length ((cutTexts (Wl.pack g) pre).map fun t => Value.string (bs t)) ∧ True) ∧
    (Boxed W (p + 1) 110 (.slice (some ⟨dg, 0, none⟩) (Wl.pack g).length dc) ∧ Boxed W (p + 1 + 1) 3 (.int .i64 511) ∧ W.heap[dg]? = some (.cells cur 5 (0, 0)))) ∧ Below w.heap.size w W
theorem block_kept {X Y : World} {row : Option Nat} {b : Nat} {cs : Array Value} {t : TypeId} {fz : Nat × Nat} (h : X.heap[b]? = some (.cells cs t fz)) (hg : X.grownBy Y row) (hrow : ∀ r, row = some r → ∃ o : Obj, X.heap[r]? = some o ∧ o.isCells = false) : Y.heap[b]? = some (.cells cs t fz) := by
  refine (hg.block b (Array.getElem?_eq_some_iff.1 h).1 fun e => ?_).trans h
  obtain ⟨o, ho, hc⟩ := hrow b e.symm
  rw [h] at ho; cases ho; cases hc
theorem LI.own {w : World} {p : Nat} {g : Wl.Grp} {dg dc : Nat} {cur : Array Value} {B : Nat} (_hB : p ≤ B) (hw : w.heap.size ≤ B) : OwnFrom B (fun pre W => LI w p g dg dc cur pre W) := by
  refine OwnFrom.and (Go.Own.from (fun s X Y row hs hg hr => ⟨?_, block_kept hs.2.1 hg hr, block_kept hs.2.2.1 hg hr, block_kept hs.2.2.2 hg hr⟩) _) (ownFrom_below (Nat.le_refl _) hw)
  exact holdsRow_own p p 34 9 1 (fun pre : List Nat => pre.length) (fun pre => (cutTexts (Wl.pack g) pre).map fun t => Value.string (bs t)) (fun _ _ => True) s X Y row hs.1 hg hr
theorem piece_back (W : World) (dg : Nat) (l : List UInt8) (cur : Array Value) (x : Nat) (hD : W.heap[dg]? = some (.cells cur 5 (0, 0))) (hdt : cur.toList.take l.length = l.map bcell) :
    (convert 110 9 (piece dg l.length x)).run Tryz.prog W = .ok (.string (bs ((l.drop (511 * x)).take 511))) W := by
  have := run_convert_bytes_back (P := Tryz.prog) W 110 9 5 ⟨dg, 511 * x, none⟩ (Nat.min 511 (l.length - 511 * x)) ((l.drop (511 * x)).take 511) (by kernel_rfl) (by kernel_rfl) (by kernel_rfl) (by
    intro j hj
    rw [List.length_take, List.length_drop] at hj
    rw [show (⟨dg, 511 * x, none⟩ : Addr).add j = ⟨dg, 511 * x + j, none⟩ by unfold Addr.add; split <;> simp_all]
    rw [cell_of_row W dg _ cur _ (0, 0) hD, List.getElem_take, List.getElem_drop]
    have h2 : (cur.toList.take l.length)[511 * x + j]? = some (bcell l[511 * x + j]) := by rw [hdt, List.getElem?_map, List.getElem?_eq_getElem (by omega)]; rfl
    rw [List.getElem?_take, if_pos (by omega)] at h2
    rw [← Array.getElem?_toList]
    exact h2)
  rw [Wl.piece_length] at this
  exact this
set_option maxRecDepth 100000 in
set_option maxHeartbeats 4000000 in
theorem putsTexts_any (w : World) (homes gb : Nat) (g : Wl.Grp) (hg : CMap w gb g) (hf : Wl.Fits homes g) (hh : homes ≤ 65536) (hl : g.length ≤ 65536) :
    Calls Tryz.prog 115 #[.map (some gb)] w fun e w' => ∃ v, e = .returned v ∧ OwnS w.heap.size w' v (Wl.putsTexts g) ∧ Below w.heap.size w w' := by
  have HG := Lib.hid hg
  have HF := Lib.hid hf
  have HH := Lib.hid hh
  have hlI : (g.length : Int) ≤ 65536 := by omega
  have hl0 : (0 : Int) ≤ g.length := by omega
  have hgt := hg.lt
  clear hg hf hh
  obtain ⟨Z, hZ⟩ : ∃ Z, Z = (zeros.map bcell).toArray := ⟨_, rfl⟩
  have hz : ∀ w, (zeroValue CT).run Tryz.prog w = .ok (.agg Z) w := fun w => by rw [hZ]; exact zero_CT w
  have hzs : Z.size = 512 := by rw [hZ]; simp [zeros_len]
  have hzn : ¬ Z = #[] := by intro e; rw [e] at hzs; cases hzs
  have HZ := Lib.hid hZ
  clear hZ
  refine (callsIn_wide (n := 6)).1 ?_
  refine callsIn_of_wp_marks Tryz.func115 rfl trivial ?_ rfl
  refine wpIn_wide.2 ?_
  simp only [Tryz.ntmps115, List.size_toArray, List.length_cons, List.length_nil, Nat.reduceAdd, Nat.reduceSub, Array.replicate_succ, Array.replicate_zero, List.push_toArray, List.append_toArray, List.nil_append, List.cons_append]
  go_wp2_with (first
    | (at_len; refine wpList_lenC rfl _ rfl gb g rfl HG.out ?_)
    | (refine wpList_make0 (K := byteElem) byteST rfl _ _ rfl w.heap.size (Nat.le_refl _) (516 * (g.length : Int)) (516 * g.length) rfl rfl (by omega) (by omega) ?_; intro w1 ho1 hg1; have H1 := Lib.hid (And.intro (OwnZ.ofOwn ho1) hg1); clear ho1 hg1)
    | fail)
  have H2 := Lib.hid (show OwnZ true w.heap.size w1 (.slice (some ⟨w.heap.size, 0, none⟩) 0 (516 * g.length)) [] ∧ Below w.heap.size w w1 from ⟨H1.out.1, ⟨H1.out.2.os, H1.out.2.tape, H1.out.2.output, H1.out.2.size, fun k hk => H1.out.2.block k hk (by simp)⟩⟩)
  clear H1
  refine (keys_any (some gb) w1).mono ?_
  rintro e w2 ⟨rfl, hw2⟩
  have H3 := Lib.hid (show OwnZ true w.heap.size w2 (.slice (some ⟨w.heap.size, 0, none⟩) 0 (516 * g.length)) [] ∧ Below w.heap.size w w2 ∧ CMap w2 gb g ∧ w2.cell? ⟨w1.heap.size, 0, none⟩ = some (.map (some gb)) ∧ w1.heap.size < w2.heap.size by
    have hb : Below w.heap.size w w2 := by rw [hw2]; exact H2.out.2.alloc H2.out.2.size _
    refine ⟨by rw [hw2]; exact H2.out.1.alloc _, hb, HG.out.but (But.of_below hb (fun _ => False)) id, ?_, by rw [hw2]; simp⟩
    rw [hw2]; exact (Blk.new w1 #[.map (some gb)] 88).cell rfl)
  clear hw2
  go_wp2_with fail
  refine (sorted_any gb w1.heap.size g w2 H3.out.2.2.1 (by omega) H3.out.2.2.2.1).mono ?_
  rintro e w3 ⟨kv, rfl, hkv, hb3⟩
  obtain ⟨ka, kcap, hke, hkc⟩ := hkv.slice
  rw [List.length_map] at hke hkc
  obtain ⟨kb, hkb1, hkb2, hkb⟩ : ∃ kb, w1.heap.size ≤ kb ∧ kb < w3.heap.size ∧ ∀ j (hj : j < (g.map fun x => (x.1 : Int)).length), ka = some ⟨kb, 0, none⟩ ∧ w3.cell? ⟨kb, j, none⟩ = some (.int .i64 (g.map fun x => (x.1 : Int))[j]) := by
    rcases Nat.eq_zero_or_pos g.length with h0 | h0
    · refine ⟨w1.heap.size, Nat.le_refl _, Nat.lt_of_lt_of_le H3.out.2.2.2.2 hb3.size, fun j hj => ?_⟩
      rw [List.length_map] at hj; omega
    · obtain ⟨kb, kc', e1, e2, e3, _⟩ := hkv.form (by rw [List.length_map]; exact h0)
      rw [e1] at hke
      rw [List.length_map] at hke
      injection hke with i1 i2 i3
      have hkv' := hkv
      rw [e1] at hkv'
      refine ⟨kb, by have := H3.out.2.2.2.2; omega, e3, fun j hj => ⟨i1.symm, ?_⟩⟩
      have := hkv'.lies j (.int .i64 (g.map fun x => (x.1 : Int))[j]) (by rw [show (intElem .i64).cells (g.map fun x => (x.1 : Int)) = (g.map fun x => (x.1 : Int)).map (fun n => Value.int .i64 n) from oneElem_cells _ _ _, List.getElem?_map, List.getElem?_eq_getElem hj]; rfl)
      rw [Nat.zero_add] at this
      exact this
  subst hke
  have HP := Lib.hid (show PI w w3 kb (g.map fun x => (x.1 : Int)) (.slice (some ⟨w.heap.size, 0, none⟩) 0 (516 * g.length)) [] ∧ CMap w3 gb g from
    ⟨⟨H3.out.1.but (But.of_below hb3 (fun _ => False)) (fun _ _ h => h), H3.out.2.1.trans ⟨hb3.os, hb3.tape, hb3.output, hb3.size, fun k hk => hb3.block k (Nat.lt_of_lt_of_le hk H3.out.2.1.size)⟩,
      fun k hk e => by simp [Value.ownBlock] at hk; have := (H2.out.1.block w.heap.size rfl).2; omega, hkb2, fun j hj => (hkb j hj).2⟩, H3.out.2.2.1.but (But.of_below hb3 (fun _ => False)) id⟩)
  have HK := Lib.hid (fun j hj => (hkb j hj).1)
  clear hkb hkb1 hkb2 hkv hb3 H3 H2
  go_wp2_with fail
  go_loopw [3, 17] (fun u i wr => ∃ k : Nat, k ≤ g.length ∧ i = .int .i64 k ∧ Hid (PI w wr kb (g.map fun x => (x.1 : Int)) u (Wl.pack (g.take k))) ∧ Hid (CMap wr gb g)) (fun _ i _ => g.length - (Go.RowKit.intOf i).toNat)
  case atStart => exact ⟨0, Nat.zero_le _, rfl, Lib.hid HP.out.1, Lib.hid HP.out.2⟩
  case round =>
    obtain ⟨k, hk, rfl, hP, hM⟩ := hrel
    by_cases hlt : k < g.length
    · have hI : (k : Int) < g.length := by omega
      have hk1 := HK.out k (by rw [List.length_map]; exact hlt)
      subst hk1
      have hcell := hP.out.keys k (by rw [List.length_map]; exact hlt)
      rw [List.getElem_map] at hcell
      have HT := Lib.hid (pack_take g k hlt)
      have HLn := Lib.hid (pack_take_len HF.out k)
      have hin := HF.out.2 g[k] (List.getElem_mem hlt)
      have hlk := look_rising HF.out.1 k hlt
      have HI := Lib.hid (And.intro hlt (And.intro hk hI))
      generalize g[k] = x at *
      obtain ⟨i, t⟩ := x
      simp only at hin hlk hcell HT
      have hi6 : (i : Int) ≤ 65536 := by have := HH.out; omega
      have hi0 : (0 : Int) ≤ i := by omega
      obtain ⟨hat, _⟩ := CMap.at hM.out (k := i) (by omega) hlk
      have ht : t.length = 512 := hin.2
      have HHt := Lib.hid ht
      obtain ⟨r, hr⟩ : ∃ r, wr.heap.size = r := ⟨_, rfl⟩
      have HR := Lib.hid hr
      clear hin hlk hk hlt ht
      go_wp2_with (first
        | (refine wpList_storeC rfl _ _ rfl r t zeros rfl rfl HHt.out (by rw [← hr]; exact CBlk.new wr Z HZ.out) ?_; intro w5 hc5 hb5; have H5 := Lib.hid (And.intro hc5 hb5); clear hc5 hb5)
        | fail)
      have hur : ∀ q, u3.ownBlock = some q → q < r := fun q hq => by have := (hP.out.own.block q hq).2; omega
      have HP5 := Lib.hid (show PI w w5 kb (g.map fun x => (x.1 : Int)) u3 (Wl.pack (g.take k)) ∧ CMap w5 gb g ∧ CBlk w5 r t ∧ r < w5.heap.size by
        have hb5 : But (fun _ => False) wr w5 := ((But.refl (fun _ => False) wr).alloc _).trans H5.out.2 (fun q hq e => by have := HR.out; omega)
        exact ⟨hP.out.same hb5, hM.out.but hb5 id, H5.out.1, H5.out.1.lt⟩)
      have HUR := Lib.hid hur
      clear hP hM H5 hat hcell hr hur
      refine (appendNumber_any true w.heap.size w5 u3 _ i 4 HP5.out.1.own HP5.out.1.bel.size (by have := HLn.out; omega) (by omega) (by decide)).mono ?_
      rintro e w6 ⟨u6, rfl, ho6, hb6, hat6⟩
      have HP6 := Lib.hid (show PI w w6 kb (g.map fun x => (x.1 : Int)) u6 (Wl.pack (g.take k) ++ Wl.enc 4 i) ∧ CMap w6 gb g ∧ CBlk w6 r t by
        refine ⟨HP5.out.1.turn ho6 hb6 hat6, HP5.out.2.1.but hb6 (fun e => by have := (HP5.out.1.own.block gb e).1; omega), HP5.out.2.2.1.but hb6 (fun e => by have := HUR.out r e; omega)⟩)
      have hxs := slice_CT w6 r
      clear ho6 hb6 hat6 HP5 HUR
      go_wp2_with (first
        | (at_builtin; refine wpList_app2 (K := byteElem) byteST rfl _ _ rfl rfl HP6.out.1.own.own HP6.out.1.bel.size r 0 512 512 t rfl HHt.out (Lies.of_blk HP6.out.2.2.1 (oneElem_cells _ _ _).symm) (by rw [List.length_append, Wl.enc_length]; have := HLn.out; omega) ?_; intro u7 w7 ho7 hg7 hat7; have H7 := Lib.hid (And.intro ho7 (And.intro hg7 hat7)); clear ho7 hg7 hat7)
        | fail)
      go_roundw
      case rel =>
        obtain ⟨ho7, hg7, hat7⟩ := H7.out
        refine ⟨k + 1, HI.out.1, by go_num, Lib.hid ?_, Lib.hid (HP6.out.2.1.kept hg7 (fun e => by have := (HP6.out.1.own.block gb e.symm).1; omega))⟩
        rw [HT.out]
        obtain ⟨a7, c7, e7, _⟩ := ho7.slice
        have hz : OwnZ true w.heap.size w7 u7 (Wl.pack (g.take k) ++ Wl.enc 4 i ++ t) := by
          obtain ⟨q7, c7, e7, _⟩ := ho7.form (by rw [List.length_append, HHt.out]; omega)
          rw [e7] at ho7 ⊢
          exact OwnZ.ofOwn ho7
        exact HP6.out.1.turn hz (But.ofGrown hg7) hat7
      case measure => have := HI.out.1; simp [Go.RowKit.intOf]; omega
    · obtain rfl : k = g.length := by omega
      rw [List.take_length] at hP
      go_wp2_with fail
      obtain ⟨dg, dc, cur, fz, rfl, hdB, hdh, _, hdl, hdm, hds, hdt, hdz⟩ := hP.out.own
      rw [hdz rfl] at hdh
      have hdlt : dg < wr.heap.size := (Array.getElem?_eq_some_iff.1 hdh).1
      have hL : (Wl.pack g).length ≤ 800000000 := by have := pack_take_len HF.out g.length; rw [List.take_length] at this; omega
      refine ((callsIn_wide (n := 5)).1 (chunk_in Fence.wide 5 trivial rfl (some ⟨dg, 0, none⟩) (Wl.pack g).length dc _)).mono ?_
      rintro e V ⟨rfl, hV⟩
      obtain ⟨p, hp⟩ : ∃ p, wr.heap.size = p := ⟨_, rfl⟩
      rw [World.size_alloc, hp]
      have bP : Boxed V p 34 (.slice none 0 0) := by
        rw [hV, ← hp]; exact ((Boxed.new wr _ _).alloc _).alloc _
      have bA : Boxed V (p + 1) 110 (.slice (some ⟨dg, 0, none⟩) (Wl.pack g).length dc) := by
        have := Boxed.new (wr.alloc (.cells #[.slice none 0 0] 34)) 110 (.slice (some ⟨dg, 0, none⟩) (Wl.pack g).length dc)
        rw [World.size_alloc, hp] at this
        rw [hV]; exact this.alloc _
      have bB : Boxed V (p + 1 + 1) 3 (.int .i64 511) := by
        have := Boxed.new ((wr.alloc (.cells #[.slice none 0 0] 34)).alloc (.cells #[.slice (some ⟨dg, 0, none⟩) (Wl.pack g).length dc] 110)) 3 (.int .i64 511)
        rw [World.size_alloc, World.size_alloc, hp] at this
        rw [hV]; exact this
      have hbV : Below p wr V := by
        rw [hV]; exact (((Below.refl _ _).alloc (by omega) _).alloc (by simp; omega) _).alloc (by simp; omega) _
      have hVs : V.heap.size = p + 3 := by rw [hV]; simp [hp]
      have hbw : Below w.heap.size w V := hP.out.bel.trans ⟨hbV.os, hbV.tape, hbV.output, hbV.size, fun k hk => hbV.block k (by have := hP.out.bel.size; omega)⟩
      have hdV : V.heap[dg]? = some (.cells cur 5 (0, 0)) := (hbV.block dg (by omega)).trans hdh
      have HB := Lib.hid (And.intro bP (And.intro bA (And.intro bB (And.intro hbw (And.intro hVs hdV)))))
      clear hV hbV bP bA bB hbw hVs hdV
      go_wp2_with fail
      clear hz hzs hzn HZ HP
      have HHP := Lib.hid hp
      clear hp
      refine (wpIn_wide (n := 6)).1 ?_
      refine wpIn_rangeFunc_ownG (F := Fence.wide) rfl (by omega) (gf := 146) (lb := #[.pointer (some ⟨p + 1, 0, none⟩), .pointer (some ⟨p + 1 + 1, 0, none⟩)]) rfl trivial (enters_of Tryz.func146 (by kernel_rfl) rfl)
        (chunk_stops Fence.wide 5 trivial rfl (by omega) (p + 1) (p + 1 + 1) dg dc (Wl.pack g).length hL hdl V HB.out.2.1.lt HB.out.2.2.1.lt HB.out.2.1.cell HB.out.2.2.1.cell)
        (fun h k => h.trans k) (fun W l o o' hl _ _ _ => ⟨World.putObj_heap_other (by have := HB.out.2.2.2.2.1; omega), World.putObj_heap_other (by have := HB.out.2.2.2.2.1; omega)⟩) (Below.refl _ _) (fun _ => rfl)
        (fun pre W => LI w p g dg dc cur pre W) (fun _ _ _ => False)
        (LI.own (by have := HB.out.2.2.2.2.1; omega) (by have := HB.out.2.2.2.1.size; omega)) (fun _ _ _ _ _ hs _ _ => hs) ?h0
        (fun x => { tmps := #[.map (some gb), undef, .slice none 0 0, .slice (some ⟨dg, 0, none⟩) (Wl.pack g).length dc, undef, u5, u6, .pointer (some ⟨p, 0, none⟩), piece dg (Wl.pack g).length x, .map (some gb), .int .i64 g.length, .int .i64 (516 * (g.length : Int)), .slice (some ⟨w.heap.size, 0, none⟩) 0 (516 * g.length), .map (some gb), .func (.func 134) #[] #[.pointer (some ⟨w1.heap.size, 0, none⟩)], .slice ka g.length kcap, .int .i64 g.length, .int .i64 g.length, .bool false, u19, u20, u21, u22, u23, u24, u25, u26, u27, u28, u29, u30, u31, .slice (some ⟨dg, 0, none⟩) (Wl.pack g).length dc, .func (.func 146) #[] #[.pointer (some ⟨p + 1, 0, none⟩), .pointer (some ⟨p + 1 + 1, 0, none⟩)], piece dg (Wl.pack g).length x, undef, undef, undef, undef, undef, undef, undef], defers := [] }) ?assign ?body ?done ?stop
      case h0 => exact ⟨⟨⟨_, HB.out.1, World.ownsRow_nil _ _ _ _, trivial⟩, HB.out.2.1, HB.out.2.2.1, HB.out.2.2.2.2.2⟩, HB.out.2.2.2.1⟩
      case assign =>
        intro l x W K hK
        gi_wp2
        exact hK
      case body =>
        rintro l pre x W ⟨⟨⟨v, hv, hrow, _⟩, hA, hB2, hD⟩, hBW⟩ hlt
        have hc := hv.cell
        obtain ⟨i0, hi, hz0, hz1, hz2⟩ := info_of (P := Tryz.prog) (E := 9) (size := 1) (bytes := 16) (z := .string .empty) (by kernel_rfl)
        have hcv := piece_back W dg (Wl.pack g) cur x hD hdt
        have hpW : p + 3 ≤ W.heap.size := by have := hB2.lt; omega
        have hss : ¬ 9223372036854775807 < 1 + (bs (((Wl.pack g).drop (511 * x)).take 511)).size := by rw [bs_size, List.length_take]; omega
        have HP2 := Lib.hid (show pre.length < 800000000 by omega)
        gi_wp2_with (gi_at_builtin; refine wpListIn_append_own _ rfl _ _ 34 rfl p 9 i0 (.string .empty) 1 16 Tryz.underlying34 hi hz0 hz1 hz2 rfl (by decide) _ _ _ rfl (hrow.alloc _) ⟨W.heap.size, 0, none⟩ 1 1 [.string (bs (112 :: (((Wl.pack g).drop (511 * x)).take 511)))] rfl rfl (cell_one_new _ _ _) (by simp [Value.oneCell']) (by unfold maxLen; omega) (by omega) (by simp; omega) ?_; intro v' w1 hown' hgrow _; obtain ⟨g', cap', rfl⟩ := ownsRow_succ hown'; obtain ⟨hv1, hv2, hr2, hk2, hb2⟩ := hv.appended (by decide) hrow (by omega) (Nat.le_refl _) hown' hgrow; have hc1 := hv1.cell; have hf1 := hv1.frozen)
        have hx1 : ∀ b t u, b = p + 1 ∨ b = p + 1 + 1 → t ≠ 9 → Boxed W b t u → Boxed (w1.setCell ⟨p, 0, none⟩ (.slice (some ⟨g', 0, none⟩) (pre.length + 1) cap')) b t u := fun b t u hb ht h =>
          Boxed.kept (Boxed.kept (h.alloc _) hgrow (h.not_row ht hrow)) (grownBy_setCell' w1 p _) (by simp; omega)
        have eA := hx1 _ _ _ (.inl rfl) (by decide) hA
        have eB := hx1 _ _ _ (.inr rfl) (by decide) hB2
        have hdp : dg < p := by have := HHP.out; omega
        exact ⟨hk2.from _, ⟨eA.trans hA.symm, eB.trans hB2.symm⟩, ⟨⟨_, hv2, by rw [cutTexts_snoc, List.length_append]; exact hr2, trivial⟩, eA, eB, (hb2.block dg hdp).trans hD⟩,
          hBW.trans ⟨hb2.os, hb2.tape, hb2.output, hb2.size, fun k hk => hb2.block k (by omega)⟩⟩
      case done =>
        rintro D ys W hD rfl ⟨⟨⟨v, hv, hrow, _⟩, hA, hB2, hD2⟩, hBW⟩ hK
        have hc := hv.cell
        go_wp2
        refine ⟨by simp, .inl ⟨_, _, rfl, run_takeDeferred hK, ?_⟩⟩
        refine ⟨_, results_tmp rfl _ _ _, v, rfl, ?_, hBW.trans (belowK_b (w := w) (Nat.le_refl _) W D _ _ (by have := HB.out.2.2.2.1.size; omega) hK rfl rfl)⟩
        have h1 := ownsRow_putObj hrow (.deferred none) hK rfl
        rw [cutTexts_all] at h1
        have hlen : (List.range (((Wl.pack g).length + 510) / 511)).length = ((Wl.putsTexts g).map bs).length := by rw [List.length_map, List.length_range, Wl.putsTexts, List.length_map, Wl.pieces_length]
        refine Own.mono (B := p) ?_ (by have := HB.out.2.2.2.1.size; have := hP.out.bel.size; have := HHP.out; omega)
        unfold Own
        rw [show strElem.cells ((Wl.putsTexts g).map bs) = ((Wl.putsTexts g).map bs).map (fun s => Value.string s) from oneElem_cells _ _ _, ← hlen, List.map_map]
        exact h1
      case stop =>
        rintro D c pre W _ _ h _
        exact h.elim
end Go.Proofs.YtahnhhhhfioibaaGreatDoor
