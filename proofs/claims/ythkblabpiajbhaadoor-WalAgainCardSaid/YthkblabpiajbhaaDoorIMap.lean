/- Maps from numbers to texts, as a program has them in memory: what lies there, look-ups, stores, ranges. -/
import Derived.Test.YthkblabpiajbhaaDoorTexts
import Derived.Test.YthkblabpiajbhaaDoorLogMath
import Derived.Maps.OwnSet
import Derived.Maps.RangeWalk
import Derived.Maps.Ext
import Derived.Lib.Hide
import Derived.Lib.SlKeysI
namespace Go.Proofs.YthkblabpiajbhaaDoor
open Go.RowKit Go.Maps
open Wl (Grp ins Rising)

/-- How a map's elements, texts, stand in memory. -/
structure ME where
  enc : List UInt8 → Value
  R : Value → Option (DataW Unit × List MemPlace)
  fits : List UInt8 → Prop
  read : ∀ l, fits l → R (enc l) = some (.lit (.string l), [])
  inv : ∀ v y, R v = some y → ∃ l, v = enc l ∧ fits l ∧ y = (.lit (.string l), [])

/-! ### Contents: 512 bytes. -/
def ctext (l : List UInt8) : Value := .agg (l.map bcell).toArray
def unbyte : Value → Option UInt8
  | .int .u8 n => if 0 ≤ n ∧ n ≤ 255 then some (UInt8.ofNat n.toNat) else none
  | _ => none
def unbytes : List Value → Option (List UInt8)
  | [] => some []
  | v :: r => match unbyte v, unbytes r with
    | some b, some l => some (b :: l)
    | _, _ => none
def readC : Value → Option (DataW Unit × List MemPlace)
  | .agg cs => match unbytes cs.toList with
    | some l => if l.length = 512 then some (.lit (.string l), []) else none
    | none => none
  | _ => none
theorem unbyte_bcell (b : UInt8) : unbyte (bcell b) = some b := by
  have := b.toNat_lt
  unfold unbyte bcell
  simp only
  rw [if_pos (by omega)]
  simp
theorem unbytes_map : ∀ l : List UInt8, unbytes (l.map bcell) = some l
  | [] => rfl
  | b :: l => by simp only [List.map_cons, unbytes, unbyte_bcell, unbytes_map l]
theorem unbyte_inv {v : Value} {b : UInt8} (h : unbyte v = some b) : v = bcell b := by
  unfold unbyte at h
  split at h
  · rename_i n
    split at h
    · injection h with h
      subst h
      unfold bcell
      rw [UInt8.toNat_ofNat']
      congr 1
      omega
    · cases h
  · cases h
theorem unbytes_inv : ∀ {cs : List Value} {l : List UInt8}, unbytes cs = some l → cs = l.map bcell
  | [], l, h => by injection h with h; subst h; rfl
  | v :: r, l, h => by
    unfold unbytes at h
    split at h
    · rename_i b l' h1 h2
      injection h with h
      subst h
      rw [List.map_cons, unbyte_inv h1, unbytes_inv h2]
    · cases h
theorem readC_ctext {l : List UInt8} (h : l.length = 512) : readC (ctext l) = some (.lit (.string l), []) := by
  unfold readC ctext
  simp only [unbytes_map]
  rw [if_pos h]
theorem readC_inv {v : Value} {y : DataW Unit × List MemPlace} (h : readC v = some y) : ∃ l, v = ctext l ∧ l.length = 512 ∧ y = (.lit (.string l), []) := by
  unfold readC at h
  split at h
  · rename_i cs
    split at h
    · rename_i l hl
      split at h
      · rename_i h5
        injection h with h
        refine ⟨l, ?_, h5, h.symm⟩
        unfold ctext
        rw [← unbytes_inv hl]
      · cases h
    · cases h
  · cases h
def contentE : ME := ⟨ctext, readC, fun l => l.length = 512, fun _ h => readC_ctext h, fun _ _ h => readC_inv h⟩

/-! ### What a map holds. -/
def ent (x : Nat × List UInt8) : Lit × DataW Unit := (.int .i64 x.1, .lit (.string x.2))
def dat (m : Grp) : DataW Unit := .map (m.map ent)
theorem ent_same (x : Nat × List UInt8) (k : Nat) : (ent x).1.sameKey (.int .i64 k) = decide (x.1 = k) := by
  simp only [ent, Lit.sameKey, true_and]
  exact decide_eq_decide.2 ⟨fun h => by omega, fun h => by omega⟩
theorem dat_find (m : Grp) (k : Nat) : ((m.map ent).find? (fun p => p.1.sameKey (.int .i64 k))).map (·.2) = (Wl.look k m).map fun t => .lit (.string t) := by
  induction m with
  | nil => rfl
  | cons x m ih =>
    rw [List.map_cons, List.find?_cons, ent_same]
    unfold Wl.look
    by_cases h : x.1 = k
    · rw [if_pos h, decide_eq_true h]; rfl
    · rw [if_neg h, decide_eq_false h]; exact ih
theorem dat_at_some {m : Grp} {k : Nat} {t : List UInt8} (h : Wl.look k m = some t) (z : DataW Unit) : (dat m).atKey (.int .i64 k) z = .lit (.string t) := by
  have := dat_find m k
  rw [h] at this
  unfold dat DataW.atKey
  simp only
  cases e : (m.map ent).find? (fun p => p.1.sameKey (.int .i64 k)) with
  | none => rw [e] at this; cases this
  | some p => rw [e] at this; injection this
theorem dat_at_none {m : Grp} {k : Nat} (h : Wl.look k m = none) (z : DataW Unit) : (dat m).atKey (.int .i64 k) z = z := by
  have := dat_find m k
  rw [h] at this
  unfold dat DataW.atKey
  simp only
  cases e : (m.map ent).find? (fun p => p.1.sameKey (.int .i64 k)) with
  | none => rfl
  | some p => rw [e] at this; cases this
theorem dat_has (m : Grp) (k : Nat) : Maps.has (dat m) (.int .i64 k) = (Wl.look k m).isSome := by
  show (m.map ent).any (fun p => p.1.sameKey (.int .i64 k)) = _
  induction m with
  | nil => rfl
  | cons x m ih =>
    rw [List.map_cons, List.any_cons, ent_same]
    unfold Wl.look
    by_cases h : x.1 = k
    · rw [if_pos h, decide_eq_true h]; rfl
    · rw [if_neg h, decide_eq_false h, ih]; rfl
theorem dat_size (m : Grp) : Maps.size (dat m) = m.length := by show (m.map ent).length = _; rw [List.length_map]
theorem dat_keys (m : Grp) : intKeys (dat m) = m.map fun x => (x.1 : Int) := by
  show (m.map ent).map (fun p => Go.intOf p.1) = _
  rw [List.map_map]; rfl
theorem filter_above (k : Nat) : ∀ m : Grp, (∀ x ∈ m, k < x.1) → (m.map ent).filter (fun p => !p.1.sameKey (.int .i64 k)) = m.map ent
  | [], _ => rfl
  | x :: m, h => by
    rw [List.map_cons, List.filter_cons, ent_same, decide_eq_false (by have := h x List.mem_cons_self; omega), filter_above k m fun y hy => h y (List.mem_cons_of_mem _ hy)]
    rfl
theorem insert_above (k : Nat) (t : List UInt8) : ∀ m : Grp, (∀ x ∈ m, k < x.1) → DataW.insert (ent (k, t)) (m.map ent) = ent (k, t) :: m.map ent
  | [], _ => rfl
  | x :: m, h => by
    have hb : (ent (k, t)).1.before (ent x).1 = true := by
      have := h x List.mem_cons_self
      show decide ((k : Int) < (x.1 : Int)) = true
      exact decide_eq_true (by omega)
    rw [List.map_cons]
    unfold DataW.insert
    rw [if_pos hb]
theorem dat_put (k : Nat) (t : List UInt8) : ∀ m : Grp, Rising m → DataW.insert (ent (k, t)) ((m.map ent).filter (fun p => !p.1.sameKey (.int .i64 k))) = (ins k t m).map ent
  | [], _ => rfl
  | x :: m, hr => by
    obtain ⟨h1, h2⟩ := List.pairwise_cons.1 hr
    unfold ins
    by_cases hk : k < x.1
    · rw [if_pos hk, filter_above k (x :: m) (fun y hy => by
        rcases List.mem_cons.1 hy with rfl | hy
        · exact hk
        · exact Nat.lt_trans hk (h1 y hy)), insert_above k t (x :: m) (fun y hy => by
        rcases List.mem_cons.1 hy with rfl | hy
        · exact hk
        · exact Nat.lt_trans hk (h1 y hy))]
      rfl
    · rw [if_neg hk]
      by_cases he : k = x.1
      · rw [if_pos he, List.map_cons, List.filter_cons, ent_same, decide_eq_true he.symm]
        rw [if_neg (by decide), filter_above k m (fun y hy => by have := h1 y hy; omega), insert_above k t m (fun y hy => by have := h1 y hy; omega)]
        rfl
      · rw [if_neg he, List.map_cons, List.filter_cons, ent_same, decide_eq_false (by omega), if_pos (by decide)]
        have hb : ¬ (ent (k, t)).1.before (ent x).1 = true := by
          show ¬ decide ((k : Int) < (x.1 : Int)) = true
          rw [decide_eq_true_eq]; omega
        unfold DataW.insert
        rw [if_neg hb, dat_put k t m h2]
        rfl
theorem dat_ins (k : Nat) (t : List UInt8) (m : Grp) (hr : Rising m) : (dat m).put (.int .i64 k) (.lit (.string t)) = dat (ins k t m) := by
  show DataW.map _ = DataW.map _
  rw [← dat_put k t m hr]
  rfl

/-! ### A map in memory. -/
section
variable {P : Program} {T E : TypeId} (M : ME) {w w' : World} {b : Nat} {m : Grp}
/-- Block b is a map that holds m. -/
def IMap (P : Program) (K : TypeId) (M : ME) (w : World) (b : Nat) (m : Grp) : Prop :=
  w.ownsMap P K M.R b m.length (dat m) ∧ Rising m ∧ ∀ x ∈ m, x.1 ≤ 1000000
variable {K : TypeId}
theorem key_wf {k : Nat} (h : k ≤ 1000000) : (Lit.int .i64 (k : Int)).wf = true := by
  simp [Lit.wf, IntKind.min, IntKind.max, IntKind.signed, IntKind.bits]
  omega
theorem ownsMap_len {n : Nat} (h : w.ownsMap P K M.R b n (dat m)) : w.ownsMap P K M.R b m.length (dat m) := by
  obtain ⟨es, clock, hb, F, _, hD⟩ := h
  refine ⟨es, clock, hb, F, ?_, hD⟩
  have : Maps.size (dat m) = es.size := by rw [hD]; simp [Maps.size, length_sorted]
  rw [dat_size] at this
  omega
theorem IMap.kept {M : ME} {row : Option Nat} (h : IMap P K M w b m) (hg : w.grownBy w' row) (hne : some b ≠ row) : IMap P K M w' b m := ⟨h.1.kept hg hne, h.2⟩
theorem IMap.lt {M : ME} (h : IMap P K M w b m) : b < w.heap.size := h.1.lt
theorem IMap.but {M : ME} {S : Nat → Prop} (h : IMap P K M w b m) (hb : But S w w') (hn : ¬ S b) : IMap P K M w' b m := by
  obtain ⟨⟨es, clock, h1, r⟩, h2⟩ := h
  exact ⟨⟨es, clock, (hb.block b (Array.getElem?_eq_some_iff.1 h1).1 hn).trans h1, r⟩, h2⟩
theorem IMap.isMap {M : ME} (h : IMap P K M w b m) : ∃ es clock, w.heap[b]? = some (.map es clock) := by
  obtain ⟨⟨es, clock, h1, _⟩, _⟩ := h
  exact ⟨es, clock, h1⟩
theorem IMap.ne_blk {M : ME} {g : Nat} {t : TypeId} {cs : List Value} (h : IMap P K M w b m) (hg : Blk w g t cs) : b ≠ g := by
  intro e
  obtain ⟨es, clock, h1⟩ := h.isMap
  unfold Blk at hg
  rw [e, hg] at h1
  cases h1
theorem IMap.made (P : Program) (K : TypeId) (M : ME) (w : World) : IMap P K M (w.alloc (.map #[] 0)) w.heap.size [] :=
  ⟨World.ownsMap_made w P K M.R, List.Pairwise.nil, fun x hx => by cases hx⟩
/-- m[k] with ok. -/
theorem IMap.look_some {M : ME} (h : IMap P K M w b m) (hk : P.underlying K = some (.int .i64)) (ht : P.underlying T = some (.map K E)) {z : List UInt8} (hz : (zeroValue E).run P w = .ok (M.enc z) w) (hzf : M.fits z)
    {k : Nat} (hkw : k ≤ 1000000) {t : List UInt8} (hl : Wl.look k m = some t) : (Instr.lookup T (.map (some b)) (.int .i64 k) true).run P w = .ok (.tuple #[M.enc t, .bool true]) w ∧ M.fits t := by
  obtain ⟨v, ps, hr, hv⟩ := h.1.look_ok (int_keyed hk) ht hz (M.read z hzf) (keyOf_int_mk hk (key_wf hkw))
  rw [dat_at_some hl] at hv
  rw [dat_has, hl] at hr
  obtain ⟨l, rfl, hf, he⟩ := M.inv _ _ hv
  injection he with he _
  injection he with he
  injection he with he
  subst he
  exact ⟨hr, hf⟩
theorem IMap.look_none {M : ME} (h : IMap P K M w b m) (hk : P.underlying K = some (.int .i64)) (ht : P.underlying T = some (.map K E)) {z : List UInt8} (hz : (zeroValue E).run P w = .ok (M.enc z) w) (hzf : M.fits z)
    {k : Nat} (hkw : k ≤ 1000000) (hl : Wl.look k m = none) : (Instr.lookup T (.map (some b)) (.int .i64 k) true).run P w = .ok (.tuple #[M.enc z, .bool false]) w := by
  obtain ⟨v, ps, hr, hv⟩ := h.1.look_ok (int_keyed hk) ht hz (M.read z hzf) (keyOf_int_mk hk (key_wf hkw))
  rw [dat_at_none hl] at hv
  rw [dat_has, hl] at hr
  obtain ⟨l, rfl, hf, he⟩ := M.inv _ _ hv
  injection he with he _
  injection he with he
  injection he with he
  subst he
  exact hr
/-- m[k] without ok. -/
theorem IMap.at {M : ME} (h : IMap P K M w b m) (hk : P.underlying K = some (.int .i64)) (ht : P.underlying T = some (.map K E)) {z : List UInt8} (hz : (zeroValue E).run P w = .ok (M.enc z) w) (hzf : M.fits z)
    {k : Nat} (hkw : k ≤ 1000000) {t : List UInt8} (hl : Wl.look k m = some t) : (Instr.lookup T (.map (some b)) (.int .i64 k) false).run P w = .ok (M.enc t) w ∧ M.fits t := by
  obtain ⟨v, ps, hr, hv⟩ := h.1.lookup (int_keyed hk) ht hz (M.read z hzf) (keyOf_int_mk hk (key_wf hkw))
  rw [dat_at_some hl] at hv
  obtain ⟨l, rfl, hf, he⟩ := M.inv _ _ hv
  injection he with he _
  injection he with he
  injection he with he
  subst he
  exact ⟨hr, hf⟩
theorem IMap.fits {M : ME} (h : IMap P K M w b m) (hk : P.underlying K = some (.int .i64)) (ht : P.underlying T = some (.map K E)) {z : List UInt8} (hz : (zeroValue E).run P w = .ok (M.enc z) w) (hzf : M.fits z) : ∀ x ∈ m, M.fits x.2 :=
  fun x hx => (h.at hk ht hz hzf (h.2.2 x hx) (Wl.look_of_mem h.2.1 (show (x.1, x.2) ∈ m from hx))).2
/-- m[k] = t. -/
theorem IMap.store {M : ME} (h : IMap P K M w b m) (hk : P.underlying K = some (.int .i64)) (ht : P.underlying T = some (.map K E)) (hn : m.length ≤ 1000000) {k : Nat} (hkw : k ≤ 1000000) {t : List UInt8} (hf : M.fits t) :
    ∃ w', (Instr.mapUpdate T (.map (some b)) (.int .i64 k) (M.enc t)).run P w = .ok () w' ∧ IMap P K M w' b (ins k t m) ∧ w.grownBy w' (some b) := by
  obtain ⟨w', h1, h2, h3⟩ := h.1.update (int_keyed hk) ht (by unfold maxLen; omega) (keyOf_int_mk hk (key_wf hkw)) (M.read t hf)
  rw [dat_ins k t m h.2.1] at h2
  exact ⟨w', h1, ⟨ownsMap_len M h2, Wl.ins_rising k t h.2.1, fun x hx => by
    rcases Wl.ins_mem hx with rfl | hx
    · exact hkw
    · exact h.2.2 x hx⟩, h3⟩
/-- At the operation, for the walk. -/
theorem wpList_store {M : ME} {ops : Array Oper} {rest : List Oper} {o : Oper} {a : Act} {Q : Exit → Act → World → Prop} (hg : o.guard = none) (mm x v : Operand) (hop : o.op = Op.mapUpdate T mm x v)
    (h : IMap P K M w b m) (hk : P.underlying K = some (.int .i64)) (ht : P.underlying T = some (.map K E)) (hn : m.length ≤ 1000000) (k : Nat) (hkw : k ≤ 1000000) (t : List UInt8) (hf : M.fits t)
    (hm : a.eval mm = .map (some b)) (hx : a.eval x = .int .i64 k) (hv : a.eval v = M.enc t)
    (hK : ∀ w', IMap P K M w' b (ins k t m) → w.grownBy w' (some b) → wpList P ops Q rest (a.put o.dst undef) w') : wpList P ops Q (o :: rest) a w := by
  refine wpList_plain hg fun K' hK' => ?_
  obtain ⟨w', hr, h1, h2⟩ := h.store hk ht hn hkw hf
  unfold Oper.wp
  simp [execOp, hop, hm, hx, hv, hr, Result.andThen]
  exact hK' _ _ (hK w' h1 h2)
theorem IMap.len {M : ME} (h : IMap P K M w b m) (ht : P.underlying T = some (.map K E)) (ty : TypeId) : (Builtin.len_ #[T] ty #[.map (some b)]).run P w = .ok (.int .i64 m.length) w := by
  have := h.1.len ht ty
  rw [dat_size] at this
  exact this
end
end Go.Proofs.YthkblabpiajbhaaDoor
