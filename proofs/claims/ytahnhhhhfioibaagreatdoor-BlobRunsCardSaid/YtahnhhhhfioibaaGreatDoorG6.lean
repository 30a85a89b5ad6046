/- Elder texts, merged (6). -/
import Derived.Test.YtahnhhhhfioibaaGreatDoorG5
import Derived.Test.YtahnhhhhfioibaaGreatDoorG1
import Derived.Test.YtahnhhhhfioibaaGreatDoorRows
import Derived.WalkKit
import Derived.ProofKit
import Derived.OpenShut
import Derived.ShutString
import Derived.Carry
import Derived.SliceStrings
import Derived.SizedLaws
import Derived.Deep.Strs
import Derived.ChangeSlices
import Derived.Deep.Grids
import Derived.Test.YtahnhhhhfioibaaGreatDoorG4
import Derived.Test.YtahnhhhhfioibaaGreatDoorCards
import Derived.Test.YtahnhhhhfioibaaGreatDoorTie
import Derived.Deep.DeepHandedRow
namespace Go.Proofs.YtahnhhhhfioibaaGreatDoor
open Go.RowKit Lib

theorem aw_gather : Wl.gather 11 [] [(1, [97]), (2, [98])] = (0, [(1, Dk.full [97]), (2, Dk.full [98])]) := by simp [Wl.gather, Wl.ins]
theorem aw_comm : Wl.comm 8 (Wl.noughts 11) [(1, [97]), (2, [98])] = (0, Dk.puts (Wl.noughts 11) [(1, Dk.full [97]), (2, Dk.full [98])]) := by
  unfold Wl.comm
  rw [show (Wl.noughts 11).length = 11 by simp [Wl.noughts], aw_gather, if_neg (by decide), if_neg (by decide)]
theorem aw_home : homeOf (Dk.puts (Wl.noughts 11) [(1, Dk.full [97]), (2, Dk.full [98])]) 2 = (Dk.full [98], 0) := by rfl
theorem aw_len : (Dk.puts (Wl.noughts 11) [(1, Dk.full [97]), (2, Dk.full [98])]).length = 11 := by rfl
theorem aw_text : (bs (Dk.full [98])).extract 0 2 = ⟨#[98, 0]⟩ := by rw [ext_take]; rfl
/-- Lists of puts that are just built. -/
theorem RdP.one (w : World) (a : Int) (t : ByteArray) (ha : -9223372036854775808 ≤ a ∧ a ≤ 9223372036854775807) : RdP (w.alloc (.cells #[.int .i64 a, .string t] 99)) (.slice (some ⟨w.heap.size, 0, none⟩) 1 1) [(a, t)] := by
  refine ⟨_, 1, rfl, Nat.le_refl _, by simp, fun i hi => ⟨?_, w.heap.size, 0, rfl, by simp, fun j hj => ?_⟩⟩
  · rw [List.getElem_singleton]; exact ha
  · obtain rfl : j = 0 := by simpa using hj
    have hb := Blk.new w #[.int .i64 a, .string t] 99
    exact ⟨hb.cell rfl, hb.cell rfl⟩
end Go.Proofs.YtahnhhhhfioibaaGreatDoor

namespace Go.Proofs.YtahnhhhhfioibaaGreatDoor
open Go.RowKit Lib

theorem bs_inj {a b : List UInt8} (h : bs a = bs b) : a = b := by rw [← bs_list a, h, bs_list]
theorem homeOf_at {H : List Wl.Text} {k : Nat} (hk : k < H.length) : homeOf H (k : Nat) = (H[k], 0) := by
  unfold homeOf
  rw [if_pos (by omega), Int.toNat_natCast, List.getD_eq_getElem?_getD, List.getElem?_eq_getElem hk]; rfl
theorem homeOf_end (H : List Wl.Text) : homeOf H (H.length : Nat) = ([], 2) := by
  unfold homeOf
  rw [if_neg (by omega)]
end Go.Proofs.YtahnhhhhfioibaaGreatDoor

namespace Go.Proofs.YtahnhhhhfioibaaGreatDoor
open Go.RowKit Lib

/-- In block b there is a log over disk g, up, without a limit; its homes hold H; none of its blocks is of A. -/
def Kept (A : Nat → Prop) (ring : Nat) (wr : World) (b g N : Nat) (H : List Wl.Text) : Prop :=
  ∃ F s, Log wr F b g s ∧ Wl.Live ring N s H ∧ s.d.fuel < 0 ∧ (∀ x, F x → ¬ A x) ∧ ∀ x, A x → x < wr.heap.size
/-- What a call may turn: not A. -/
abbrev Off (A : Nat → Prop) (w w' : World) : Prop := But (fun x => ¬ A x) w w'
theorem Off.below {A : Nat → Prop} {B : Nat} {w w' : World} (h : Off A w w') (hA : ∀ x, x < B → A x) (hB : B ≤ w.heap.size) : Below B w w' := But.below h hB (fun k hk hn => hn (hA k hk))
theorem Kept.aside {A : Nat → Prop} {ring b g N : Nat} {H : List Wl.Text} {w w' : World} (h : Kept A ring w b g N H) (hb : Below w.heap.size w w') : Kept A ring w' b g N H := by
  obtain ⟨F, s, hl, hv, hf, ha, hlt⟩ := h
  exact ⟨F, s, hl.below hb, hv, hf, ha, fun x hx => Nat.lt_of_lt_of_le (hlt x hx) hb.size⟩
/-- A block that is new is let be from here on. -/
theorem Kept.more {A : Nat → Prop} {ring b g N : Nat} {H : List Wl.Text} {w w' : World} (h : Kept A ring w b g N H) (hb : Below w.heap.size w w') (q : Nat) (hq : w.heap.size ≤ q) (hq' : q < w'.heap.size) : Kept (fun x => A x ∨ x = q) ring w' b g N H := by
  obtain ⟨F, s, hl, hv, hf, ha, hlt⟩ := h
  refine ⟨F, s, hl.below hb, hv, hf, fun x hx hn => ?_, fun x hx => ?_⟩
  · rcases hn with hn | hn
    · exact ha x hx hn
    · have := hl.lt x hx; omega
  · rcases hx with hx | hx
    · exact Nat.lt_of_lt_of_le (hlt x hx) hb.size
    · omega
theorem Kept.fewer {A A' : Nat → Prop} {ring b g N : Nat} {H : List Wl.Text} {w : World} (h : Kept A ring w b g N H) (hA : ∀ x, A' x → A x) : Kept A' ring w b g N H := by
  obtain ⟨F, s, hl, hv, hf, ha, hlt⟩ := h
  exact ⟨F, s, hl, hv, hf, fun x hx hn => ha x hx (hA x hn), fun x hx => hlt x (hA x hx)⟩
theorem Kept.left {A : Nat → Prop} {ring b g N : Nat} {H : List Wl.Text} {w w' : World} {F F' : Nat → Prop} {s' : Wl.Lg} (ha : ∀ x, F x → ¬ A x) (hlt : ∀ x, A x → x < w.heap.size) (hL : Log w' F' b g s') (hM : Moved F w F' w') (hv : Wl.Live ring N s' H) (hf : s'.d.fuel < 0) :
    Kept A ring w' b g N H ∧ Off A w w' :=
  ⟨⟨F', s', hL, hv, hf, fun x hx hn => by
    rcases hM.2 x hx with h | h
    · exact ha x h hn
    · have := hlt x hn; omega, fun x hx => Nat.lt_of_lt_of_le (hlt x hx) hM.1.size⟩, hM.1.mono (fun x _ hx => ha x hx)⟩
def KeptTo (A : Nat → Prop) (ring : Nat) (w w' : World) (b g N : Nat) (H : List Wl.Text) : Prop := Kept A ring w' b g N H ∧ Off A w w'
theorem kept_commit {A : Nat → Prop} {ring b g N : Nat} {H : List Wl.Text} {w : World} (h : Kept A ring w b g N H) (hN : N + 1 < 1000000) (va : Value) (ll : List (Value × List PutD)) (ha : RdL w va ll) :
    Calls Tryz.prog 54 #[ptr b, va] w fun e w' => e = .returned (.int .i64 (Wl.comm ring H (ptsL ll)).1) ∧ KeptTo A ring w w' b g (N + 1) (Wl.comm ring H (ptsL ll)).2 := by
  obtain ⟨F, s, hl, hv, hf, hA, hlt⟩ := h
  refine (commit_live w F b g ring N s H va ll hl hv hN ha).mono ?_
  rintro e w' ⟨F', s', hL, hM, hq⟩
  rcases hq with ⟨rfl, hv', hf'⟩ | ⟨_, _, hbad⟩
  · exact ⟨rfl, Kept.left hA hlt hL hM hv' (hf' hf)⟩
  · omega
theorem kept_check {A : Nat → Prop} {ring b g N : Nat} {H : List Wl.Text} {w : World} (h : Kept A ring w b g N H) :
    Calls Tryz.prog 83 #[ptr b] w fun e w' => e = .returned (.int .i64 0) ∧ KeptTo A ring w w' b g N H := by
  obtain ⟨F, s, hl, hv, hf, hA, hlt⟩ := h
  refine (check_live w F b g ring N s H hl hv).mono ?_
  rintro e w' ⟨F', s', hL, hM, hq⟩
  rcases hq with ⟨rfl, hv', hf'⟩ | ⟨_, _, hbad⟩
  · exact ⟨rfl, Kept.left hA hlt hL hM hv' (hf' hf)⟩
  · omega
theorem kept_read {A : Nat → Prop} {ring b g N : Nat} {H : List Wl.Text} {w : World} (h : Kept A ring w b g N H) (i : Int) :
    Calls Tryz.prog 25 #[ptr b, .int .i64 i] w fun e w' => e = .returned (.tuple #[.string (bs (homeOf H i).1), .int .i64 (homeOf H i).2]) ∧ Below w.heap.size w w' := by
  obtain ⟨F, s, hl, hv, hf, hA, hlt⟩ := h
  exact read_live w F b g ring N s H i hl hv
/-- New, then Open. -/
theorem kept_begun {A : Nat → Prop} {g ring size : Nat} {w : World} {FD : Nat → Prop} (hs : Sec w FD g (Dk.fresh size)) (hA : ∀ x, FD x → ¬ A x) (hlt : ∀ x, A x → x < w.heap.size) (hr1 : 4 ≤ ring) (hr2 : ring ≤ 4096) (hs1 : ring + 2 ≤ size) (hs2 : size ≤ 65536) :
    Calls Tryz.prog 9 #[ptr g, .int .i64 ring] w fun e w' => ∃ b, e = .returned (.tuple #[ptr b, .int .i64 0]) ∧ KeptTo A ring w w' b g 1 (Wl.noughts (size - 1 - ring)) := by
  refine (open_begun w FD g ring size hs hr1 hr2 hs1 hs2).mono ?_
  rintro e w' ⟨b, rfl, F', s', hL, hM, hv, hf⟩
  exact ⟨b, rfl, Kept.left hA hlt hL hM hv hf⟩
/-- One put of a log of 20 homes, which has room. -/
theorem comm_one {ring : Nat} {H : List Wl.Text} (hr : 3 ≤ ring) (a : Nat) (ha : a < H.length) (t : Wl.Text) (ht : t.length ≤ 512) : Wl.comm ring H [((a : Int), t)] = (0, Dk.puts H [(a, Dk.full t)]) := by
  have hg : Wl.gather H.length [] [((a : Int), t)] = (0, [(a, Dk.full t)]) := by
    simp only [Wl.gather]
    rw [if_neg (by omega), if_neg (by omega), Int.toNat_natCast]
    rfl
  unfold Wl.comm
  have h1 : Wl.sizeOf 1 = 3 := by decide
  rw [hg, if_neg (by simp), if_neg (by show ¬ ring < Wl.sizeOf 1; omega)]
end Go.Proofs.YtahnhhhhfioibaaGreatDoor

namespace Go.Proofs.YtahnhhhhfioibaaGreatDoor
open Go.ChangeShapes Go.WideShapes Go.ChangeAt Go.RowKit

theorem own : ownKnob Tryz.prog.godebug = none := by kernel_rfl

theorem byte_of {a : Int} (h : (Lit.int .u8 a).wf = true) : ∃ c : UInt8, a = (c.toNat : Int) := by
  have h2 : (0 : Int) ≤ a ∧ a ≤ 255 := by
    have := h
    simp only [Lit.wf, Bool.and_eq_true, decide_eq_true_eq] at this
    exact this
  refine ⟨UInt8.ofNat a.toNat, ?_⟩
  rw [UInt8.toNat_ofNat']
  omega
theorem i16_of {a : Int} (h : (Lit.int .i16 a).wf = true) : -32768 ≤ a ∧ a ≤ 32767 := by
  have := h
  simp only [Lit.wf, Bool.and_eq_true, decide_eq_true_eq] at this
  exact this

theorem post_below {H : Type} {enc : TypeId × Value → H} {P : Program} {f : Func} {s : ChangeSpec} {apart fresh handsOn again : Bool} {W W' : World} {args : Array Value} {v : Value} {ds gs : List (DataW H)} {before pa pv : List MemPlace}
    (hW : DataW.Whole enc P f.params.toList s.vars apart W args.toList ds gs before) (hb : Below W.heap.size W W') (hps : before = pa ++ pv)
    (hres : ∀ (b : Nat) (sp : Nat → Bool) (hd : Bool), DataW.TrodAll enc P W' b sp hd f.resultTypes.toList (v.resultList f.resultTypes.size) (s.fn H (ds ++ gs)).results [])
    (hargs : ∀ sp : Nat → Bool, (∀ p ∈ before, sp p.block = true) → DataW.TrodAll enc P W' 0 sp true f.params.toList args.toList (s.fn H (ds ++ gs)).args pa)
    (hvars : ∀ sp : Nat → Bool, (∀ p ∈ before, sp p.block = true) → DataW.TrodVars enc P W' sp s.vars (s.fn H (ds ++ gs)).vars pv)
    (hok : ∀ (j : Nat) (t : TypeId) (r : Value), f.resultTypes[j]? = some t → (v.resultList f.resultTypes.size)[j]? = some r → Value.okWide P W' .any 0 t r) :
    s.post enc P f apart fresh handsOn again W args v W' := by
  have lt : ∀ p ∈ before, p.block < W.heap.size := fun p hp => hW.lt p hp
  have old : ∀ p ∈ before, (fun b => decide (b < W.heap.size)) p.block = true := fun p hp => by simpa using hW.lt p hp
  refine ⟨ds, gs, before, [], pa, pv, hW, hres _ _ _, hargs _ old, hvars _ old, World.keptBut_mono (fun p hp => ⟨hp, ?_⟩) (hb.frame (· ∈ before)), fun _ => ?_⟩
  · rw [hps, List.mem_append] at hp
    exact .inr hp
  · obtain ⟨_, _, _, _, _, hz, hn⟩ := hW
    refine ⟨hok, _, _, ([] ++ pa) ++ pv, ⟨[] ++ pa, pv, trodAll_append (hargs _ (fun _ _ => rfl)) (hres _ _ _), hvars _ (fun _ _ => rfl), rfl, fun b off hp => ?_, fun ha => ?_⟩, fun p hp _ => ?_⟩
    · have hin : MemPlace.cell b off ∈ before := by rw [hps]; simpa using hp
      have hl : b < W.heap.size := lt _ hin
      rw [hb.frozen hl]
      exact hz b off hin
    · have h := hn ha
      rw [hps] at h
      simpa using h
    · rw [hps]
      simpa using hp
end Go.Proofs.YtahnhhhhfioibaaGreatDoor

namespace Go.Proofs.YtahnhhhhfioibaaGreatDoor
open Go.ChangeShapes Go.WideShapes Go.ChangeAt Go.RowKit

theorem laidOut : laidOutB Tryz.prog = true := by kernel_rfl

theorem trodAll_stays {H : Type} {enc : TypeId × Value → H} {W W' : World} {sp : Nat → Bool} (ts : List TypeId) :
    ∀ {vs : List Value} {ds : List (DataW H)} {ps : List MemPlace}, (∀ t ∈ ts, Tryz.prog.readableRec t = true ∧ t < Tryz.prog.types.size) →
      DataW.TrodAll enc Tryz.prog W 0 (fun _ => true) true ts vs ds ps → (∀ p ∈ ps, W.sameAt W' p) → (∀ p ∈ ps, sp p.block = true) → DataW.TrodAll enc Tryz.prog W' 0 sp true ts vs ds ps := by
  induction ts with
  | nil =>
    intro vs ds ps _ h _ _
    cases vs <;> cases ds <;> first | exact h | cases h
  | cons t ts ih =>
    intro vs ds ps ht h hs hp
    cases vs with
    | nil => cases h
    | cons v vs =>
      cases ds with
      | nil => cases h
      | cons d ds =>
        obtain ⟨p, q, h1, h2, rfl⟩ := h
        have h0 := ht t (List.mem_cons_self ..)
        exact ⟨p, q, WideElems.Trod_stays laidOut h0.1 h0.2 h1 (fun x hx => hs x (List.mem_append.2 (.inl hx))) (fun x hx => hp x (List.mem_append.2 (.inl hx))),
          ih (fun t ht' => ht t (List.mem_cons_of_mem _ ht')) h2 (fun x hx => hs x (List.mem_append.2 (.inr hx))) (fun x hx => hp x (List.mem_append.2 (.inr hx))), rfl⟩

set_option maxRecDepth 100000 in
/-- What is read of a slice of strings: s i stands in cell i; each has at most 2^47 bytes, and so many are they. -/
theorem strings_in {H : Type} {enc : TypeId × Value → H} {W : World} {base T E : Nat} {v : Value} {d : DataW H} {p : List MemPlace} (hT : Tryz.prog.underlying T = some (.slice E)) (hE : Tryz.prog.underlying E = some .string) (hc : Tryz.prog.cellsOf E = 1) (hby : 1 ≤ Tryz.prog.bytesOf E)
    (hval : Value.okWide Tryz.prog W .any base T v) (hd : DataW.Trod enc Tryz.prog W 0 (fun _ => true) true T v d p) (hw : ∀ n ∈ d.weights Tryz.prog T, n ≤ reachBytes) :
    ∃ (a : Option Addr) (n cap : Nat) (S : Nat → ByteArray), v = .slice a n cap ∧ n ≤ cap ∧ n ≤ 140737488355328 ∧
      ∀ i, i < n → (S i).size ≤ 140737488355328 ∧ ∃ g o, a = some ⟨g, o, none⟩ ∧ g < W.heap.size ∧ ∀ j, j < n → W.cell? ⟨g, o + j, none⟩ = some (.string (S j)) := by
  obtain ⟨a, n, cap, rfl⟩ := okWide_slice hT hval
  obtain ⟨f, hf⟩ := hd
  have hr := Deep.open_strs hT hE hc hf
  rcases hr with ⟨e, _⟩ | ⟨a', len, cap', m, S, e, _, hl, _, hm, hx, hcell⟩
  · simp only [Value.cells, List.cons.injEq, and_true] at e
    injection e with e1 e2 e3
    subst e1 e2 e3
    exact ⟨none, 0, 0, fun _ => .empty, rfl, Nat.le_refl _, by decide, fun i hi => absurd hi (by omega)⟩
  · simp only [Value.cells, List.cons.injEq, and_true] at e
    injection e with e1 e2 e3
    subst e1 e2 e3
    simp only [if_true] at hm
    subst hm
    injection hx with hx1 hx2
    subst hx1
    have hR : reachBytes ≤ 140737488355328 := by decide
    have hwn := hw ((((List.range n).map fun i => (DataW.lit (.string (S i).data.toList) : DataW H)).length + ((List.range (m - n)).map fun j => (DataW.lit (.string (S (n + j)).data.toList) : DataW H)).length) * Tryz.prog.bytesOf E) (by simp [DataW.weights, hT])
    have hws : ∀ (l : List (DataW H)) (x : DataW H), x ∈ l → ∀ k ∈ x.weights Tryz.prog E, k ∈ DataW.weightsAll Tryz.prog E l := by
      intro l
      induction l with
      | nil => intro x hx; cases hx
      | cons y l ih =>
        intro x hx k hk
        simp only [DataW.weightsAll, List.mem_append]
        rcases List.mem_cons.1 hx with rfl | hx
        · exact .inl hk
        · exact .inr (ih x hx k hk)
    refine ⟨some a', n, m, S, rfl, hl, ?_, fun i hi => ⟨?_, ?_⟩⟩
    · rw [List.length_map, List.length_map, List.length_range, List.length_range] at hwn
      have : n * 1 ≤ (n + (m - n)) * Tryz.prog.bytesOf E := Nat.mul_le_mul (by omega) hby
      omega
    · have : (S i).data.toList.length ≤ reachBytes := hw _ (by
        simp only [DataW.weights, hT, List.mem_cons, List.mem_append]
        refine .inr (.inl (hws _ (.lit (.string (S i).data.toList)) (List.mem_map.2 ⟨i, List.mem_range.2 hi, rfl⟩) _ (by simp [DataW.weights])))
      )
      rw [Array.length_toList] at this
      exact Nat.le_trans this hR
    · obtain ⟨g, o, spot⟩ := a'
      have h0 := (hcell 0 (by omega)).1
      have hspot : spot = none := by simpa [Addr.add] using World.cell?_spot h0
      subst hspot
      refine ⟨g, o, rfl, World.block_lt_of_cell? _ _ h0, fun j hj => ?_⟩
      have := (hcell j (by omega)).1
      rwa [show (⟨g, o, none⟩ : Addr).add j = ⟨g, o + j, none⟩ by unfold Addr.add; split <;> simp_all] at this
end Go.Proofs.YtahnhhhhfioibaaGreatDoor

namespace Go.Proofs.YtahnhhhhfioibaaGreatDoor
set_option maxRecDepth 100000
open Go.ChangeShapes Go.WideShapes Go.ChangeAt Go.RowKit

/-- v reads as the bytes l. -/
def RdY (w : World) (v : Value) (l : List UInt8) : Prop :=
  ∃ (a : Option Addr) (cap : Nat), v = .slice a l.length cap ∧ l.length ≤ cap ∧ ∀ i (_ : i < l.length), ∃ g o, a = some ⟨g, o, none⟩ ∧ g < w.heap.size ∧ ∀ j (hj : j < l.length), w.cell? ⟨g, o + j, none⟩ = some (.int .u8 l[j].toNat)
theorem RdY.below {w w' : World} {v : Value} {l : List UInt8} (h : RdY w v l) (hb : Below w.heap.size w w') : RdY w' v l := by
  obtain ⟨a, cap, rfl, hc, hi⟩ := h
  refine ⟨a, cap, rfl, hc, fun i hil => ?_⟩
  obtain ⟨g, o, rfl, e2, e3⟩ := hi i hil
  exact ⟨g, o, rfl, Nat.lt_of_lt_of_le e2 hb.size, fun j hj => (hb.cell (p := ⟨g, o + j, none⟩) e2).trans (e3 j hj)⟩
theorem addr_add (g o j : Nat) : (⟨g, o, none⟩ : Addr).add j = ⟨g, o + j, none⟩ := by unfold Addr.add; split <;> simp_all

theorem bytes_in {H : Type} {enc : TypeId × Value → H} {W : World} {base : Nat} {v : Value} {d : DataW H} {p : List MemPlace}
    (hval : Value.okWide Tryz.prog W .any base 110 v) (hd : DataW.Trod enc Tryz.prog W 0 (fun _ => true) true 110 v d p) : ∃ l, RdY W v l := by
  obtain ⟨a, n, cap, rfl⟩ := okWide_slice Tryz.underlying110 hval
  obtain ⟨f, hf⟩ := hd
  rcases open_ints Tryz.underlying110 Tryz.underlying5 (by kernel_rfl) hf with ⟨e, _⟩ | ⟨a', n', cap', zs, e, _, hl, _, hm, _, hcell, hwf⟩
  · simp only [Value.cells, List.cons.injEq, and_true] at e
    rw [e]
    exact ⟨[], none, 0, rfl, Nat.le_refl _, fun i hi => by simp at hi⟩
  · simp only [Value.cells, List.cons.injEq, and_true] at e
    rw [e]
    simp only [if_true] at hm
    obtain ⟨g, o, spot⟩ := a'
    rcases Nat.eq_zero_or_pos n' with rfl | hn
    · exact ⟨[], _, cap', rfl, Nat.zero_le _, fun i hi => by simp at hi⟩
    · have h0 := hcell 0 (by omega)
      have hspot : spot = none := by simpa [Addr.add] using World.cell?_spot h0
      subst hspot
      have hg := World.block_lt_of_cell? _ _ h0
      have hg : g < W.heap.size := by rw [addr_add] at hg; exact hg
      refine ⟨(zs.take n').map (fun z => UInt8.ofNat z.toNat), _, cap', by simp; omega, by simp; omega, fun i hi => ⟨g, o, rfl, hg, fun j hj => ?_⟩⟩
      have hj' : j < n' := by simp at hj; omega
      have hjz : j < zs.length := by omega
      have := hcell j hjz
      rw [addr_add] at this
      rw [this]
      have hw := hwf zs[j] (List.getElem_mem hjz)
      have h2 : (0 : Int) ≤ zs[j] ∧ zs[j] ≤ 255 := by
        have := hw
        simp only [Lit.wf, Bool.and_eq_true, decide_eq_true_eq] at this
        exact this
      rw [List.getElem_map, List.getElem_take, List.getD_eq_getElem?_getD, List.getElem?_eq_getElem hjz, Option.getD_some, UInt8.toNat_ofNat']
      congr 2
      omega
end Go.Proofs.YtahnhhhhfioibaaGreatDoor

namespace Go.Proofs.YtahnhhhhfioibaaGreatDoor
set_option maxRecDepth 100000
open Go.ChangeShapes Go.WideShapes Go.ChangeAt Go.RowKit

/-- A slice whose elements, of c cells each, are read one by one. -/
theorem row_in {H : Type} {enc : TypeId × Value → H} {W : World} {n : Nat} {v : Value} {y : DataW H × List MemPlace} {α : Type} [Inhabited α] {T E c : Nat} (f : α → List Value) (ok : α → Prop)
    (hT : Tryz.prog.underlying T = some (.slice E)) (hc : Tryz.prog.cellsOf E = c) (h0 : 0 < c)
    (hel : ∀ (n : Nat) (cs : List Value) (y : DataW H × List MemPlace), cs.length = c → DataW.trod enc Tryz.prog W 0 (fun _ => true) true n E cs = some y → ∃ x, cs = f x ∧ ok x)
    (h : DataW.trod enc Tryz.prog W 0 (fun _ => true) true n T [v] = some y) :
    ∃ (l : List α) (a : Option Addr) (cap : Nat), v = .slice a l.length cap ∧ l.length ≤ cap ∧ l.length ≤ 9223372036854775807 ∧ ∀ i (hi : i < l.length), ok l[i] ∧ ∃ g o, a = some ⟨g, o, none⟩ ∧ g < W.heap.size ∧
      ∀ j (hj : j < l.length) m, m < c → W.cell? ⟨g, o + (j * c + m), none⟩ = (f l[j])[m]? := by
  rcases Deep.open_slice hT h with ⟨e, _⟩ | ⟨a, len, cap, m, n', D, Pl, e, _, hl, hmx, hm, _, hx⟩
  · simp only [List.cons.injEq, and_true] at e
    exact ⟨[], none, 0, e, Nat.le_refl _, by simp, fun i hi => by simp at hi⟩
  · simp only [List.cons.injEq, and_true] at e
    subst e
    simp only [if_true] at hm
    subst hm
    rw [hc] at hx
    obtain ⟨X, hX⟩ := Deep.choose_lt (α := α) (p := fun i x => W.cells? 0 (a.add (i * c)) c = some (f x) ∧ ok x) (fun i (hi : i < m) => by
      obtain ⟨cs', h1, h2⟩ := hx i hi
      obtain ⟨x, rfl, hx'⟩ := hel _ _ _ (World.cells?_some h1).2.1 h2
      exact ⟨x, h1, hx'⟩)
    rcases Nat.eq_zero_or_pos len with rfl | hn
    · exact ⟨[], _, m, rfl, Nat.zero_le _, by simp, fun i hi => by simp at hi⟩
    · obtain ⟨g, o, spot⟩ := a
      have h00 := (World.cells?_some (hX 0 (by omega)).1).2.2 0 h0
      have hf0 := (World.cells?_some (hX 0 (by omega)).1).2.1
      rw [List.getElem?_eq_getElem (by omega)] at h00
      have hspot : spot = none := by simpa [Addr.add] using World.cell?_spot h00
      subst hspot
      have hg := World.block_lt_of_cell? _ _ h00
      have hg : g < W.heap.size := by rw [addr_add, addr_add] at hg; exact hg
      refine ⟨(List.range len).map X, some ⟨g, o, none⟩, m, by simp, by simpa using hl, by simp; unfold maxLen at hmx; omega, fun i hi => ?_⟩
      have hi' : i < len := by simpa using hi
      refine ⟨by simpa using (hX i (by omega)).2, g, o, rfl, hg, fun j hj k hk => ?_⟩
      have hj' : j < len := by simpa using hj
      have k0 := (World.cells?_some (hX j (by omega)).1).2.2 k hk
      rw [addr_add, addr_add] at k0
      rw [List.getElem_map, List.getElem_range, ← Nat.add_assoc]
      exact k0
theorem int_wf {m : Int} (hw : (Lit.int .i64 m).wf = true) : (-9223372036854775808 : Int) ≤ m ∧ m ≤ 9223372036854775807 := by
  simp only [Lit.wf, Bool.and_eq_true, decide_eq_true_eq] at hw
  exact hw
theorem put_in {H : Type} {enc : TypeId × Value → H} {W : World} {n : Nat} {cs : List Value} {y : DataW H × List MemPlace} (hcl : cs.length = 2)
    (h : DataW.trod enc Tryz.prog W 0 (fun _ => true) true n 99 cs = some y) : ∃ x : PutD, cs = [.int .i64 x.1, .string x.2] ∧ (-9223372036854775808 ≤ x.1 ∧ x.1 ≤ 9223372036854775807) := by
  obtain ⟨xs, k, _, _, _, hxl, hf⟩ := DataW.trod_struct Tryz.underlying99 h
  have ci : Tryz.prog.cellsOf 3 = 1 := by kernel_rfl
  have cst : Tryz.prog.cellsOf 9 = 1 := by kernel_rfl
  match xs, hxl, cs, hcl with
  | [y0, y1], _, [v0, v1], _ =>
    have g0 := hf 0 _ rfl
    have g1 := hf 1 _ rfl
    simp [ci, cst] at g0 g1
    obtain ⟨m0, e0, _, hw⟩ := DataW.trod_int Tryz.underlying3 g0
    obtain ⟨s, e1, _, _⟩ := DataW.trod_string Tryz.underlying9 g1
    injection e0 with e0 _
    injection e1 with e1 _
    subst e0 e1
    exact ⟨(m0, s), rfl, int_wf hw⟩
theorem puts_in' {H : Type} {enc : TypeId × Value → H} {W : World} {n : Nat} {v : Value} {y : DataW H × List MemPlace}
    (h : DataW.trod enc Tryz.prog W 0 (fun _ => true) true n 36 [v] = some y) : ∃ l, RdP W v l := by
  obtain ⟨l, a, cap, e, h1, h2, h3⟩ := row_in (fun x : PutD => [.int .i64 x.1, .string x.2]) (fun x => -9223372036854775808 ≤ x.1 ∧ x.1 ≤ 9223372036854775807) Tryz.underlying36 (c := 2) (by kernel_rfl) (by decide) (fun n cs y hl h => put_in hl h) h
  refine ⟨l, a, cap, e, h1, h2, fun i hi => ?_⟩
  obtain ⟨k1, g, o, k2, k3, k4⟩ := h3 i hi
  exact ⟨k1, g, o, k2, k3, fun j hj => ⟨k4 j hj 0 (by decide), by rw [Nat.add_assoc]; exact k4 j hj 1 (by decide)⟩⟩
theorem puts_in {H : Type} {enc : TypeId × Value → H} {W : World} {base : Nat} {v : Value} {d : DataW H} {p : List MemPlace}
    (hval : Value.okWide Tryz.prog W .any base 36 v) (hd : DataW.Trod enc Tryz.prog W 0 (fun _ => true) true 36 v d p) : ∃ l, RdP W v l := by
  obtain ⟨a, n, cap, rfl⟩ := okWide_slice Tryz.underlying36 hval
  obtain ⟨f, hf⟩ := hd
  exact puts_in' hf
theorem lists_in' {H : Type} {enc : TypeId × Value → H} {W : World} {n : Nat} {v : Value} {y : DataW H × List MemPlace}
    (h : DataW.trod enc Tryz.prog W 0 (fun _ => true) true n 105 [v] = some y) : ∃ ll, RdL W v ll := by
  obtain ⟨l, a, cap, e, h1, h2, h3⟩ := row_in (fun x : Value × List PutD => [x.1]) (fun x => RdP W x.1 x.2) Tryz.underlying105 (c := 1) (by kernel_rfl) (by decide) (fun n cs y hl h => by
    match cs, hl with
    | [u], _ =>
      obtain ⟨l, hl⟩ := puts_in' h
      exact ⟨(u, l), rfl, hl⟩) h
  refine ⟨l, a, cap, e, h1, h2, fun i hi => ?_⟩
  obtain ⟨k1, g, o, k2, k3, k4⟩ := h3 i hi
  exact ⟨k1, g, o, k2, k3, fun j hj => by have := k4 j hj 0 (by decide); rw [Nat.mul_one, Nat.add_zero] at this; exact this⟩
theorem lists_in {H : Type} {enc : TypeId × Value → H} {W : World} {base : Nat} {v : Value} {d : DataW H} {p : List MemPlace}
    (hval : Value.okWide Tryz.prog W .any base 105 v) (hd : DataW.Trod enc Tryz.prog W 0 (fun _ => true) true 105 v d p) : ∃ ll, RdL W v ll := by
  obtain ⟨a, n, cap, rfl⟩ := okWide_slice Tryz.underlying105 hval
  obtain ⟨f, hf⟩ := hd
  exact lists_in' hf
end Go.Proofs.YtahnhhhhfioibaaGreatDoor

namespace Go.Proofs.YtahnhhhhfioibaaGreatDoor
open Go.ChangeShapes Go.WideShapes Go.ChangeAt Go.RowKit
open Go.ChangeMaps (open_string shut_string)
def litCell : DataW Unit → Value
  | .lit (.int k z) => .int k z
  | _ => undef
def rowCells : DataW Unit → List Value
  | .agg l => l.map litCell
  | _ => []
def gridCells : DataW Unit → List Value
  | .agg l => l.flatMap rowCells
  | _ => []
/-- A world for the witness: the settled one, the tables holding what their text lays. -/
def refill (cs : Array Value) : Obj → Obj
  | .cells _ t frozen => .cells cs t frozen
  | o => o
noncomputable def laidWorld (os : Os) : World :=
  { World.holding Tryz.prog os ⟨#[], #[], []⟩ with heap := ((World.holding Tryz.prog os ⟨#[], #[], []⟩).heap.modify 1 (refill (gridCells Rows.laid_unicode_utf8_acceptRanges).toArray)).modify 0 (refill (rowCells Rows.laid_unicode_utf8_first).toArray) }
end Go.Proofs.YtahnhhhhfioibaaGreatDoor
