/- WalFalls: for every ring and every list of acts the function of the statement returns true: wherever the disk falls, and whatever it keeps, the homes hold what the last group with OK left them, or, wholly, what the one that was broken off would have. Conditions: none beside those of the form; no walk reads the two tables that are laid. -/
import Derived.Test.YthkblabpiajbhaaGreatDoorG3
import Derived.Test.YthkblabpiajbhaaGreatDoorG4
import Derived.StillTailTactics
import Derived.Test.YthkblabpiajbhaaGreatDoorG6
import Derived.Test.YthkblabpiajbhaaGreatDoorG1
namespace Go.Proofs.YthkblabpiajbhaaGreatDoor
open Go.RowKit Lib

def lenV : Value → Nat | .slice _ n _ => n | _ => 0

set_option maxRecDepth 100000 in
theorem full_any (s : ByteArray) (w : World) (hs : s.size ≤ 1000) :
    Calls Tryz.prog 38 #[.string s] w fun e w' => e = .returned (.string (bs (Dk.full s.data.toList))) ∧ Below w.heap.size w w' := by
  obtain ⟨v0, o0, hcv, hown⟩ := own_of_string w s (by omega)
  have HO := Lib.hid hown
  have hl : s.data.toList.length = s.size := Array.length_toList
  go_enter Tryz.func38, Tryz.ntmps38
  go_wp2
  go_loopw [3] (fun v wr => ∃ n : Nat, (s.size + n ≤ 512 ∨ n = 0) ∧ Hid (OwnG w.heap.size wr v (s.data.toList ++ List.replicate n 0)) ∧ Hid (Below w.heap.size w wr)) (fun v _ => 512 - lenV v)
  case atStart =>
    refine ⟨0, .inr rfl, ?_, Lib.hid ?_⟩
    · rw [List.replicate_zero, List.append_nil]
      exact HO
    · exact ((Below.refl _ w).drew).alloc (Nat.le_refl _) _
  case round =>
    obtain ⟨n, hn, ho, hb⟩ := hrel
    obtain ⟨g, cap, rfl, hg⟩ := ho.out.slice
    have hlen : (s.data.toList ++ List.replicate n 0).length = s.size + n := by rw [List.length_append, List.length_replicate, hl]
    rw [hlen] at ho ⊢
    have HL := Lib.hid hlen
    have HN := Lib.hid hn
    clear hn
    by_cases hlt : s.size + n < 512
    · have hI : ((s.size + n : Nat) : Int) < 512 := by omega
      clear hlen hl
      go_wp2_with (at_builtin; refine Hid.out ?_)
      refine Lib.hid ?_
      have hsz := hb.out.size
      refine wpList_app_byte rfl _ _ rfl rfl (ho.out.alloc _) (by simp; omega) wr.heap.size 0 rfl ((Blk.new wr #[.int .u8 0] 5).cell rfl) (by rw [HL.out]; omega) ?_
      intro v' w4 hown4 hb4
      have hbb := (hb.out.alloc (by have := hb.out.size; exact this) (.cells #[.int .u8 0] 5)).trans hb4
      obtain ⟨g', cap', rfl, _⟩ := hown4.slice
      have hl4 : (s.data.toList ++ List.replicate n 0 ++ [0]).length = s.size + n + 1 := by rw [List.length_append, HL.out]; rfl
      rw [hl4] at hown4 ⊢
      have H4 := Lib.hid (And.intro hown4 hbb)
      clear hown4 hb4 hbb hl4
      go_wp2
      go_roundw
      case rel =>
        refine ⟨n + 1, .inl (by omega), ?_, Lib.hid H4.out.2⟩
        rw [List.replicate_succ', ← List.append_assoc]
        exact Lib.hid H4.out.1
      case measure => simp [lenV]; omega
    · have hI : ¬ ((s.size + n : Nat) : Int) < 512 := by omega
      have hback := ho.out.back (by rw [HL.out])
      have HF := Lib.hid (show s.data.toList ++ List.replicate n 0 = Dk.full s.data.toList by
        unfold Dk.full
        rw [hl]
        congr 2
        have := HN.out
        omega)
      rw [HF.out] at hback
      clear hlen hl
      go_wp2
      go_ret
      exact ⟨rfl, hb.out⟩

theorem OwnS.put {B : Nat} {w : World} {f n cf : Nat} {l : List (List UInt8)} (h : OwnS B w (.slice (some ⟨f, 0, none⟩) n cf) l) (j : Nat) (t : List UInt8) : OwnS B (w.setCell ⟨f, j, none⟩ (.string (bs t))) (.slice (some ⟨f, 0, none⟩) n cf) (l.set j t) := by
  have := Own.store (f := fun s => Value.string s) (hf := fun _ => rfl) h j (bs t)
  show Own _ _ _ _ _ _
  rw [List.map_set]
  exact this
theorem OwnS.but' {S : Nat → Prop} {B : Nat} {w w' : World} {v : Value} {l : List (List UInt8)} (h : OwnS B w v l) (hb : But S w w') (hn : ∀ g, v.ownBlock = some g → ¬ S g) : OwnS B w' v l := Own.but h hb hn
theorem OwnS.strAt {B : Nat} {w : World} {f n cf : Nat} {l : List (List UInt8)} (h : OwnS B w (.slice (some ⟨f, 0, none⟩) n cf) l) (j : Nat) (hj : j < l.length) : w.cell? ⟨f, j, none⟩ = some (.string (bs l[j])) := by
  have := Own.lies (show Own strElem 9 B w (.slice (some ⟨f, 0, none⟩) n cf) (l.map bs) from h) j (.string (bs l[j])) (by rw [show strElem.cells (l.map bs) = (l.map bs).map (fun s => Value.string s) from oneElem_cells _ _ _]; simp [hj])
  rwa [Nat.zero_add] at this
theorem own_lit0 {α : Type} (K : Elem α) (E : TypeId) (w : World) : Own K E w.heap.size (w.alloc (.cells #[] E)) (.slice (some ⟨w.heap.size, 0, none⟩) 0 0) [] := World.ownsRow_lit w #[] 0 (Nat.le_refl _) (by decide) (by simp)
theorem size5_any (n : Nat) (w : World) (hn : n ≤ 1000000) :
    Calls Tryz.prog 50 #[.int .i64 n] w fun e w' => e = .returned (.int .i64 (Wl.sizeOf n : Nat)) ∧ w' = w := by
  go_enter Tryz.func50, Tryz.ntmps50
  have h0 : (516 * (n : Int) + 510).tdiv 511 = (((516 * n + 510) / 511 : Nat) : Int) := by
    rw [Int.tdiv_eq_ediv_of_nonneg (by omega)]; omega
  go_wp2
  go_ret
  refine ⟨?_, rfl⟩
  rw [show Wl.sizeOf n = 1 + (516 * n + 510) / 511 from rfl]
  simp

set_option maxRecDepth 100000 in
theorem new5_any (n : Nat) (w : World) (hn : n ≤ 1000) :
    Calls Tryz.prog 16 #[.int .i64 n] w fun e w' => ∃ v, e = .returned v ∧ OwnS w.heap.size w' v (Wl.noughts n) ∧ Below w.heap.size w w' := by
  go_enter Tryz.func16, Tryz.ntmps16
  go_wp2_with fail
  refine (full_any ⟨#[]⟩ _ (by decide)).mono ?_
  rintro e w1 ⟨rfl, hb1⟩
  have HB := Lib.hid hb1
  clear hb1
  rw [show Dk.full (⟨#[]⟩ : ByteArray).data.toList = Dk.full [] from rfl]
  go_wp2
  go_loopw [3, 5] (fun v i wr => ∃ k : Nat, k ≤ n ∧ i = .int .i64 k ∧ Hid (OwnS w.heap.size wr v (List.replicate k (Dk.full []))) ∧ Hid (Below w.heap.size w wr)) (fun _ i _ => n - (Go.RowKit.intOf i).toNat)
  case atStart => exact ⟨0, Nat.zero_le _, rfl, Lib.hid (Own.nil _ _ _ _), HB⟩
  case round =>
    obtain ⟨k, hk, rfl, ho, hb⟩ := hrel
    by_cases hlt : k < n
    · have hI : (k : Int) < n := by omega
      go_wp2_with (at_builtin; refine Hid.out ?_)
      refine Lib.hid ?_
      refine wpList_app stringST rfl _ _ rfl rfl (Own.alloc ho.out _) (by have := hb.out.size; simp; omega) wr.heap.size 0 1 1 [bs (Dk.full [])] rfl rfl (lies_new wr _) (by simp; omega) ?_
      intro v4 w4 hown4 hg4
      have hsz := hb.out.size
      have hb4 := (hb.out.alloc (by omega) (.cells #[.string (bs (Dk.full []))] 9)).grown hg4 (by simp; omega) (fun x hx => by have := (Own.block ho.out x hx).1; omega)
      have H4 := Lib.hid (show OwnS w.heap.size w4 v4 (List.replicate (k + 1) (Dk.full [])) ∧ Below w.heap.size w w4 by
        refine ⟨?_, hb4⟩
        show Own _ _ _ _ _ _
        rw [List.replicate_succ', List.map_append]
        exact hown4)
      clear hown4 hg4 hb4 ho hb
      go_wp2
      go_roundw
      case rel => exact ⟨k + 1, by omega, by go_num, Lib.hid H4.out.1, Lib.hid H4.out.2⟩
      case measure => simp [Go.RowKit.intOf]; omega
    · have hke : k = n := by omega
      subst hke
      go_wp2
      go_ret
      exact ⟨_, rfl, ho.out, hb.out⟩
end Go.Proofs.YthkblabpiajbhaaGreatDoor

namespace Go.Proofs.YthkblabpiajbhaaGreatDoor
open Go.RowKit Lib

/-- The homes that were met, each once. -/
def Met (met : List Int) (G : Wl.Grp) : Prop := met.length = G.length ∧ ∀ z : Int, z ∈ met ↔ 0 ≤ z ∧ (Wl.look z.toNat G).isSome
theorem Met.nil : Met [] [] := ⟨rfl, fun z => by simp [Wl.look]⟩
theorem Met.old {met : List Int} {G : Wl.Grp} (h : Met met G) (hr : Wl.Rising G) {a : Int} (t : Wl.Text) (hm : a ∈ met) : Met met (Wl.ins a.toNat t G) := by
  have hs := ((h.2 a).1 hm).2
  refine ⟨by rw [h.1, Wl.ins_length _ _ hr, if_pos hs], fun z => ?_⟩
  rw [h.2 z, Wl.look_ins]
  by_cases e : z.toNat = a.toNat
  · rw [if_pos e, e]; simp [hs]
  · rw [if_neg e]
theorem Met.new {met : List Int} {G : Wl.Grp} (h : Met met G) (hr : Wl.Rising G) {a : Int} (t : Wl.Text) (ha : 0 ≤ a) (hm : a ∉ met) : Met (met ++ [a]) (Wl.ins a.toNat t G) := by
  have hs : ¬ (Wl.look a.toNat G).isSome := fun e => hm ((h.2 a).2 ⟨ha, e⟩)
  refine ⟨by rw [List.length_append, h.1, Wl.ins_length _ _ hr, if_neg hs]; rfl, fun z => ?_⟩
  rw [List.mem_append, h.2 z, Wl.look_ins, List.mem_singleton]
  by_cases e : z.toNat = a.toNat
  · rw [if_pos e]
    constructor
    · rintro (⟨h1, _⟩ | rfl)
      · exact ⟨h1, rfl⟩
      · exact ⟨ha, rfl⟩
    · rintro ⟨h1, _⟩
      exact .inr (by omega)
  · rw [if_neg e]
    constructor
    · rintro (h1 | rfl)
      · exact h1
      · exact absurd rfl e
    · exact .inl
theorem intST : SliceT Tryz.prog 59 3 (intElem .i64).size := SliceT.of (size := 1) (bytes := 8) (z := .int .i64 0) Tryz.underlying59 (by kernel_rfl) rfl (by decide)
abbrev OwnN (B : Nat) (w : World) (v : Value) (l : List Int) : Prop := Own (intElem .i64) 3 B w v l
theorem OwnN.at {B : Nat} {w : World} {f n cf : Nat} {l : List Int} (h : OwnN B w (.slice (some ⟨f, 0, none⟩) n cf) l) (j : Nat) (hj : j < l.length) : w.cell? ⟨f, j, none⟩ = some (.int .i64 l[j]) := by
  have := Own.lies h j (.int .i64 l[j]) (by rw [show (intElem .i64).cells l = l.map (fun n => Value.int .i64 n) from oneElem_cells _ _ _]; simp [hj])
  rwa [Nat.zero_add] at this
theorem lies_int (w : World) (x : Int) : Lies (intElem .i64) (w.alloc (.cells #[.int .i64 x] 3)) w.heap.size 0 [x] :=
  Lies.of_blk (Blk.new w #[.int .i64 x] 3) rfl
/-- What the reference's Commit hands back. -/
def Comm5 (w w' : World) (B : Nat) (vh : Value) (r : Int × List Wl.Text) (e : Ending) : Prop :=
  ∃ v', e = .returned (.tuple #[v', .int .i64 r.1]) ∧ OwnS B w' v' r.2 ∧ (v' = vh ∨ ∀ k, v'.ownBlock = some k → w.heap.size ≤ k) ∧ Below w.heap.size w w'
/-- As far as Commit is through. -/
structure Done5 (w wr : World) (B : Nat) (vo vm : Value) (H : List Wl.Text) (ps : List (Int × Wl.Text)) (met : List Int) : Prop where
  fit : Wl.Fit H.length ps
  out : OwnS w.heap.size wr vo (Wl.along H ps)
  row : OwnN w.heap.size wr vm met
  is : Met met (Wl.grp [] ps)
  below : Below w.heap.size w wr
theorem Wl.comm_bad {ring : Nat} {H : List Wl.Text} {a : List (Int × Wl.Text)} (ha : Wl.Fit H.length a) {p : Int × Wl.Text} (r : List (Int × Wl.Text)) (hp : p.1 < 0 ∨ (H.length : Int) ≤ p.1) : Wl.comm ring H (a ++ ([p] ++ r)) = (2, H) := by
  have h : Wl.gather H.length [] (a ++ ([p] ++ r)) = (2, []) := by
    rw [Wl.gather_append, Wl.fit_gather ha, if_pos rfl]
    show Wl.gather H.length (Wl.grp [] a) (p :: r) = _
    rw [Wl.gather_cons, if_pos hp]
  unfold Wl.comm
  rw [h]; rfl
theorem Wl.comm_long {ring : Nat} {H : List Wl.Text} {a : List (Int × Wl.Text)} (ha : Wl.Fit H.length a) {p : Int × Wl.Text} (r : List (Int × Wl.Text)) (hp : ¬ (p.1 < 0 ∨ (H.length : Int) ≤ p.1)) (h5 : 512 < p.2.length) : Wl.comm ring H (a ++ ([p] ++ r)) = (5, H) := by
  have h : Wl.gather H.length [] (a ++ ([p] ++ r)) = (5, []) := by
    rw [Wl.gather_append, Wl.fit_gather ha, if_pos rfl]
    show Wl.gather H.length (Wl.grp [] a) (p :: r) = _
    rw [Wl.gather_cons, if_neg hp, if_pos h5]
  unfold Wl.comm
  rw [h]; rfl
theorem take_mem_succ {met : List Int} {j : Nat} (hj : j < met.length) (a : Int) : decide (a ∈ met.take (j + 1)) = (decide (a ∈ met.take j) || decide (met[j] = a)) := by
  rw [List.take_succ_eq_append_getElem hj, Bool.eq_iff_iff]
  simp only [decide_eq_true_eq, Bool.or_eq_true, List.mem_append, List.mem_singleton]
  constructor
  · rintro (h | h)
    · exact .inl h
    · exact .inr h.symm
  · rintro (h | h)
    · exact .inl h
    · exact .inr h.symm
set_option maxRecDepth 100000 in
set_option maxHeartbeats 4000000 in
theorem commit5_any (w : World) (B : Nat) (vh : Value) (H : List Wl.Text) (ring : Nat) (va : Value) (ll : List (Value × List PutD)) (hH : OwnS B w vh H) (h1 : 1 ≤ H.length) (h2 : H.length ≤ 1000) (hB : B ≤ w.heap.size) (ha : RdL w va ll) :
    Calls Tryz.prog 18 #[vh, .int .i64 ring, va] w fun e w' => Comm5 w w' B vh (Wl.comm ring H (ptsL ll)) e := by
  obtain ⟨a, cap, rfl, hc, hm, hrl⟩ := ha
  obtain ⟨ah, ch, rfl, hch⟩ := Own.slice hH
  rw [List.length_map] at hH hch ⊢
  have HH := Lib.hid hH
  have HR := Lib.hid hrl
  clear hH hrl hc hch
  go_enter Tryz.func18, Tryz.ntmps18
  go_wp2_with (at_builtin; refine Hid.out ?_)
  refine Lib.hid ?_
  refine wpList_app_own stringST rfl _ _ rfl rfl (own_lit0 strElem 9 w) (by simp) _ B (H.map bs) rfl (Own.alloc HH.out _) (by simp; omega) ?_
  intro vo w2 hown2 hg2
  rw [List.nil_append] at hown2
  have hb2 := ((Below.refl w.heap.size w).alloc (Nat.le_refl _) (.cells #[] 9)).grown hg2 (by simp) (fun x hx => by
    simp [Act.eval, Value.ownBlock] at hx
    omega)
  have H2 := Lib.hid (show Done5 w w2 B vo (.slice none 0 0) H [] [] from ⟨Wl.Fit.nil _, hown2, Own.nil _ _ _ _, Met.nil, hb2⟩)
  clear hown2 hg2 hb2
  go_wp2
  go_loopw [9, 10] (fun vm i wr => ∃ (k : Nat) (met : List Int), k ≤ ll.length ∧ i = .int .i64 k ∧ Hid (Done5 w wr B vo vm H (ptsL (ll.take k)) met)) (fun _ i _ => ll.length - (Go.RowKit.intOf i).toNat)
  case atStart => exact ⟨0, [], Nat.zero_le _, rfl, H2⟩
  case round =>
    obtain ⟨k, met, hk, rfl, hD⟩ := hrel
    by_cases hlt : k < ll.length
    · have hI : (k : Int) < ll.length := by omega
      obtain ⟨hP, ga, oa, rfl, hga, hxa⟩ := HR.out k hlt
      have hcl : wr.cell? ⟨ga, oa + k, none⟩ = some ll[k].1 := (hD.out.below.cell (p := ⟨ga, oa + k, none⟩) hga).trans (hxa k hlt)
      have hca : w.cell? ⟨ga, oa + k, none⟩ = some ll[k].1 := hxa k hlt
      obtain ⟨al, capl, hv, hcl2, hml, hrl⟩ := hP
      rw [hv] at hcl hca
      have HT := Lib.hid (ptsL_take ll k hlt)
      have HRL := Lib.hid hrl
      clear hxa hv hrl
      obtain ⟨l, hl⟩ : ∃ l, l = ll[k].2 := ⟨_, rfl⟩
      rw [← hl] at hcl hca hcl2 hml HRL HT
      have HCA := Lib.hid (And.intro hca hga)
      have HLt := Lib.hid hlt
      clear hl hca
      go_wp2
      go_loopw [9, 11] (fun vm i wq => ∃ (j : Nat) (met : List Int), j ≤ l.length ∧ i = .int .i64 j ∧ Hid (Done5 w wq B vo vm H (ptsL (ll.take k) ++ pts (l.take j)) met)) (fun _ i _ => l.length - (Go.RowKit.intOf i).toNat)
      case atStart => exact ⟨0, met, Nat.zero_le _, rfl, Lib.hid (by rw [List.take_zero]; unfold pts; rw [List.map_nil, List.append_nil]; exact hD.out)⟩
      case round =>
        clear hD hcl
        obtain ⟨j, met, hj, rfl, hD⟩ := hrel
        have hcl : wr.cell? ⟨ga, oa + k, none⟩ = some (.slice al l.length capl) := (hD.out.below.cell (p := ⟨ga, oa + k, none⟩) HCA.out.2).trans HCA.out.1
        by_cases hlt2 : j < l.length
        · have hI2 : (j : Int) < l.length := by omega
          obtain ⟨⟨hi1, hi2⟩, gp, op, rfl, hgp, hxp⟩ := HRL.out j hlt2
          obtain ⟨cp0, cp1⟩ := hxp j hlt2
          have d0 : wr.cell? ⟨gp, op + j * 2, none⟩ = some (.int .i64 l[j].1) := (hD.out.below.cell (p := ⟨gp, op + j * 2, none⟩) hgp).trans cp0
          have d1 : wr.cell? ⟨gp, op + j * 2 + 1, none⟩ = some (.string l[j].2) := (hD.out.below.cell (p := ⟨gp, op + j * 2 + 1, none⟩) hgp).trans cp1
          have HPT := Lib.hid (pts_take l j hlt2)
          have HLt2 := Lib.hid hlt2
          clear hxp cp0 cp1
          generalize l[j] = p at *
          obtain ⟨at_, text⟩ := p
          simp only at d0 d1 hi1 hi2
          have HALL := Lib.hid (show ptsL ll = (ptsL (ll.take k) ++ pts (l.take j)) ++ ([pt (at_, text)] ++ (pts (l.drop (j + 1)) ++ ptsL (ll.drop (k + 1)))) by
            rw [ptsL_split ll (k + 1), HT.out, pts_split l (j + 1), HPT.out]; simp only [List.append_assoc])
          obtain ⟨q, hq⟩ : ∃ q, wr.heap.size = q := ⟨_, rfl⟩
          have HQ := Lib.hid hq
          have HBU := Lib.hid (show Below w.heap.size w (wr.alloc (.cells #[.int .i64 at_, .string text] 74)) from hD.out.below.alloc hD.out.below.size _)
          by_cases hat : at_ < 0 ∨ (H.length : Int) ≤ at_
          · have HE := Lib.hid (show Wl.comm ring H (ptsL ll) = (2, H) by rw [HALL.out]; exact Wl.comm_bad hD.out.fit _ hat)
            have hback := HH.out.below HBU.out (Nat.le_refl _)
            have HO := Lib.hid hback
            clear hback
            rcases hat with hat | hat
            · go_wp2
              go_ret2
              exact ⟨.slice ah H.length ch, by rw [HE.out]; rfl, by rw [HE.out]; exact HO.out, .inl rfl, HBU.out⟩
            · have hat0 : ¬ at_ < 0 := by omega
              go_wp2
              go_ret2
              exact ⟨.slice ah H.length ch, by rw [HE.out]; rfl, by rw [HE.out]; exact HO.out, .inl rfl, HBU.out⟩
          · have hat0 : ¬ at_ < 0 := fun e => hat (.inl e)
            have hat1 : ¬ (H.length : Int) ≤ at_ := fun e => hat (.inr e)
            by_cases h5 : text.size ≤ 512
            · have h5I : (text.size : Int) ≤ 512 := by omega
              obtain ⟨i, rfl⟩ : ∃ i : Nat, at_ = i := ⟨at_.toNat, by omega⟩
              have HI := Lib.hid (show i < H.length by omega)
              have H5 := Lib.hid h5
              clear hat hat0
              have hbl := Blk.new wr #[.int .i64 i, .string text] 74
              rw [hq] at hbl
              obtain ⟨o, co, hvo, ho1, ho2, ho3⟩ := Own.form hD.out.out (by rw [List.length_map, Wl.along_length]; omega)
              rw [List.length_map, Wl.along_length] at hvo ho3
              subst hvo
              have hoq : o < q := by rw [← hq]; exact ho2
              have HD := Lib.hid hD.out
              have HO := Lib.hid (And.intro ho1 (And.intro ho3 hoq))
              clear hD ho1 ho2 ho3
              go_wp2
              clear hcl
              obtain ⟨U, hU⟩ : ∃ U, U = wr.alloc (.cells #[.int .i64 i, .string text] 74) := ⟨_, rfl⟩
              rw [← hU] at hbl ⊢
              have hbU : Below wr.heap.size wr U := by rw [hU]; exact (Below.refl _ _).alloc (Nat.le_refl _) _
              have HU := Lib.hid (show Blk U q 74 [.int .i64 i, .string text] ∧ Below wr.heap.size wr U from ⟨hbl, hbU⟩)
              have u0 : U.cell? ⟨q, 0, none⟩ = some (.int .i64 i) := hbl.cell rfl
              have u1 : U.cell? ⟨q, 1, none⟩ = some (.string text) := hbl.cell rfl
              have hoqn : ¬ q = o := by omega
              have hoqn2 : ¬ o = q := by omega
              clear hU hbU hbl d0 d1 hq
              go_region_held3 (fun w' => w'.cell? ⟨q, 0, none⟩ = some (.int .i64 i) ∧ w'.cell? ⟨q, 1, none⟩ = some (.string text))
                (first
                  | (exact ⟨u0, u1⟩)
                  | (exact ⟨e0, e1⟩)
                  | go_keep)
                (first
                  | (go_at_call 38; refine (full_any text _ (by have := H5.out; omega)).mono ?_; rintro e w1 ⟨rfl, hb1⟩; have H1 := Lib.hid (show Below U.heap.size U w1 from ((Below.refl _ U).drew).trans hb1); have e0 : w1.cell? ⟨q, 0, none⟩ = some (.int .i64 i) := (H1.out.cell (p := ⟨q, 0, none⟩) HU.out.1.lt).trans u0; have e1 : w1.cell? ⟨q, 1, none⟩ = some (.string text) := (H1.out.cell (p := ⟨q, 1, none⟩) HU.out.1.lt).trans u1; have HO1 := Lib.hid (Own.below (Own.below HD.out.out HU.out.2 (Nat.le_refl _)) H1.out (Nat.le_refl _)); have e2 := OwnS.strAt HO1.out i (by rw [Wl.along_length]; exact HI.out); have e3 : w1.frozen? ⟨o, i, none⟩ = false := Own.frozen HO1.out i; clear hb1))
              obtain ⟨X, hX⟩ : ∃ X, X = w1.setCell ⟨o, i, none⟩ (.string (bs (Dk.full text.data.toList))) := ⟨_, rfl⟩
              rw [← hX]
              have hbX : But (fun x => x = o) w1 X := by rw [hX]; exact (But.refl _ _).setCell _ _ (fun _ => rfl)
              have HX := Lib.hid (show OwnS w.heap.size X (.slice (some ⟨o, 0, none⟩) H.length co) (Wl.along H (ptsL (ll.take k) ++ pts (l.take (j + 1)))) ∧ OwnN w.heap.size X u9 met ∧ Blk X q 74 [.int .i64 i, .string text] ∧ Below w.heap.size w X by
                have hw1 := HD.out.below.trans ((HU.out.2.trans (H1.out.mono HU.out.2.size)).mono HD.out.below.size)
                refine ⟨?_, ?_, Blk.but (Blk.below HU.out.1 H1.out HU.out.1.lt) hbX hoqn, Below.but hw1 hbX hw1.size (fun x hx e => by have := HO.out.1; omega)⟩
                · rw [hX, HPT.out, ← List.append_assoc, Wl.along_append, Wl.along_one]
                  exact OwnS.put HO1.out i _
                · exact Own.but (Own.below (Own.below HD.out.row HU.out.2 (Nat.le_refl _)) H1.out (Nat.le_refl _)) hbX (fun x hx e => by subst e; exact HD.out.row.ne_own HD.out.out (by decide) hx rfl))
              have HFt := Lib.hid (show Wl.Fit H.length (ptsL (ll.take k) ++ pts (l.take (j + 1))) by
                rw [HPT.out, ← List.append_assoc]
                refine HD.out.fit.append (Wl.Fit.one (by show (0 : Int) ≤ i; omega) (by show (i : Int) < H.length; have := HI.out; omega) ?_)
                show text.data.toList.length ≤ 512
                rw [Array.length_toList]; exact H5.out)
              have HMt := Lib.hid (show (∀ m : List Int, m = met → (i : Int) ∈ met → Met m (Wl.grp [] (ptsL (ll.take k) ++ pts (l.take (j + 1))))) ∧ ((i : Int) ∉ met → Met (met ++ [(i : Int)]) (Wl.grp [] (ptsL (ll.take k) ++ pts (l.take (j + 1))))) by
                have hr := Wl.grp_rising (ptsL (ll.take k) ++ pts (l.take j)) Wl.rising_nil
                rw [HPT.out, ← List.append_assoc, Wl.grp_append, Wl.grp_one]
                exact ⟨fun m e h => e ▸ HD.out.is.old hr _ h, fun h => HD.out.is.new hr _ (by omega) h⟩)
              have hml : met.length ≤ 1000 := by
                rw [HD.out.is.1]
                have := Wl.gather_fits H.length (ptsL (ll.take k) ++ pts (l.take j)) [] (Wl.fits_nil _)
                rw [Wl.fit_gather HD.out.fit] at this
                exact Nat.le_trans (Wl.fits_length this) h2
              obtain ⟨am, cm, hvm, hcm⟩ := Own.slice HX.out.2.1
              subst hvm
              have HML := Lib.hid hml
              clear hX hbX u0 u1 e0 e1 e2 e3 hml
              go_wp2
              go_loopw [13, 14] (fun th i' wy => ∃ (n : Nat) (b : Bool), n ≤ met.length ∧ i' = .int .i64 n ∧ th = .bool b ∧ Hid (b = decide ((i : Int) ∈ met.take n)) ∧ Hid (But (fun _ => False) X wy)) (fun _ i' _ => met.length - (Go.RowKit.intOf i').toNat)
              case atStart => exact ⟨0, false, Nat.zero_le _, rfl, rfl, Lib.hid (by simp), Lib.hid (But.refl _ _)⟩
              case round =>
                obtain ⟨n, th, hn, rfl, rfl, hth, hB⟩ := hrel
                by_cases hlt3 : n < met.length
                · have hI3 : (n : Int) < met.length := by omega
                  obtain ⟨m, cm', hv', _, _, _⟩ := Own.form HX.out.2.1 (by omega)
                  injection hv' with hv1 _ hv3
                  subst hv1 hv3
                  have m0 := hB.out.cell (OwnN.at HX.out.2.1 n hlt3) id
                  have p0 := hB.out.cell (HX.out.2.2.1.cell (j := 0) rfl) id
                  have HTm := Lib.hid (take_mem_succ hlt3 (i : Int))
                  generalize met[n] = z at *
                  have HLt3 := Lib.hid hlt3
                  have hn3 : (n : Int) ≤ 1000 := by have := HML.out; omega
                  cases th
                  · go_wp2
                    go_quiet (fail)
                    go_wp2
                    go_roundw
                    case rel =>
                      refine ⟨n + 1, (z == (i : Int)), HLt3.out, by go_num, rfl, Lib.hid ?_, Lib.hid (hB.out.drewN _)⟩
                      rw [HTm.out, ← hth.out, Bool.false_or]; rfl
                    case measure => have := HLt3.out; simp [Go.RowKit.intOf]; omega
                  · go_wp2
                    go_quiet (fail)
                    go_wp2
                    go_roundw
                    case rel =>
                      refine ⟨n + 1, true, HLt3.out, by go_num, rfl, Lib.hid ?_, Lib.hid (hB.out.drewN _)⟩
                      rw [HTm.out, ← hth.out]; rfl
                    case measure => have := HLt3.out; simp [Go.RowKit.intOf]; omega
                · obtain rfl : n = met.length := by omega
                  rw [List.take_length] at hth
                  have HXB := Lib.hid (show OwnS w.heap.size wr (.slice (some ⟨o, 0, none⟩) H.length co) (Wl.along H (ptsL (ll.take k) ++ pts (l.take (j + 1)))) ∧ OwnN w.heap.size wr (.slice am met.length cm) met ∧ Blk wr q 74 [.int .i64 i, .string text] ∧ Below w.heap.size w wr from
                    ⟨OwnS.but' HX.out.1 hB.out (fun _ _ h => h), Own.but HX.out.2.1 hB.out (fun _ _ h => h), HX.out.2.2.1.but hB.out id, Below.but HX.out.2.2.2 hB.out HX.out.2.2.2.size (fun _ _ h => h)⟩)
                  clear hB
                  cases th
                  · have hno : (i : Int) ∉ met := of_decide_eq_false hth.out.symm
                    have p0 : wr.cell? ⟨q, 0, none⟩ = some (.int .i64 i) := HXB.out.2.2.1.cell rfl
                    have HNo := Lib.hid (HMt.out.2 hno)
                    clear hno hth
                    go_wp2_with (at_builtin; refine Hid.out ?_)
                    refine Lib.hid ?_
                    refine wpList_app intST rfl _ _ rfl rfl (Own.alloc HXB.out.2.1 _) (by have := HXB.out.2.2.2.size; simp; omega) wr.heap.size 0 1 1 [(i : Int)] rfl rfl (lies_int wr _) (by have := HML.out; simp; omega) ?_
                    intro v6 w6 hown6 hg6
                    have hsz := HXB.out.2.2.2.size
                    have hb6 := (HXB.out.2.2.2.alloc (by omega) (.cells #[.int .i64 i] 3)).grown hg6 (by simp; omega) (fun x hx => (Own.block HXB.out.2.1 x hx).1)
                    have hbut : But (fun x => (Value.slice am met.length cm).ownBlock = some x) (wr.alloc (.cells #[.int .i64 i] 3)) w6 := ⟨hg6.os, hg6.tape, hg6.output, hg6.size, fun x hx hn => hg6.block x hx (fun e => hn e.symm)⟩
                    have H6 := Lib.hid (show Done5 w w6 B (.slice (some ⟨o, 0, none⟩) H.length co) v6 H (ptsL (ll.take k) ++ pts (l.take (j + 1))) (met ++ [(i : Int)]) from
                      ⟨HFt.out, OwnS.but' (Own.alloc HXB.out.1 _) hbut (fun x hx e => HXB.out.2.1.ne_own HXB.out.1 (by decide) e hx), hown6, HNo.out, hb6⟩)
                    clear hown6 hg6 hb6 hbut p0
                    go_wp2
                    go_roundw
                    case rel => exact ⟨j + 1, _, HLt2.out, by go_num, H6⟩
                    case measure => have := HLt2.out; simp [Go.RowKit.intOf]; omega
                  · have hyes : (i : Int) ∈ met := of_decide_eq_true hth.out.symm
                    have H6 := Lib.hid (show Done5 w wr B (.slice (some ⟨o, 0, none⟩) H.length co) (.slice am met.length cm) H (ptsL (ll.take k) ++ pts (l.take (j + 1))) met from
                      ⟨HFt.out, HXB.out.1, HXB.out.2.1, HMt.out.1 met rfl hyes, HXB.out.2.2.2⟩)
                    clear hyes hth
                    go_wp2
                    go_roundw
                    case rel => exact ⟨j + 1, met, HLt2.out, by go_num, H6⟩
                    case measure => have := HLt2.out; simp [Go.RowKit.intOf]; omega
            · have h5I : (text.size : Int) > 512 := by omega
              have HE := Lib.hid (show Wl.comm ring H (ptsL ll) = (5, H) by
                rw [HALL.out]
                refine Wl.comm_long hD.out.fit _ hat ?_
                show 512 < text.data.toList.length
                rw [Array.length_toList]
                show 512 < text.size
                omega)
              have hback := HH.out.below HBU.out (Nat.le_refl _)
              have HO := Lib.hid hback
              clear hback hat
              go_wp2
              go_ret2
              exact ⟨.slice ah H.length ch, by rw [HE.out]; rfl, by rw [HE.out]; exact HO.out, .inl rfl, HBU.out⟩
        · obtain rfl : j = l.length := by omega
          rw [List.take_length, ← HT.out] at hD
          go_wp2
          go_roundw
          case rel => exact ⟨k + 1, met, HLt.out, by go_num, hD⟩
          case measure => have := HLt.out; simp [Go.RowKit.intOf]; omega
    · obtain rfl : k = ll.length := by omega
      rw [List.take_length] at hD
      have HC := Lib.hid (Wl.comm_fit (ring := ring) hD.out.fit)
      have hml : met.length ≤ 1000 := by
        rw [hD.out.is.1]
        have := Wl.gather_fits H.length (ptsL ll) [] (Wl.fits_nil _)
        rw [Wl.fit_gather hD.out.fit] at this
        exact Nat.le_trans (Wl.fits_length this) h2
      obtain ⟨am, cm, hvm, _⟩ := Own.slice hD.out.row
      subst hvm
      go_wp2_with fail
      refine (size5_any met.length wr (by omega)).mono ?_
      rintro e w5 ⟨rfl, rfl⟩
      have HM := Lib.hid hD.out.is.1
      by_cases hs : ring < Wl.sizeOf met.length
      · have hsI : (ring : Int) < (Wl.sizeOf met.length : Nat) := by omega
        have HE := Lib.hid (show Wl.comm ring H (ptsL ll) = (5, H) by rw [HC.out, if_pos (by rw [← HM.out]; exact hs)])
        have HO := Lib.hid (HH.out.below hD.out.below (Nat.le_refl _))
        go_wp2
        go_ret2
        exact ⟨.slice ah H.length ch, by rw [HE.out]; rfl, by rw [HE.out]; exact HO.out, .inl rfl, hD.out.below⟩
      · have hsI : ¬ (ring : Int) < (Wl.sizeOf met.length : Nat) := by omega
        have HE := Lib.hid (show Wl.comm ring H (ptsL ll) = (0, Wl.along H (ptsL ll)) by rw [HC.out, if_neg (by rw [← HM.out]; exact hs)])
        go_wp2
        go_ret2
        exact ⟨vo, by rw [HE.out]; rfl, by rw [HE.out]; exact Own.mono hD.out.out hB, .inr (fun x hx => (Own.block hD.out.out x hx).1), hD.out.below⟩
end Go.Proofs.YthkblabpiajbhaaGreatDoor

namespace Go.Proofs.YthkblabpiajbhaaGreatDoor
set_option maxRecDepth 100000
open Go.ChangeShapes Go.WideShapes Go.ChangeAt Go.RowKit Lib

structure ActW where
  what : Int
  n : Int
  vl : Value
  ll : List (Value × List PutD)
  vk : Value
  keep : List Bool
  va : Value
  again : List Bool
instance : Inhabited ActW := ⟨⟨0, 0, .slice none 0 0, [], .slice none 0 0, [], .slice none 0 0, []⟩⟩
structure ActW.ok (W : World) (x : ActW) : Prop where
  w1 : -9223372036854775808 ≤ x.what ∧ x.what ≤ 9223372036854775807
  n1 : -9223372036854775808 ≤ x.n ∧ x.n ≤ 9223372036854775807
  l : RdL W x.vl x.ll
  k : RdB W x.vk x.keep
  a : RdB W x.va x.again
def ActW.cells (x : ActW) : List Value := [.int .i64 x.what, .int .i64 x.n, x.vl, x.vk, x.va]
/-- v reads as the acts l. -/
def RdW (w : World) (v : Value) (l : List ActW) : Prop :=
  ∃ (a : Option Addr) (cap : Nat), v = .slice a l.length cap ∧ l.length ≤ cap ∧ l.length ≤ 9223372036854775807 ∧ ∀ i (hi : i < l.length), l[i].ok w ∧ ∃ g o, a = some ⟨g, o, none⟩ ∧ g < w.heap.size ∧
    ∀ j (hj : j < l.length) m, m < 5 → w.cell? ⟨g, o + (j * 5 + m), none⟩ = l[j].cells[m]?
theorem act5_in {H : Type} {enc : TypeId × Value → H} {W : World} {n : Nat} {cs : List Value} {y : DataW H × List MemPlace} (hcl : cs.length = 5)
    (h : DataW.trod enc Tryz.prog W 0 (fun _ => true) true n 40 cs = some y) : ∃ x : ActW, cs = x.cells ∧ x.ok W := by
  obtain ⟨xs, k, _, _, _, hxl, hf⟩ := DataW.trod_struct Tryz.underlying40 h
  have ci : Tryz.prog.cellsOf 3 = 1 := by kernel_rfl
  have cl : Tryz.prog.cellsOf 37 = 1 := by kernel_rfl
  have cb : Tryz.prog.cellsOf 38 = 1 := by kernel_rfl
  match xs, hxl, cs, hcl with
  | [y0, y1, y2, y3, y4], _, [v0, v1, v2, v3, v4], _ =>
    have g0 := hf 0 _ rfl
    have g1 := hf 1 _ rfl
    have g2 := hf 2 _ rfl
    have g3 := hf 3 _ rfl
    have g4 := hf 4 _ rfl
    simp [ci, cl, cb] at g0 g1 g2 g3 g4
    obtain ⟨m0, e0, _, hw0⟩ := DataW.trod_int Tryz.underlying3 g0
    obtain ⟨m1, e1, _, hw1⟩ := DataW.trod_int Tryz.underlying3 g1
    obtain ⟨l, hl⟩ := lists_in' g2
    obtain ⟨b, hb⟩ := bools_in' g3
    obtain ⟨b', hb'⟩ := bools_in' g4
    injection e0 with e0 _
    injection e1 with e1 _
    subst e0 e1
    exact ⟨⟨m0, m1, v2, l, v3, b, v4, b'⟩, rfl, ⟨int_wf hw0, int_wf hw1, hl, hb, hb'⟩⟩
theorem acts5_in {H : Type} {enc : TypeId × Value → H} {W : World} {base : Nat} {v : Value} {d : DataW H} {p : List MemPlace}
    (hval : Value.okWide Tryz.prog W .any base 22 v) (hd : DataW.Trod enc Tryz.prog W 0 (fun _ => true) true 22 v d p) : ∃ l, RdW W v l := by
  obtain ⟨a, n, cap, rfl⟩ := okWide_slice Tryz.underlying22 hval
  obtain ⟨f, hf⟩ := hd
  obtain ⟨l, a, cap, e, h1, h2, h3⟩ := row_in (W := W) (fun x : ActW => x.cells) (fun x => x.ok W) Tryz.underlying22 (c := 5) (by kernel_rfl) (by decide) (fun n cs y hl h => act5_in hl h) hf
  exact ⟨l, a, cap, e, h1, h2, h3⟩
theorem ActW.ok.below {w w' : World} {x : ActW} (h : x.ok w) (hb : Below w.heap.size w w') : x.ok w' := ⟨h.w1, h.n1, h.l.below hb, h.k.below hb, h.a.below hb⟩
theorem RdW.below {w w' : World} {v : Value} {l : List ActW} (h : RdW w v l) (hb : Below w.heap.size w w') : RdW w' v l := by
  obtain ⟨a, cap, rfl, hc, hm, hi⟩ := h
  refine ⟨a, cap, rfl, hc, hm, fun i hil => ?_⟩
  obtain ⟨h0, g, o, rfl, e2, e3⟩ := hi i hil
  exact ⟨h0.below hb, g, o, rfl, Nat.lt_of_lt_of_le e2 hb.size, fun j hj m hm => by
    rw [← e3 j hj m hm]
    exact World.cell?_of_block (hb.block g e2)⟩
theorem RdW.one (w : World) (v : Value) (ll : List (Value × List PutD)) (h : RdL w v ll) :
    RdW (w.alloc (.cells #[.int .i64 0, .int .i64 0, v, .slice none 0 0, .slice none 0 0] 40)) (.slice (some ⟨w.heap.size, 0, none⟩) 1 1) [⟨0, 0, v, ll, .slice none 0 0, [], .slice none 0 0, []⟩] := by
  have hbl := Blk.new w #[.int .i64 0, .int .i64 0, v, .slice none 0 0, .slice none 0 0] 40
  refine ⟨_, 1, rfl, Nat.le_refl _, by simp, fun i hi => ⟨?_, w.heap.size, 0, rfl, hbl.lt, fun j hj m hm => ?_⟩⟩
  · obtain rfl : i = 0 := by simpa using hi
    exact ⟨(show (-9223372036854775808 : Int) ≤ 0 ∧ (0 : Int) ≤ 9223372036854775807 by decide), (show (-9223372036854775808 : Int) ≤ 0 ∧ (0 : Int) ≤ 9223372036854775807 by decide), h.below ((Below.refl _ _).alloc (Nat.le_refl _) _), RdB.nil _, RdB.nil _⟩
  · obtain rfl : j = 0 := by simpa using hj
    match m, hm with
    | 0, _ => exact hbl.cell rfl
    | 1, _ => exact hbl.cell rfl
    | 2, _ => exact hbl.cell rfl
    | 3, _ => exact hbl.cell rfl
    | 4, _ => exact hbl.cell rfl
def SmallTo (w w' : World) (l : List ActW) (e : Ending) : Prop := ∃ b : Bool, e = .returned (.bool b) ∧ (b = true → l.length ≤ 40) ∧ Below w.heap.size w w'
theorem wrap64_in (z : Int) : -9223372036854775808 ≤ wrap64 z ∧ wrap64 z ≤ 9223372036854775807 := by
  unfold wrap64
  constructor <;> (try split) <;> omega
set_option maxRecDepth 100000 in
set_option maxHeartbeats 4000000 in
theorem small_any (w : World) (v : Value) (l : List ActW) (hl : RdW w v l) :
    Calls Tryz.prog 10 #[v] w fun e w' => SmallTo w w' l e := by
  obtain ⟨a, cap, rfl, hc, hm, hrl⟩ := hl
  have HR := Lib.hid hrl
  clear hrl hc
  go_enter Tryz.func10, Tryz.ntmps10
  by_cases h40 : l.length ≤ 40
  · have j1 : (l.length : Int) ≤ 40 := by omega
    have H40 := Lib.hid h40
    go_wp2
    go_loopw [3, 15] (fun t i wr => ∃ (k : Nat) (z : Int), k ≤ l.length ∧ t = .int .i64 z ∧ i = .int .i64 k ∧ Hid (Below w.heap.size w wr)) (fun _ i _ => l.length - (Go.RowKit.intOf i).toNat)
    case atStart => exact ⟨0, 0, Nat.zero_le _, rfl, rfl, Lib.hid (Below.refl _ _)⟩
    case round =>
      obtain ⟨k, z, hk, rfl, rfl, hB⟩ := hrel
      by_cases hlt : k < l.length
      · have hI : (k : Int) < l.length := by omega
        obtain ⟨hok, ga, oa, rfl, hga, hxa⟩ := HR.out k hlt
        have cc : ∀ m, m < 5 → wr.cell? ⟨ga, oa + (k * 5 + m), none⟩ = l[k].cells[m]? := fun m hm => (World.cell?_of_block (hB.out.block ga hga)).trans (hxa k hlt m hm)
        have c0 := cc 0 (by decide)
        have c1 := cc 1 (by decide)
        have c2 := cc 2 (by decide)
        have c3 := cc 3 (by decide)
        have c4 := cc 4 (by decide)
        simp only [ActW.cells, List.getElem?_cons_succ, List.getElem?_cons_zero, Nat.add_zero, ← Nat.add_assoc] at c0 c1 c2 c3 c4
        obtain ⟨hL, hK, hA⟩ : RdL w l[k].vl l[k].ll ∧ RdB w l[k].vk l[k].keep ∧ RdB w l[k].va l[k].again := ⟨hok.l, hok.k, hok.a⟩
        have HLt := Lib.hid hlt
        clear cc hxa hok
        generalize l[k] = x at *
        obtain ⟨xw, xn, vl, ll, vk, keep, va, again⟩ := x
        simp only at c0 c1 c2 c3 c4 hL hK hA
        obtain ⟨al, capl, rfl, _, hml, hrl⟩ := hL
        obtain ⟨ak, capk, rfl, _, _⟩ := hK
        obtain ⟨aa, capa, rfl, _, _⟩ := hA
        have HL := Lib.hid hrl
        have hbp := hB.out.alloc hB.out.size (.cells #[.int .i64 xw, .int .i64 xn, .slice al ll.length capl, .slice ak keep.length capk, .slice aa again.length capa] 40)
        have HBp := Lib.hid hbp
        clear hrl hbp hB
        by_cases h10 : ll.length ≤ 10
        · have q1 : (ll.length : Int) ≤ 10 := by omega
          by_cases hk2 : (keep.length : Int) ≤ 200
          · by_cases ha2 : (again.length : Int) ≤ 200
            · go_wp2
              clear c0 c1 c2 c3 c4
              obtain ⟨X, hX⟩ : ∃ X, X = wr.alloc (.cells #[.int .i64 xw, .int .i64 xn, .slice al ll.length capl, .slice ak keep.length capk, .slice aa again.length capa] 40) := ⟨_, rfl⟩
              rw [← hX] at HBp ⊢
              clear hX
              go_loopw [3, 38] (fun t i wq => ∃ (j : Nat) (z : Int), j ≤ ll.length ∧ t = .int .i64 z ∧ i = .int .i64 j ∧ Hid (Below w.heap.size w wq)) (fun _ i _ => ll.length - (Go.RowKit.intOf i).toNat)
              case atStart => exact ⟨0, z, Nat.zero_le _, rfl, rfl, HBp⟩
              case round =>
                obtain ⟨j, z, hj, rfl, rfl, hB⟩ := hrel
                by_cases hlt2 : j < ll.length
                · have hI2 : (j : Int) < ll.length := by omega
                  obtain ⟨hP, gl, ol, rfl, hgl, hxl⟩ := HL.out j hlt2
                  obtain ⟨pv, ps, d0, hP⟩ : ∃ pv ps, wr.cell? ⟨gl, ol + j, none⟩ = some pv ∧ RdP w pv ps := ⟨_, _, (hB.out.cell (p := ⟨gl, ol + j, none⟩) hgl).trans (hxl j hlt2), hP⟩
                  have HLt2 := Lib.hid hlt2
                  obtain ⟨ap, capp, rfl, _, hmp, hrp⟩ := hP
                  have HP := Lib.hid hrp
                  clear hrp hxl
                  obtain ⟨y, hy⟩ : ∃ y, y = wrap64 (z + ps.length) := ⟨_, rfl⟩
                  by_cases h200 : wrap64 (z + ps.length) ≤ 200
                  · have hno : ¬ wrap64 (z + ps.length) > 200 := by omega
                    go_wp2
                    go_loopw [50] (fun i wq => ∃ m : Nat, m ≤ ps.length ∧ i = .int .i64 m ∧ Hid (Below w.heap.size w wq)) (fun i _ => ps.length - (Go.RowKit.intOf i).toNat)
                    case atStart => exact ⟨0, Nat.zero_le _, rfl, hB⟩
                    case round =>
                      clear hB d0
                      obtain ⟨m, hm3, rfl, hB⟩ := hrel
                      by_cases hlt3 : m < ps.length
                      · have hI3 : (m : Int) < ps.length := by omega
                        obtain ⟨_, gp, op, rfl, hgp, hxp⟩ := HP.out m hlt3
                        obtain ⟨cp0, cp1⟩ := hxp m hlt3
                        obtain ⟨pt_, e0, e1⟩ : ∃ p : PutD, wr.cell? ⟨gp, op + m * 2, none⟩ = some (.int .i64 p.1) ∧ wr.cell? ⟨gp, op + m * 2 + 1, none⟩ = some (.string p.2) := ⟨_, (hB.out.cell (p := ⟨gp, op + m * 2, none⟩) hgp).trans cp0, (hB.out.cell (p := ⟨gp, op + m * 2 + 1, none⟩) hgp).trans cp1⟩
                        have HLt3 := Lib.hid hlt3
                        have HBp3 := Lib.hid (hB.out.alloc hB.out.size (.cells #[.int .i64 pt_.1, .string pt_.2] 74))
                        clear hxp cp0 cp1 hB
                        obtain ⟨at_, text⟩ := pt_
                        simp only at e0 e1 HBp3
                        by_cases h6 : (text.size : Int) ≤ 600
                        · go_wp2
                          go_roundw
                          case rel => exact ⟨m + 1, HLt3.out, by go_num, HBp3⟩
                          case measure => have := HLt3.out; simp [Go.RowKit.intOf]; omega
                        · have hno : (text.size : Int) > 600 := by omega
                          go_wp2
                          go_ret
                          exact ⟨false, rfl, (fun h => by cases h), HBp3.out⟩
                      · obtain rfl : m = ps.length := by omega
                        go_wp2
                        go_roundw
                        case rel => exact ⟨j + 1, _, HLt2.out, rfl, by go_num, hB⟩
                        case measure => have := HLt2.out; simp [Go.RowKit.intOf]; omega
                  · have hno : wrap64 (z + ps.length) > 200 := by omega
                    go_wp2
                    go_ret
                    exact ⟨false, rfl, (fun h => by cases h), hB.out⟩
                · obtain rfl : j = ll.length := by omega
                  go_wp2
                  go_roundw
                  case rel => exact ⟨k + 1, z, HLt.out, rfl, by go_num, hB⟩
                  case measure => have := HLt.out; simp [Go.RowKit.intOf]; omega
            · have hno : (again.length : Int) > 200 := by omega
              go_wp2
              go_ret
              exact ⟨false, rfl, (fun h => by cases h), HBp.out⟩
          · have hno : (keep.length : Int) > 200 := by omega
            go_wp2
            go_ret
            exact ⟨false, rfl, (fun h => by cases h), HBp.out⟩
        · have q1 : (ll.length : Int) > 10 := by omega
          go_wp2
          go_ret
          exact ⟨false, rfl, (fun h => by cases h), HBp.out⟩
      · obtain rfl : k = l.length := by omega
        go_wp2
        go_ret
        exact ⟨true, rfl, fun _ => H40.out, hB.out⟩
  · have j1 : (l.length : Int) > 40 := by omega
    go_wp2
    go_ret
    exact ⟨false, rfl, (fun h => by cases h), Below.refl _ _⟩
end Go.Proofs.YthkblabpiajbhaaGreatDoor

namespace Go.Proofs.YthkblabpiajbhaaGreatDoor
open Go.RowKit Lib

structure Rows2 (w : World) (Z : Nat → Option Obj) (m : Nat) (u v : Value) (H M : List Wl.Text) (A : Nat → Prop) (X : World) : Prop where
  low : ∀ x, x < w.heap.size → A x
  ua : ∀ x, u.ownBlock = some x → A x
  va : ∀ x, v.ownBlock = some x → A x
  ou : OwnS w.heap.size X u H
  ov : OwnS w.heap.size X v M
  hm : H.length = m
  mm : M.length = m
  below : Below w.heap.size w X
  lt : ∀ x, A x → x < X.heap.size
  hold : ∀ x o, Z x = some o → A x ∧ X.heap[x]? = some o
abbrev OffA (A : Nat → Prop) (w w' : World) : Prop := But (fun x => ¬ A x) w w'
section
variable {w X X' : World} {Z : Nat → Option Obj} {m : Nat} {u v : Value} {H M K H0 M0 : List Wl.Text} {A F F' FD : Nat → Prop} {rg g b b' N : Nat} {s s' : Wl.Lg} {d : Dk.Disk}
theorem Rows2.off (h : Rows2 w Z m u v H M A X) (ho : OffA A X X') : Rows2 w Z m u v H M A X' :=
  ⟨h.low, h.ua, h.va, Own.but h.ou ho (fun x hx hn => hn (h.ua x hx)), Own.but h.ov ho (fun x hx hn => hn (h.va x hx)), h.hm, h.mm,
    h.below.trans (But.below ho h.below.size (fun k hk hn => hn (h.low k hk))), fun x hx => Nat.lt_of_lt_of_le (h.lt x hx) ho.size,
    fun x o hz => ⟨(h.hold x o hz).1, (ho.block x (h.lt x (h.hold x o hz).1) (fun hn => hn (h.hold x o hz).1)).trans (h.hold x o hz).2⟩⟩
theorem Rows2.still (h : Rows2 w Z m u v H M A X) (hb : Below X.heap.size X X') : Rows2 w Z m u v H M A X' := h.off (But.of_below hb _)
/-- One row stands for both. -/
theorem Rows2.fst (h : Rows2 w Z m u v H M A X) : Rows2 w Z m u u H H A X := ⟨h.low, h.ua, h.ua, h.ou, h.ou, h.hm, h.hm, h.below, h.lt, h.hold⟩
theorem Rows2.snd (h : Rows2 w Z m u v H M A X) : Rows2 w Z m v v M M A X := ⟨h.low, h.va, h.va, h.ov, h.ov, h.mm, h.mm, h.below, h.lt, h.hold⟩
/-- A third row, in the place of the second one. -/
theorem Rows2.more (h : Rows2 w Z m u v H M A X) (hb : Below X.heap.size X X') {v' : Value} {M' : List Wl.Text} (ho : OwnS w.heap.size X' v' M') (hm : M'.length = m) :
    Rows2 w Z m u v' H M' (fun x => A x ∨ v'.ownBlock = some x) X' := by
  have h' := h.still hb
  exact ⟨fun x hx => .inl (h.low x hx), fun x hx => .inl (h.ua x hx), fun x hx => .inr hx, h'.ou, ho, h.hm, hm, h'.below, fun x hx => hx.elim (h'.lt x) (fun e => (Own.block ho x e).2), fun x o hz => ⟨.inl (h'.hold x o hz).1, (h'.hold x o hz).2⟩⟩
/-- The log in block b over disk g, apart from A. -/
def FS (w : World) (Z : Nat → Option Obj) (g m b : Nat) (u v : Value) (H M : List Wl.Text) (P : Wl.Lg → Prop) (X : World) : Prop :=
  ∃ A F s, Rows2 w Z m u v H M A X ∧ Log X F b g s ∧ (∀ x, F x → ¬ A x) ∧ P s
theorem FS.left {Q : Wl.Lg → Prop} (hr : Rows2 w Z m u v H M A X) (ha : ∀ x, F x → ¬ A x) (hL : Log X' F' b g s') (hM : Moved F X F' X') (hq : Q s') : FS w Z g m b u v H M Q X' :=
  ⟨A, F', s', hr.off (hM.1.mono (fun x _ hx => ha x hx)), hL, fun x hx hn => by
    rcases hM.2 x hx with h1 | h1
    · exact ha x h1 hn
    · have := hr.lt x hn; omega, hq⟩
theorem FS.mono {P Q : Wl.Lg → Prop} (h : FS w Z g m b u v H M P X) (hq : ∀ s, P s → Q s) : FS w Z g m b u v H M Q X := by
  obtain ⟨A, F, s, h1, h2, h3, h4⟩ := h
  exact ⟨A, F, s, h1, h2, h3, hq s h4⟩
theorem FS.still {P : Wl.Lg → Prop} (h : FS w Z g m b u v H M P X) (hb : Below X.heap.size X X') : FS w Z g m b u v H M P X' := by
  obtain ⟨A, F, s, h1, h2, h3, h4⟩ := h
  exact ⟨A, F, s, h1.still hb, h2.below hb, h3, h4⟩
theorem FS.below {P : Wl.Lg → Prop} (h : FS w Z g m b u v H M P X) : Below w.heap.size w X := by
  obtain ⟨_, _, _, h1, _⟩ := h
  exact h1.below
theorem FS.ou {P : Wl.Lg → Prop} (h : FS w Z g m b u v H M P X) : OwnS w.heap.size X u H := by
  obtain ⟨_, _, _, h1, _⟩ := h
  exact h1.ou
theorem FS.ov {P : Wl.Lg → Prop} (h : FS w Z g m b u v H M P X) : OwnS w.heap.size X v M := by
  obtain ⟨_, _, _, h1, _⟩ := h
  exact h1.ov
theorem FS.hm {P : Wl.Lg → Prop} (h : FS w Z g m b u v H M P X) : H.length = m := by
  obtain ⟨_, _, _, h1, _⟩ := h
  exact h1.hm
theorem FS.row {P : Wl.Lg → Prop} (h : FS w Z g m b u v H M P X) (hb : Below X.heap.size X X') {v' : Value} {M' : List Wl.Text} (ho : OwnS w.heap.size X' v' M') (hv : v' = u ∨ ∀ k, v'.ownBlock = some k → X.heap.size ≤ k) (hm : M'.length = m) : FS w Z g m b u v' H M' P X' := by
  obtain ⟨A, F, s, h1, h2, h3, h4⟩ := h
  refine ⟨_, F, s, h1.more hb ho hm, h2.below hb, fun x hx hn => ?_, h4⟩
  rcases hn with hn | hn
  · exact h3 x hx hn
  · rcases hv with e | e
    · exact h3 x hx (h1.ua x (e ▸ hn))
    · have := e x hn; have := h2.lt x hx; omega
/-- A block that is new is held from here on. -/
theorem FS.held {P : Wl.Lg → Prop} (h : FS w (fun _ => none) g m b u v H M P X) (o : Obj) {q : Nat} (hq : X.heap.size = q) : FS w (fun x => if x = q then some o else none) g m b u v H M P (X.alloc o) := by
  obtain ⟨A, F, s, h1, h2, h3, h4⟩ := h
  have hb : Below X.heap.size X (X.alloc o) := (Below.refl _ _).alloc (Nat.le_refl _) _
  have h1' := h1.still hb
  refine ⟨fun x => A x ∨ x = q, F, s, ⟨fun x hx => .inl (h1.low x hx), fun x hx => .inl (h1.ua x hx), fun x hx => .inl (h1.va x hx), h1'.ou, h1'.ov, h1.hm, h1.mm, h1'.below, fun x hx => ?_, fun x o' hz => ?_⟩, h2.below hb, fun x hx hn => ?_, h4⟩
  · rcases hx with hx | hx
    · exact h1'.lt x hx
    · rw [World.size_alloc]; omega
  · by_cases e : x = q
    · rw [if_pos e] at hz
      injection hz with hz
      subst hz e
      exact ⟨.inr rfl, by rw [← hq]; exact heap_alloc_new X o⟩
    · rw [if_neg e] at hz
      cases hz
  · rcases hn with hn | hn
    · exact h3 x hx hn
    · have := h2.lt x hx; omega
theorem FS.free {P : Wl.Lg → Prop} (h : FS w Z g m b u v H M P X) : FS w (fun _ => none) g m b u v H M P X := by
  obtain ⟨A, F, s, h1, h2, h3, h4⟩ := h
  exact ⟨A, F, s, ⟨h1.low, h1.ua, h1.va, h1.ou, h1.ov, h1.hm, h1.mm, h1.below, h1.lt, fun x o hz => by cases hz⟩, h2, h3, h4⟩
theorem FS.holds {P : Wl.Lg → Prop} (h : FS w Z g m b u v H M P X) {q : Nat} {o : Obj} (hz : Z q = some o) : X.heap[q]? = some o := by
  obtain ⟨A, F, s, h1, h2, h3, h4⟩ := h
  exact (h1.hold q o hz).2
def Up5 (rg N : Nat) (H : List Wl.Text) (s : Wl.Lg) : Prop := Wl.Live rg N s H
def Off5 (rg N : Nat) (H M : List Wl.Text) (s : Wl.Lg) : Prop := Wl.Dead rg N s (fun K => K = H ∨ K = M)
def Any5 (rg N : Nat) (H M : List Wl.Text) (s : Wl.Lg) : Prop := (Up5 rg N H s ∧ M = H) ∨ Off5 rg N H M s
/-- Between acts. -/
def FInv (w : World) (Z : Nat → Option Obj) (rg g m N b : Nat) (u v : Value) (H M : List Wl.Text) (X : World) : Prop := FS w Z g m b u v H M (Any5 rg N H M) X
theorem FInv.later {N' : Nat} (h : FInv w Z rg g m N b u v H M X) (hN : N ≤ N') : FInv w Z rg g m N' b u v H M X :=
  FS.mono h fun _ hs => hs.elim (fun h => .inl ⟨h.1.mono hN, h.2⟩) (fun h => .inr (h.mono hN fun _ e => e))
theorem Wl.Dead.off_eq {S : List Wl.Text → Prop} (h : Wl.Dead rg N s S) : s.off = true := by unfold Wl.Lg.off; rw [h.down]; rfl
theorem FS.parts (h : FS w Z g m b u v H M (Any5 rg N H0 M0) X) : (M0 = H0 ∧ FS w Z g m b u v H M (Up5 rg N H0) X) ∨ FS w Z g m b u v H M (Off5 rg N H0 M0) X := by
  obtain ⟨A, F, s, h1, h2, h3, h4⟩ := h
  rcases h4 with ⟨h4, h5⟩ | h4
  · exact .inl ⟨h5, A, F, s, h1, h2, h3, h4⟩
  · exact .inr ⟨A, F, s, h1, h2, h3, h4⟩
theorem finv_down (h : FS w Z g m b u v H M (Any5 rg N H0 M0) X) :
    Calls Tryz.prog 13 #[ptr b] X fun e X' => ∃ c : Bool, e = .returned (.bool c) ∧ X' = X ∧ (c = false → M0 = H0 ∧ FS w Z g m b u v H M (Up5 rg N H0) X) ∧ (c = true → FS w Z g m b u v H M (Off5 rg N H0 M0) X) := by
  obtain ⟨A, F, s, h1, h2, h3, h4⟩ := h
  refine (ldown_any X F b g s h2).mono ?_
  rintro e X' ⟨rfl, rfl⟩
  rcases h4 with ⟨h4, h5⟩ | h4
  · exact ⟨false, by rw [h4.off_eq], rfl, fun _ => ⟨h5, A, F, s, h1, h2, h3, h4⟩, fun e => by cases e⟩
  · exact ⟨true, by rw [h4.off_eq], rfl, fun e => (by cases e), fun _ => ⟨A, F, s, h1, h2, h3, h4⟩⟩
theorem off_down (h : FS w Z g m b u v H M (Off5 rg N H0 M0) X) :
    Calls Tryz.prog 13 #[ptr b] X fun e X' => e = .returned (.bool true) ∧ X' = X := by
  obtain ⟨A, F, s, h1, h2, h3, h4⟩ := h
  refine (ldown_any X F b g s h2).mono ?_
  rintro e X' ⟨rfl, rfl⟩
  exact ⟨by rw [h4.off_eq], rfl⟩
theorem off_commit (h : FS w Z g m b u v H M (Off5 rg N H0 M0) X) (va : Value) :
    Calls Tryz.prog 14 #[ptr b, va] X fun e X' => e = .returned (.int .i64 3) ∧ X' = X := by
  have HO := Lib.hid h
  clear h
  go_enter Tryz.func14, Tryz.ntmps14
  unfold ptr
  go_wp2_with fail
  refine (off_down HO.out).mono ?_
  rintro e w1 ⟨rfl, rfl⟩
  go_wp2
  go_ret
  exact ⟨rfl, rfl⟩
theorem off_check (h : FS w Z g m b u v H M (Off5 rg N H0 M0) X) :
    Calls Tryz.prog 19 #[ptr b] X fun e X' => e = .returned (.int .i64 3) ∧ X' = X := by
  have HO := Lib.hid h
  clear h
  go_enter Tryz.func19, Tryz.ntmps19
  unfold ptr
  go_wp2_with fail
  refine (off_down HO.out).mono ?_
  rintro e w1 ⟨rfl, rfl⟩
  go_wp2
  go_ret
  exact ⟨rfl, rfl⟩
theorem up_holds (h : FS w Z g m b u v H M (Up5 rg N H) X) (hM : M = H) (hm : m ≤ 1000) :
    Calls Tryz.prog 17 #[ptr b, u] X fun e X' => e = .returned (.bool true) ∧ FInv w Z rg g m N b u v H M X' := by
  obtain ⟨A, F, s, h1, h2, h3, h4⟩ := h
  refine (holds_live X F b g rg N s H H u h2 h4 (OwnS.reads h1.ou) (by rw [h1.hm]; omega)).mono ?_
  rintro e X' ⟨rfl, hb⟩
  rw [decide_eq_true rfl]
  exact ⟨rfl, A, F, s, h1.still hb, h2.below hb, h3, .inl ⟨h4, hM⟩⟩
/-- A group, where v is the row of what it comes to. -/
theorem up_commit {ll : List (Value × List PutD)} (h : FS w Z g m b u v H (Wl.comm rg H (ptsL ll)).2 (Up5 rg N H) X) (hN : N + 1 < 1000000) (va : Value) (ha : RdL X va ll) :
    Calls Tryz.prog 14 #[ptr b, va] X fun e X' =>
      (e = .returned (.int .i64 (Wl.comm rg H (ptsL ll)).1) ∧ FInv w Z rg g m (N + 1) b v v (Wl.comm rg H (ptsL ll)).2 (Wl.comm rg H (ptsL ll)).2 X') ∨
      (e = .returned (.int .i64 3) ∧ FS w Z g m b u v H (Wl.comm rg H (ptsL ll)).2 (Off5 rg (N + 1) H (Wl.comm rg H (ptsL ll)).2) X') := by
  obtain ⟨A, F, s, h1, h2, h3, h4⟩ := h
  refine (commit_live X F b g rg N s H va ll h2 h4 hN ha).mono ?_
  rintro e X' ⟨F', s', hL, hM, hq⟩
  rcases hq with ⟨rfl, hv', _⟩ | ⟨rfl, hv', _⟩
  · exact .inl ⟨rfl, FS.left h1.snd h3 hL hM (.inl ⟨hv', rfl⟩)⟩
  · exact .inr ⟨rfl, FS.left h1 h3 hL hM hv'⟩
theorem up_check (h : FS w Z g m b u v H M (Up5 rg N H) X) (hM : M = H) :
    Calls Tryz.prog 19 #[ptr b] X fun e X' =>
      (e = .returned (.int .i64 0) ∧ FInv w Z rg g m N b u v H M X') ∨ (e = .returned (.int .i64 3) ∧ FS w Z g m b u v H M (Off5 rg N H M) X') := by
  obtain ⟨A, F, s, h1, h2, h3, h4⟩ := h
  refine (check_live X F b g rg N s H h2 h4).mono ?_
  rintro e X' ⟨F', s', hL, hMv, hq⟩
  rcases hq with ⟨rfl, hv', _⟩ | ⟨rfl, hv', _⟩
  · exact .inl ⟨rfl, FS.left h1 h3 hL hMv (.inl ⟨hv', hM⟩)⟩
  · exact .inr ⟨rfl, FS.left h1 h3 hL hMv (hv'.mono (Nat.le_refl _) fun _ e => .inl e)⟩
theorem Wl.Live.fuel (h : Wl.Live rg N s H) (n : Int) : Wl.Live rg N { s with d := s.d.fueled n } H := ⟨h.up, h.on, h.firm, h.ring_eq, h.homes_eq, h.num_le, h.stands⟩
theorem Wl.Dead.fuel {S : List Wl.Text → Prop} (h : Wl.Dead rg N s S) (n : Int) : Wl.Dead rg N { s with d := s.d.fueled n } S := ⟨h.down, h.off, h.safe⟩
/-- The disk's fuel. -/
theorem fs_fuel {P Q : Wl.Lg → Prop} (h : FS w Z g m b u v H M P X) (n : Int) (h1 : -9223372036854775808 ≤ n) (h2 : n ≤ 9223372036854775807) (hQ : ∀ s, P s → Q { s with d := s.d.fueled n }) :
    Calls Tryz.prog 20 #[ptr g, .int .i64 n] X fun e X' => e = .returned (.tuple #[]) ∧ FS w Z g m b u v H M Q X' := by
  obtain ⟨A, F, s, hr, ⟨mb, FD, hl⟩, h3, h4⟩ := h
  refine (fuel_any X FD g s.d n hl.sec h1 h2).mono ?_
  rintro e X' ⟨rfl, hs, hm⟩
  obtain ⟨hp, hm'⟩ := hl.turned hs hm
  exact ⟨rfl, FS.left hr h3 hp.log hm' (hQ s h4)⟩
theorem finv_fuel (h : FInv w Z rg g m N b u v H M X) (n : Int) (h1 : -9223372036854775808 ≤ n) (h2 : n ≤ 9223372036854775807) :
    Calls Tryz.prog 20 #[ptr g, .int .i64 n] X fun e X' => e = .returned (.tuple #[]) ∧ FInv w Z rg g m N b u v H M X' :=
  fs_fuel h n h1 h2 fun _ hs => hs.elim (fun h => .inl ⟨h.1.fuel n, h.2⟩) (fun h => .inr (h.fuel n))
/-- The disk behind a fall: a log stands on it whose homes hold K. -/
def FFall (w : World) (Z : Nat → Option Obj) (rg g m N : Nat) (u v : Value) (H M K : List Wl.Text) (lim : Prop) (X : World) : Prop :=
  ∃ A FD d, Rows2 w Z m u v H M A X ∧ Sec X FD g d ∧ d.off = false ∧ d.loose = [] ∧ (∃ a n gs, Wl.Good rg d.firm a n gs K ∧ n + gs.length ≤ N) ∧ (∀ x, FD x → ¬ A x) ∧ (lim → d.fuel < 0)
theorem FFall.holds {lim : Prop} (h : FFall w Z rg g m N u v H M K lim X) {q : Nat} {o : Obj} (hz : Z q = some o) : X.heap[q]? = some o := by
  obtain ⟨A, FD, d, h1, _⟩ := h
  exact (h1.hold q o hz).2
theorem fs_fall {P : Wl.Lg → Prop} {Sf : List Wl.Text → Prop} (h : FS w Z g m b u v H M P X) (hP : ∀ s, P s → Wl.Safe rg N s.d Sf) (vk : Value) (keep : List Bool) (hk : RdB w vk keep) :
    Calls Tryz.prog 21 #[ptr g, vk] X fun e X' => e = .returned (.tuple #[]) ∧ ∃ K, Sf K ∧ FFall w Z rg g m N u v H M K True X' := by
  obtain ⟨A, F, s, hr, hl, h3, h4⟩ := h
  obtain ⟨FD, hs, hfd⟩ := hl.sec
  have hkX := hk.below hr.below
  refine (fall_any X FD g s.d vk keep hs hkX (fun h0 q hq hn => h3 q (hfd q hn) (hr.low q ?_))).mono ?_
  · obtain ⟨a, cap, rfl, _, hi⟩ := hk
    obtain ⟨g', o, rfl, e2, _⟩ := hi 0 h0
    simp [Value.ownBlock] at hq
    omega
  · rintro e X' ⟨rfl, hs', hM⟩
    obtain ⟨a, n, gs, K, hg, hK, hN⟩ := hP s h4 keep
    exact ⟨rfl, K, hK, A, FD, _, hr.off (hM.1.mono (fun x _ hx => h3 x (hfd x hx))), hs', rfl, rfl, ⟨a, n, gs, hg, hN⟩, fun x hx => h3 x (hfd x hx), fun _ => by show (-1 : Int) < 0; decide⟩
theorem finv_fall (h : FInv w Z rg g m N b u v H M X) (vk : Value) (keep : List Bool) (hk : RdB w vk keep) :
    Calls Tryz.prog 21 #[ptr g, vk] X fun e X' => e = .returned (.tuple #[]) ∧ ∃ K, (K = H ∨ K = M) ∧ FFall w Z rg g m N u v H M K True X' :=
  fs_fall h (fun _ hs => hs.elim (fun h => h.1.safe.mono (Nat.le_refl _) fun _ e => .inl e) (fun h => h.safe)) vk keep hk
theorem ffall_fuel {lim : Prop} (h : FFall w Z rg g m N u v H M K lim X) (n : Int) (h1 : -9223372036854775808 ≤ n) (h2 : n ≤ 9223372036854775807) :
    Calls Tryz.prog 20 #[ptr g, .int .i64 n] X fun e X' => e = .returned (.tuple #[]) ∧ FFall w Z rg g m N u v H M K False X' := by
  obtain ⟨A, FD, d, hr, hs, k1, k2, k3, k4, _⟩ := h
  refine (fuel_any X FD g d n hs h1 h2).mono ?_
  rintro e X' ⟨rfl, hs', hm⟩
  exact ⟨rfl, A, FD, _, hr.off (hm.1.mono (fun x _ hx => k4 x hx)), hs', k1, k2, k3, k4, fun e => e.elim⟩
/-- Opened: up, the homes hold K; or broken off. -/
theorem ffall_open {lim : Prop} (h : FFall w Z rg g m N u v H M K lim X) :
    Calls Tryz.prog 12 #[ptr g, .int .i64 rg] X fun e X' => ∃ b, (e = .returned (.tuple #[ptr b, .int .i64 0]) ∧ FS w Z g m b u v H M (Up5 rg N K) X') ∨
      (e = .returned (.tuple #[.pointer none, .int .i64 3]) ∧ ¬ lim ∧ FS w Z g m b u v H M (Off5 rg N K K) X') := by
  obtain ⟨A, FD, d, hr, hs, k1, k2, ⟨a, n, gs, hg, hN⟩, k4, k5⟩ := h
  refine (open_live X FD g rg N d a n gs K hs hg k1 k2 hN).mono ?_
  rintro e X' ⟨b, F', s', hL, hM, hq⟩
  rcases hq with ⟨rfl, hv', _⟩ | ⟨rfl, hv', hf⟩
  · exact ⟨b, .inl ⟨rfl, FS.left hr k4 hL hM hv'⟩⟩
  · exact ⟨b, .inr ⟨rfl, fun hl => by have := k5 hl; omega, FS.left hr k4 hL hM (hv'.mono (Nat.le_refl _) fun _ e => .inl e)⟩⟩
theorem broken_fall (h : FS w Z g m b u v H M (Off5 rg N K K) X) (vk : Value) (keep : List Bool) (hk : RdB w vk keep) :
    Calls Tryz.prog 21 #[ptr g, vk] X fun e X' => e = .returned (.tuple #[]) ∧ FFall w Z rg g m N u v H M K True X' := by
  refine (fs_fall (Sf := fun K' => K' = K) h (fun _ hs => hs.safe.mono (Nat.le_refl _) fun _ e => e.elim id id) vk keep hk).mono ?_
  rintro e X' ⟨rfl, K', rfl, h'⟩
  exact ⟨rfl, h'⟩
theorem open_fuel (h : FS w Z g m b u v H M (Up5 rg N K) X) (n : Int) (h1 : -9223372036854775808 ≤ n) (h2 : n ≤ 9223372036854775807) :
    Calls Tryz.prog 20 #[ptr g, .int .i64 n] X fun e X' => e = .returned (.tuple #[]) ∧ FS w Z g m b u v H M (Up5 rg N K) X' :=
  fs_fuel h n h1 h2 fun _ hs => hs.fuel n
theorem open_holds (h : FS w Z g m b u v H M (Up5 rg N K) X) (hm : m ≤ 1000) :
    Calls Tryz.prog 17 #[ptr b, u] X fun e X' => e = .returned (.bool (decide (K = H))) ∧ FS w Z g m b u v H M (Up5 rg N K) X' := by
  obtain ⟨A, F, s, h1, h2, h3, h4⟩ := h
  refine (holds_live X F b g rg N s K H u h2 h4 (OwnS.reads h1.ou) (by rw [h1.hm]; omega)).mono ?_
  rintro e X' ⟨rfl, hb⟩
  exact ⟨rfl, A, F, s, h1.still hb, h2.below hb, h3, h4⟩
theorem open_holds2 (h : FS w Z g m b u v H M (Up5 rg N K) X) (hm : m ≤ 1000) :
    Calls Tryz.prog 17 #[ptr b, v] X fun e X' => e = .returned (.bool (decide (K = M))) ∧ FS w Z g m b u v H M (Up5 rg N K) X' := by
  obtain ⟨A, F, s, h1, h2, h3, h4⟩ := h
  refine (holds_live X F b g rg N s K M v h2 h4 (OwnS.reads h1.ov) (by rw [h1.mm]; omega)).mono ?_
  rintro e X' ⟨rfl, hb⟩
  exact ⟨rfl, A, F, s, h1.still hb, h2.below hb, h3, h4⟩
theorem open_fst (h : FS w Z g m b u v H M (Up5 rg N H) X) : FInv w Z rg g m N b u u H H X := by
  obtain ⟨A, F, s, h1, h2, h3, h4⟩ := h
  exact ⟨A, F, s, h1.fst, h2, h3, .inl ⟨h4, rfl⟩⟩
theorem open_snd (h : FS w Z g m b u v H M (Up5 rg N M) X) : FInv w Z rg g m N b v v M M X := by
  obtain ⟨A, F, s, h1, h2, h3, h4⟩ := h
  exact ⟨A, F, s, h1.snd, h2, h3, .inl ⟨h4, rfl⟩⟩
end
end Go.Proofs.YthkblabpiajbhaaGreatDoor

namespace Go.Proofs.YthkblabpiajbhaaGreatDoor
open Go.RowKit Lib

set_option maxRecDepth 100000 in
set_option maxHeartbeats 8000000 in
theorem walFalls_any (w : World) (ring : Int) (v : Value) (l : List ActW) (hl : RdW w v l) :
    Calls Tryz.prog 4 #[.int .i64 ring, v] w fun e w' => e = .returned (.bool true) ∧ Below w.heap.size w w' := by
  have HL := Lib.hid hl
  obtain ⟨a, cap, rfl, hc, hm, hrl⟩ := hl
  have HR := Lib.hid hrl
  clear hrl hc
  go_enter Tryz.func4, Tryz.ntmps4
  go_wp2_with fail
  refine (awake_any w).mono ?_
  rintro e w1 ⟨rfl, hb1⟩
  have H1 := Lib.hid hb1
  clear hb1
  by_cases hs1 : 4 ≤ ring
  · by_cases hs2 : ring ≤ 16
    · go_wp2_with fail
      refine (small_any w1 _ l (HL.out.below H1.out)).mono ?_
      rintro e w2 ⟨c, rfl, hc40, hb2⟩
      have H2 := Lib.hid (show Below w.heap.size w w2 from H1.out.trans (hb2.mono H1.out.size))
      clear hb2
      cases c with
      | false =>
        go_wp2
        go_ret
        exact ⟨rfl, H2.out⟩
      | true =>
        have H40 := Lib.hid (hc40 rfl)
        obtain ⟨rg, rfl⟩ : ∃ rg : Nat, ring = rg := ⟨ring.toNat, by omega⟩
        have HRg := Lib.hid (show 4 ≤ rg ∧ rg ≤ 16 by omega)
        obtain ⟨m, hmm⟩ : ∃ m, m = 23 - rg := ⟨_, rfl⟩
        have HM := Lib.hid (show m = 23 - rg ∧ (23 : Int) - rg = m by omega)
        have HM5 := Lib.hid (show 1 ≤ m ∧ m ≤ 1000 by omega)
        clear hc40 hmm
        go_wp2_with fail
        refine (new_any 24 w2 (by decide) (by decide)).mono ?_
        rintro e w3 ⟨g, FD, rfl, hd3, hF3, hb3⟩
        have H3 := Lib.hid (And.intro hd3 (And.intro hF3 hb3))
        clear hd3 hF3 hb3
        go_wp2_with fail
        refine (open_begun w3 FD g rg 24 H3.out.1 HRg.out.1 (by have := HRg.out; omega) (by have := HRg.out; omega) (by decide)).mono ?_
        rintro e w4 ⟨b, rfl, F4, s4, hL4, hM4, hv4, hf4⟩
        have H4 := Lib.hid (show Log w4 F4 b g s4 ∧ Wl.Live rg 1 s4 (Wl.noughts m) ∧ (∀ x, F4 x → w.heap.size ≤ x) ∧ Below w.heap.size w w4 by
          have h23 : Below w.heap.size w w3 := H2.out.trans (H3.out.2.2.mono H2.out.size)
          have hmv := hM4.below (B := w.heap.size) (fun k hk => by have := H3.out.2.1 k hk; have := H2.out.size; omega) h23.size
          rw [HM.out.1]
          exact ⟨hL4, (show 24 - 1 - rg = 23 - rg by omega) ▸ hv4, hmv.2, h23.trans hmv.1⟩)
        clear hL4 hM4 hv4 hf4
        go_wp2_with fail
        rw [HM.out.2]
        refine (new5_any m w4 (by have := HM5.out; omega)).mono ?_
        rintro e w5 ⟨v5, rfl, ho5, hb5⟩
        have H5 := Lib.hid (show FInv w (fun _ => none) rg g m 1 b v5 v5 (Wl.noughts m) (Wl.noughts m) w5 from
          ⟨fun x => x < w.heap.size ∨ v5.ownBlock = some x, F4, s4, ⟨fun x hx => .inl hx, fun x hx => .inr hx, fun x hx => .inr hx, Own.mono ho5 H4.out.2.2.2.size, Own.mono ho5 H4.out.2.2.2.size, by simp [Wl.noughts], by simp [Wl.noughts], H4.out.2.2.2.trans (hb5.mono H4.out.2.2.2.size), fun x hx => by
            rcases hx with hx | hx
            · have := H4.out.2.2.2.size; have := hb5.size; omega
            · exact (Own.block ho5 x hx).2, fun x o hz => by cases hz⟩, H4.out.1.below hb5, fun x hx hn => by
            rcases hn with hn | hn
            · have := H4.out.2.2.1 x hx; omega
            · have := (Own.block ho5 x hn).1; have := H4.out.1.lt x hx; omega, .inl ⟨H4.out.2.1, rfl⟩⟩)
        clear ho5 hb5
        go_wp2
        go_loopw [7, 9, 10, 50] (fun p u v i wr => ∃ (k b : Nat) (H M : List Wl.Text), k ≤ l.length ∧ p = ptr b ∧ i = .int .i64 k ∧ Hid (FInv w (fun _ => none) rg g m (1 + k) b u v H M wr)) (fun _ _ _ i _ => l.length - (Go.RowKit.intOf i).toNat)
        case atStart => exact ⟨0, b, _, _, Nat.zero_le _, rfl, rfl, H5⟩
        case round =>
          obtain ⟨k, b, H, M, hk, rfl, rfl, hS⟩ := hrel
          by_cases hlt : k < l.length
          · have hI : (k : Int) < l.length := by omega
            obtain ⟨hok, ga, oa, rfl, hga, hxa⟩ := HR.out k hlt
            have hb0 := FS.below hS.out
            have cc : ∀ m, m < 5 → wr.cell? ⟨ga, oa + (k * 5 + m), none⟩ = l[k].cells[m]? := fun m hm => (World.cell?_of_block (hb0.block ga hga)).trans (hxa k hlt m hm)
            have c0 := cc 0 (by decide)
            have c1 := cc 1 (by decide)
            have c2 := cc 2 (by decide)
            have c3 := cc 3 (by decide)
            have c4 := cc 4 (by decide)
            simp only [ActW.cells, List.getElem?_cons_succ, List.getElem?_cons_zero, Nat.add_zero, ← Nat.add_assoc] at c0 c1 c2 c3 c4
            obtain ⟨hL, hK, hA, hn⟩ : RdL w l[k].vl l[k].ll ∧ RdB w l[k].vk l[k].keep ∧ RdB w l[k].va l[k].again ∧ -9223372036854775808 ≤ l[k].n ∧ l[k].n ≤ 9223372036854775807 := ⟨hok.l, hok.k, hok.a, hok.n1⟩
            have HLt := Lib.hid hlt
            have k40 : (k : Int) ≤ 40 := by have := H40.out; omega
            clear cc hxa hok
            generalize l[k] = x at *
            obtain ⟨xw, xn, vl, ll, vk, keep, va, again⟩ := x
            simp only at c0 c1 c2 c3 c4 hL hK hA hn
            have HLL := Lib.hid hL
            have HKp := Lib.hid hK
            have HAg := Lib.hid hA
            have HXn := Lib.hid hn
            obtain ⟨al, capl, rfl, _⟩ := hL
            obtain ⟨ak, capk, rfl, _⟩ := hK
            obtain ⟨aa, capa, rfl, _⟩ := hA
            obtain ⟨q, hq⟩ : ∃ q, wr.heap.size = q := ⟨_, rfl⟩
            obtain ⟨V, hV⟩ : ∃ V, V = wr.alloc (.cells #[.int .i64 xw, .int .i64 xn, .slice al ll.length capl, .slice ak keep.length capk, .slice aa again.length capa] 40) := ⟨_, rfl⟩
            have HV := Lib.hid (show Below wr.heap.size wr V ∧ Blk V q 40 [.int .i64 xw, .int .i64 xn, .slice al ll.length capl, .slice ak keep.length capk, .slice aa again.length capa] by
              have hb := Blk.new wr #[.int .i64 xw, .int .i64 xn, .slice al ll.length capl, .slice ak keep.length capk, .slice aa again.length capa] 40
              rw [hq, ← hV] at hb
              exact ⟨by rw [hV]; exact (Below.refl _ _).alloc (Nat.le_refl _) _, hb⟩)
            have HS := Lib.hid (show FInv w (fun _ => none) rg g m (1 + k) b u9 u10 H M V from FS.still hS.out HV.out.1)
            have HSq := Lib.hid (show FInv w (fun x => if x = q then some (.cells #[.int .i64 xw, .int .i64 xn, .slice al ll.length capl, .slice ak keep.length capk, .slice aa again.length capa] 40) else none) rg g m (1 + k) b u9 u10 H M V by rw [hV]; exact FS.held hS.out _ hq)
            clear hb0 hS hn
            by_cases hw0 : xw = 0
            · subst hw0
              go_wp2_with fail
              rw [← hV]
              refine (commit5_any V w.heap.size u9 H rg _ ll (FS.ou HS.out) (by rw [FS.hm HS.out]; exact HM5.out.1) (by rw [FS.hm HS.out]; exact HM5.out.2) (FS.below HS.out).size (HLL.out.below (FS.below HS.out))).mono ?_
              rintro e w7 ⟨v7, rfl, ho7, hv7, hb7⟩
              have H7 := Lib.hid (show OwnS w.heap.size w7 v7 (Wl.comm rg H (ptsL ll)).2 ∧ (v7 = u9 ∨ ∀ k, v7.ownBlock = some k → V.heap.size ≤ k) ∧ Below V.heap.size V w7 from ⟨ho7, hv7, hb7⟩)
              have d2 : w7.cell? ⟨q, 2, none⟩ = some (.slice al ll.length capl) := (Blk.below HV.out.2 hb7 HV.out.2.lt).cell rfl
              have HS7 := Lib.hid (show FInv w (fun _ => none) rg g m (1 + k) b u9 u10 H M w7 from FS.still HS.out hb7)
              have HR7 := Lib.hid (show FS w (fun _ => none) g m b u9 v7 H (Wl.comm rg H (ptsL ll)).2 (Any5 rg (1 + k) H M) w7 from FS.row HS.out hb7 ho7 hv7 (by rw [Wl.comm_length, FS.hm HS.out]))
              clear ho7 hv7 hb7
              go_wp2_with fail
              refine (finv_down HR7.out).mono ?_
              rintro e w8 ⟨c8, rfl, rfl, hup, hoff⟩
              cases c8
              · obtain ⟨hMH, hup⟩ := hup rfl
                have HU := Lib.hid hup
                clear hup hoff
                go_wp2_with fail
                refine (up_commit HU.out (by omega) _ (HLL.out.below (FS.below HS7.out))).mono ?_
                rintro e w9 hq9
                have hcode := Wl.comm_code rg H (ptsL ll)
                generalize hcc : (Wl.comm rg H (ptsL ll)).1 = code at *
                rcases hq9 with ⟨rfl, h9⟩ | ⟨rfl, h9⟩
                · have HI := Lib.hid (show FInv w (fun _ => none) rg g m (1 + (k + 1)) b v7 v7 (Wl.comm rg H (ptsL ll)).2 (Wl.comm rg H (ptsL ll)).2 w9 from h9)
                  clear h9 hcode hcc d2
                  go_wp2_with fail
                  refine (finv_down HI.out).mono ?_
                  rintro e w20 ⟨c20, rfl, rfl, hup, -⟩
                  cases c20
                  · obtain ⟨hMH, hup⟩ := hup rfl
                    have HU20 := Lib.hid hup
                    clear hup
                    go_wp2_with fail
                    refine (up_holds HU20.out (by first | exact hMH | rfl) HM5.out.2).mono ?_
                    rintro e w21 ⟨rfl, h21⟩
                    have H21 := Lib.hid h21
                    clear h21
                    go_wp2
                    go_roundw
                    case rel => exact ⟨k + 1, _, _, _, HLt.out, rfl, by go_num, H21⟩
                    case measure => have := HLt.out; simp [Go.RowKit.intOf]; omega
                  · clear hup
                    go_wp2
                    go_roundw
                    case rel => exact ⟨k + 1, _, _, _, HLt.out, rfl, by go_num, HI⟩
                    case measure => have := HLt.out; simp [Go.RowKit.intOf]; omega
                · have h3 : ((3 : Int) == code) = false := beq_eq_false_iff_ne.2 (by omega)
                  have HO9 := Lib.hid h9
                  have HI := Lib.hid (show FInv w (fun _ => none) rg g m (1 + (k + 1)) b u9 v7 H (Wl.comm rg H (ptsL ll)).2 w9 from FS.mono h9 fun _ h => .inr h)
                  clear h9 hcode hcc d2
                  go_wp2_with fail
                  refine (off_down HO9.out).mono ?_
                  rintro e w10 ⟨rfl, rfl⟩
                  go_wp2_with fail
                  refine (finv_down HI.out).mono ?_
                  rintro e w20 ⟨c20, rfl, rfl, hup, -⟩
                  cases c20
                  · obtain ⟨hMH, hup⟩ := hup rfl
                    have HU20 := Lib.hid hup
                    clear hup
                    go_wp2_with fail
                    refine (up_holds HU20.out (by first | exact hMH | rfl) HM5.out.2).mono ?_
                    rintro e w21 ⟨rfl, h21⟩
                    have H21 := Lib.hid h21
                    clear h21
                    go_wp2
                    go_roundw
                    case rel => exact ⟨k + 1, _, _, _, HLt.out, rfl, by go_num, H21⟩
                    case measure => have := HLt.out; simp [Go.RowKit.intOf]; omega
                  · clear hup
                    go_wp2
                    go_roundw
                    case rel => exact ⟨k + 1, _, _, _, HLt.out, rfl, by go_num, HI⟩
                    case measure => have := HLt.out; simp [Go.RowKit.intOf]; omega
              · have HO8 := Lib.hid (hoff rfl)
                clear hup hoff
                go_wp2_with fail
                refine (off_commit HO8.out _).mono ?_
                rintro e w9 ⟨rfl, rfl⟩
                have HI := Lib.hid (show FInv w (fun _ => none) rg g m (1 + (k + 1)) b u9 u10 H M w9 from FInv.later HS7.out (by omega))
                clear d2
                go_wp2_with fail
                refine (finv_down HI.out).mono ?_
                rintro e w20 ⟨c20, rfl, rfl, hup, -⟩
                cases c20
                · obtain ⟨hMH, hup⟩ := hup rfl
                  have HU20 := Lib.hid hup
                  clear hup
                  go_wp2_with fail
                  refine (up_holds HU20.out (by first | exact hMH | rfl) HM5.out.2).mono ?_
                  rintro e w21 ⟨rfl, h21⟩
                  have H21 := Lib.hid h21
                  clear h21
                  go_wp2
                  go_roundw
                  case rel => exact ⟨k + 1, _, _, _, HLt.out, rfl, by go_num, H21⟩
                  case measure => have := HLt.out; simp [Go.RowKit.intOf]; omega
                · clear hup
                  go_wp2
                  go_roundw
                  case rel => exact ⟨k + 1, _, _, _, HLt.out, rfl, by go_num, HI⟩
                  case measure => have := HLt.out; simp [Go.RowKit.intOf]; omega
            · have e0 : (xw == 0) = false := beq_eq_false_iff_ne.2 hw0
              by_cases hw1 : xw = 1
              · subst hw1
                rcases FS.parts HS.out with ⟨hMH, hup⟩ | hoff
                · have HU := Lib.hid hup
                  have HMH := Lib.hid hMH
                  clear hup hMH
                  go_wp2_with fail
                  rw [← hV]
                  refine (up_check HU.out HMH.out).mono ?_
                  rintro e w9 hq9
                  rcases hq9 with ⟨rfl, h9⟩ | ⟨rfl, h9⟩
                  · have hMH := HMH.out
                    have HI := Lib.hid (show FInv w (fun _ => none) rg g m (1 + (k + 1)) b u9 u10 H M w9 from FInv.later h9 (by omega))
                    clear h9
                    go_wp2_with fail
                    refine (finv_down HI.out).mono ?_
                    rintro e w20 ⟨c20, rfl, rfl, hup, -⟩
                    cases c20
                    · obtain ⟨hMH, hup⟩ := hup rfl
                      have HU20 := Lib.hid hup
                      clear hup
                      go_wp2_with fail
                      refine (up_holds HU20.out (by first | exact hMH | rfl) HM5.out.2).mono ?_
                      rintro e w21 ⟨rfl, h21⟩
                      have H21 := Lib.hid h21
                      clear h21
                      go_wp2
                      go_roundw
                      case rel => exact ⟨k + 1, _, _, _, HLt.out, rfl, by go_num, H21⟩
                      case measure => have := HLt.out; simp [Go.RowKit.intOf]; omega
                    · clear hup
                      go_wp2
                      go_roundw
                      case rel => exact ⟨k + 1, _, _, _, HLt.out, rfl, by go_num, HI⟩
                      case measure => have := HLt.out; simp [Go.RowKit.intOf]; omega
                  · have HO9 := Lib.hid h9
                    have HI := Lib.hid (show FInv w (fun _ => none) rg g m (1 + (k + 1)) b u9 u10 H M w9 from FInv.later (FS.mono h9 fun _ h => .inr h) (by omega))
                    clear h9
                    go_wp2_with fail
                    refine (off_down HO9.out).mono ?_
                    rintro e w10 ⟨rfl, rfl⟩
                    go_wp2_with fail
                    refine (finv_down HI.out).mono ?_
                    rintro e w20 ⟨c20, rfl, rfl, hup, -⟩
                    cases c20
                    · obtain ⟨hMH, hup⟩ := hup rfl
                      have HU20 := Lib.hid hup
                      clear hup
                      go_wp2_with fail
                      refine (up_holds HU20.out (by first | exact hMH | rfl) HM5.out.2).mono ?_
                      rintro e w21 ⟨rfl, h21⟩
                      have H21 := Lib.hid h21
                      clear h21
                      go_wp2
                      go_roundw
                      case rel => exact ⟨k + 1, _, _, _, HLt.out, rfl, by go_num, H21⟩
                      case measure => have := HLt.out; simp [Go.RowKit.intOf]; omega
                    · clear hup
                      go_wp2
                      go_roundw
                      case rel => exact ⟨k + 1, _, _, _, HLt.out, rfl, by go_num, HI⟩
                      case measure => have := HLt.out; simp [Go.RowKit.intOf]; omega
                · have HO9 := Lib.hid hoff
                  clear hoff
                  go_wp2_with fail
                  rw [← hV]
                  clear hV
                  refine (off_check HO9.out).mono ?_
                  rintro e w9 ⟨rfl, rfl⟩
                  have HI := Lib.hid (show FInv w (fun _ => none) rg g m (1 + (k + 1)) b u9 u10 H M w9 from FInv.later (FS.mono HO9.out fun _ h => .inr h) (by omega))
                  go_wp2_with fail
                  refine (off_down HO9.out).mono ?_
                  rintro e w10 ⟨rfl, rfl⟩
                  go_wp2_with fail
                  refine (finv_down HI.out).mono ?_
                  rintro e w20 ⟨c20, rfl, rfl, hup, -⟩
                  cases c20
                  · obtain ⟨hMH, hup⟩ := hup rfl
                    have HU20 := Lib.hid hup
                    clear hup
                    go_wp2_with fail
                    refine (up_holds HU20.out (by first | exact hMH | rfl) HM5.out.2).mono ?_
                    rintro e w21 ⟨rfl, h21⟩
                    have H21 := Lib.hid h21
                    clear h21
                    go_wp2
                    go_roundw
                    case rel => exact ⟨k + 1, _, _, _, HLt.out, rfl, by go_num, H21⟩
                    case measure => have := HLt.out; simp [Go.RowKit.intOf]; omega
                  · clear hup
                    go_wp2
                    go_roundw
                    case rel => exact ⟨k + 1, _, _, _, HLt.out, rfl, by go_num, HI⟩
                    case measure => have := HLt.out; simp [Go.RowKit.intOf]; omega
              · have e1 : (xw == 1) = false := beq_eq_false_iff_ne.2 hw1
                by_cases hw2 : xw = 2
                · subst hw2
                  go_wp2_with fail
                  rw [← hV]
                  refine (finv_fuel HS.out xn HXn.out.1 HXn.out.2).mono ?_
                  rintro e w9 ⟨rfl, h9⟩
                  have HI := Lib.hid (show FInv w (fun _ => none) rg g m (1 + (k + 1)) b u9 u10 H M w9 from FInv.later h9 (by omega))
                  clear h9
                  go_wp2_with fail
                  refine (finv_down HI.out).mono ?_
                  rintro e w20 ⟨c20, rfl, rfl, hup, -⟩
                  cases c20
                  · obtain ⟨hMH, hup⟩ := hup rfl
                    have HU20 := Lib.hid hup
                    clear hup
                    go_wp2_with fail
                    refine (up_holds HU20.out (by first | exact hMH | rfl) HM5.out.2).mono ?_
                    rintro e w21 ⟨rfl, h21⟩
                    have H21 := Lib.hid h21
                    clear h21
                    go_wp2
                    go_roundw
                    case rel => exact ⟨k + 1, _, _, _, HLt.out, rfl, by go_num, H21⟩
                    case measure => have := HLt.out; simp [Go.RowKit.intOf]; omega
                  · clear hup
                    go_wp2
                    go_roundw
                    case rel => exact ⟨k + 1, _, _, _, HLt.out, rfl, by go_num, HI⟩
                    case measure => have := HLt.out; simp [Go.RowKit.intOf]; omega
                · have e2 : (xw == 2) = false := beq_eq_false_iff_ne.2 hw2
                  by_cases hw3 : xw = 3
                  · subst hw3
                    go_wp2_with fail
                    rw [← hV]
                    refine (finv_fall HSq.out _ keep HKp.out).mono ?_
                    rintro e w7 ⟨rfl, K, hK, h7⟩
                    have H7 := Lib.hid h7
                    have HKk := Lib.hid hK
                    have d1 : w7.cell? ⟨q, 1, none⟩ = some (.int .i64 xn) := (show Blk w7 q 40 [.int .i64 3, .int .i64 xn, .slice al ll.length capl, .slice ak keep.length capk, .slice aa again.length capa] from FFall.holds h7 (if_pos rfl)).cell rfl
                    clear h7 hK
                    go_wp2_with fail
                    refine (ffall_fuel H7.out xn HXn.out.1 HXn.out.2).mono ?_
                    rintro e w8 ⟨rfl, h8⟩
                    have H8 := Lib.hid h8
                    clear h8 d1
                    go_wp2_with fail
                    refine (ffall_open H8.out).mono ?_
                    rintro e w9 ⟨b9, hq9⟩
                    rcases hq9 with ⟨rfl, h9⟩ | ⟨rfl, -, h9⟩
                    rotate_left
                    focus (
                      have H9 := Lib.hid h9
                      have d4 : w9.cell? ⟨q, 4, none⟩ = some (.slice aa again.length capa) := (show Blk w9 q 40 [.int .i64 3, .int .i64 xn, .slice al ll.length capl, .slice ak keep.length capk, .slice aa again.length capa] from FS.holds h9 (if_pos rfl)).cell rfl
                      clear h9
                      go_wp2_with fail
                      refine (broken_fall H9.out _ again HAg.out).mono ?_
                      rintro e w10 ⟨rfl, h10⟩
                      have H10 := Lib.hid h10
                      clear h10 d4
                      go_wp2_with fail
                      refine (ffall_open H10.out).mono ?_
                      rintro e w9 ⟨b9, hq9⟩
                      rcases hq9 with ⟨rfl, h9⟩ | ⟨rfl, hno, h9⟩
                      rotate_left
                      focus (exact absurd trivial hno))
                    all_goals (
                      have HO9 := Lib.hid (FS.free h9)
                      clear h9
                      go_wp2_with fail
                      refine (open_fuel HO9.out (-1) (by decide) (by decide)).mono ?_
                      rintro e w11 ⟨rfl, h11⟩
                      have H11 := Lib.hid h11
                      clear h11
                      go_wp2_with fail
                      refine (open_holds H11.out HM5.out.2).mono ?_
                      rintro e w12 ⟨rfl, h12⟩
                      by_cases hKH : K = H
                      · rw [decide_eq_true hKH]
                        have HI := Lib.hid (show FInv w (fun _ => none) rg g m (1 + (k + 1)) b9 u9 u9 H H w12 from FInv.later (open_fst (hKH ▸ h12)) (by omega))
                        clear h12 hKH
                        go_wp2_with fail
                        refine (finv_down HI.out).mono ?_
                        rintro e w20 ⟨c20, rfl, rfl, hup, -⟩
                        cases c20
                        · obtain ⟨hMH, hup⟩ := hup rfl
                          have HU20 := Lib.hid hup
                          clear hup
                          go_wp2_with fail
                          refine (up_holds HU20.out (by first | exact hMH | rfl) HM5.out.2).mono ?_
                          rintro e w21 ⟨rfl, h21⟩
                          have H21 := Lib.hid h21
                          clear h21
                          go_wp2
                          go_roundw
                          case rel => exact ⟨k + 1, _, _, _, HLt.out, rfl, by go_num, H21⟩
                          case measure => have := HLt.out; simp [Go.RowKit.intOf]; omega
                        · clear hup
                          go_wp2
                          go_roundw
                          case rel => exact ⟨k + 1, _, _, _, HLt.out, rfl, by go_num, HI⟩
                          case measure => have := HLt.out; simp [Go.RowKit.intOf]; omega
                      · rw [decide_eq_false hKH]
                        have H12 := Lib.hid h12
                        have HKM := Lib.hid (HKk.out.resolve_left hKH)
                        clear h12 hKH
                        go_wp2_with fail
                        refine (open_holds2 H12.out HM5.out.2).mono ?_
                        rintro e w13 ⟨rfl, h13⟩
                        rw [decide_eq_true HKM.out]
                        have HI := Lib.hid (show FInv w (fun _ => none) rg g m (1 + (k + 1)) b9 u10 u10 M M w13 from FInv.later (open_snd (HKM.out ▸ h13)) (by omega))
                        clear h13
                        go_wp2_with fail
                        refine (finv_down HI.out).mono ?_
                        rintro e w20 ⟨c20, rfl, rfl, hup, -⟩
                        cases c20
                        · obtain ⟨hMH, hup⟩ := hup rfl
                          have HU20 := Lib.hid hup
                          clear hup
                          go_wp2_with fail
                          refine (up_holds HU20.out (by first | exact hMH | rfl) HM5.out.2).mono ?_
                          rintro e w21 ⟨rfl, h21⟩
                          have H21 := Lib.hid h21
                          clear h21
                          go_wp2
                          go_roundw
                          case rel => exact ⟨k + 1, _, _, _, HLt.out, rfl, by go_num, H21⟩
                          case measure => have := HLt.out; simp [Go.RowKit.intOf]; omega
                        · clear hup
                          go_wp2
                          go_roundw
                          case rel => exact ⟨k + 1, _, _, _, HLt.out, rfl, by go_num, HI⟩
                          case measure => have := HLt.out; simp [Go.RowKit.intOf]; omega
                    )
                  · have e3 : (xw == 3) = false := beq_eq_false_iff_ne.2 hw3
                    subst hV
                    have HI := Lib.hid (FInv.later HS.out (show 1 + k ≤ 1 + (k + 1) by omega))
                    go_wp2_with fail
                    refine (finv_down HI.out).mono ?_
                    rintro e w20 ⟨c20, rfl, rfl, hup, -⟩
                    cases c20
                    · obtain ⟨hMH, hup⟩ := hup rfl
                      have HU20 := Lib.hid hup
                      clear hup
                      go_wp2_with fail
                      refine (up_holds HU20.out (by first | exact hMH | rfl) HM5.out.2).mono ?_
                      rintro e w21 ⟨rfl, h21⟩
                      have H21 := Lib.hid h21
                      clear h21
                      go_wp2
                      go_roundw
                      case rel => exact ⟨k + 1, _, _, _, HLt.out, rfl, by go_num, H21⟩
                      case measure => have := HLt.out; simp [Go.RowKit.intOf]; omega
                    · clear hup
                      go_wp2
                      go_roundw
                      case rel => exact ⟨k + 1, _, _, _, HLt.out, rfl, by go_num, HI⟩
                      case measure => have := HLt.out; simp [Go.RowKit.intOf]; omega
          · go_wp2
            go_ret
            exact ⟨rfl, FS.below hS.out⟩
    · have hs3 : ring > 16 := by omega
      go_wp2
      go_ret
      exact ⟨rfl, H1.out⟩
  · have hs3 : ring < 4 := by omega
    go_wp2
    go_ret
    exact ⟨rfl, H1.out⟩
end Go.Proofs.YthkblabpiajbhaaGreatDoor

namespace Go.Proofs.YthkblabpiajbhaaGreatDoor
open Go.ChangeShapes Go.WideShapes Go.ChangeAt Go.RowKit
open Go.ChangeMaps (open_string shut_string)
namespace lawWalFalls
set_option maxRecDepth 100000
theorem contract (H : Type) (enc : TypeId × Value → H) (W : World) (base : Nat) (args : Array Value) (ds gs : List (DataW H)) (before : List MemPlace)
    (hval : ∀ (j : Nat) t v, Tryz.f4.params[j]? = some t → args[j]? = some v → Value.okWide Tryz.prog W .any base t v)
    (hW : DataW.Whole enc Tryz.prog Tryz.f4.params.toList Rows.walFallsSpec.vars false W args.toList ds gs before) :
    Calls Tryz.prog 4 args W fun e W' => ∃ v, e = .returned v ∧ Rows.walFallsSpec.post enc Tryz.prog Tryz.f4 false true false false W args v W' := by
  have hW' := hW
  obtain ⟨p, q, hA0, hV, rfl, hfz, hnd⟩ := hW
  have hA : DataW.TrodAll enc Tryz.prog W 0 (fun _ => true) true Tryz.f4.params.toList args.toList ds p := hA0
  have hAk := hA
  rw [Tryz.params4] at hA hval
  obtain ⟨v0, vs0, d0, ds0, p0, q0, hargs, rfl, rfl, h0, r0⟩ := trodAll_cons hA
  obtain ⟨v1, vs1, d1, ds1, p1, q1, rfl, rfl, rfl, h1, r1⟩ := trodAll_cons r0
  obtain ⟨rfl, rfl, rfl⟩ := trodAll_nil r1
  obtain rfl : args = #[v0, v1] := by cases args; simp_all
  obtain ⟨rfl, rfl⟩ := trodVars_none hV
  obtain ⟨x0, rfl, rfl, rfl, w0⟩ := open_int Tryz.underlying3 (hval 0 3 v0 rfl rfl) h0
  obtain ⟨l1, hr1⟩ := acts5_in (hval 1 22 v1 rfl rfl) h1
  have lt := fun x hx => hW'.lt x hx
  clear hA0
  refine (walFalls_any W x0 v1 l1 hr1).mono fun e W' ⟨he, hb⟩ => ?_
  subst he
  exact ⟨_, rfl, post_below (pv := []) hW' hb rfl (fun _ _ _ => trodAll_cons_mk (shut_bool Tryz.underlying4 _) trodAll_mk0) (fun sp hsp => trodAll_stays _ (by rw [Tryz.params4]; decide +kernel) hAk (fun x hx => hb.same (lt x (by simpa using hx))) (fun x hx => hsp x (by simpa using hx))) (fun _ _ => rfl)
    (ok_one (by kernel_rfl) rfl (okWide_bool_mk Tryz.underlying4 _))⟩
theorem laid_met (os : Os) : laidMet Tryz.prog Rows.walFallsRow.laid ((laidWorld os).forCall (fun _ _ => 0) ⟨#[], #[.int .i64 0, .slice none 0 0], []⟩).memory :=
  laidMet_of_run' 8 (by kernel_rfl) (by kernel_rfl)
theorem reads (os : Os) {H : Type} (enc : TypeId × Value → H) : ∃ places, DataW.whole enc Tryz.prog ((laidWorld os).forCall (fun _ _ => 0) ⟨#[], #[.int .i64 0, .slice none 0 0], []⟩).memory Tryz.f4.params.toList Rows.walFallsSpec.vars false #[Value.int .i64 0, .slice none 0 0].toList 8 = some ([.lit (.int .i64 0), .nil], [], places) :=
  ⟨[], by kernel_rfl⟩
theorem lifted (os : Os) (started : os.Started) (H : Type) (enc : TypeId × Value → H) (F : Stop.Interp) :
    ReturnsInHanded {} Tryz.checked os 4 .any ((OpenSpec.ofChange Rows.walFallsSpec).preRow enc Tryz.prog Tryz.f4 Rows.walFallsRow.domain false Rows.walFallsRow.laid) (((OpenSpec.ofChange Rows.walFallsSpec).at F).post enc Tryz.prog Tryz.f4 false true false false) := by
  obtain ⟨places, hx⟩ := reads os enc
  refine returnsInHanded_of_row (C := Tryz.checked) (s := OpenSpec.ofChange Rows.walFallsSpec) own started (by kernel_rfl) Tryz.func4
    (witness_row_at (enc := enc) (C := Tryz.checked) false (laidWorld os) #[.int .i64 0, .slice none 0 0] rfl (by kernel_rfl) (by kernel_rfl) (by kernel_rfl)
      (OpenSpec.preRow_of_cond 8 hx (by kernel_rfl) (fun k hk => by cases hk) (by kernel_rfl) (laid_met os))) ?_
  intro W base args ds gs before hval hW _ _ _ hL _ _
  exact contract H enc W base args ds gs before hval hW
theorem said : Rows.WalFallsSaid :=
  OpenClaim.holds_of_cond 4 Tryz.f4 rfl rfl rfl rfl rfl rfl rfl ⟨rfl, rfl, rfl, rfl, rfl⟩ rfl rfl rfl rfl rfl (by kernel_rfl) Tryz.func4 (by kernel_rfl)
    (of_decide_eq_true (by kernel_rfl)) (by unfold Func.isWrapper; first | (rw [if_pos (by decide +kernel)]; kernel_rfl) | (rw [if_neg (by decide +kernel)]; exact ⟨rfl, rfl⟩))
    (fun os started H enc _ F => by rw [OpenClaim.pre_eq_preRow]; exact lifted os started H enc F)
theorem plain (f : FuncId) (fn : Func) (hf : Tryz.pinned.checked.prog.funcNamed "cooperage/cooperagelaw05.WalFalls" = some f) (hfn : Tryz.pinned.checked.prog.funcs[f]? = some fn) :
    false = Tryz.pinned.checked.prog.looks [] ∧ ∀ (j : Nat) t, fn.params[j]? = some t → Tryz.pinned.checked.prog.wantsStandIn t = false := by
  obtain rfl : f = 4 := Option.some.inj ((show Tryz.prog.funcNamed "cooperage/cooperagelaw05.WalFalls" = some 4 by kernel_rfl).symm.trans hf) |>.symm
  obtain rfl : fn = Tryz.f4 := (Option.some.inj (Tryz.func4.symm.trans hfn)).symm
  refine ⟨by kernel_rfl, fun j t ht => ?_⟩
  rw [Tryz.params4] at ht
  have hm : t = 3 ∨ t = 22 := by simpa using Array.mem_of_getElem? ht
  rcases hm with rfl | rfl
  · exact (show Tryz.prog.wantsStandIn 3 = false by kernel_rfl)
  · exact (show Tryz.prog.wantsStandIn 22 = false by kernel_rfl)
theorem card : Rows.WalFallsCardSaid :=
  Claim7.holds_tied_plain_at .later [] _ _ _ _ said (fun _ h => by cases h) (by kernel_rfl) (fun _ h => by cases h) walFalls_row_tie rfl ⟨rfl, rfl⟩ (by kernel_rfl) rfl plain (by kernel_rfl)
end lawWalFalls
end Go.Proofs.YthkblabpiajbhaaGreatDoor
