/- Elder texts, merged (7). -/
import Derived.Test.YtahnhhhhfioibaaGreatDoorG3
import Derived.Test.YtahnhhhhfioibaaGreatDoorG4
import Derived.StillTailTactics
import Derived.Test.YtahnhhhhfioibaaGreatDoorG6
import Derived.Test.YtahnhhhhfioibaaGreatDoorG1
import Derived.Lib.Strings
import Derived.Lib.Walk
import Derived.Lib.BufferWrite
import Derived.Lib.UnsafeStr
import Derived.Laws.MakeOwn
namespace Go.Proofs.YtahnhhhhfioibaaGreatDoor
open Go.RowKit Lib

def lenV : Value → Nat | .slice _ n _ => n | _ => 0

set_option maxRecDepth 100000 in
theorem full_any (s : ByteArray) (w : World) (hs : s.size ≤ 1000) :
    Calls Tryz.prog 45 #[.string s] w fun e w' => e = .returned (.string (bs (Dk.full s.data.toList))) ∧ Below w.heap.size w w' := by
  obtain ⟨v0, o0, hcv, hown⟩ := own_of_string w s (by omega)
  have HO := Lib.hid hown
  have hl : s.data.toList.length = s.size := Array.length_toList
  go_enter Tryz.func45, Tryz.ntmps45
  go_wp2
  go_loopw [3] (fun v wr => ∃ n : Nat, (s.size + n ≤ 512 ∨ n = 0) ∧ Hid (OwnG w.heap.size wr v (s.data.toList ++ List.replicate n 0)) ∧ Hid (Below w.heap.size w wr)) (fun v _ => 512 - lenV v)
  case atStart =>
    refine ⟨0, .inr rfl, ?_, Lib.hid ?_⟩
    · rw [List.replicate_zero, List.append_nil]
      exact HO
    · exact ((Below.refl _ w).drew).alloc (Nat.le_refl _) _
  case round =>
    obtain ⟨n, hn, ho, hb⟩ := hrel
    obtain ⟨g, cap, rfl, hg⟩ := ho.out.slice
    have hlen : (s.data.toList ++ List.replicate n 0).length = s.size + n := by rw [List.length_append, List.length_replicate, hl]
    rw [hlen] at ho ⊢
    have HL := Lib.hid hlen
    have HN := Lib.hid hn
    clear hn
    by_cases hlt : s.size + n < 512
    · have hI : ((s.size + n : Nat) : Int) < 512 := by omega
      clear hlen hl
      go_wp2_with (at_builtin; refine Hid.out ?_)
      refine Lib.hid ?_
      have hsz := hb.out.size
      refine wpList_app_byte rfl _ _ rfl rfl (ho.out.alloc _) (by simp; omega) wr.heap.size 0 rfl ((Blk.new wr #[.int .u8 0] 5).cell rfl) (by rw [HL.out]; omega) ?_
      intro v' w4 hown4 hb4
      have hbb := (hb.out.alloc (by have := hb.out.size; exact this) (.cells #[.int .u8 0] 5)).trans hb4
      obtain ⟨g', cap', rfl, _⟩ := hown4.slice
      have hl4 : (s.data.toList ++ List.replicate n 0 ++ [0]).length = s.size + n + 1 := by rw [List.length_append, HL.out]; rfl
      rw [hl4] at hown4 ⊢
      have H4 := Lib.hid (And.intro hown4 hbb)
      clear hown4 hb4 hbb hl4
      go_wp2
      go_roundw
      case rel =>
        refine ⟨n + 1, .inl (by omega), ?_, Lib.hid H4.out.2⟩
        rw [List.replicate_succ', ← List.append_assoc]
        exact Lib.hid H4.out.1
      case measure => simp [lenV]; omega
    · have hI : ¬ ((s.size + n : Nat) : Int) < 512 := by omega
      have hback := ho.out.back (by rw [HL.out])
      have HF := Lib.hid (show s.data.toList ++ List.replicate n 0 = Dk.full s.data.toList by
        unfold Dk.full
        rw [hl]
        congr 2
        have := HN.out
        omega)
      rw [HF.out] at hback
      clear hlen hl
      go_wp2
      go_ret
      exact ⟨rfl, hb.out⟩

theorem OwnS.put {B : Nat} {w : World} {f n cf : Nat} {l : List (List UInt8)} (h : OwnS B w (.slice (some ⟨f, 0, none⟩) n cf) l) (j : Nat) (t : List UInt8) : OwnS B (w.setCell ⟨f, j, none⟩ (.string (bs t))) (.slice (some ⟨f, 0, none⟩) n cf) (l.set j t) := by
  have := Own.store (f := fun s => Value.string s) (hf := fun _ => rfl) h j (bs t)
  show Own _ _ _ _ _ _
  rw [List.map_set]
  exact this
theorem OwnS.but' {S : Nat → Prop} {B : Nat} {w w' : World} {v : Value} {l : List (List UInt8)} (h : OwnS B w v l) (hb : But S w w') (hn : ∀ g, v.ownBlock = some g → ¬ S g) : OwnS B w' v l := Own.but h hb hn
theorem OwnS.strAt {B : Nat} {w : World} {f n cf : Nat} {l : List (List UInt8)} (h : OwnS B w (.slice (some ⟨f, 0, none⟩) n cf) l) (j : Nat) (hj : j < l.length) : w.cell? ⟨f, j, none⟩ = some (.string (bs l[j])) := by
  have := Own.lies (show Own strElem 9 B w (.slice (some ⟨f, 0, none⟩) n cf) (l.map bs) from h) j (.string (bs l[j])) (by rw [show strElem.cells (l.map bs) = (l.map bs).map (fun s => Value.string s) from oneElem_cells _ _ _]; simp [hj])
  rwa [Nat.zero_add] at this
theorem own_lit0 {α : Type} (K : Elem α) (E : TypeId) (w : World) : Own K E w.heap.size (w.alloc (.cells #[] E)) (.slice (some ⟨w.heap.size, 0, none⟩) 0 0) [] := World.ownsRow_lit w #[] 0 (Nat.le_refl _) (by decide) (by simp)
theorem size5_any (n : Nat) (w : World) (hn : n ≤ 1000000) :
    Calls Tryz.prog 80 #[.int .i64 n] w fun e w' => e = .returned (.int .i64 (Wl.sizeOf n : Nat)) ∧ w' = w := by
  go_enter Tryz.func80, Tryz.ntmps80
  have h0 : (516 * (n : Int) + 510).tdiv 511 = (((516 * n + 510) / 511 : Nat) : Int) := by
    rw [Int.tdiv_eq_ediv_of_nonneg (by omega)]; omega
  go_wp2
  go_ret
  refine ⟨?_, rfl⟩
  rw [show Wl.sizeOf n = 1 + (516 * n + 510) / 511 from rfl]
  simp

set_option maxRecDepth 100000 in
theorem new5_any (n : Nat) (w : World) (hn : n ≤ 1000) :
    Calls Tryz.prog 11 #[.int .i64 n] w fun e w' => ∃ v, e = .returned v ∧ OwnS w.heap.size w' v (Wl.noughts n) ∧ Below w.heap.size w w' := by
  go_enter Tryz.func11, Tryz.ntmps11
  go_wp2_with fail
  refine (full_any ⟨#[]⟩ _ (by decide)).mono ?_
  rintro e w1 ⟨rfl, hb1⟩
  have HB := Lib.hid hb1
  clear hb1
  rw [show Dk.full (⟨#[]⟩ : ByteArray).data.toList = Dk.full [] from rfl]
  go_wp2
  go_loopw [3, 5] (fun v i wr => ∃ k : Nat, k ≤ n ∧ i = .int .i64 k ∧ Hid (OwnS w.heap.size wr v (List.replicate k (Dk.full []))) ∧ Hid (Below w.heap.size w wr)) (fun _ i _ => n - (Go.RowKit.intOf i).toNat)
  case atStart => exact ⟨0, Nat.zero_le _, rfl, Lib.hid (Own.nil _ _ _ _), HB⟩
  case round =>
    obtain ⟨k, hk, rfl, ho, hb⟩ := hrel
    by_cases hlt : k < n
    · have hI : (k : Int) < n := by omega
      go_wp2_with (at_builtin; refine Hid.out ?_)
      refine Lib.hid ?_
      refine wpList_app stringST rfl _ _ rfl rfl (Own.alloc ho.out _) (by have := hb.out.size; simp; omega) wr.heap.size 0 1 1 [bs (Dk.full [])] rfl rfl (lies_new wr _) (by simp; omega) ?_
      intro v4 w4 hown4 hg4
      have hsz := hb.out.size
      have hb4 := (hb.out.alloc (by omega) (.cells #[.string (bs (Dk.full []))] 9)).grown hg4 (by simp; omega) (fun x hx => by have := (Own.block ho.out x hx).1; omega)
      have H4 := Lib.hid (show OwnS w.heap.size w4 v4 (List.replicate (k + 1) (Dk.full [])) ∧ Below w.heap.size w w4 by
        refine ⟨?_, hb4⟩
        show Own _ _ _ _ _ _
        rw [List.replicate_succ', List.map_append]
        exact hown4)
      clear hown4 hg4 hb4 ho hb
      go_wp2
      go_roundw
      case rel => exact ⟨k + 1, by omega, by go_num, Lib.hid H4.out.1, Lib.hid H4.out.2⟩
      case measure => simp [Go.RowKit.intOf]; omega
    · have hke : k = n := by omega
      subst hke
      go_wp2
      go_ret
      exact ⟨_, rfl, ho.out, hb.out⟩
end Go.Proofs.YtahnhhhhfioibaaGreatDoor

namespace Go.Proofs.YtahnhhhhfioibaaGreatDoor
open Go.RowKit Lib

/-- The homes that were met, each once. -/
def Met (met : List Int) (G : Wl.Grp) : Prop := met.length = G.length ∧ ∀ z : Int, z ∈ met ↔ 0 ≤ z ∧ (Wl.look z.toNat G).isSome
theorem Met.nil : Met [] [] := ⟨rfl, fun z => by simp [Wl.look]⟩
theorem Met.old {met : List Int} {G : Wl.Grp} (h : Met met G) (hr : Wl.Rising G) {a : Int} (t : Wl.Text) (hm : a ∈ met) : Met met (Wl.ins a.toNat t G) := by
  have hs := ((h.2 a).1 hm).2
  refine ⟨by rw [h.1, Wl.ins_length _ _ hr, if_pos hs], fun z => ?_⟩
  rw [h.2 z, Wl.look_ins]
  by_cases e : z.toNat = a.toNat
  · rw [if_pos e, e]; simp [hs]
  · rw [if_neg e]
theorem Met.new {met : List Int} {G : Wl.Grp} (h : Met met G) (hr : Wl.Rising G) {a : Int} (t : Wl.Text) (ha : 0 ≤ a) (hm : a ∉ met) : Met (met ++ [a]) (Wl.ins a.toNat t G) := by
  have hs : ¬ (Wl.look a.toNat G).isSome := fun e => hm ((h.2 a).2 ⟨ha, e⟩)
  refine ⟨by rw [List.length_append, h.1, Wl.ins_length _ _ hr, if_neg hs]; rfl, fun z => ?_⟩
  rw [List.mem_append, h.2 z, Wl.look_ins, List.mem_singleton]
  by_cases e : z.toNat = a.toNat
  · rw [if_pos e]
    constructor
    · rintro (⟨h1, _⟩ | rfl)
      · exact ⟨h1, rfl⟩
      · exact ⟨ha, rfl⟩
    · rintro ⟨h1, _⟩
      exact .inr (by omega)
  · rw [if_neg e]
    constructor
    · rintro (h1 | rfl)
      · exact h1
      · exact absurd rfl e
    · exact .inl
theorem intST : SliceT Tryz.prog 40 3 (intElem .i64).size := SliceT.of (size := 1) (bytes := 8) (z := .int .i64 0) Tryz.underlying40 (by kernel_rfl) rfl (by decide)
abbrev OwnN (B : Nat) (w : World) (v : Value) (l : List Int) : Prop := Own (intElem .i64) 3 B w v l
theorem OwnN.at {B : Nat} {w : World} {f n cf : Nat} {l : List Int} (h : OwnN B w (.slice (some ⟨f, 0, none⟩) n cf) l) (j : Nat) (hj : j < l.length) : w.cell? ⟨f, j, none⟩ = some (.int .i64 l[j]) := by
  have := Own.lies h j (.int .i64 l[j]) (by rw [show (intElem .i64).cells l = l.map (fun n => Value.int .i64 n) from oneElem_cells _ _ _]; simp [hj])
  rwa [Nat.zero_add] at this
theorem lies_int (w : World) (x : Int) : Lies (intElem .i64) (w.alloc (.cells #[.int .i64 x] 3)) w.heap.size 0 [x] :=
  Lies.of_blk (Blk.new w #[.int .i64 x] 3) rfl
/-- What the reference's Commit hands back. -/
def Comm5 (w w' : World) (B : Nat) (vh : Value) (r : Int × List Wl.Text) (e : Ending) : Prop :=
  ∃ v', e = .returned (.tuple #[v', .int .i64 r.1]) ∧ OwnS B w' v' r.2 ∧ (v' = vh ∨ ∀ k, v'.ownBlock = some k → w.heap.size ≤ k) ∧ Below w.heap.size w w'
/-- As far as Commit is through. -/
structure Done5 (w wr : World) (B : Nat) (vo vm : Value) (H : List Wl.Text) (ps : List (Int × Wl.Text)) (met : List Int) : Prop where
  fit : Wl.Fit H.length ps
  out : OwnS w.heap.size wr vo (Wl.along H ps)
  row : OwnN w.heap.size wr vm met
  is : Met met (Wl.grp [] ps)
  below : Below w.heap.size w wr
theorem Wl.comm_bad {ring : Nat} {H : List Wl.Text} {a : List (Int × Wl.Text)} (ha : Wl.Fit H.length a) {p : Int × Wl.Text} (r : List (Int × Wl.Text)) (hp : p.1 < 0 ∨ (H.length : Int) ≤ p.1) : Wl.comm ring H (a ++ ([p] ++ r)) = (2, H) := by
  have h : Wl.gather H.length [] (a ++ ([p] ++ r)) = (2, []) := by
    rw [Wl.gather_append, Wl.fit_gather ha, if_pos rfl]
    show Wl.gather H.length (Wl.grp [] a) (p :: r) = _
    rw [Wl.gather_cons, if_pos hp]
  unfold Wl.comm
  rw [h]; rfl
theorem Wl.comm_long {ring : Nat} {H : List Wl.Text} {a : List (Int × Wl.Text)} (ha : Wl.Fit H.length a) {p : Int × Wl.Text} (r : List (Int × Wl.Text)) (hp : ¬ (p.1 < 0 ∨ (H.length : Int) ≤ p.1)) (h5 : 512 < p.2.length) : Wl.comm ring H (a ++ ([p] ++ r)) = (5, H) := by
  have h : Wl.gather H.length [] (a ++ ([p] ++ r)) = (5, []) := by
    rw [Wl.gather_append, Wl.fit_gather ha, if_pos rfl]
    show Wl.gather H.length (Wl.grp [] a) (p :: r) = _
    rw [Wl.gather_cons, if_neg hp, if_pos h5]
  unfold Wl.comm
  rw [h]; rfl
theorem take_mem_succ {met : List Int} {j : Nat} (hj : j < met.length) (a : Int) : decide (a ∈ met.take (j + 1)) = (decide (a ∈ met.take j) || decide (met[j] = a)) := by
  rw [List.take_succ_eq_append_getElem hj, Bool.eq_iff_iff]
  simp only [decide_eq_true_eq, Bool.or_eq_true, List.mem_append, List.mem_singleton]
  constructor
  · rintro (h | h)
    · exact .inl h
    · exact .inr h.symm
  · rintro (h | h)
    · exact .inl h
    · exact .inr h.symm
set_option maxRecDepth 100000 in
set_option maxHeartbeats 4000000 in
theorem commit5_any (w : World) (B : Nat) (vh : Value) (H : List Wl.Text) (ring : Nat) (va : Value) (ll : List (Value × List PutD)) (hH : OwnS B w vh H) (h1 : 1 ≤ H.length) (h2 : H.length ≤ 1000) (hB : B ≤ w.heap.size) (ha : RdL w va ll) :
    Calls Tryz.prog 53 #[vh, .int .i64 ring, va] w fun e w' => Comm5 w w' B vh (Wl.comm ring H (ptsL ll)) e := by
  obtain ⟨a, cap, rfl, hc, hm, hrl⟩ := ha
  obtain ⟨ah, ch, rfl, hch⟩ := Own.slice hH
  rw [List.length_map] at hH hch ⊢
  have HH := Lib.hid hH
  have HR := Lib.hid hrl
  clear hH hrl hc hch
  go_enter Tryz.func53, Tryz.ntmps53
  go_wp2_with (at_builtin; refine Hid.out ?_)
  refine Lib.hid ?_
  refine wpList_app_own stringST rfl _ _ rfl rfl (own_lit0 strElem 9 w) (by simp) _ B (H.map bs) rfl (Own.alloc HH.out _) (by simp; omega) ?_
  intro vo w2 hown2 hg2
  rw [List.nil_append] at hown2
  have hb2 := ((Below.refl w.heap.size w).alloc (Nat.le_refl _) (.cells #[] 9)).grown hg2 (by simp) (fun x hx => by
    simp [Act.eval, Value.ownBlock] at hx
    omega)
  have H2 := Lib.hid (show Done5 w w2 B vo (.slice none 0 0) H [] [] from ⟨Wl.Fit.nil _, hown2, Own.nil _ _ _ _, Met.nil, hb2⟩)
  clear hown2 hg2 hb2
  go_wp2
  go_loopw [9, 10] (fun vm i wr => ∃ (k : Nat) (met : List Int), k ≤ ll.length ∧ i = .int .i64 k ∧ Hid (Done5 w wr B vo vm H (ptsL (ll.take k)) met)) (fun _ i _ => ll.length - (Go.RowKit.intOf i).toNat)
  case atStart => exact ⟨0, [], Nat.zero_le _, rfl, H2⟩
  case round =>
    obtain ⟨k, met, hk, rfl, hD⟩ := hrel
    by_cases hlt : k < ll.length
    · have hI : (k : Int) < ll.length := by omega
      obtain ⟨hP, ga, oa, rfl, hga, hxa⟩ := HR.out k hlt
      have hcl : wr.cell? ⟨ga, oa + k, none⟩ = some ll[k].1 := (hD.out.below.cell (p := ⟨ga, oa + k, none⟩) hga).trans (hxa k hlt)
      have hca : w.cell? ⟨ga, oa + k, none⟩ = some ll[k].1 := hxa k hlt
      obtain ⟨al, capl, hv, hcl2, hml, hrl⟩ := hP
      rw [hv] at hcl hca
      have HT := Lib.hid (ptsL_take ll k hlt)
      have HRL := Lib.hid hrl
      clear hxa hv hrl
      obtain ⟨l, hl⟩ : ∃ l, l = ll[k].2 := ⟨_, rfl⟩
      rw [← hl] at hcl hca hcl2 hml HRL HT
      have HCA := Lib.hid (And.intro hca hga)
      have HLt := Lib.hid hlt
      clear hl hca
      go_wp2
      go_loopw [9, 11] (fun vm i wq => ∃ (j : Nat) (met : List Int), j ≤ l.length ∧ i = .int .i64 j ∧ Hid (Done5 w wq B vo vm H (ptsL (ll.take k) ++ pts (l.take j)) met)) (fun _ i _ => l.length - (Go.RowKit.intOf i).toNat)
      case atStart => exact ⟨0, met, Nat.zero_le _, rfl, Lib.hid (by rw [List.take_zero]; unfold pts; rw [List.map_nil, List.append_nil]; exact hD.out)⟩
      case round =>
        clear hD hcl
        obtain ⟨j, met, hj, rfl, hD⟩ := hrel
        have hcl : wr.cell? ⟨ga, oa + k, none⟩ = some (.slice al l.length capl) := (hD.out.below.cell (p := ⟨ga, oa + k, none⟩) HCA.out.2).trans HCA.out.1
        by_cases hlt2 : j < l.length
        · have hI2 : (j : Int) < l.length := by omega
          obtain ⟨⟨hi1, hi2⟩, gp, op, rfl, hgp, hxp⟩ := HRL.out j hlt2
          obtain ⟨cp0, cp1⟩ := hxp j hlt2
          have d0 : wr.cell? ⟨gp, op + j * 2, none⟩ = some (.int .i64 l[j].1) := (hD.out.below.cell (p := ⟨gp, op + j * 2, none⟩) hgp).trans cp0
          have d1 : wr.cell? ⟨gp, op + j * 2 + 1, none⟩ = some (.string l[j].2) := (hD.out.below.cell (p := ⟨gp, op + j * 2 + 1, none⟩) hgp).trans cp1
          have HPT := Lib.hid (pts_take l j hlt2)
          have HLt2 := Lib.hid hlt2
          clear hxp cp0 cp1
          generalize l[j] = p at *
          obtain ⟨at_, text⟩ := p
          simp only at d0 d1 hi1 hi2
          have HALL := Lib.hid (show ptsL ll = (ptsL (ll.take k) ++ pts (l.take j)) ++ ([pt (at_, text)] ++ (pts (l.drop (j + 1)) ++ ptsL (ll.drop (k + 1)))) by
            rw [ptsL_split ll (k + 1), HT.out, pts_split l (j + 1), HPT.out]; simp only [List.append_assoc])
          obtain ⟨q, hq⟩ : ∃ q, wr.heap.size = q := ⟨_, rfl⟩
          have HQ := Lib.hid hq
          have HBU := Lib.hid (show Below w.heap.size w (wr.alloc (.cells #[.int .i64 at_, .string text] 99)) from hD.out.below.alloc hD.out.below.size _)
          by_cases hat : at_ < 0 ∨ (H.length : Int) ≤ at_
          · have HE := Lib.hid (show Wl.comm ring H (ptsL ll) = (2, H) by rw [HALL.out]; exact Wl.comm_bad hD.out.fit _ hat)
            have hback := HH.out.below HBU.out (Nat.le_refl _)
            have HO := Lib.hid hback
            clear hback
            rcases hat with hat | hat
            · go_wp2
              go_ret2
              exact ⟨.slice ah H.length ch, by rw [HE.out]; rfl, by rw [HE.out]; exact HO.out, .inl rfl, HBU.out⟩
            · have hat0 : ¬ at_ < 0 := by omega
              go_wp2
              go_ret2
              exact ⟨.slice ah H.length ch, by rw [HE.out]; rfl, by rw [HE.out]; exact HO.out, .inl rfl, HBU.out⟩
          · have hat0 : ¬ at_ < 0 := fun e => hat (.inl e)
            have hat1 : ¬ (H.length : Int) ≤ at_ := fun e => hat (.inr e)
            by_cases h5 : text.size ≤ 512
            · have h5I : (text.size : Int) ≤ 512 := by omega
              obtain ⟨i, rfl⟩ : ∃ i : Nat, at_ = i := ⟨at_.toNat, by omega⟩
              have HI := Lib.hid (show i < H.length by omega)
              have H5 := Lib.hid h5
              clear hat hat0
              have hbl := Blk.new wr #[.int .i64 i, .string text] 99
              rw [hq] at hbl
              obtain ⟨o, co, hvo, ho1, ho2, ho3⟩ := Own.form hD.out.out (by rw [List.length_map, Wl.along_length]; omega)
              rw [List.length_map, Wl.along_length] at hvo ho3
              subst hvo
              have hoq : o < q := by rw [← hq]; exact ho2
              have HD := Lib.hid hD.out
              have HO := Lib.hid (And.intro ho1 (And.intro ho3 hoq))
              clear hD ho1 ho2 ho3
              go_wp2
              clear hcl
              obtain ⟨U, hU⟩ : ∃ U, U = wr.alloc (.cells #[.int .i64 i, .string text] 99) := ⟨_, rfl⟩
              rw [← hU] at hbl ⊢
              have hbU : Below wr.heap.size wr U := by rw [hU]; exact (Below.refl _ _).alloc (Nat.le_refl _) _
              have HU := Lib.hid (show Blk U q 99 [.int .i64 i, .string text] ∧ Below wr.heap.size wr U from ⟨hbl, hbU⟩)
              have u0 : U.cell? ⟨q, 0, none⟩ = some (.int .i64 i) := hbl.cell rfl
              have u1 : U.cell? ⟨q, 1, none⟩ = some (.string text) := hbl.cell rfl
              have hoqn : ¬ q = o := by omega
              have hoqn2 : ¬ o = q := by omega
              clear hU hbU hbl d0 d1 hq
              go_region_held3 (fun w' => w'.cell? ⟨q, 0, none⟩ = some (.int .i64 i) ∧ w'.cell? ⟨q, 1, none⟩ = some (.string text))
                (first
                  | (exact ⟨u0, u1⟩)
                  | (exact ⟨e0, e1⟩)
                  | go_keep)
                (first
                  | (go_at_call 45; refine (full_any text _ (by have := H5.out; omega)).mono ?_; rintro e w1 ⟨rfl, hb1⟩; have H1 := Lib.hid (show Below U.heap.size U w1 from ((Below.refl _ U).drew).trans hb1); have e0 : w1.cell? ⟨q, 0, none⟩ = some (.int .i64 i) := (H1.out.cell (p := ⟨q, 0, none⟩) HU.out.1.lt).trans u0; have e1 : w1.cell? ⟨q, 1, none⟩ = some (.string text) := (H1.out.cell (p := ⟨q, 1, none⟩) HU.out.1.lt).trans u1; have HO1 := Lib.hid (Own.below (Own.below HD.out.out HU.out.2 (Nat.le_refl _)) H1.out (Nat.le_refl _)); have e2 := OwnS.strAt HO1.out i (by rw [Wl.along_length]; exact HI.out); have e3 : w1.frozen? ⟨o, i, none⟩ = false := Own.frozen HO1.out i; clear hb1))
              obtain ⟨X, hX⟩ : ∃ X, X = w1.setCell ⟨o, i, none⟩ (.string (bs (Dk.full text.data.toList))) := ⟨_, rfl⟩
              rw [← hX]
              have hbX : But (fun x => x = o) w1 X := by rw [hX]; exact (But.refl _ _).setCell _ _ (fun _ => rfl)
              have HX := Lib.hid (show OwnS w.heap.size X (.slice (some ⟨o, 0, none⟩) H.length co) (Wl.along H (ptsL (ll.take k) ++ pts (l.take (j + 1)))) ∧ OwnN w.heap.size X u9 met ∧ Blk X q 99 [.int .i64 i, .string text] ∧ Below w.heap.size w X by
                have hw1 := HD.out.below.trans ((HU.out.2.trans (H1.out.mono HU.out.2.size)).mono HD.out.below.size)
                refine ⟨?_, ?_, Blk.but (Blk.below HU.out.1 H1.out HU.out.1.lt) hbX hoqn, Below.but hw1 hbX hw1.size (fun x hx e => by have := HO.out.1; omega)⟩
                · rw [hX, HPT.out, ← List.append_assoc, Wl.along_append, Wl.along_one]
                  exact OwnS.put HO1.out i _
                · exact Own.but (Own.below (Own.below HD.out.row HU.out.2 (Nat.le_refl _)) H1.out (Nat.le_refl _)) hbX (fun x hx e => by subst e; exact HD.out.row.ne_own HD.out.out (by decide) hx rfl))
              have HFt := Lib.hid (show Wl.Fit H.length (ptsL (ll.take k) ++ pts (l.take (j + 1))) by
                rw [HPT.out, ← List.append_assoc]
                refine HD.out.fit.append (Wl.Fit.one (by show (0 : Int) ≤ i; omega) (by show (i : Int) < H.length; have := HI.out; omega) ?_)
                show text.data.toList.length ≤ 512
                rw [Array.length_toList]; exact H5.out)
              have HMt := Lib.hid (show (∀ m : List Int, m = met → (i : Int) ∈ met → Met m (Wl.grp [] (ptsL (ll.take k) ++ pts (l.take (j + 1))))) ∧ ((i : Int) ∉ met → Met (met ++ [(i : Int)]) (Wl.grp [] (ptsL (ll.take k) ++ pts (l.take (j + 1))))) by
                have hr := Wl.grp_rising (ptsL (ll.take k) ++ pts (l.take j)) Wl.rising_nil
                rw [HPT.out, ← List.append_assoc, Wl.grp_append, Wl.grp_one]
                exact ⟨fun m e h => e ▸ HD.out.is.old hr _ h, fun h => HD.out.is.new hr _ (by omega) h⟩)
              have hml : met.length ≤ 1000 := by
                rw [HD.out.is.1]
                have := Wl.gather_fits H.length (ptsL (ll.take k) ++ pts (l.take j)) [] (Wl.fits_nil _)
                rw [Wl.fit_gather HD.out.fit] at this
                exact Nat.le_trans (Wl.fits_length this) h2
              obtain ⟨am, cm, hvm, hcm⟩ := Own.slice HX.out.2.1
              subst hvm
              have HML := Lib.hid hml
              clear hX hbX u0 u1 e0 e1 e2 e3 hml
              go_wp2
              go_loopw [13, 14] (fun th i' wy => ∃ (n : Nat) (b : Bool), n ≤ met.length ∧ i' = .int .i64 n ∧ th = .bool b ∧ Hid (b = decide ((i : Int) ∈ met.take n)) ∧ Hid (But (fun _ => False) X wy)) (fun _ i' _ => met.length - (Go.RowKit.intOf i').toNat)
              case atStart => exact ⟨0, false, Nat.zero_le _, rfl, rfl, Lib.hid (by simp), Lib.hid (But.refl _ _)⟩
              case round =>
                obtain ⟨n, th, hn, rfl, rfl, hth, hB⟩ := hrel
                by_cases hlt3 : n < met.length
                · have hI3 : (n : Int) < met.length := by omega
                  obtain ⟨m, cm', hv', _, _, _⟩ := Own.form HX.out.2.1 (by omega)
                  injection hv' with hv1 _ hv3
                  subst hv1 hv3
                  have m0 := hB.out.cell (OwnN.at HX.out.2.1 n hlt3) id
                  have p0 := hB.out.cell (HX.out.2.2.1.cell (j := 0) rfl) id
                  have HTm := Lib.hid (take_mem_succ hlt3 (i : Int))
                  generalize met[n] = z at *
                  have HLt3 := Lib.hid hlt3
                  have hn3 : (n : Int) ≤ 1000 := by have := HML.out; omega
                  cases th
                  · go_wp2
                    go_quiet (fail)
                    go_wp2
                    go_roundw
                    case rel =>
                      refine ⟨n + 1, (z == (i : Int)), HLt3.out, by go_num, rfl, Lib.hid ?_, Lib.hid (hB.out.drewN _)⟩
                      rw [HTm.out, ← hth.out, Bool.false_or]; rfl
                    case measure => have := HLt3.out; simp [Go.RowKit.intOf]; omega
                  · go_wp2
                    go_quiet (fail)
                    go_wp2
                    go_roundw
                    case rel =>
                      refine ⟨n + 1, true, HLt3.out, by go_num, rfl, Lib.hid ?_, Lib.hid (hB.out.drewN _)⟩
                      rw [HTm.out, ← hth.out]; rfl
                    case measure => have := HLt3.out; simp [Go.RowKit.intOf]; omega
                · obtain rfl : n = met.length := by omega
                  rw [List.take_length] at hth
                  have HXB := Lib.hid (show OwnS w.heap.size wr (.slice (some ⟨o, 0, none⟩) H.length co) (Wl.along H (ptsL (ll.take k) ++ pts (l.take (j + 1)))) ∧ OwnN w.heap.size wr (.slice am met.length cm) met ∧ Blk wr q 99 [.int .i64 i, .string text] ∧ Below w.heap.size w wr from
                    ⟨OwnS.but' HX.out.1 hB.out (fun _ _ h => h), Own.but HX.out.2.1 hB.out (fun _ _ h => h), HX.out.2.2.1.but hB.out id, Below.but HX.out.2.2.2 hB.out HX.out.2.2.2.size (fun _ _ h => h)⟩)
                  clear hB
                  cases th
                  · have hno : (i : Int) ∉ met := of_decide_eq_false hth.out.symm
                    have p0 : wr.cell? ⟨q, 0, none⟩ = some (.int .i64 i) := HXB.out.2.2.1.cell rfl
                    have HNo := Lib.hid (HMt.out.2 hno)
                    clear hno hth
                    go_wp2_with (at_builtin; refine Hid.out ?_)
                    refine Lib.hid ?_
                    refine wpList_app intST rfl _ _ rfl rfl (Own.alloc HXB.out.2.1 _) (by have := HXB.out.2.2.2.size; simp; omega) wr.heap.size 0 1 1 [(i : Int)] rfl rfl (lies_int wr _) (by have := HML.out; simp; omega) ?_
                    intro v6 w6 hown6 hg6
                    have hsz := HXB.out.2.2.2.size
                    have hb6 := (HXB.out.2.2.2.alloc (by omega) (.cells #[.int .i64 i] 3)).grown hg6 (by simp; omega) (fun x hx => (Own.block HXB.out.2.1 x hx).1)
                    have hbut : But (fun x => (Value.slice am met.length cm).ownBlock = some x) (wr.alloc (.cells #[.int .i64 i] 3)) w6 := ⟨hg6.os, hg6.tape, hg6.output, hg6.size, fun x hx hn => hg6.block x hx (fun e => hn e.symm)⟩
                    have H6 := Lib.hid (show Done5 w w6 B (.slice (some ⟨o, 0, none⟩) H.length co) v6 H (ptsL (ll.take k) ++ pts (l.take (j + 1))) (met ++ [(i : Int)]) from
                      ⟨HFt.out, OwnS.but' (Own.alloc HXB.out.1 _) hbut (fun x hx e => HXB.out.2.1.ne_own HXB.out.1 (by decide) e hx), hown6, HNo.out, hb6⟩)
                    clear hown6 hg6 hb6 hbut p0
                    go_wp2
                    go_roundw
                    case rel => exact ⟨j + 1, _, HLt2.out, by go_num, H6⟩
                    case measure => have := HLt2.out; simp [Go.RowKit.intOf]; omega
                  · have hyes : (i : Int) ∈ met := of_decide_eq_true hth.out.symm
                    have H6 := Lib.hid (show Done5 w wr B (.slice (some ⟨o, 0, none⟩) H.length co) (.slice am met.length cm) H (ptsL (ll.take k) ++ pts (l.take (j + 1))) met from
                      ⟨HFt.out, HXB.out.1, HXB.out.2.1, HMt.out.1 met rfl hyes, HXB.out.2.2.2⟩)
                    clear hyes hth
                    go_wp2
                    go_roundw
                    case rel => exact ⟨j + 1, met, HLt2.out, by go_num, H6⟩
                    case measure => have := HLt2.out; simp [Go.RowKit.intOf]; omega
            · have h5I : (text.size : Int) > 512 := by omega
              have HE := Lib.hid (show Wl.comm ring H (ptsL ll) = (5, H) by
                rw [HALL.out]
                refine Wl.comm_long hD.out.fit _ hat ?_
                show 512 < text.data.toList.length
                rw [Array.length_toList]
                show 512 < text.size
                omega)
              have hback := HH.out.below HBU.out (Nat.le_refl _)
              have HO := Lib.hid hback
              clear hback hat
              go_wp2
              go_ret2
              exact ⟨.slice ah H.length ch, by rw [HE.out]; rfl, by rw [HE.out]; exact HO.out, .inl rfl, HBU.out⟩
        · obtain rfl : j = l.length := by omega
          rw [List.take_length, ← HT.out] at hD
          go_wp2
          go_roundw
          case rel => exact ⟨k + 1, met, HLt.out, by go_num, hD⟩
          case measure => have := HLt.out; simp [Go.RowKit.intOf]; omega
    · obtain rfl : k = ll.length := by omega
      rw [List.take_length] at hD
      have HC := Lib.hid (Wl.comm_fit (ring := ring) hD.out.fit)
      have hml : met.length ≤ 1000 := by
        rw [hD.out.is.1]
        have := Wl.gather_fits H.length (ptsL ll) [] (Wl.fits_nil _)
        rw [Wl.fit_gather hD.out.fit] at this
        exact Nat.le_trans (Wl.fits_length this) h2
      obtain ⟨am, cm, hvm, _⟩ := Own.slice hD.out.row
      subst hvm
      go_wp2_with fail
      refine (size5_any met.length wr (by omega)).mono ?_
      rintro e w5 ⟨rfl, rfl⟩
      have HM := Lib.hid hD.out.is.1
      by_cases hs : ring < Wl.sizeOf met.length
      · have hsI : (ring : Int) < (Wl.sizeOf met.length : Nat) := by omega
        have HE := Lib.hid (show Wl.comm ring H (ptsL ll) = (5, H) by rw [HC.out, if_pos (by rw [← HM.out]; exact hs)])
        have HO := Lib.hid (HH.out.below hD.out.below (Nat.le_refl _))
        go_wp2
        go_ret2
        exact ⟨.slice ah H.length ch, by rw [HE.out]; rfl, by rw [HE.out]; exact HO.out, .inl rfl, hD.out.below⟩
      · have hsI : ¬ (ring : Int) < (Wl.sizeOf met.length : Nat) := by omega
        have HE := Lib.hid (show Wl.comm ring H (ptsL ll) = (0, Wl.along H (ptsL ll)) by rw [HC.out, if_neg (by rw [← HM.out]; exact hs)])
        go_wp2
        go_ret2
        exact ⟨vo, by rw [HE.out]; rfl, by rw [HE.out]; exact Own.mono hD.out.out hB, .inr (fun x hx => (Own.block hD.out.out x hx).1), hD.out.below⟩
end Go.Proofs.YtahnhhhhfioibaaGreatDoor

namespace Go.Proofs.YtahnhhhhfioibaaGreatDoor
namespace Wl
open Dk (puts full)

def raw (g : Grp) (ps : List (Int × Text)) : Grp := ps.foldl (fun g p => ins p.1.toNat p.2 g) g
theorem raw_append (g : Grp) (a b : List (Int × Text)) : raw g (a ++ b) = raw (raw g a) b := by simp [raw]
theorem raw_one (g : Grp) (p : Int × Text) : raw g [p] = ins p.1.toNat p.2 g := rfl
theorem raw_rising : ∀ (ps : List (Int × Text)) {g : Grp}, Rising g → Rising (raw g ps)
  | [], _, h => h
  | _ :: ps, _, h => raw_rising ps (ins_rising _ _ h)
theorem ins_map (f : Text → Text) (k : Nat) (t : Text) : ∀ m : Grp, ins k (f t) (m.map fun x => (x.1, f x.2)) = (ins k t m).map fun x => (x.1, f x.2)
  | [] => rfl
  | x :: m => by
    rw [List.map_cons]
    unfold ins
    by_cases h : k < x.1
    · rw [if_pos h, if_pos h]; rfl
    · rw [if_neg h, if_neg h]
      by_cases e : k = x.1
      · rw [if_pos e, if_pos e]; rfl
      · rw [if_neg e, if_neg e, ins_map f k t m]; rfl
theorem look_map (f : Text → Text) (k : Nat) : ∀ m : Grp, look k (m.map fun x => (x.1, f x.2)) = (look k m).map f
  | [] => rfl
  | x :: m => by
    rw [List.map_cons]
    unfold look
    by_cases h : x.1 = k
    · rw [if_pos h, if_pos h]; rfl
    · rw [if_neg h, if_neg h, look_map f k m]
theorem grp_raw : ∀ (ps : List (Int × Text)) (g : Grp), grp (g.map fun x => (x.1, full x.2)) ps = (raw g ps).map fun x => (x.1, full x.2)
  | [], _ => rfl
  | p :: ps, g => by
    show grp (ins p.1.toNat (full p.2) _) ps = (raw (ins p.1.toNat p.2 g) ps).map _
    rw [ins_map full, grp_raw ps]
theorem along_raw (H : List Text) (ps : List (Int × Text)) {j : Nat} (hj : j < H.length) : (along H ps)[j]? = ((look j (raw [] ps)).map full).or H[j]? := by
  have h1 := puts_grp ps H rising_nil
  rw [Dk.puts_nil] at h1
  have h2 := grp_raw ps []
  rw [List.map_nil] at h2
  rw [← h1, puts_look (grp_rising ps rising_nil), if_pos hj, h2, look_map]
/-- What the last loop asks of a text with noughts behind it. -/
theorem full_take (t : Text) : (full t).take t.length = t := by unfold full; rw [List.take_left]
theorem full_next (t : Text) (h : t.length < 512) : (full t)[t.length]? = some 0 := by
  unfold full
  rw [List.getElem?_append_right (Nat.le_refl _), Nat.sub_self, List.getElem?_replicate, if_pos (by omega)]
/-- Up to 100 bytes: a put that the law takes. -/
def Small (ps : List (Int × Text)) : Prop := ∀ p ∈ ps, 0 ≤ p.1 ∧ p.1 ≤ 19 ∧ p.2.length ≤ 100
theorem Small.fit {ps : List (Int × Text)} (h : Small ps) : Fit 20 ps := fun p hp => by have := h p hp; omega
theorem small_raw {ps : List (Int × Text)} (h : Small ps) {k : Nat} {t : Text} (hl : look k (raw [] ps) = some t) : t.length ≤ 100 := by
  have key : ∀ (ps : List (Int × Text)) (g : Grp), Small ps → (∀ x ∈ g, x.2.length ≤ 100) → ∀ x ∈ raw g ps, x.2.length ≤ 100 := by
    intro ps
    induction ps with
    | nil => intro g _ hg; exact hg
    | cons p ps ih =>
      intro g hs hg
      refine ih (ins p.1.toNat p.2 g) (fun q hq => hs q (List.mem_cons_of_mem _ hq)) fun x hx => ?_
      rcases ins_mem hx with rfl | hx
      · exact (hs p List.mem_cons_self).2.2
      · exact hg x hx
  exact key ps [] h (fun x hx => by cases hx) _ (look_mem hl)
theorem small_comm {H : List Text} {ps : List (Int × Text)} (hH : H.length = 20) (h : Small ps) (hl : ps.length ≤ 10) : comm 16 H ps = (0, along H ps) := by
  rw [comm_fit (by rw [hH]; exact h.fit), if_neg]
  have h1 := grp_len_le ps rising_nil
  have h2 : (grp [] ps).length ≤ 10 := by simp only [List.length_nil] at h1; omega
  have h3 := sizeOf_mono h2
  have h4 : sizeOf 10 = 12 := by decide
  omega
end Wl
end Go.Proofs.YtahnhhhhfioibaaGreatDoor

namespace Go.Proofs.YtahnhhhhfioibaaGreatDoor
namespace Tx
open Wl (Grp Text ins Rising)

/-- A number, as a map's text. -/
def un (k : Nat) : Text := List.replicate k 0
theorem un_length (k : Nat) : (un k).length = k := List.length_replicate
theorem un_inj {a b : Nat} (h : un a = un b) : a = b := by have := congrArg List.length h; rwa [un_length, un_length] at this
/-- What stood there ahead: the number, or -1. -/
def befOf (m : Grp) (i : Nat) : Int := match Wl.look i m with | some t => (t.length : Int) | none => -1
structure St where
  m : Grp
  b : List Int
  n : Nat
def step (s : St) (p : Nat × Text) : St := ⟨ins p.1 (un s.n) s.m, s.b ++ [befOf s.m p.1], s.n + 1⟩
def st (ps : List (Nat × Text)) : St := ps.foldl step ⟨[], [], 0⟩
def lasts (ps : List (Nat × Text)) : Grp := (st ps).m
def befs (ps : List (Nat × Text)) : List Int := (st ps).b
theorem st_snoc (ps : List (Nat × Text)) (p : Nat × Text) : st (ps ++ [p]) = step (st ps) p := by unfold st; rw [List.foldl_append]; rfl
theorem snoc_ind {P : List (Nat × Text) → Prop} (h0 : P []) (h1 : ∀ ps p, P ps → P (ps ++ [p])) : ∀ ps, P ps := by
  intro ps
  have key : ∀ n (l : List (Nat × Text)), l.length = n → P l := by
    intro n
    induction n with
    | zero => intro l hl; rw [List.length_eq_zero_iff.1 hl]; exact h0
    | succ n ih =>
      intro l hl
      rcases List.eq_nil_or_concat l with rfl | ⟨m, b, rfl⟩
      · cases hl
      · rw [List.concat_eq_append] at hl ⊢
        exact h1 m b (ih m (by simpa using hl))
  exact key _ ps rfl
theorem st_n : ∀ ps, (st ps).n = ps.length := snoc_ind rfl fun ps p h => by rw [st_snoc]; show (st ps).n + 1 = _; rw [h, List.length_append]; rfl
theorem befs_length : ∀ ps, (befs ps).length = ps.length := snoc_ind rfl fun ps p h => by
  unfold befs at h ⊢
  rw [st_snoc]
  show ((st ps).b ++ _).length = _
  rw [List.length_append, h, List.length_append]; rfl
theorem lasts_rising : ∀ ps, Rising (lasts ps) := snoc_ind List.Pairwise.nil fun ps p h => by
  unfold lasts at h ⊢
  rw [st_snoc]
  exact Wl.ins_rising _ _ h
theorem lasts_snoc (ps : List (Nat × Text)) (p : Nat × Text) : lasts (ps ++ [p]) = ins p.1 (un ps.length) (lasts ps) := by
  unfold lasts
  rw [st_snoc]
  show ins p.1 (un (st ps).n) _ = _
  rw [st_n]
theorem befs_snoc (ps : List (Nat × Text)) (p : Nat × Text) : befs (ps ++ [p]) = befs ps ++ [befOf (lasts ps) p.1] := by
  unfold befs lasts
  rw [st_snoc]; rfl
theorem befs_app (ps : List (Nat × Text)) : ∀ qs, (befs (ps ++ qs)).take ps.length = befs ps := snoc_ind (P := fun qs => (befs (ps ++ qs)).take ps.length = befs ps)
  (by show (befs (ps ++ [])).take _ = _; rw [List.append_nil, ← befs_length, List.take_length])
  (fun qs q h => by
    show (befs (ps ++ (qs ++ [q]))).take _ = _
    rw [← List.append_assoc, befs_snoc, List.take_append_of_le_length (by rw [befs_length, List.length_append]; omega), h])
theorem befs_take (ps : List (Nat × Text)) (k : Nat) (hk : k ≤ ps.length) : (befs ps).take k = befs (ps.take k) := by
  have := befs_app (ps.take k) (ps.drop k)
  rwa [List.take_append_drop, List.length_take, Nat.min_eq_left hk] at this
theorem take_snoc (ps : List (Nat × Text)) {k : Nat} (hk : k < ps.length) : ps.take (k + 1) = ps.take k ++ [ps[k]] := List.take_succ_eq_append_getElem hk
theorem befs_at (ps : List (Nat × Text)) {k : Nat} (hk : k < ps.length) : (befs ps)[k]'(by rw [befs_length]; exact hk) = befOf (lasts (ps.take k)) (ps[k]).1 := by
  have h1 := befs_take ps (k + 1) (by omega)
  rw [take_snoc ps hk, befs_snoc] at h1
  have h2 : ((befs ps).take (k + 1))[k]? = some (befOf (lasts (ps.take k)) (ps[k]).1) := by
    rw [h1, List.getElem?_append_right (by rw [befs_length, List.length_take]; omega), befs_length, List.length_take, Nat.min_eq_left (by omega), Nat.sub_self]
    rfl
  rw [List.getElem?_take_of_lt (by omega), List.getElem?_eq_getElem (by rw [befs_length]; exact hk)] at h2
  injection h2
/-- Which put is a home's last. -/
theorem lasts_look (i : Nat) : ∀ ps, (Wl.look i (lasts ps) = none ∧ ∀ p ∈ ps, p.1 ≠ i) ∨ ∃ k, ∃ hk : k < ps.length, Wl.look i (lasts ps) = some (un k) ∧ (ps[k]).1 = i ∧ Wl.look i (Wl.raw [] (ps.map fun p => ((p.1 : Int), p.2))) = some (ps[k]).2 :=
  snoc_ind (.inl ⟨rfl, fun p hp => by cases hp⟩) fun ps p h => by
    by_cases e : i = p.1
    · refine .inr ⟨ps.length, by simp, ?_, ?_, ?_⟩
      · rw [lasts_snoc, Wl.look_ins, if_pos e]
      · simp [e]
      · rw [List.map_append, Wl.raw_append]
        show Wl.look i (Wl.raw _ [((p.1 : Int), p.2)]) = _
        rw [Wl.raw_one, Wl.look_ins, if_pos (by simp [e])]
        simp
    · rcases h with ⟨h1, h2⟩ | ⟨k, hk, h1, h2, h3⟩
      · refine .inl ⟨by rw [lasts_snoc, Wl.look_ins, if_neg e]; exact h1, fun q hq => ?_⟩
        rcases List.mem_append.1 hq with hq | hq
        · exact h2 q hq
        · obtain rfl := List.mem_singleton.1 hq
          exact fun e' => e e'.symm
      · refine .inr ⟨k, by rw [List.length_append]; omega, ?_, ?_, ?_⟩
        · rw [lasts_snoc, Wl.look_ins, if_neg e]; exact h1
        · rw [List.getElem_append_left hk]; exact h2
        · rw [List.map_append, Wl.raw_append]
          show Wl.look i (Wl.raw _ [((p.1 : Int), p.2)]) = _
          rw [Wl.raw_one, Wl.look_ins, if_neg (by simp [e]), List.getElem_append_left hk]
          exact h3
def psI (ps : List (Nat × Text)) : List (Int × Text) := ps.map fun p => ((p.1 : Int), p.2)
theorem raw_none {i : Nat} : ∀ {ps : List (Nat × Text)} {g : Grp}, (∀ p ∈ ps, p.1 ≠ i) → Wl.look i (Wl.raw g (psI ps)) = Wl.look i g
  | [], _, _ => rfl
  | p :: ps, g, h => by
    show Wl.look i (Wl.raw (ins ((p.1 : Int)).toNat p.2 g) (psI ps)) = _
    rw [raw_none fun q hq => h q (List.mem_cons_of_mem _ hq), Wl.look_ins, if_neg]
    have := h p List.mem_cons_self
    rw [Int.toNat_natCast]
    exact fun e => this e.symm
/-- What a change holds at home i. -/
theorem now_at (H : List Text) (ps : List (Nat × Text)) {i : Nat} (hi : i < H.length) :
    (Wl.look i (lasts ps) = none ∧ (Wl.along H (psI ps))[i]? = H[i]?) ∨ ∃ k, ∃ hk : k < ps.length, Wl.look i (lasts ps) = some (un k) ∧ (Wl.along H (psI ps))[i]? = some (Dk.full (ps[k]).2) := by
  have h0 := Wl.along_raw H (psI ps) hi
  rcases lasts_look i ps with ⟨h1, h2⟩ | ⟨k, hk, h1, _, h3⟩
  · refine .inl ⟨h1, ?_⟩
    rw [h0, raw_none h2]; rfl
  · refine .inr ⟨k, hk, h1, ?_⟩
    rw [h0, show Wl.look i (Wl.raw [] (psI ps)) = _ from h3]; rfl
/-- Back by one put. -/
theorem back_new (ps : List (Nat × Text)) {k : Nat} (hk : k < ps.length) (h : befOf (lasts (ps.take k)) (ps[k]).1 = -1) : Wl.look (ps[k]).1 (lasts (ps.take k)) = none := by
  unfold befOf at h
  split at h
  · omega
  · assumption
theorem back_old (ps : List (Nat × Text)) {k j : Nat} (hk : k < ps.length) (h : befOf (lasts (ps.take k)) (ps[k]).1 = (j : Int)) : Wl.look (ps[k]).1 (lasts (ps.take k)) = some (un j) := by
  rcases lasts_look (ps[k]).1 (ps.take k) with ⟨h1, _⟩ | ⟨i, _, h1, _⟩
  · unfold befOf at h
    rw [h1] at h
    simp only at h
    omega
  · unfold befOf at h
    rw [h1] at h
    simp only [un_length] at h
    rw [h1]
    have : i = j := by omega
    rw [this]
theorem befOf_cases (m : Grp) (i : Nat) : befOf m i = -1 ∨ ∃ j : Nat, befOf m i = (j : Int) := by
  unfold befOf
  split
  · exact .inr ⟨_, rfl⟩
  · exact .inl rfl
/-- The map without a home. -/
def del (k : Nat) (m : Grp) : Grp := m.filter fun x => decide (x.1 ≠ k)
theorem del_rising (k : Nat) {m : Grp} (h : Rising m) : Rising (del k m) := List.Pairwise.filter _ h
theorem look_del (k j : Nat) : ∀ m : Grp, Wl.look j (del k m) = if j = k then none else Wl.look j m
  | [] => by simp [del, Wl.look]
  | x :: m => by
    have ih := look_del k j m
    unfold del at ih ⊢
    rw [List.filter_cons]
    by_cases hx : x.1 = k
    · rw [if_neg (by simp [hx]), ih]
      by_cases hj : j = k
      · rw [if_pos hj, if_pos hj]
      · rw [if_neg hj, if_neg hj]
        show Wl.look j m = (if x.1 = j then some x.2 else Wl.look j m)
        rw [if_neg (by omega)]
    · rw [if_pos (by simpa using hx)]
      unfold Wl.look
      by_cases hxj : x.1 = j
      · rw [if_pos hxj, if_pos hxj, if_neg (by omega)]
      · rw [if_neg hxj, if_neg hxj, ih]
theorem back_map_new {ps : List (Nat × Text)} {k : Nat} (hk : k < ps.length) (h : befOf (lasts (ps.take k)) (ps[k]).1 = -1) : del (ps[k]).1 (lasts (ps.take (k + 1))) = lasts (ps.take k) := by
  refine Wl.ext (del_rising _ (lasts_rising _)) (lasts_rising _) fun j => ?_
  rw [look_del, take_snoc ps hk, lasts_snoc, Wl.look_ins]
  by_cases e : j = (ps[k]).1
  · rw [if_pos e, e, back_new ps hk h]
  · rw [if_neg e, if_neg e]
theorem back_map_old {ps : List (Nat × Text)} {k j : Nat} (hk : k < ps.length) (h : befOf (lasts (ps.take k)) (ps[k]).1 = (j : Int)) : ins (ps[k]).1 (un j) (lasts (ps.take (k + 1))) = lasts (ps.take k) := by
  refine Wl.ext (Wl.ins_rising _ _ (lasts_rising _)) (lasts_rising _) fun i => ?_
  rw [Wl.look_ins, take_snoc ps hk, lasts_snoc, Wl.look_ins]
  by_cases e : i = (ps[k]).1
  · rw [if_pos e, e, back_old ps hk h]
  · rw [if_neg e, if_neg e]
theorem lasts_len : ∀ ps, (lasts ps).length ≤ ps.length := snoc_ind (Nat.le_refl _) fun ps p h => by
  rw [lasts_snoc, Wl.ins_length _ _ (lasts_rising ps), List.length_append]
  show _ ≤ ps.length + 1
  split <;> omega
end Tx
end Go.Proofs.YtahnhhhhfioibaaGreatDoor

namespace Go.Proofs.YtahnhhhhfioibaaGreatDoor
open Go.RowKit Go.Maps Lib

/-! ### Maps of numbers. -/
def numV (l : List UInt8) : Value := .int .i64 l.length
def readN : Value → Option (DataW Unit × List MemPlace)
  | .int .i64 n => if 0 ≤ n then some (.lit (.string (Tx.un n.toNat)), []) else none
  | _ => none
theorem readN_inv {v : Value} {y : DataW Unit × List MemPlace} (h : readN v = some y) : ∃ l, v = numV l ∧ l = Tx.un l.length ∧ y = (.lit (.string l), []) := by
  unfold readN at h
  split at h
  · rename_i n
    split at h
    · injection h with h
      refine ⟨Tx.un n.toNat, ?_, by rw [Tx.un_length], h.symm⟩
      unfold numV
      rw [Tx.un_length]
      congr 1; omega
    · cases h
  · cases h
def numE : ME := ⟨numV, readN, fun l => l = Tx.un l.length, fun l h => by
  unfold numV readN
  simp only
  rw [if_pos (by omega), Int.toNat_natCast, ← h], fun _ _ h => readN_inv h⟩
abbrev NMap (w : World) (b : Nat) (m : Wl.Grp) : Prop := IMap Tryz.prog 3 numE w b m
theorem underNMap : Tryz.prog.underlying 94 = some (.map 3 3) := Tryz.underlying94
theorem zero_int (w : World) : (zeroValue 3).run Tryz.prog w = .ok (numE.enc []) w := by kernel_rfl
theorem NMap.look_some {w : World} {b : Nat} {m : Wl.Grp} (h : NMap w b m) {k n : Nat} (hk : k ≤ 1000000) (hl : Wl.look k m = some (Tx.un n)) : (Instr.lookup 94 (.map (some b)) (.int .i64 k) true).run Tryz.prog w = .ok (.tuple #[.int .i64 n, .bool true]) w := by
  have := (IMap.look_some (M := numE) h underInt underNMap (zero_int w) rfl hk hl).1
  rw [show numE.enc (Tx.un n) = .int .i64 n by show Value.int .i64 ((Tx.un n).length : Nat) = _; rw [Tx.un_length]] at this
  exact this
theorem NMap.look_none {w : World} {b : Nat} {m : Wl.Grp} (h : NMap w b m) {k : Nat} (hk : k ≤ 1000000) (hl : Wl.look k m = none) : (Instr.lookup 94 (.map (some b)) (.int .i64 k) true).run Tryz.prog w = .ok (.tuple #[.int .i64 0, .bool false]) w :=
  IMap.look_none (M := numE) h underInt underNMap (zero_int w) rfl hk hl

/-! ### Rows of puts. -/
def putElem : Elem (Nat × List UInt8) := ⟨fun x => [.int .i64 x.1, .string (bs x.2)], 2, by decide, fun _ => rfl, by
  intro a u hu
  simp only [List.mem_cons, List.not_mem_nil, or_false] at hu
  rcases hu with rfl | rfl <;> rfl⟩
theorem putST : SliceT Tryz.prog 36 99 putElem.size := SliceT.of (size := 2) (bytes := 24) (z := .agg #[.int .i64 0, .string .empty]) Tryz.underlying36 (by kernel_rfl) rfl (by decide)
abbrev OwnP (B : Nat) (w : World) (v : Value) (l : List (Nat × List UInt8)) : Prop := Own putElem 99 B w v l
theorem OwnP.at {B : Nat} {w : World} {o n co : Nat} {ws : List (Nat × List UInt8)} (h : OwnP B w (.slice (some ⟨o, 0, none⟩) n co) ws) (k : Nat) (hk : k < ws.length) :
    w.cell? ⟨o, k * 2, none⟩ = some (.int .i64 (ws[k]).1) ∧ w.cell? ⟨o, k * 2 + 1, none⟩ = some (.string (bs (ws[k]).2)) := by
  have h0 := (Own.lies h).at k 0 (by decide) hk _ rfl
  have h1 := (Own.lies h).at k 1 (by decide) hk _ rfl
  rw [Nat.zero_add] at h0 h1
  exact ⟨h0, h1⟩
/-- The change in block tb, of the log in block lb: its map in block mb, its puts in vp, what was ahead of each in vb; all its blocks are of T. -/
structure TxIn (w : World) (T : Nat → Prop) (tb lb mb : Nat) (vp vb : Value) (ps : List (Nat × List UInt8)) (bl : List Int) (m : Wl.Grp) : Prop where
  blk : Blk w tb 96 [ptr lb, vp, vb, .map (some mb)]
  op : OwnP 0 w vp ps
  ob : OwnN 0 w vb bl
  mp : NMap w mb m
  fb : T tb
  fm : T mb
  fp : ∀ k, vp.ownBlock = some k → T k
  fv : ∀ k, vb.ownBlock = some k → T k
  lt : ∀ k, T k → k < w.heap.size
  small : ∀ p ∈ ps, p.1 ≤ 65536 ∧ p.2.length ≤ 512
def TxP (w : World) (T : Nat → Prop) (tb lb : Nat) (ps : List (Nat × List UInt8)) : Prop := ∃ mb vp vb, TxIn w T tb lb mb vp vb ps (Tx.befs ps) (Tx.lasts ps)
namespace TxIn
variable {w w1 : World} {T S : Nat → Prop} {tb lb mb : Nat} {vp vb : Value} {ps : List (Nat × List UInt8)} {bl : List Int} {m : Wl.Grp}
theorem but (h : TxIn w T tb lb mb vp vb ps bl m) (hb : But S w w1) (hn : ∀ k, T k → ¬ S k) : TxIn w1 T tb lb mb vp vb ps bl m :=
  ⟨h.blk.but hb (hn tb h.fb), Own.but h.op hb (fun k hk => hn k (h.fp k hk)), Own.but h.ob hb (fun k hk => hn k (h.fv k hk)), h.mp.but hb (hn mb h.fm), h.fb, h.fm, h.fp, h.fv, fun k hk => Nat.lt_of_lt_of_le (h.lt k hk) hb.size, h.small⟩
theorem below (h : TxIn w T tb lb mb vp vb ps bl m) (hb : Below w.heap.size w w1) : TxIn w1 T tb lb mb vp vb ps bl m := h.but (But.of_below hb (fun _ => False)) (fun _ _ hf => hf)
theorem mne (h : TxIn w T tb lb mb vp vb ps bl m) : mb ≠ tb := h.mp.ne_blk h.blk
theorem pne (h : TxIn w T tb lb mb vp vb ps bl m) : vp.ownBlock ≠ some tb := Own.ne_blk h.op h.blk (by decide)
theorem bne (h : TxIn w T tb lb mb vp vb ps bl m) : vb.ownBlock ≠ some tb := Own.ne_blk h.ob h.blk (by decide)
theorem pbne (h : TxIn w T tb lb mb vp vb ps bl m) {k : Nat} (hk : vp.ownBlock = some k) : vb.ownBlock ≠ some k := Own.ne_own h.op h.ob (by decide) hk
theorem mpne (h : TxIn w T tb lb mb vp vb ps bl m) {k : Nat} (hk : vp.ownBlock = some k) : k ≠ mb := by
  intro e
  subst e
  obtain ⟨cur, hc⟩ := Own.typed h.op hk
  obtain ⟨es, clock, hm⟩ := h.mp.isMap
  rw [hc] at hm
  cases hm
theorem mbne (h : TxIn w T tb lb mb vp vb ps bl m) {k : Nat} (hk : vb.ownBlock = some k) : k ≠ mb := by
  intro e
  subst e
  obtain ⟨cur, hc⟩ := Own.typed h.ob hk
  obtain ⟨es, clock, hm⟩ := h.mp.isMap
  rw [hc] at hm
  cases hm
theorem c0 (h : TxIn w T tb lb mb vp vb ps bl m) : w.cell? ⟨tb, 0, none⟩ = some (.pointer (some ⟨lb, 0, none⟩)) := h.blk.cell rfl
theorem c1 (h : TxIn w T tb lb mb vp vb ps bl m) : w.cell? ⟨tb, 1, none⟩ = some vp := h.blk.cell rfl
theorem c2 (h : TxIn w T tb lb mb vp vb ps bl m) : w.cell? ⟨tb, 2, none⟩ = some vb := h.blk.cell rfl
theorem c3 (h : TxIn w T tb lb mb vp vb ps bl m) : w.cell? ⟨tb, 3, none⟩ = some (.map (some mb)) := h.blk.cell rfl
/-- Between: w to W4, where a row of the change has grown (or lies in a new block). -/
theorem grew {W W4 : World} {v v' : Value} (hW : Below w.heap.size w W) (hg : W.grownBy W4 v.ownBlock) (hT : ∀ k, v.ownBlock = some k → T k) (hv : v'.ownBlock = v.ownBlock ∨ ∀ k, v'.ownBlock = some k → W.heap.size ≤ k) :
    But (fun k => v.ownBlock = some k) w W4 ∧ ∀ k, v'.ownBlock = some k → T k ∨ w.heap.size ≤ k := by
  refine ⟨⟨hg.os.trans hW.os, hg.tape.trans hW.tape, hg.output.trans hW.output, Nat.le_trans hW.size hg.size, fun k hk hn => (hg.block k (Nat.lt_of_lt_of_le hk hW.size) (fun e => hn e.symm)).trans (hW.block k hk)⟩, fun k hk => ?_⟩
  rcases hv with e | e
  · exact .inl (hT k (e ▸ hk))
  · exact .inr (Nat.le_trans hW.size (e k hk))
/-- The change's own block, where a row has grown. -/
theorem spot {W W4 : World} {v : Value} (h : TxIn w T tb lb mb vp vb ps bl m) (hW : Below w.heap.size w W) (hg : W.grownBy W4 v.ownBlock) (hne : v.ownBlock ≠ some tb) (hT : ∀ k, v.ownBlock = some k → T k) : Blk W4 tb 96 [ptr lb, vp, vb, .map (some mb)] ∧ Below w.heap.size w W := by
  obtain ⟨hb, _⟩ := grew (v' := v) hW hg hT (.inl rfl)
  exact ⟨h.blk.but hb hne, hW⟩
theorem befs' {W W4 : World} {vb' : Value} {bl' : List Int} (h : TxIn w T tb lb mb vp vb ps bl m) (hW : Below w.heap.size w W) (ho : OwnN 0 W4 vb' bl') (hg : W.grownBy W4 vb.ownBlock) (hv : vb'.ownBlock = vb.ownBlock ∨ ∀ k, vb'.ownBlock = some k → W.heap.size ≤ k) :
    TxIn (W4.setCell ⟨tb, 2, none⟩ vb') (fun k => T k ∨ vb'.ownBlock = some k) tb lb mb vp vb' ps bl' m ∧ Moved T w (fun k => T k ∨ vb'.ownBlock = some k) (W4.setCell ⟨tb, 2, none⟩ vb') := by
  obtain ⟨hb, hn⟩ := grew hW hg h.fv hv
  have b1 : Blk W4 tb 96 [ptr lb, vp, vb, .map (some mb)] := h.blk.but hb h.bne
  have hb2 : But (· = tb) W4 (W4.setCell ⟨tb, 2, none⟩ vb') := (But.refl _ W4).setCell _ _ (fun _ => rfl)
  have hne : vb'.ownBlock ≠ some tb := Own.ne_blk ho b1 (by decide)
  refine ⟨⟨b1.set 2 vb', Own.but (Own.but h.op hb (fun k hk e => h.pbne hk e)) hb2 (fun k hk e => h.pne (e ▸ hk)), Own.but ho hb2 (fun k hk e => hne (e ▸ hk)), (h.mp.but hb (fun e => h.mbne e rfl)).but hb2 h.mne, .inl h.fb, .inl h.fm, fun k hk => .inl (h.fp k hk), fun k hk => .inr hk, fun k hk => ?_, h.small⟩, ?_, ?_⟩
  · show k < (W4.setCell _ _).heap.size
    rw [World.size_setCell]
    rcases hk with hk | hk
    · exact Nat.lt_of_lt_of_le (h.lt k hk) hb.size
    · exact (Own.block ho k hk).2
  · exact (hb.mono (fun k _ e => h.fv k e)).trans hb2 (fun k _ e => e ▸ h.fb)
  · rintro k (hk | hk)
    · exact .inl hk
    · exact hn k hk
theorem puts' {W W4 : World} {vp' : Value} {ps' : List (Nat × List UInt8)} (h : TxIn w T tb lb mb vp vb ps bl m) (hW : Below w.heap.size w W) (ho : OwnP 0 W4 vp' ps') (hg : W.grownBy W4 vp.ownBlock) (hv : vp'.ownBlock = vp.ownBlock ∨ ∀ k, vp'.ownBlock = some k → W.heap.size ≤ k) (hs : ∀ p ∈ ps', p.1 ≤ 65536 ∧ p.2.length ≤ 512) :
    TxIn (W4.setCell ⟨tb, 1, none⟩ vp') (fun k => T k ∨ vp'.ownBlock = some k) tb lb mb vp' vb ps' bl m ∧ Moved T w (fun k => T k ∨ vp'.ownBlock = some k) (W4.setCell ⟨tb, 1, none⟩ vp') := by
  obtain ⟨hb, hn⟩ := grew hW hg h.fp hv
  have b1 : Blk W4 tb 96 [ptr lb, vp, vb, .map (some mb)] := h.blk.but hb h.pne
  have hb2 : But (· = tb) W4 (W4.setCell ⟨tb, 1, none⟩ vp') := (But.refl _ W4).setCell _ _ (fun _ => rfl)
  have hne : vp'.ownBlock ≠ some tb := Own.ne_blk ho b1 (by decide)
  refine ⟨⟨b1.set 1 vp', Own.but ho hb2 (fun k hk e => hne (e ▸ hk)), Own.but (Own.but h.ob hb (fun k hk e => h.pbne e hk)) hb2 (fun k hk e => h.bne (e ▸ hk)), (h.mp.but hb (fun e => h.mpne e rfl)).but hb2 h.mne, .inl h.fb, .inl h.fm, fun k hk => .inr hk, fun k hk => .inl (h.fv k hk), fun k hk => ?_, hs⟩, ?_, ?_⟩
  · show k < (W4.setCell _ _).heap.size
    rw [World.size_setCell]
    rcases hk with hk | hk
    · exact Nat.lt_of_lt_of_le (h.lt k hk) hb.size
    · exact (Own.block ho k hk).2
  · exact (hb.mono (fun k _ e => h.fp k e)).trans hb2 (fun k _ e => e ▸ h.fb)
  · rintro k (hk | hk)
    · exact .inl hk
    · exact hn k hk
theorem map' {W4 : World} {m' : Wl.Grp} (h : TxIn w T tb lb mb vp vb ps bl m) (hm : NMap W4 mb m') (hb : But (fun k => k = mb) w W4) : TxIn W4 T tb lb mb vp vb ps bl m' ∧ Moved T w T W4 :=
  ⟨⟨h.blk.but hb (fun e => h.mne e.symm), Own.but h.op hb (fun _ hk e => h.mpne hk e), Own.but h.ob hb (fun _ hk e => h.mbne hk e), hm, h.fb, h.fm, h.fp, h.fv, fun k hk => Nat.lt_of_lt_of_le (h.lt k hk) hb.size, h.small⟩, hb.mono (fun _ _ e => e ▸ h.fm), fun _ hk => .inl hk⟩
end TxIn
theorem TxP.but {S : Nat → Prop} {w w1 : World} {T : Nat → Prop} {tb lb : Nat} {ps : List (Nat × List UInt8)} (h : TxP w T tb lb ps) (hb : But S w w1) (hn : ∀ k, T k → ¬ S k) : TxP w1 T tb lb ps := by
  obtain ⟨mb, vp, vb, h⟩ := h
  exact ⟨mb, vp, vb, h.but hb hn⟩
theorem TxP.below {w w1 : World} {T : Nat → Prop} {tb lb : Nat} {ps : List (Nat × List UInt8)} (h : TxP w T tb lb ps) (hb : Below w.heap.size w w1) : TxP w1 T tb lb ps := h.but (But.of_below hb (fun _ => False)) (fun _ _ hf => hf)
theorem TxP.lt {w : World} {T : Nat → Prop} {tb lb : Nat} {ps : List (Nat × List UInt8)} (h : TxP w T tb lb ps) : ∀ k, T k → k < w.heap.size := by
  obtain ⟨_, _, _, h⟩ := h
  exact h.lt
theorem begin_any5 (w : World) (lb : Nat) :
    Calls Tryz.prog 10 #[ptr lb] w fun e w' => ∃ tb T, e = .returned (ptr tb) ∧ TxP w' T tb lb [] ∧ (∀ k, T k → w.heap.size ≤ k) ∧ Below w.heap.size w w' := by
  have hmm := @run_makeMap Tryz.prog
  go_enter Tryz.func10, Tryz.ntmps10
  unfold ptr
  go_wp2
  go_ret
  have hb := Blk.new (w.alloc (.map #[] 0)) #[.pointer (some ⟨lb, 0, none⟩), .slice none 0 0, .slice none 0 0, .map (some w.heap.size)] 96
  rw [World.size_alloc] at hb
  refine ⟨w.heap.size + 1, fun k => k = w.heap.size ∨ k = w.heap.size + 1, rfl, ⟨w.heap.size, .slice none 0 0, .slice none 0 0, hb, Own.nil _ _ _ _, Own.nil _ _ _ _, (IMap.made _ _ _ _).kept (World.grownBy_alloc _ _ none) (by simp), .inr rfl, .inl rfl, fun k hk => (by simp [Value.ownBlock] at hk), fun k hk => (by simp [Value.ownBlock] at hk), fun k hk => (by simp; omega), fun p hp => by cases hp⟩, fun k hk => (by omega), ?_⟩
  exact ((Below.refl _ w).alloc (Nat.le_refl _) _).alloc (by simp) _
theorem mark_any (w : World) (T : Nat → Prop) (tb lb : Nat) (ps : List (Nat × List UInt8)) (h : TxP w T tb lb ps) :
    Calls Tryz.prog 16 #[ptr tb] w fun e w' => e = .returned (.int .i64 ps.length) ∧ w' = w := by
  obtain ⟨mb, vp, vb, h⟩ := h
  have c1 := h.c1
  obtain ⟨a, c, hv, _⟩ := Own.slice h.op
  subst hv
  clear h
  go_enter Tryz.func16, Tryz.ntmps16
  unfold ptr
  go_wp2
  go_ret
  exact ⟨rfl, rfl⟩
theorem touched_any (w : World) (T : Nat → Prop) (tb lb : Nat) (ps : List (Nat × List UInt8)) (h : TxP w T tb lb ps) :
    Calls Tryz.prog 22 #[ptr tb] w fun e w' => e = .returned (.int .i64 (Tx.lasts ps).length) ∧ w' = w := by
  obtain ⟨mb, vp, vb, h⟩ := h
  have c3 := h.c3
  have hlen := IMap.len (T := 94) h.mp underNMap
  clear h
  go_enter Tryz.func22, Tryz.ntmps22
  unfold ptr
  go_wp2
  go_ret
  exact ⟨rfl, rfl⟩
/-- The log is up. -/
def Awake (w : World) (lb n : Nat) : Prop := ∃ F g s, Log w F lb g s ∧ s.off = false ∧ s.homes = n
theorem isDown_any (w : World) (T : Nat → Prop) (tb lb n : Nat) (ps : List (Nat × List UInt8)) (h : TxP w T tb lb ps) (hl : Awake w lb n) :
    Calls Tryz.prog 46 #[ptr tb] w fun e w' => e = .returned (.bool false) ∧ w' = w := by
  obtain ⟨mb, vp, vb, h⟩ := h
  obtain ⟨F, g, s, hL, ho, _⟩ := hl
  have c0 := h.c0
  have HL := Lib.hid hL
  clear h hL
  go_enter Tryz.func46, Tryz.ntmps46
  unfold ptr
  go_wp2_with fail
  refine (ldown_any w F lb g s HL.out).mono ?_
  rintro e w1 ⟨rfl, rfl⟩
  rw [ho]
  go_wp2
  go_ret
  exact ⟨rfl, rfl⟩
theorem txhomes_any (w : World) (T : Nat → Prop) (tb lb n : Nat) (ps : List (Nat × List UInt8)) (h : TxP w T tb lb ps) (hl : Awake w lb n) :
    Calls Tryz.prog 24 #[ptr tb] w fun e w' => e = .returned (.int .i64 n) ∧ w' = w := by
  obtain ⟨mb, vp, vb, h⟩ := h
  obtain ⟨F, g, s, hL, _, rfl⟩ := hl
  have c0 := h.c0
  have HL := Lib.hid hL
  clear h hL
  go_enter Tryz.func24, Tryz.ntmps24
  unfold ptr
  go_wp2_with fail
  refine (homes_any w F lb g s HL.out).mono ?_
  rintro e w1 ⟨rfl, rfl⟩
  go_wp2
  go_ret
  exact ⟨rfl, rfl⟩
theorem lastOf_any (w : World) (T : Nat → Prop) (tb lb : Nat) (ps : List (Nat × List UInt8)) (i : Nat) (h : TxP w T tb lb ps) (hi : i ≤ 65536) :
    Calls Tryz.prog 48 #[ptr tb, .int .i64 i] w fun e w' => e = .returned (.int .i64 (Tx.befOf (Tx.lasts ps) i)) ∧ w' = w := by
  obtain ⟨mb, vp, vb, h⟩ := h
  have c3 := h.c3
  have HP := Lib.hid h
  clear h
  rcases Tx.lasts_look i ps with ⟨h1, -⟩ | ⟨k, hk, h1, -, -⟩
  · have hlk := NMap.look_none HP.out.mp (by omega) h1
    have HE := Lib.hid (show Tx.befOf (Tx.lasts ps) i = -1 by unfold Tx.befOf; rw [h1])
    clear h1
    go_enter Tryz.func48, Tryz.ntmps48
    unfold ptr
    go_wp2
    go_ret
    exact ⟨by rw [HE.out]; rfl, rfl⟩
  · have hlk := NMap.look_some HP.out.mp (by omega) h1
    have HE := Lib.hid (show Tx.befOf (Tx.lasts ps) i = (k : Int) by unfold Tx.befOf; rw [h1]; simp [Tx.un_length])
    clear h1 hk
    go_enter Tryz.func48, Tryz.ntmps48
    unfold ptr
    go_wp2
    go_ret
    exact ⟨by rw [HE.out]; rfl, rfl⟩
end Go.Proofs.YtahnhhhhfioibaaGreatDoor

namespace Go.Proofs.YtahnhhhhfioibaaGreatDoor
open Go.RowKit Lib

set_option maxHeartbeats 4000000 in
set_option maxRecDepth 100000 in
theorem strlite_any (s : ByteArray) (w : World) (hlim : s.size ≤ 1000000) :
    Calls Tryz.prog 79 #[.string s] w fun e w' => e = .returned (.string s) ∧ Below w.heap.size w w' := by
  by_cases h0 : s.size = 0
  · have hs : s = ⟨#[]⟩ := by
      apply ByteArray.ext
      exact Array.eq_empty_of_size_eq_zero h0
    subst hs
    go_enter Tryz.func79, Tryz.ntmps79
    go_wp2
    go_ret
    exact ⟨rfl, Below.refl _ _⟩
  · have hinfo : (Tryz.prog.info? 5).map (·.size) = some 1 := by kernel_rfl
    have hco : Tryz.prog.cellsOf 5 = 1 := by kernel_rfl
    obtain ⟨M, hM⟩ : ∃ M, M = (List.replicate s.size (Value.int .u8 0)).toArray := ⟨_, rfl⟩
    have hMs : M.size = s.size := by rw [hM]; simp
    have hmk := fun W : World => make_zeros W s.size hlim
    rw [← hM] at hmk
    clear hM
    have hcp := Lib.run_copy_row_string (P := Tryz.prog) (w.alloc (.cells M 5)) 110 9 3 5 w.heap.size 0 s.size s.size s M 5 Tryz.underlying110 hinfo (heap_alloc_new w _) (Nat.le_refl _) (by omega)
    obtain ⟨Y, hY⟩ : ∃ Y, Y = (M.toList.take 0 ++ Lib.byteCells s.data.toList ++ M.toList.drop (0 + s.size)).toArray := ⟨_, rfl⟩
    rw [← hY] at hcp
    have hYl : Y.toList = Lib.byteCells s.data.toList := by
      rw [hY, List.toList_toArray, List.take_zero, List.nil_append, List.drop_of_length_le (by rw [Array.length_toList]; omega), List.append_nil]
    have hYs : Y.size = s.size := by rw [← Array.length_toList, hYl, Lib.byteCells_length, ← Lib.size_eq]
    have hgY : ((w.alloc (.cells M 5)).setRow w.heap.size Y).heap[w.heap.size]? = some (.cells Y 5 (0, 0)) := setRow_heap _ _ M _ 5 (0, 0) (heap_alloc_new w _)
    have hne : s.data.toList ≠ [] := fun e => h0 (by rw [Lib.size_eq, e]; rfl)
    have hUS := Lib.run_unsafeString_row (P := Tryz.prog) ((w.alloc (.cells M 5)).setRow w.heap.size Y) 155 3 9 5 Tryz.underlying155 hco w.heap.size Y.size (by unfold World.shape?; rw [hgY]) s.data.toList hne (by rw [← Lib.size_eq]; omega) (by rw [← Lib.size_eq]; omega)
      (fun j x hx => Lib.cells_of_row hgY Y.size j _ (by rw [List.take_of_length_le (by rw [Array.length_toList]; exact Nat.le_refl _), hYl]; simp [Lib.byteCells, hx]))
    rw [← Lib.size_eq] at hUS
    clear hY
    go_enter Tryz.func79, Tryz.ntmps79
    go_wp2
    go_ret
    have hb1 : Below w.heap.size w (w.alloc (.cells M 5)) := (Below.refl _ w).alloc (Nat.le_refl _) _
    have hb2 : Below w.heap.size (w.alloc (.cells M 5)) ((w.alloc (.cells M 5)).setRow w.heap.size Y) := ⟨rfl, rfl, rfl, by simp, fun k hk => setRow_other _ _ _ _ (by omega)⟩
    exact ⟨rfl, Lib.below_freeze (hb1.trans hb2) (p := ⟨w.heap.size, 0, none⟩) (Nat.le_refl _) _⟩
theorem clone_any (s : ByteArray) (w : World) (hlim : s.size ≤ 1000000) :
    Calls Tryz.prog 49 #[.string s] w fun e w' => e = .returned (.string s) ∧ Below w.heap.size w w' := by
  go_enter Tryz.func49, Tryz.ntmps49
  go_wp2_with fail
  refine (strlite_any s w hlim).mono ?_
  rintro e w1 ⟨rfl, hb⟩
  have HB := Lib.hid hb
  clear hb
  go_wp2
  go_ret
  exact ⟨rfl, HB.out⟩
/-! ### Arrays of 512 bytes. -/
theorem zero_AT (w : World) : (zeroValue 107).run Tryz.prog w = .ok (ctext zeros) w := by kernel_rfl
theorem slice_AT (w : World) (c : Nat) : (Instr.sliceAt 107 (.pointer (some ⟨c, 0, none⟩)) none none none).run Tryz.prog w = .ok (.slice (some ⟨c, 0, none⟩) 512 512) w := by
  have e1 : Tryz.prog.arrayLen 107 = 512 := by kernel_rfl
  have e2 : Tryz.prog.elem 107 = 5 := by kernel_rfl
  have e3 := run_sliceAt_array_all (P := Tryz.prog) w 107 ⟨c, 0, none⟩ (by rw [e1, e2]; kernel_rfl)
  rw [e3, e1, e2]
  show ((sizeOf 5).run Tryz.prog w).andThen _ = _
  rw [Tryz.sizeOf5]
  simp [go_sem, Addr.add]
theorem back_AT {w : World} {c : Nat} {t : List UInt8} (hb : Blk w c 107 (t.map bcell)) (ht : t.length = 512) : (convert 110 9 (.slice (some ⟨c, 0, none⟩) 512 512)).run Tryz.prog w = .ok (.string (bs t)) w := by
  have := run_convert_bytes_back (P := Tryz.prog) w 110 9 5 ⟨c, 0, none⟩ 512 t (by kernel_rfl) (by kernel_rfl) (by kernel_rfl) (by
    intro i hi
    rw [addr_add0]
    refine hb.cell ?_
    rw [List.getElem?_map, List.getElem?_eq_getElem hi]
    rfl)
  rw [ht] at this
  exact this
set_option maxHeartbeats 4000000 in
set_option maxRecDepth 100000 in
theorem filled_any (s : ByteArray) (w : World) (hs : s.size ≤ 512) :
    Calls Tryz.prog 50 #[.string s] w fun e w' => e = .returned (.string (bs (Dk.full s.data.toList))) ∧ Below w.heap.size w w' := by
  obtain ⟨Z, hZ⟩ : ∃ Z, Z = (zeros.map bcell).toArray := ⟨_, rfl⟩
  have hz : ∀ w, (zeroValue 107).run Tryz.prog w = .ok (.agg Z) w := fun w => by rw [hZ]; exact zero_AT w
  have hzs : Z.size = 512 := by rw [hZ]; simp [zeros_len]
  have hzn : ¬ Z = #[] := by intro e; rw [e] at hzs; cases hzs
  have HZ := Lib.hid hZ
  have H5 := Lib.hid hs
  clear hZ hs
  obtain ⟨q, hq⟩ : ∃ q, w.heap.size = q := ⟨_, rfl⟩
  obtain ⟨V, hV⟩ : ∃ V, V = w.alloc (.cells Z 107) := ⟨_, rfl⟩
  have HV := Lib.hid (show Blk V q 107 (zeros.map bcell) ∧ Below w.heap.size w V by
    have hb := Blk.new w Z 107
    rw [hq, ← hV, HZ.out] at hb
    exact ⟨hb, by rw [hV]; exact (Below.refl _ _).alloc (Nat.le_refl _) _⟩)
  have hsl := fun W => slice_AT W q
  go_enter Tryz.func50, Tryz.ntmps50
  go_wp2_with (refine wpList_copy_str rfl _ _ _ _ rfl 5 Tryz.underlying110 (by kernel_rfl) q 512 512 s rfl rfl (zeros.map bcell).toArray 107 (by first | exact HV.out.1 | (rw [← hV]; exact HV.out.1)) H5.out (by have := H5.out; simp [zeros_len]; exact this) ?_; refine Hid.out ?_)
  refine Lib.hid ?_
  try rw [← hV]
  obtain ⟨Y, hY⟩ : ∃ Y, Y = V.setRow q (strCells s ++ List.drop s.size (List.map bcell zeros)).toArray := ⟨_, rfl⟩
  rw [← hY]
  have hbY : But (fun k => k = q) V Y := by rw [hY]; exact (But.refl _ _).setRow _ _ (fun _ => rfl)
  have hYb : Blk Y q 107 ((Dk.full s.data.toList).map bcell) := by
    rw [hY, ← full_cellsZ s]
    exact setRow_heap V q _ _ _ _ HV.out.1
  have hbk := back_AT hYb (Dk.full_length _ (by rw [Array.length_toList]; exact H5.out))
  have HB := Lib.hid (show Below w.heap.size w Y from Below.but HV.out.2 hbY HV.out.2.size (fun k hk e => by omega))
  clear hY hV hYb hbY
  go_wp2
  go_ret
  exact ⟨rfl, HB.out⟩
end Go.Proofs.YtahnhhhhfioibaaGreatDoor

namespace Go.Proofs.YtahnhhhhfioibaaGreatDoor
open Go.RowKit Go.Maps Lib

theorem numV_un (k : Nat) : numE.enc (Tx.un k) = .int .i64 (k : Int) := by show Value.int .i64 ((Tx.un k).length : Nat) = _; rw [Tx.un_length]
theorem lies_put (w : World) (i : Nat) (t : ByteArray) : Lies putElem (w.alloc (.cells #[.int .i64 i, .string t] 99)) w.heap.size 0 [(i, t.data.toList)] :=
  Lies.of_blk (Blk.new w #[.int .i64 i, .string t] 99) rfl
set_option maxRecDepth 100000 in
set_option maxHeartbeats 4000000 in
theorem txwrite_ok (w : World) (T : Nat → Prop) (tb lb n : Nat) (ps : List (Nat × List UInt8)) (i : Nat) (s : ByteArray) (h : TxP w T tb lb ps) (hl : Awake w lb n) (hi : i < n) (hn : n ≤ 65536) (hs : s.size ≤ 512) (hp : ps.length ≤ 900000) :
    Calls Tryz.prog 13 #[ptr tb, .int .i64 i, .string s] w fun e w' => e = .returned (.int .i64 0) ∧ ∃ T', TxP w' T' tb lb (ps ++ [(i, s.data.toList)]) ∧ Moved T w T' w' := by
  have HP := Lib.hid h
  have HA := Lib.hid hl
  obtain ⟨F, g, sl, hL, ho, hhom⟩ := hl
  have HL := Lib.hid hL
  obtain ⟨mb, vp, vb, hx⟩ := h
  obtain ⟨ap, cp, hvp, _⟩ := Own.slice hx.op
  subst hvp
  have c0 := hx.c0
  have HX := Lib.hid hx
  have HS := Lib.hid (And.intro hs (And.intro hi (And.intro hn hp)))
  have hsI : ¬ (s.size : Int) > 512 := by omega
  have hiI : ¬ (n : Int) ≤ i := by omega
  have hi0 : ¬ (i : Int) < 0 := by omega
  clear hL hx
  go_enter Tryz.func13, Tryz.ntmps13
  go_wp2_with fail
  refine (isDown_any w T tb lb n ps HP.out HA.out).mono ?_
  rintro e w1 ⟨rfl, rfl⟩
  unfold ptr
  go_wp2_with fail
  refine (homes_any w1 F lb g sl HL.out).mono ?_
  rintro e w2 ⟨rfl, rfl⟩
  rw [hhom]
  have c2 : w2.cell? ⟨tb, 2, none⟩ = some vb := HX.out.c2
  have c2d : w2.drew.cell? ⟨tb, 2, none⟩ = some vb := HX.out.c2
  obtain ⟨bf, hbf⟩ : ∃ bf, bf = Tx.befOf (Tx.lasts ps) i := ⟨_, rfl⟩
  have HBf := Lib.hid hbf
  have hL2 := lastOf_any w2.drew T tb lb ps i (show TxP w2.drew T tb lb ps from HP.out.but ((But.refl (fun _ => False) w2).drew) (fun _ _ h => h)) (by omega)
  rw [← hbf] at hL2
  have HL2 := Lib.hid hL2
  have hlt : tb < w2.heap.size := HX.out.lt tb HX.out.fb
  have c2a : (w2.drew.alloc (.cells #[.int .i64 bf] 3)).cell? ⟨tb, 2, none⟩ = some vb := (HX.out.blk.drew.alloc _).cell rfl
  clear hL2 hbf ho
  go_wp2_with (refine wp_region_any (by kernel_rfl) ?_; refine Hid.out ?_)
  refine Lib.hid ?_
  try (change wpAny _ _ _ _ _ _ _ (World.drew _))
  refine wpAny_take (i := 0) (v := ?_) (by simp only [List.getElem?_toArray, List.getElem?_cons_zero]; exact rfl) (by kernel_rfl) (by kernel_rfl) (by kernel_rfl) (by exact fun _ _ _ h => h) (Or.inl ⟨by rfl, ?_⟩) ?_
  rotate_left
  · intro w; go_simp; try with_reducible rfl
  refine wpAny_take (i := 1) (v := ?_) (by simp only [List.getElem?_toArray, List.getElem?_cons_succ, List.getElem?_cons_zero]; exact rfl) (by kernel_rfl) (by kernel_rfl) (by kernel_rfl) (by exact fun _ _ _ h => h) (Or.inl ⟨by rfl, ?_⟩) ?_
  rotate_left
  · intro w; go_simp; try with_reducible rfl
  refine wpAny_take (i := 2) (v := ?_) (by simp only [List.getElem?_toArray, List.getElem?_cons_succ, List.getElem?_cons_zero]; exact rfl) (by kernel_rfl) (by kernel_rfl) (by kernel_rfl) (by exact fun _ _ _ h => h) (Or.inl ⟨by rfl, ?_⟩) ?_
  rotate_left
  · intro w; go_simp; try with_reducible rfl
  refine wpAny_take (i := 3) (v := ?_) (by simp only [List.getElem?_toArray, List.getElem?_cons_succ, List.getElem?_cons_zero]; exact rfl) (by kernel_rfl) (by kernel_rfl) (by kernel_rfl) (by exact fun _ _ _ h => h) (Or.inl ⟨by rfl, ?_⟩) ?_
  rotate_left
  · intro w; go_simp; try with_reducible rfl
  refine wpAny_take (i := 5) (v := ?_) (by simp only [List.getElem?_toArray, List.getElem?_cons_succ, List.getElem?_cons_zero]; exact rfl) (by kernel_rfl) (by kernel_rfl) (by kernel_rfl) (by exact fun _ _ _ h => h) (Or.inl ⟨by rfl, ?_⟩) ?_
  rotate_left
  · intro w; go_simp; try with_reducible rfl
  refine wpAny_take (i := 6) (v := ?_) (by simp only [List.getElem?_toArray, List.getElem?_cons_succ, List.getElem?_cons_zero]; exact rfl) (by kernel_rfl) (by kernel_rfl) (by kernel_rfl) (by exact fun _ _ _ h => h) (Or.inl ⟨by rfl, ?_⟩) ?_
  rotate_left
  · intro w; go_simp; try with_reducible rfl
  refine wpAny_ready (rs := [4, 7]) (by kernel_rfl) (by simp) ?_
  refine AllReady.cons rfl (fun K hK => ?_) (AllReady.cons rfl (fun K hK => ?_) AllReady.nil)
  focus (
    go_simp
    refine hK _ _ ?_; clear hK K
    refine wpAny_ready (rs := [7]) (by kernel_rfl) (by simp) ?_
    refine AllReady.cons rfl (fun K hK => ?_) AllReady.nil
    go_simp
    refine HL2.out.mono ?_; rintro e w3 ⟨rfl, rfl⟩
    refine hK _ _ ?_; clear hK K
    refine wpAny_ready (rs := [8]) (by kernel_rfl) (by simp) ?_
    refine AllReady.cons rfl (fun K hK => ?_) AllReady.nil
    go_simp
    refine hK _ _ ?_; clear hK K
    refine wpAny_ready (rs := [9]) (by kernel_rfl) (by simp) ?_
    refine AllReady.cons rfl (fun K hK => ?_) AllReady.nil
    refine wp_app2 intST _ _ rfl rfl (Own.alloc (show OwnN 0 w2.drew vb (Tx.befs ps) from HX.out.ob) _) (Nat.zero_le _) w2.heap.size 0 1 1 [bf] rfl rfl (lies_int w2.drew bf) (by have := HS.out.2.2.2; rw [Tx.befs_length]; omega) ?_; intro v4 w4 hown4 hg4 hv4
    refine hK _ _ ?_; clear hK K
    have hx4 := HX.out.befs' (W := w2.drew.alloc (.cells #[.int .i64 bf] 3)) ((Below.refl _ w2).drew.alloc (Nat.le_refl _) _) hown4 hg4 hv4
    obtain ⟨a4, cc4, hv4e, _⟩ := Own.slice hown4
    generalize (Tx.befs ps ++ [bf]).length = N4 at hv4e
    have e23 := HX.out.spot (W := w2.drew.alloc (.cells #[.int .i64 bf] 3)) ((Below.refl _ w2).drew.alloc (Nat.le_refl _) _) hg4 HX.out.bne HX.out.fv
    have e2 := e23.1.cell (j := 2) rfl
    have e3 := e23.1.frozen 2
    subst hv4e
    have H4 := Lib.hid hx4
    clear hown4 hg4 hv4 hx4 e23
    refine wpAny_take (i := 10) (v := ?_) (by simp only [List.getElem?_toArray, List.getElem?_cons_succ, List.getElem?_cons_zero]; exact rfl) (by kernel_rfl) (by kernel_rfl) (by kernel_rfl) (by exact fun _ _ _ h => h) (Or.inl ⟨by rfl, ?_⟩) ?_
    rotate_left
    · intro w; go_simp; try with_reducible rfl
    refine wpAny_take (i := 11) (v := ?_) (by simp only [List.getElem?_toArray, List.getElem?_cons_succ, List.getElem?_cons_zero]; exact rfl) (by kernel_rfl) (by kernel_rfl) (by kernel_rfl) (by exact fun _ _ _ h => h) (Or.inl ⟨by rfl, ?_⟩) ?_
    rotate_left
    · intro w; go_simp; try with_reducible rfl
    refine wpAny_ready (rs := [12]) (by kernel_rfl) (by simp) ?_
    refine AllReady.cons rfl (fun K hK => ?_) AllReady.nil
    go_simp
    refine hK _ _ ?_; clear hK K
    refine wpAny_done (by kernel_rfl) ?_ _
  )
  rotate_left
  focus (
    go_simp
    refine HL2.out.mono ?_
    rintro e w3 ⟨rfl, rfl⟩
    refine hK _ _ ?_; clear hK K
    refine wpAny_ready (rs := [4, 8]) (by kernel_rfl) (by simp) ?_
    refine AllReady.cons rfl (fun K hK => ?_) (AllReady.cons rfl (fun K hK => ?_) AllReady.nil)
    focus (
      go_simp
      refine hK _ _ ?_; clear hK K
      refine wpAny_ready (rs := [8]) (by kernel_rfl) (by simp) ?_
      refine AllReady.cons rfl (fun K hK => ?_) AllReady.nil
      go_simp
      refine hK _ _ ?_; clear hK K
      refine wpAny_ready (rs := [9]) (by kernel_rfl) (by simp) ?_
      refine AllReady.cons rfl (fun K hK => ?_) AllReady.nil
      refine wp_app2 intST _ _ rfl rfl (Own.alloc (show OwnN 0 w2.drew vb (Tx.befs ps) from HX.out.ob) _) (Nat.zero_le _) w2.heap.size 0 1 1 [bf] rfl rfl (lies_int w2.drew bf) (by have := HS.out.2.2.2; rw [Tx.befs_length]; omega) ?_; intro v4 w4 hown4 hg4 hv4
      refine hK _ _ ?_; clear hK K
      have hx4 := HX.out.befs' (W := w2.drew.alloc (.cells #[.int .i64 bf] 3)) ((Below.refl _ w2).drew.alloc (Nat.le_refl _) _) hown4 hg4 hv4
      obtain ⟨a4, cc4, hv4e, _⟩ := Own.slice hown4
      generalize (Tx.befs ps ++ [bf]).length = N4 at hv4e
      have e23 := HX.out.spot (W := w2.drew.alloc (.cells #[.int .i64 bf] 3)) ((Below.refl _ w2).drew.alloc (Nat.le_refl _) _) hg4 HX.out.bne HX.out.fv
      have e2 := e23.1.cell (j := 2) rfl
      have e3 := e23.1.frozen 2
      subst hv4e
      have H4 := Lib.hid hx4
      clear hown4 hg4 hv4 hx4 e23
      refine wpAny_take (i := 10) (v := ?_) (by simp only [List.getElem?_toArray, List.getElem?_cons_succ, List.getElem?_cons_zero]; exact rfl) (by kernel_rfl) (by kernel_rfl) (by kernel_rfl) (by exact fun _ _ _ h => h) (Or.inl ⟨by rfl, ?_⟩) ?_
      rotate_left
      · intro w; go_simp; try with_reducible rfl
      refine wpAny_take (i := 11) (v := ?_) (by simp only [List.getElem?_toArray, List.getElem?_cons_succ, List.getElem?_cons_zero]; exact rfl) (by kernel_rfl) (by kernel_rfl) (by kernel_rfl) (by exact fun _ _ _ h => h) (Or.inl ⟨by rfl, ?_⟩) ?_
      rotate_left
      · intro w; go_simp; try with_reducible rfl
      refine wpAny_ready (rs := [12]) (by kernel_rfl) (by simp) ?_
      refine AllReady.cons rfl (fun K hK => ?_) AllReady.nil
      go_simp
      refine hK _ _ ?_; clear hK K
      refine wpAny_done (by kernel_rfl) ?_ _
    )
    rotate_left
    focus (
      go_simp
      refine hK _ _ ?_; clear hK K
      refine wpAny_ready (rs := [4]) (by kernel_rfl) (by simp) ?_
      refine AllReady.cons rfl (fun K hK => ?_) AllReady.nil
      go_simp
      refine hK _ _ ?_; clear hK K
      refine wpAny_ready (rs := [9]) (by kernel_rfl) (by simp) ?_
      refine AllReady.cons rfl (fun K hK => ?_) AllReady.nil
      refine wp_app2 intST _ _ rfl rfl (Own.alloc (show OwnN 0 w2.drew vb (Tx.befs ps) from HX.out.ob) _) (Nat.zero_le _) w2.heap.size 0 1 1 [bf] rfl rfl (lies_int w2.drew bf) (by have := HS.out.2.2.2; rw [Tx.befs_length]; omega) ?_; intro v4 w4 hown4 hg4 hv4
      refine hK _ _ ?_; clear hK K
      have hx4 := HX.out.befs' (W := w2.drew.alloc (.cells #[.int .i64 bf] 3)) ((Below.refl _ w2).drew.alloc (Nat.le_refl _) _) hown4 hg4 hv4
      obtain ⟨a4, cc4, hv4e, _⟩ := Own.slice hown4
      generalize (Tx.befs ps ++ [bf]).length = N4 at hv4e
      have e23 := HX.out.spot (W := w2.drew.alloc (.cells #[.int .i64 bf] 3)) ((Below.refl _ w2).drew.alloc (Nat.le_refl _) _) hg4 HX.out.bne HX.out.fv
      have e2 := e23.1.cell (j := 2) rfl
      have e3 := e23.1.frozen 2
      subst hv4e
      have H4 := Lib.hid hx4
      clear hown4 hg4 hv4 hx4 e23
      refine wpAny_take (i := 10) (v := ?_) (by simp only [List.getElem?_toArray, List.getElem?_cons_succ, List.getElem?_cons_zero]; exact rfl) (by kernel_rfl) (by kernel_rfl) (by kernel_rfl) (by exact fun _ _ _ h => h) (Or.inl ⟨by rfl, ?_⟩) ?_
      rotate_left
      · intro w; go_simp; try with_reducible rfl
      refine wpAny_take (i := 11) (v := ?_) (by simp only [List.getElem?_toArray, List.getElem?_cons_succ, List.getElem?_cons_zero]; exact rfl) (by kernel_rfl) (by kernel_rfl) (by kernel_rfl) (by exact fun _ _ _ h => h) (Or.inl ⟨by rfl, ?_⟩) ?_
      rotate_left
      · intro w; go_simp; try with_reducible rfl
      refine wpAny_ready (rs := [12]) (by kernel_rfl) (by simp) ?_
      refine AllReady.cons rfl (fun K hK => ?_) AllReady.nil
      go_simp
      refine hK _ _ ?_; clear hK K
      refine wpAny_done (by kernel_rfl) ?_ _
    )
  )
  all_goals (
    obtain ⟨X, hX⟩ : ∃ X, X = w4.setCell ⟨tb, 2, none⟩ (.slice a4 N4 cc4) := ⟨_, rfl⟩
    rw [← hX] at H4 ⊢
    clear hX e2 e3
    obtain ⟨T1, HX1⟩ : ∃ T1, Hid (TxIn X T1 tb lb mb (.slice ap ps.length cp) (.slice a4 N4 cc4) ps (Tx.befs ps ++ [bf]) (Tx.lasts ps) ∧ Moved T w2 T1 X) := ⟨_, H4⟩
    have d1 : X.drew.cell? ⟨tb, 1, none⟩ = some (.slice ap ps.length cp) := HX1.out.1.c1
    have d3 : X.drew.cell? ⟨tb, 3, none⟩ = some (.map (some mb)) := HX1.out.1.c3
    obtain ⟨w5, hrun, hM5, hg5⟩ := IMap.store (T := 94) (show NMap X.drew mb (Tx.lasts ps) from HX1.out.1.mp.but ((But.refl (fun _ => False) X).drew) id) underInt underNMap (by have := Tx.lasts_len ps; have := HS.out.2.2.2; omega) (k := i) (by have := HS.out; omega) (t := Tx.un ps.length) (by show Tx.un _ = Tx.un (Tx.un _).length; rw [Tx.un_length])
    rw [numV_un] at hrun
    have H5 := Lib.hid (And.intro hM5 hg5)
    clear hM5 hg5
    go_wp2
    go_still_tail 10, (by kernel_rfl)
    change wpList _ _ _ _ _ X.drew
    have HY := Lib.hid (show TxIn w5 T1 tb lb mb (.slice ap ps.length cp) (.slice a4 N4 cc4) ps (Tx.befs ps ++ [bf]) (Wl.ins i (Tx.un ps.length) (Tx.lasts ps)) ∧ Moved T w2 T1 w5 by
      have hb5 : But (fun k => k = mb) X w5 := ((But.refl _ X).drew).trans (But.ofGrown H5.out.2) (fun k _ e => by injection e with e; exact e.symm)
      have hm := HX1.out.1.map' H5.out.1 hb5
      exact ⟨hm.1, HX1.out.2.trans hm.2⟩)
    clear d1 d3
    have f0 : w5.drew.cell? ⟨tb, 1, none⟩ = some (.slice ap ps.length cp) := HY.out.1.c1
    have HC := Lib.hid (clone_any s w5.drew (by have := HS.out; omega))
    go_wp2_with (refine wp_region_any (by kernel_rfl) ?_; refine Hid.out ?_)
    refine Lib.hid ?_
    try (change wpAny _ _ _ _ _ _ _ (World.drew _))
    refine wpAny_take (i := 0) (v := ?_) (by simp only [List.getElem?_toArray, List.getElem?_cons_zero]; exact rfl) (by kernel_rfl) (by kernel_rfl) (by kernel_rfl) (by exact fun _ _ _ h => h) (Or.inl ⟨by rfl, ?_⟩) ?_
    rotate_left
    · intro w; go_simp; try with_reducible rfl
    refine wpAny_take (i := 1) (v := ?_) (by simp only [List.getElem?_toArray, List.getElem?_cons_succ, List.getElem?_cons_zero]; exact rfl) (by kernel_rfl) (by kernel_rfl) (by kernel_rfl) (by exact fun _ _ _ h => h) (Or.inl ⟨by rfl, ?_⟩) ?_
    rotate_left
    · intro w; go_simp; try with_reducible rfl
    refine wpAny_take (i := 2) (v := ?_) (by simp only [List.getElem?_toArray, List.getElem?_cons_succ, List.getElem?_cons_zero]; exact rfl) (by kernel_rfl) (by kernel_rfl) (by kernel_rfl) (by exact fun _ _ _ h => h) (Or.inl ⟨by rfl, ?_⟩) ?_
    rotate_left
    · intro w; go_simp; try with_reducible rfl
    refine wpAny_take (i := 3) (v := ?_) (by simp only [List.getElem?_toArray, List.getElem?_cons_succ, List.getElem?_cons_zero]; exact rfl) (by kernel_rfl) (by kernel_rfl) (by kernel_rfl) (by exact fun _ _ _ h => h) (Or.inl ⟨by rfl, ?_⟩) ?_
    rotate_left
    · intro w; go_simp; try with_reducible rfl
    refine wpAny_take (i := 5) (v := ?_) (by simp only [List.getElem?_toArray, List.getElem?_cons_succ, List.getElem?_cons_zero]; exact rfl) (by kernel_rfl) (by kernel_rfl) (by kernel_rfl) (by exact fun _ _ _ h => h) (Or.inl ⟨by rfl, ?_⟩) ?_
    rotate_left
    · intro w; go_simp; try with_reducible rfl
    refine wpAny_take (i := 6) (v := ?_) (by simp only [List.getElem?_toArray, List.getElem?_cons_succ, List.getElem?_cons_zero]; exact rfl) (by kernel_rfl) (by kernel_rfl) (by kernel_rfl) (by exact fun _ _ _ h => h) (Or.inl ⟨by rfl, ?_⟩) ?_
    rotate_left
    · intro w; go_simp; try with_reducible rfl
    refine wpAny_ready (rs := [4, 7]) (by kernel_rfl) (by simp) ?_
    refine AllReady.cons rfl (fun K hK => ?_) (AllReady.cons rfl (fun K hK => ?_) AllReady.nil)
    focus (
      go_simp
      refine hK _ _ ?_; clear hK K
      refine wpAny_ready (rs := [7]) (by kernel_rfl) (by simp) ?_
      refine AllReady.cons rfl (fun K hK => ?_) AllReady.nil
      go_simp
      refine HC.out.mono ?_; rintro e w6 ⟨rfl, hb6⟩; have H6 := Lib.hid (((Below.refl _ w5).drew).trans hb6); clear hb6
      refine hK _ _ ?_; clear hK K
      refine wpAny_take (i := 8) (v := ?_) (by simp only [List.getElem?_toArray, List.getElem?_cons_succ, List.getElem?_cons_zero]; exact rfl) (by kernel_rfl) (by kernel_rfl) (by kernel_rfl) (by exact fun _ _ _ h => h) (Or.inl ⟨by rfl, ?_⟩) ?_
      rotate_left
      · intro w; go_simp; try with_reducible rfl
      refine wpAny_ready (rs := [9]) (by kernel_rfl) (by simp) ?_
      refine AllReady.cons rfl (fun K hK => ?_) AllReady.nil
      go_simp
      refine hK _ _ ?_; clear hK K
      refine wpAny_ready (rs := [10]) (by kernel_rfl) (by simp) ?_
      refine AllReady.cons rfl (fun K hK => ?_) AllReady.nil
      refine wp_app2 putST _ _ rfl rfl (Own.alloc (HY.out.1.below H6.out).op _) (Nat.zero_le _) w6.heap.size 0 1 1 [(i, s.data.toList)] rfl rfl (lies_put w6 i s) (by have := HS.out.2.2.2; omega) ?_; intro v8 w8 hown8 hg8 hv8
      refine hK _ _ ?_; clear hK K
      have HY6 := Lib.hid (show Below w5.heap.size w5 (w6.alloc (.cells #[.int .i64 i, .string s] 99)) from H6.out.alloc H6.out.size _)
      have hx8 := HY.out.1.puts' HY6.out hown8 hg8 hv8 (fun p hp => by
        rcases List.mem_append.1 hp with hp | hp
        · exact HX.out.small p hp
        · obtain rfl := List.mem_singleton.1 hp
          have := HS.out
          refine ⟨by show i ≤ 65536; omega, ?_⟩
          show s.data.toList.length ≤ 512
          rw [Array.length_toList]; exact this.1)
      obtain ⟨a8, cc8, hv8e, _⟩ := Own.slice hown8
      generalize (ps ++ [(i, s.data.toList)]).length = N8 at hv8e
      have e23 := HY.out.1.spot HY6.out hg8 HY.out.1.pne HY.out.1.fp
      have e2 := e23.1.cell (j := 1) rfl
      have e3 := e23.1.frozen 1
      subst hv8e
      have H8 := Lib.hid hx8
      clear hown8 hg8 hv8 hx8 e23
      refine wpAny_take (i := 11) (v := ?_) (by simp only [List.getElem?_toArray, List.getElem?_cons_succ, List.getElem?_cons_zero]; exact rfl) (by kernel_rfl) (by kernel_rfl) (by kernel_rfl) (by exact fun _ _ _ h => h) (Or.inl ⟨by rfl, ?_⟩) ?_
      rotate_left
      · intro w; go_simp; try with_reducible rfl
      refine wpAny_take (i := 12) (v := ?_) (by simp only [List.getElem?_toArray, List.getElem?_cons_succ, List.getElem?_cons_zero]; exact rfl) (by kernel_rfl) (by kernel_rfl) (by kernel_rfl) (by exact fun _ _ _ h => h) (Or.inl ⟨by rfl, ?_⟩) ?_
      rotate_left
      · intro w; go_simp; try with_reducible rfl
      refine wpAny_ready (rs := [13]) (by kernel_rfl) (by simp) ?_
      refine AllReady.cons rfl (fun K hK => ?_) AllReady.nil
      go_simp
      refine hK _ _ ?_; clear hK K
      refine wpAny_done (by kernel_rfl) ?_ _
    )
    rotate_left
    focus (
      go_simp
      refine HC.out.mono ?_
      rintro e w6 ⟨rfl, hb6⟩
      have H6 := Lib.hid (((Below.refl _ w5).drew).trans hb6)
      clear hb6
      refine hK _ _ ?_; clear hK K
      refine wpAny_take (i := 8) (v := ?_) (by simp only [List.getElem?_toArray, List.getElem?_cons_succ, List.getElem?_cons_zero]; exact rfl) (by kernel_rfl) (by kernel_rfl) (by kernel_rfl) (by exact fun _ _ _ h => h) (Or.inl ⟨by rfl, ?_⟩) ?_
      rotate_left
      · intro w; go_simp; try with_reducible rfl
      have f1 : w6.cell? ⟨tb, 1, none⟩ = some (.slice ap ps.length cp) := (HY.out.1.below H6.out).c1
      have f2 : (w6.alloc (.cells #[.int .i64 i, .string s] 99)).cell? ⟨tb, 1, none⟩ = some (.slice ap ps.length cp) := ((HY.out.1.below H6.out).below ((Below.refl _ w6).alloc (Nat.le_refl _) _)).c1
      refine wpAny_ready (rs := [4, 9]) (by kernel_rfl) (by simp) ?_
      refine AllReady.cons rfl (fun K hK => ?_) (AllReady.cons rfl (fun K hK => ?_) AllReady.nil)
      focus (
        go_simp
        refine hK _ _ ?_; clear hK K
        refine wpAny_ready (rs := [9]) (by kernel_rfl) (by simp) ?_
        refine AllReady.cons rfl (fun K hK => ?_) AllReady.nil
        go_simp
        refine hK _ _ ?_; clear hK K
        refine wpAny_ready (rs := [10]) (by kernel_rfl) (by simp) ?_
        refine AllReady.cons rfl (fun K hK => ?_) AllReady.nil
        refine wp_app2 putST _ _ rfl rfl (Own.alloc (HY.out.1.below H6.out).op _) (Nat.zero_le _) w6.heap.size 0 1 1 [(i, s.data.toList)] rfl rfl (lies_put w6 i s) (by have := HS.out.2.2.2; omega) ?_; intro v8 w8 hown8 hg8 hv8
        refine hK _ _ ?_; clear hK K
        have HY6 := Lib.hid (show Below w5.heap.size w5 (w6.alloc (.cells #[.int .i64 i, .string s] 99)) from H6.out.alloc H6.out.size _)
        have hx8 := HY.out.1.puts' HY6.out hown8 hg8 hv8 (fun p hp => by
          rcases List.mem_append.1 hp with hp | hp
          · exact HX.out.small p hp
          · obtain rfl := List.mem_singleton.1 hp
            have := HS.out
            refine ⟨by show i ≤ 65536; omega, ?_⟩
            show s.data.toList.length ≤ 512
            rw [Array.length_toList]; exact this.1)
        obtain ⟨a8, cc8, hv8e, _⟩ := Own.slice hown8
        generalize (ps ++ [(i, s.data.toList)]).length = N8 at hv8e
        have e23 := HY.out.1.spot HY6.out hg8 HY.out.1.pne HY.out.1.fp
        have e2 := e23.1.cell (j := 1) rfl
        have e3 := e23.1.frozen 1
        subst hv8e
        have H8 := Lib.hid hx8
        clear hown8 hg8 hv8 hx8 e23
        refine wpAny_take (i := 11) (v := ?_) (by simp only [List.getElem?_toArray, List.getElem?_cons_succ, List.getElem?_cons_zero]; exact rfl) (by kernel_rfl) (by kernel_rfl) (by kernel_rfl) (by exact fun _ _ _ h => h) (Or.inl ⟨by rfl, ?_⟩) ?_
        rotate_left
        · intro w; go_simp; try with_reducible rfl
        refine wpAny_take (i := 12) (v := ?_) (by simp only [List.getElem?_toArray, List.getElem?_cons_succ, List.getElem?_cons_zero]; exact rfl) (by kernel_rfl) (by kernel_rfl) (by kernel_rfl) (by exact fun _ _ _ h => h) (Or.inl ⟨by rfl, ?_⟩) ?_
        rotate_left
        · intro w; go_simp; try with_reducible rfl
        refine wpAny_ready (rs := [13]) (by kernel_rfl) (by simp) ?_
        refine AllReady.cons rfl (fun K hK => ?_) AllReady.nil
        go_simp
        refine hK _ _ ?_; clear hK K
        refine wpAny_done (by kernel_rfl) ?_ _
      )
      rotate_left
      focus (
        go_simp
        refine hK _ _ ?_; clear hK K
        refine wpAny_ready (rs := [4]) (by kernel_rfl) (by simp) ?_
        refine AllReady.cons rfl (fun K hK => ?_) AllReady.nil
        go_simp
        refine hK _ _ ?_; clear hK K
        refine wpAny_ready (rs := [10]) (by kernel_rfl) (by simp) ?_
        refine AllReady.cons rfl (fun K hK => ?_) AllReady.nil
        refine wp_app2 putST _ _ rfl rfl (Own.alloc (HY.out.1.below H6.out).op _) (Nat.zero_le _) w6.heap.size 0 1 1 [(i, s.data.toList)] rfl rfl (lies_put w6 i s) (by have := HS.out.2.2.2; omega) ?_; intro v8 w8 hown8 hg8 hv8
        refine hK _ _ ?_; clear hK K
        have HY6 := Lib.hid (show Below w5.heap.size w5 (w6.alloc (.cells #[.int .i64 i, .string s] 99)) from H6.out.alloc H6.out.size _)
        have hx8 := HY.out.1.puts' HY6.out hown8 hg8 hv8 (fun p hp => by
          rcases List.mem_append.1 hp with hp | hp
          · exact HX.out.small p hp
          · obtain rfl := List.mem_singleton.1 hp
            have := HS.out
            refine ⟨by show i ≤ 65536; omega, ?_⟩
            show s.data.toList.length ≤ 512
            rw [Array.length_toList]; exact this.1)
        obtain ⟨a8, cc8, hv8e, _⟩ := Own.slice hown8
        generalize (ps ++ [(i, s.data.toList)]).length = N8 at hv8e
        have e23 := HY.out.1.spot HY6.out hg8 HY.out.1.pne HY.out.1.fp
        have e2 := e23.1.cell (j := 1) rfl
        have e3 := e23.1.frozen 1
        subst hv8e
        have H8 := Lib.hid hx8
        clear hown8 hg8 hv8 hx8 e23
        refine wpAny_take (i := 11) (v := ?_) (by simp only [List.getElem?_toArray, List.getElem?_cons_succ, List.getElem?_cons_zero]; exact rfl) (by kernel_rfl) (by kernel_rfl) (by kernel_rfl) (by exact fun _ _ _ h => h) (Or.inl ⟨by rfl, ?_⟩) ?_
        rotate_left
        · intro w; go_simp; try with_reducible rfl
        refine wpAny_take (i := 12) (v := ?_) (by simp only [List.getElem?_toArray, List.getElem?_cons_succ, List.getElem?_cons_zero]; exact rfl) (by kernel_rfl) (by kernel_rfl) (by kernel_rfl) (by exact fun _ _ _ h => h) (Or.inl ⟨by rfl, ?_⟩) ?_
        rotate_left
        · intro w; go_simp; try with_reducible rfl
        refine wpAny_ready (rs := [13]) (by kernel_rfl) (by simp) ?_
        refine AllReady.cons rfl (fun K hK => ?_) AllReady.nil
        go_simp
        refine hK _ _ ?_; clear hK K
        refine wpAny_done (by kernel_rfl) ?_ _
      )
    )
    all_goals (
      go_wp2
      go_ret
      exact ⟨rfl, _, ⟨mb, _, _, by rw [Tx.befs_snoc, Tx.lasts_snoc, ← HBf.out]; exact H8.out.1⟩, HY.out.2.trans H8.out.2⟩
    )
  )
set_option maxRecDepth 100000 in
theorem txwrite_no (w : World) (T : Nat → Prop) (tb lb n : Nat) (ps : List (Nat × List UInt8)) (i : Int) (s : ByteArray) (h : TxP w T tb lb ps) (hl : Awake w lb n) (c : Int)
    (hc : (c = 2 ∧ (i < 0 ∨ (n : Int) ≤ i)) ∨ (c = 5 ∧ 0 ≤ i ∧ i < n ∧ 512 < s.size)) :
    Calls Tryz.prog 13 #[ptr tb, .int .i64 i, .string s] w fun e w' => e = .returned (.int .i64 c) ∧ w' = w := by
  have HP := Lib.hid h
  have HA := Lib.hid hl
  obtain ⟨F, g, sl, hL, ho, hhom⟩ := hl
  have HL := Lib.hid hL
  obtain ⟨mb, vp, vb, hx⟩ := h
  have c0 := hx.c0
  clear hL hx
  go_enter Tryz.func13, Tryz.ntmps13
  go_wp2_with fail
  refine (isDown_any w T tb lb n ps HP.out HA.out).mono ?_
  rintro e w1 ⟨rfl, rfl⟩
  unfold ptr
  rcases hc with ⟨rfl, hc⟩ | ⟨rfl, h1, h2, h3⟩
  · by_cases h0 : i < 0
    · go_wp2
      go_ret
      exact ⟨rfl, rfl⟩
    · have hn : (n : Int) ≤ i := hc.resolve_left h0
      go_wp2_with fail
      refine (homes_any w1 F lb g sl HL.out).mono ?_
      rintro e w2 ⟨rfl, rfl⟩
      rw [hhom]
      go_wp2
      go_ret
      exact ⟨rfl, rfl⟩
  · have h0 : ¬ i < 0 := by omega
    have h4 : ¬ (n : Int) ≤ i := by omega
    have h5 : (s.size : Int) > 512 := by omega
    go_wp2_with fail
    refine (homes_any w1 F lb g sl HL.out).mono ?_
    rintro e w2 ⟨rfl, rfl⟩
    rw [hhom]
    go_wp2
    go_ret
    exact ⟨rfl, rfl⟩
end Go.Proofs.YtahnhhhhfioibaaGreatDoor
