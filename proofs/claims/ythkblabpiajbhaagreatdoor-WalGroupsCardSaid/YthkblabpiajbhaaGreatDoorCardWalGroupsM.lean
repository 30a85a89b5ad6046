/- WalGroups: for every list of lists of puts the function of the statement returns true: lists put at once come to the same as put one behind the other, where each has room. Conditions: none beside those of the form; no walk reads the two tables that are laid. -/
import Derived.Test.YthkblabpiajbhaaGreatDoorG3
import Derived.Test.YthkblabpiajbhaaGreatDoorG4
import Derived.Test.YthkblabpiajbhaaGreatDoorG6
namespace Go.Proofs.YthkblabpiajbhaaGreatDoor
open Go.RowKit Lib

def lenV : Value → Nat | .slice _ n _ => n | _ => 0

set_option maxRecDepth 100000 in
theorem full_any (s : ByteArray) (w : World) (hs : s.size ≤ 1000) :
    Calls Tryz.prog 38 #[.string s] w fun e w' => e = .returned (.string (bs (Dk.full s.data.toList))) ∧ Below w.heap.size w w' := by
  obtain ⟨v0, o0, hcv, hown⟩ := own_of_string w s (by omega)
  have HO := Lib.hid hown
  have hl : s.data.toList.length = s.size := Array.length_toList
  go_enter Tryz.func38, Tryz.ntmps38
  go_wp2
  go_loopw [3] (fun v wr => ∃ n : Nat, (s.size + n ≤ 512 ∨ n = 0) ∧ Hid (OwnG w.heap.size wr v (s.data.toList ++ List.replicate n 0)) ∧ Hid (Below w.heap.size w wr)) (fun v _ => 512 - lenV v)
  case atStart =>
    refine ⟨0, .inr rfl, ?_, Lib.hid ?_⟩
    · rw [List.replicate_zero, List.append_nil]
      exact HO
    · exact ((Below.refl _ w).drew).alloc (Nat.le_refl _) _
  case round =>
    obtain ⟨n, hn, ho, hb⟩ := hrel
    obtain ⟨g, cap, rfl, hg⟩ := ho.out.slice
    have hlen : (s.data.toList ++ List.replicate n 0).length = s.size + n := by rw [List.length_append, List.length_replicate, hl]
    rw [hlen] at ho ⊢
    have HL := Lib.hid hlen
    have HN := Lib.hid hn
    clear hn
    by_cases hlt : s.size + n < 512
    · have hI : ((s.size + n : Nat) : Int) < 512 := by omega
      clear hlen hl
      go_wp2_with (at_builtin; refine Hid.out ?_)
      refine Lib.hid ?_
      have hsz := hb.out.size
      refine wpList_app_byte rfl _ _ rfl rfl (ho.out.alloc _) (by simp; omega) wr.heap.size 0 rfl ((Blk.new wr #[.int .u8 0] 5).cell rfl) (by rw [HL.out]; omega) ?_
      intro v' w4 hown4 hb4
      have hbb := (hb.out.alloc (by have := hb.out.size; exact this) (.cells #[.int .u8 0] 5)).trans hb4
      obtain ⟨g', cap', rfl, _⟩ := hown4.slice
      have hl4 : (s.data.toList ++ List.replicate n 0 ++ [0]).length = s.size + n + 1 := by rw [List.length_append, HL.out]; rfl
      rw [hl4] at hown4 ⊢
      have H4 := Lib.hid (And.intro hown4 hbb)
      clear hown4 hb4 hbb hl4
      go_wp2
      go_roundw
      case rel =>
        refine ⟨n + 1, .inl (by omega), ?_, Lib.hid H4.out.2⟩
        rw [List.replicate_succ', ← List.append_assoc]
        exact Lib.hid H4.out.1
      case measure => simp [lenV]; omega
    · have hI : ¬ ((s.size + n : Nat) : Int) < 512 := by omega
      have hback := ho.out.back (by rw [HL.out])
      have HF := Lib.hid (show s.data.toList ++ List.replicate n 0 = Dk.full s.data.toList by
        unfold Dk.full
        rw [hl]
        congr 2
        have := HN.out
        omega)
      rw [HF.out] at hback
      clear hlen hl
      go_wp2
      go_ret
      exact ⟨rfl, hb.out⟩

theorem OwnS.put {B : Nat} {w : World} {f n cf : Nat} {l : List (List UInt8)} (h : OwnS B w (.slice (some ⟨f, 0, none⟩) n cf) l) (j : Nat) (t : List UInt8) : OwnS B (w.setCell ⟨f, j, none⟩ (.string (bs t))) (.slice (some ⟨f, 0, none⟩) n cf) (l.set j t) := by
  have := Own.store (f := fun s => Value.string s) (hf := fun _ => rfl) h j (bs t)
  show Own _ _ _ _ _ _
  rw [List.map_set]
  exact this
theorem OwnS.but' {S : Nat → Prop} {B : Nat} {w w' : World} {v : Value} {l : List (List UInt8)} (h : OwnS B w v l) (hb : But S w w') (hn : ∀ g, v.ownBlock = some g → ¬ S g) : OwnS B w' v l := Own.but h hb hn
theorem OwnS.strAt {B : Nat} {w : World} {f n cf : Nat} {l : List (List UInt8)} (h : OwnS B w (.slice (some ⟨f, 0, none⟩) n cf) l) (j : Nat) (hj : j < l.length) : w.cell? ⟨f, j, none⟩ = some (.string (bs l[j])) := by
  have := Own.lies (show Own strElem 9 B w (.slice (some ⟨f, 0, none⟩) n cf) (l.map bs) from h) j (.string (bs l[j])) (by rw [show strElem.cells (l.map bs) = (l.map bs).map (fun s => Value.string s) from oneElem_cells _ _ _]; simp [hj])
  rwa [Nat.zero_add] at this
theorem own_lit0 {α : Type} (K : Elem α) (E : TypeId) (w : World) : Own K E w.heap.size (w.alloc (.cells #[] E)) (.slice (some ⟨w.heap.size, 0, none⟩) 0 0) [] := World.ownsRow_lit w #[] 0 (Nat.le_refl _) (by decide) (by simp)
theorem size5_any (n : Nat) (w : World) (hn : n ≤ 1000000) :
    Calls Tryz.prog 50 #[.int .i64 n] w fun e w' => e = .returned (.int .i64 (Wl.sizeOf n : Nat)) ∧ w' = w := by
  go_enter Tryz.func50, Tryz.ntmps50
  have h0 : (516 * (n : Int) + 510).tdiv 511 = (((516 * n + 510) / 511 : Nat) : Int) := by
    rw [Int.tdiv_eq_ediv_of_nonneg (by omega)]; omega
  go_wp2
  go_ret
  refine ⟨?_, rfl⟩
  rw [show Wl.sizeOf n = 1 + (516 * n + 510) / 511 from rfl]
  simp

set_option maxRecDepth 100000 in
theorem new5_any (n : Nat) (w : World) (hn : n ≤ 1000) :
    Calls Tryz.prog 16 #[.int .i64 n] w fun e w' => ∃ v, e = .returned v ∧ OwnS w.heap.size w' v (Wl.noughts n) ∧ Below w.heap.size w w' := by
  go_enter Tryz.func16, Tryz.ntmps16
  go_wp2_with fail
  refine (full_any ⟨#[]⟩ _ (by decide)).mono ?_
  rintro e w1 ⟨rfl, hb1⟩
  have HB := Lib.hid hb1
  clear hb1
  rw [show Dk.full (⟨#[]⟩ : ByteArray).data.toList = Dk.full [] from rfl]
  go_wp2
  go_loopw [3, 5] (fun v i wr => ∃ k : Nat, k ≤ n ∧ i = .int .i64 k ∧ Hid (OwnS w.heap.size wr v (List.replicate k (Dk.full []))) ∧ Hid (Below w.heap.size w wr)) (fun _ i _ => n - (Go.RowKit.intOf i).toNat)
  case atStart => exact ⟨0, Nat.zero_le _, rfl, Lib.hid (Own.nil _ _ _ _), HB⟩
  case round =>
    obtain ⟨k, hk, rfl, ho, hb⟩ := hrel
    by_cases hlt : k < n
    · have hI : (k : Int) < n := by omega
      go_wp2_with (at_builtin; refine Hid.out ?_)
      refine Lib.hid ?_
      refine wpList_app stringST rfl _ _ rfl rfl (Own.alloc ho.out _) (by have := hb.out.size; simp; omega) wr.heap.size 0 1 1 [bs (Dk.full [])] rfl rfl (lies_new wr _) (by simp; omega) ?_
      intro v4 w4 hown4 hg4
      have hsz := hb.out.size
      have hb4 := (hb.out.alloc (by omega) (.cells #[.string (bs (Dk.full []))] 9)).grown hg4 (by simp; omega) (fun x hx => by have := (Own.block ho.out x hx).1; omega)
      have H4 := Lib.hid (show OwnS w.heap.size w4 v4 (List.replicate (k + 1) (Dk.full [])) ∧ Below w.heap.size w w4 by
        refine ⟨?_, hb4⟩
        show Own _ _ _ _ _ _
        rw [List.replicate_succ', List.map_append]
        exact hown4)
      clear hown4 hg4 hb4 ho hb
      go_wp2
      go_roundw
      case rel => exact ⟨k + 1, by omega, by go_num, Lib.hid H4.out.1, Lib.hid H4.out.2⟩
      case measure => simp [Go.RowKit.intOf]; omega
    · have hke : k = n := by omega
      subst hke
      go_wp2
      go_ret
      exact ⟨_, rfl, ho.out, hb.out⟩
end Go.Proofs.YthkblabpiajbhaaGreatDoor

namespace Go.Proofs.YthkblabpiajbhaaGreatDoor
set_option maxRecDepth 100000
open Go.ChangeShapes Go.WideShapes Go.ChangeAt Go.RowKit Lib

structure ActW where
  what : Int
  n : Int
  vl : Value
  ll : List (Value × List PutD)
  vk : Value
  keep : List Bool
  va : Value
  again : List Bool
instance : Inhabited ActW := ⟨⟨0, 0, .slice none 0 0, [], .slice none 0 0, [], .slice none 0 0, []⟩⟩
structure ActW.ok (W : World) (x : ActW) : Prop where
  w1 : -9223372036854775808 ≤ x.what ∧ x.what ≤ 9223372036854775807
  n1 : -9223372036854775808 ≤ x.n ∧ x.n ≤ 9223372036854775807
  l : RdL W x.vl x.ll
  k : RdB W x.vk x.keep
  a : RdB W x.va x.again
def ActW.cells (x : ActW) : List Value := [.int .i64 x.what, .int .i64 x.n, x.vl, x.vk, x.va]
/-- v reads as the acts l. -/
def RdW (w : World) (v : Value) (l : List ActW) : Prop :=
  ∃ (a : Option Addr) (cap : Nat), v = .slice a l.length cap ∧ l.length ≤ cap ∧ l.length ≤ 9223372036854775807 ∧ ∀ i (hi : i < l.length), l[i].ok w ∧ ∃ g o, a = some ⟨g, o, none⟩ ∧ g < w.heap.size ∧
    ∀ j (hj : j < l.length) m, m < 5 → w.cell? ⟨g, o + (j * 5 + m), none⟩ = l[j].cells[m]?
theorem act5_in {H : Type} {enc : TypeId × Value → H} {W : World} {n : Nat} {cs : List Value} {y : DataW H × List MemPlace} (hcl : cs.length = 5)
    (h : DataW.trod enc Tryz.prog W 0 (fun _ => true) true n 40 cs = some y) : ∃ x : ActW, cs = x.cells ∧ x.ok W := by
  obtain ⟨xs, k, _, _, _, hxl, hf⟩ := DataW.trod_struct Tryz.underlying40 h
  have ci : Tryz.prog.cellsOf 3 = 1 := by kernel_rfl
  have cl : Tryz.prog.cellsOf 37 = 1 := by kernel_rfl
  have cb : Tryz.prog.cellsOf 38 = 1 := by kernel_rfl
  match xs, hxl, cs, hcl with
  | [y0, y1, y2, y3, y4], _, [v0, v1, v2, v3, v4], _ =>
    have g0 := hf 0 _ rfl
    have g1 := hf 1 _ rfl
    have g2 := hf 2 _ rfl
    have g3 := hf 3 _ rfl
    have g4 := hf 4 _ rfl
    simp [ci, cl, cb] at g0 g1 g2 g3 g4
    obtain ⟨m0, e0, _, hw0⟩ := DataW.trod_int Tryz.underlying3 g0
    obtain ⟨m1, e1, _, hw1⟩ := DataW.trod_int Tryz.underlying3 g1
    obtain ⟨l, hl⟩ := lists_in' g2
    obtain ⟨b, hb⟩ := bools_in' g3
    obtain ⟨b', hb'⟩ := bools_in' g4
    injection e0 with e0 _
    injection e1 with e1 _
    subst e0 e1
    exact ⟨⟨m0, m1, v2, l, v3, b, v4, b'⟩, rfl, ⟨int_wf hw0, int_wf hw1, hl, hb, hb'⟩⟩
theorem acts5_in {H : Type} {enc : TypeId × Value → H} {W : World} {base : Nat} {v : Value} {d : DataW H} {p : List MemPlace}
    (hval : Value.okWide Tryz.prog W .any base 22 v) (hd : DataW.Trod enc Tryz.prog W 0 (fun _ => true) true 22 v d p) : ∃ l, RdW W v l := by
  obtain ⟨a, n, cap, rfl⟩ := okWide_slice Tryz.underlying22 hval
  obtain ⟨f, hf⟩ := hd
  obtain ⟨l, a, cap, e, h1, h2, h3⟩ := row_in (W := W) (fun x : ActW => x.cells) (fun x => x.ok W) Tryz.underlying22 (c := 5) (by kernel_rfl) (by decide) (fun n cs y hl h => act5_in hl h) hf
  exact ⟨l, a, cap, e, h1, h2, h3⟩
theorem ActW.ok.below {w w' : World} {x : ActW} (h : x.ok w) (hb : Below w.heap.size w w') : x.ok w' := ⟨h.w1, h.n1, h.l.below hb, h.k.below hb, h.a.below hb⟩
theorem RdW.below {w w' : World} {v : Value} {l : List ActW} (h : RdW w v l) (hb : Below w.heap.size w w') : RdW w' v l := by
  obtain ⟨a, cap, rfl, hc, hm, hi⟩ := h
  refine ⟨a, cap, rfl, hc, hm, fun i hil => ?_⟩
  obtain ⟨h0, g, o, rfl, e2, e3⟩ := hi i hil
  exact ⟨h0.below hb, g, o, rfl, Nat.lt_of_lt_of_le e2 hb.size, fun j hj m hm => by
    rw [← e3 j hj m hm]
    exact World.cell?_of_block (hb.block g e2)⟩
theorem RdW.one (w : World) (v : Value) (ll : List (Value × List PutD)) (h : RdL w v ll) :
    RdW (w.alloc (.cells #[.int .i64 0, .int .i64 0, v, .slice none 0 0, .slice none 0 0] 40)) (.slice (some ⟨w.heap.size, 0, none⟩) 1 1) [⟨0, 0, v, ll, .slice none 0 0, [], .slice none 0 0, []⟩] := by
  have hbl := Blk.new w #[.int .i64 0, .int .i64 0, v, .slice none 0 0, .slice none 0 0] 40
  refine ⟨_, 1, rfl, Nat.le_refl _, by simp, fun i hi => ⟨?_, w.heap.size, 0, rfl, hbl.lt, fun j hj m hm => ?_⟩⟩
  · obtain rfl : i = 0 := by simpa using hi
    exact ⟨(show (-9223372036854775808 : Int) ≤ 0 ∧ (0 : Int) ≤ 9223372036854775807 by decide), (show (-9223372036854775808 : Int) ≤ 0 ∧ (0 : Int) ≤ 9223372036854775807 by decide), h.below ((Below.refl _ _).alloc (Nat.le_refl _) _), RdB.nil _, RdB.nil _⟩
  · obtain rfl : j = 0 := by simpa using hj
    match m, hm with
    | 0, _ => exact hbl.cell rfl
    | 1, _ => exact hbl.cell rfl
    | 2, _ => exact hbl.cell rfl
    | 3, _ => exact hbl.cell rfl
    | 4, _ => exact hbl.cell rfl
def SmallTo (w w' : World) (l : List ActW) (e : Ending) : Prop := ∃ b : Bool, e = .returned (.bool b) ∧ (b = true → l.length ≤ 40) ∧ Below w.heap.size w w'
theorem wrap64_in (z : Int) : -9223372036854775808 ≤ wrap64 z ∧ wrap64 z ≤ 9223372036854775807 := by
  unfold wrap64
  constructor <;> (try split) <;> omega
set_option maxRecDepth 100000 in
set_option maxHeartbeats 4000000 in
theorem small_any (w : World) (v : Value) (l : List ActW) (hl : RdW w v l) :
    Calls Tryz.prog 10 #[v] w fun e w' => SmallTo w w' l e := by
  obtain ⟨a, cap, rfl, hc, hm, hrl⟩ := hl
  have HR := Lib.hid hrl
  clear hrl hc
  go_enter Tryz.func10, Tryz.ntmps10
  by_cases h40 : l.length ≤ 40
  · have j1 : (l.length : Int) ≤ 40 := by omega
    have H40 := Lib.hid h40
    go_wp2
    go_loopw [3, 15] (fun t i wr => ∃ (k : Nat) (z : Int), k ≤ l.length ∧ t = .int .i64 z ∧ i = .int .i64 k ∧ Hid (Below w.heap.size w wr)) (fun _ i _ => l.length - (Go.RowKit.intOf i).toNat)
    case atStart => exact ⟨0, 0, Nat.zero_le _, rfl, rfl, Lib.hid (Below.refl _ _)⟩
    case round =>
      obtain ⟨k, z, hk, rfl, rfl, hB⟩ := hrel
      by_cases hlt : k < l.length
      · have hI : (k : Int) < l.length := by omega
        obtain ⟨hok, ga, oa, rfl, hga, hxa⟩ := HR.out k hlt
        have cc : ∀ m, m < 5 → wr.cell? ⟨ga, oa + (k * 5 + m), none⟩ = l[k].cells[m]? := fun m hm => (World.cell?_of_block (hB.out.block ga hga)).trans (hxa k hlt m hm)
        have c0 := cc 0 (by decide)
        have c1 := cc 1 (by decide)
        have c2 := cc 2 (by decide)
        have c3 := cc 3 (by decide)
        have c4 := cc 4 (by decide)
        simp only [ActW.cells, List.getElem?_cons_succ, List.getElem?_cons_zero, Nat.add_zero, ← Nat.add_assoc] at c0 c1 c2 c3 c4
        obtain ⟨hL, hK, hA⟩ : RdL w l[k].vl l[k].ll ∧ RdB w l[k].vk l[k].keep ∧ RdB w l[k].va l[k].again := ⟨hok.l, hok.k, hok.a⟩
        have HLt := Lib.hid hlt
        clear cc hxa hok
        generalize l[k] = x at *
        obtain ⟨xw, xn, vl, ll, vk, keep, va, again⟩ := x
        simp only at c0 c1 c2 c3 c4 hL hK hA
        obtain ⟨al, capl, rfl, _, hml, hrl⟩ := hL
        obtain ⟨ak, capk, rfl, _, _⟩ := hK
        obtain ⟨aa, capa, rfl, _, _⟩ := hA
        have HL := Lib.hid hrl
        have hbp := hB.out.alloc hB.out.size (.cells #[.int .i64 xw, .int .i64 xn, .slice al ll.length capl, .slice ak keep.length capk, .slice aa again.length capa] 40)
        have HBp := Lib.hid hbp
        clear hrl hbp hB
        by_cases h10 : ll.length ≤ 10
        · have q1 : (ll.length : Int) ≤ 10 := by omega
          by_cases hk2 : (keep.length : Int) ≤ 200
          · by_cases ha2 : (again.length : Int) ≤ 200
            · go_wp2
              clear c0 c1 c2 c3 c4
              obtain ⟨X, hX⟩ : ∃ X, X = wr.alloc (.cells #[.int .i64 xw, .int .i64 xn, .slice al ll.length capl, .slice ak keep.length capk, .slice aa again.length capa] 40) := ⟨_, rfl⟩
              rw [← hX] at HBp ⊢
              clear hX
              go_loopw [3, 38] (fun t i wq => ∃ (j : Nat) (z : Int), j ≤ ll.length ∧ t = .int .i64 z ∧ i = .int .i64 j ∧ Hid (Below w.heap.size w wq)) (fun _ i _ => ll.length - (Go.RowKit.intOf i).toNat)
              case atStart => exact ⟨0, z, Nat.zero_le _, rfl, rfl, HBp⟩
              case round =>
                obtain ⟨j, z, hj, rfl, rfl, hB⟩ := hrel
                by_cases hlt2 : j < ll.length
                · have hI2 : (j : Int) < ll.length := by omega
                  obtain ⟨hP, gl, ol, rfl, hgl, hxl⟩ := HL.out j hlt2
                  obtain ⟨pv, ps, d0, hP⟩ : ∃ pv ps, wr.cell? ⟨gl, ol + j, none⟩ = some pv ∧ RdP w pv ps := ⟨_, _, (hB.out.cell (p := ⟨gl, ol + j, none⟩) hgl).trans (hxl j hlt2), hP⟩
                  have HLt2 := Lib.hid hlt2
                  obtain ⟨ap, capp, rfl, _, hmp, hrp⟩ := hP
                  have HP := Lib.hid hrp
                  clear hrp hxl
                  obtain ⟨y, hy⟩ : ∃ y, y = wrap64 (z + ps.length) := ⟨_, rfl⟩
                  by_cases h200 : wrap64 (z + ps.length) ≤ 200
                  · have hno : ¬ wrap64 (z + ps.length) > 200 := by omega
                    go_wp2
                    go_loopw [50] (fun i wq => ∃ m : Nat, m ≤ ps.length ∧ i = .int .i64 m ∧ Hid (Below w.heap.size w wq)) (fun i _ => ps.length - (Go.RowKit.intOf i).toNat)
                    case atStart => exact ⟨0, Nat.zero_le _, rfl, hB⟩
                    case round =>
                      clear hB d0
                      obtain ⟨m, hm3, rfl, hB⟩ := hrel
                      by_cases hlt3 : m < ps.length
                      · have hI3 : (m : Int) < ps.length := by omega
                        obtain ⟨_, gp, op, rfl, hgp, hxp⟩ := HP.out m hlt3
                        obtain ⟨cp0, cp1⟩ := hxp m hlt3
                        obtain ⟨pt_, e0, e1⟩ : ∃ p : PutD, wr.cell? ⟨gp, op + m * 2, none⟩ = some (.int .i64 p.1) ∧ wr.cell? ⟨gp, op + m * 2 + 1, none⟩ = some (.string p.2) := ⟨_, (hB.out.cell (p := ⟨gp, op + m * 2, none⟩) hgp).trans cp0, (hB.out.cell (p := ⟨gp, op + m * 2 + 1, none⟩) hgp).trans cp1⟩
                        have HLt3 := Lib.hid hlt3
                        have HBp3 := Lib.hid (hB.out.alloc hB.out.size (.cells #[.int .i64 pt_.1, .string pt_.2] 74))
                        clear hxp cp0 cp1 hB
                        obtain ⟨at_, text⟩ := pt_
                        simp only at e0 e1 HBp3
                        by_cases h6 : (text.size : Int) ≤ 600
                        · go_wp2
                          go_roundw
                          case rel => exact ⟨m + 1, HLt3.out, by go_num, HBp3⟩
                          case measure => have := HLt3.out; simp [Go.RowKit.intOf]; omega
                        · have hno : (text.size : Int) > 600 := by omega
                          go_wp2
                          go_ret
                          exact ⟨false, rfl, (fun h => by cases h), HBp3.out⟩
                      · obtain rfl : m = ps.length := by omega
                        go_wp2
                        go_roundw
                        case rel => exact ⟨j + 1, _, HLt2.out, rfl, by go_num, hB⟩
                        case measure => have := HLt2.out; simp [Go.RowKit.intOf]; omega
                  · have hno : wrap64 (z + ps.length) > 200 := by omega
                    go_wp2
                    go_ret
                    exact ⟨false, rfl, (fun h => by cases h), hB.out⟩
                · obtain rfl : j = ll.length := by omega
                  go_wp2
                  go_roundw
                  case rel => exact ⟨k + 1, z, HLt.out, rfl, by go_num, hB⟩
                  case measure => have := HLt.out; simp [Go.RowKit.intOf]; omega
            · have hno : (again.length : Int) > 200 := by omega
              go_wp2
              go_ret
              exact ⟨false, rfl, (fun h => by cases h), HBp.out⟩
          · have hno : (keep.length : Int) > 200 := by omega
            go_wp2
            go_ret
            exact ⟨false, rfl, (fun h => by cases h), HBp.out⟩
        · have q1 : (ll.length : Int) > 10 := by omega
          go_wp2
          go_ret
          exact ⟨false, rfl, (fun h => by cases h), HBp.out⟩
      · obtain rfl : k = l.length := by omega
        go_wp2
        go_ret
        exact ⟨true, rfl, fun _ => H40.out, hB.out⟩
  · have j1 : (l.length : Int) > 40 := by omega
    go_wp2
    go_ret
    exact ⟨false, rfl, (fun h => by cases h), Below.refl _ _⟩
end Go.Proofs.YthkblabpiajbhaaGreatDoor

namespace Go.Proofs.YthkblabpiajbhaaGreatDoor
open Go.RowKit Lib

theorem RdL.hand (w : World) (v : Value) (l : List PutD) (h : RdP w v l) :
    RdL (w.alloc (.cells #[v] 48)) (.slice (some ⟨w.heap.size, 0, none⟩) 1 1) [(v, l)] := by
  have q1 := h.below ((Below.refl _ _).alloc (Nat.le_refl _) (.cells #[v] 48))
  have hbl := Blk.new w #[v] 48
  refine ⟨_, 1, rfl, Nat.le_refl _, by simp, fun i hi => ⟨?_, w.heap.size, 0, rfl, hbl.lt, fun j hj => ?_⟩⟩
  · obtain rfl : i = 0 := by simpa using hi
    exact q1
  · obtain rfl : j = 0 := by simpa using hj
    exact hbl.cell rfl
theorem ptsL_hand (v : Value) (l : List PutD) : ptsL [(v, l)] = pts l := by unfold ptsL; simp
theorem noughts_len (n : Nat) : (Wl.noughts n).length = n := by simp [Wl.noughts]
set_option maxRecDepth 100000 in
set_option maxHeartbeats 4000000 in
theorem walGroups_any (w : World) (vl : Value) (ll : List (Value × List PutD)) (hl : RdL w vl ll) :
    Calls Tryz.prog 5 #[vl] w fun e w' => e = .returned (.bool true) ∧ Below w.heap.size w w' := by
  have HL := Lib.hid hl
  obtain ⟨al, cl, rfl, hcl, _, hrl⟩ := hl
  have HRL := Lib.hid hrl
  clear hcl hrl
  go_enter Tryz.func5, Tryz.ntmps5
  go_wp2_with fail
  refine (awake_any w).mono ?_
  rintro e w1 ⟨rfl, hb1⟩
  have H1 := Lib.hid hb1
  clear hb1
  by_cases h10 : ll.length ≤ 10
  · have j1 : (ll.length : Int) ≤ 10 := by omega
    have H10 := Lib.hid h10
    have hone := RdW.one w1 (.slice al ll.length cl) ll (HL.out.below H1.out)
    go_wp2_with fail
    refine (small_any _ _ _ hone).mono ?_
    rintro e w2 ⟨c, rfl, -, hb2⟩
    have H2 := Lib.hid (show Below w.heap.size w w2 from (H1.out.alloc H1.out.size (.cells #[.int .i64 0, .int .i64 0, .slice al ll.length cl, .slice none 0 0, .slice none 0 0] 40)).trans (hb2.mono (by have := H1.out.size; simp; omega)))
    clear hb2 hone
    cases c with
    | false =>
      go_wp2
      go_ret
      exact ⟨rfl, H2.out⟩
    | true =>
      go_wp2_with fail
      refine (new_any 37 w2 (by decide) (by decide)).mono ?_
      rintro e w3 ⟨g, FD, rfl, hd3, hF3, hb3⟩
      have H3 := Lib.hid (And.intro hd3 (And.intro hF3 hb3))
      clear hd3 hF3 hb3
      go_wp2_with fail
      refine (new_any 37 w3 (by decide) (by decide)).mono ?_
      rintro e w4 ⟨g', FD', rfl, hd4, hF4, hb4⟩
      have H4 := Lib.hid (show Sec w4 FD g (Dk.fresh 37) ∧ Sec w4 FD' g' (Dk.fresh 37) ∧ (∀ x, FD x → ¬ x < w.heap.size) ∧ (∀ x, FD' x → ¬ x < w.heap.size) ∧ (∀ x, FD x → ¬ FD' x) ∧ Below w.heap.size w w4 by
        have h2 := H2.out.size
        have h3 := H3.out.2.2.size
        refine ⟨H3.out.1.below hb4 (fun k hk => H3.out.1.lt k hk), hd4, fun x hx hn => by have := H3.out.2.1 x hx; omega, fun x hx hn => by have := hF4 x hx; omega, fun x hx hn => by have := hF4 x hn; have := H3.out.1.lt x hx; omega, ?_⟩
        exact (H2.out.trans (H3.out.2.2.mono h2)).trans (hb4.mono (by omega)))
      clear hd4 hF4 hb4
      go_wp2_with fail
      refine (both_begun (A := fun x => x < w.heap.size) H4.out.1 H4.out.2.1 H4.out.2.2.1 H4.out.2.2.2.2.1 (fun x hx => by have := H4.out.2.2.2.2.2.size; omega) (by decide) (by decide) (by decide) (by decide)).mono ?_
      rintro e w5 ⟨b, rfl, ⟨F, s, hl5, hv5, hf5, ha5, hd5⟩, hs5, ho5⟩
      have H5 := Lib.hid (And.intro hl5 (And.intro hv5 (And.intro hf5 (And.intro ha5 (And.intro hd5 (And.intro hs5 (H4.out.2.2.2.2.2.trans (Off.below ho5 (fun x hx => hx) H4.out.2.2.2.2.2.size))))))))
      clear hl5 hv5 hf5 ha5 hd5 hs5 ho5
      go_wp2_with fail
      refine (both_begun' (A := fun x => x < w.heap.size) H5.out.1 H5.out.2.1 H5.out.2.2.1 H5.out.2.2.2.1 H5.out.2.2.2.2.1 H5.out.2.2.2.2.2.1 H4.out.2.2.2.1 (fun x hx => by have := H5.out.2.2.2.2.2.2.size; omega) (by decide) (by decide) (by decide) (by decide)).mono ?_
      rintro e w6 ⟨b', rfl, hk6, ho6⟩
      have H6 := Lib.hid (show Both (fun x => x < w.heap.size) 16 w6 b g 1 (Wl.noughts 20) b' g' 1 (Wl.noughts 20) ∧ Below w.heap.size w w6 from ⟨hk6, H5.out.2.2.2.2.2.2.trans (Off.below ho6 (fun x hx => hx) H5.out.2.2.2.2.2.2.size)⟩)
      clear hk6 ho6
      go_wp2_with fail
      refine (both_commit H6.out.1 (by decide) _ ll (HL.out.below H6.out.2)).mono ?_
      rintro e w7 ⟨rfl, hk7, ho7⟩
      have H7 := Lib.hid (And.intro hk7 (H6.out.2.trans (Off.below ho7 (fun x hx => hx) H6.out.2.size)))
      clear hk7 ho7
      obtain ⟨r, hr⟩ : ∃ r, r = Wl.comm 16 (Wl.noughts 20) (ptsL ll) := ⟨_, rfl⟩
      rw [← hr] at H7 ⊢
      by_cases h0 : r.1 = 0
      · have HP := Lib.hid (fun (a b c : List (Int × Wl.Text)) (e : ptsL ll = a ++ (b ++ c)) => Wl.comm_parts (ring := 16) (H := Wl.noughts 20) (a := a) (b := b) (c := c) (by rw [← e, ← hr]; exact h0))
        have HE := Lib.hid (show r.2 = Wl.along (Wl.noughts 20) (ptsL ll) by rw [hr] at h0 ⊢; exact (Wl.comm_ok h0).2.2)
        obtain ⟨rc, rh⟩ := r
        simp only at h0 HE H7 ⊢
        subst h0
        obtain rfl := HE.out
        clear hr
        go_wp2
        go_loopw [57] (fun i wr => ∃ k : Nat, k ≤ ll.length ∧ i = .int .i64 k ∧ Hid (Both (fun x => x < w.heap.size) 16 wr b g 2 (Wl.along (Wl.noughts 20) (ptsL ll)) b' g' (1 + k) (Wl.along (Wl.noughts 20) (ptsL (ll.take k))) ∧ Below w.heap.size w wr)) (fun i _ => ll.length - (Go.RowKit.intOf i).toNat)
        case atStart => exact ⟨0, Nat.zero_le _, rfl, H7⟩
        case round =>
          obtain ⟨k, hk, rfl, hS⟩ := hrel
          by_cases hlt : k < ll.length
          · have hI : (k : Int) < ll.length := by omega
            obtain ⟨hP0, ga, oa, rfl, hga, hxa⟩ := HRL.out k hlt
            obtain ⟨pv, ps, d0, hP, hpl⟩ : ∃ pv ps, wr.cell? ⟨ga, oa + k, none⟩ = some pv ∧ RdP w pv ps ∧ ptsL (ll.take (k + 1)) = ptsL (ll.take k) ++ pts ps := ⟨_, _, (hS.out.2.cell (p := ⟨ga, oa + k, none⟩) hga).trans (hxa k hlt), hP0, ptsL_take ll k hlt⟩
            have HLt := Lib.hid hlt
            have HPL := Lib.hid hpl
            have HPS := Lib.hid (RdL.hand wr pv ps (hP.below hS.out.2))
            have HCP := Lib.hid (HP.out (ptsL (ll.take k)) (pts ps) (ptsL (ll.drop (k + 1))) (by rw [ptsL_split ll (k + 1), hpl, List.append_assoc]))
            have k10 : (k : Int) ≤ 10 := by have := H10.out; omega
            clear hxa hpl hP0 hlt hk
            obtain ⟨ap, cp, rfl, _⟩ := hP
            go_wp2_with fail
            obtain ⟨X, hX⟩ : ∃ X, X = wr.alloc (.cells #[.slice ap ps.length cp] 48) := ⟨_, rfl⟩
            have HX := Lib.hid (show RdL X (.slice (some ⟨wr.heap.size, 0, none⟩) 1 1) [(.slice ap ps.length cp, ps)] ∧ Below wr.heap.size wr X by rw [hX]; exact ⟨HPS.out, (Below.refl _ _).alloc (Nat.le_refl _) _⟩)
            rw [← hX]
            clear hX d0
            refine (both_commit (hS.out.1.aside HX.out.2).symm (by have := H10.out; have := HLt.out; omega) _ _ HX.out.1).mono ?_
            rintro e w8 ⟨rfl, hk8, ho8⟩
            rw [ptsL_hand, HCP.out] at hk8 ⊢
            simp only at hk8 ⊢
            have H8 := Lib.hid (show Both (fun x => x < w.heap.size) 16 w8 b g 2 (Wl.along (Wl.noughts 20) (ptsL ll)) b' g' (1 + (k + 1)) (Wl.along (Wl.noughts 20) (ptsL (ll.take (k + 1)))) ∧ Below w.heap.size w w8 by
              have hX := hS.out.2.trans (HX.out.2.mono hS.out.2.size)
              rw [HPL.out]
              exact ⟨hk8.symm, hX.trans (Off.below ho8 (fun x hx => hx) hX.size)⟩)
            clear hk8 ho8
            go_wp2
            go_roundw
            case rel => exact ⟨k + 1, HLt.out, by go_num, H8⟩
            case measure => have := HLt.out; simp [Go.RowKit.intOf]; omega
          · obtain rfl : k = ll.length := by omega
            rw [List.take_length] at hS
            obtain ⟨K, hK⟩ : ∃ K, K = Wl.along (Wl.noughts 20) (ptsL ll) := ⟨_, rfl⟩
            rw [← hK] at hS
            have HK := Lib.hid (show K.length = 20 by rw [hK, Wl.along_length, noughts_len])
            clear hK hk hlt
            obtain ⟨X, rfl⟩ : ∃ X, X = wr := ⟨_, rfl⟩
            go_wp2
            go_loopw [67] (fun i wr => ∃ k : Nat, k ≤ 20 ∧ i = .int .i64 k ∧ Hid (Below X.heap.size X wr)) (fun i _ => 20 - (Go.RowKit.intOf i).toNat)
            case atStart => exact ⟨0, Nat.zero_le _, rfl, Lib.hid (Below.refl _ _)⟩
            case round =>
              obtain ⟨k, hk, rfl, hB⟩ := hrel
              by_cases hlt : k < 20
              · have hI : (k : Int) < 20 := by omega
                have k0 : (0 : Int) ≤ k := by omega
                have HLt := Lib.hid hlt
                have HHm := Lib.hid (homeOf_at (H := K) (k := k) (by rw [HK.out]; exact hlt))
                obtain ⟨t, ht⟩ : ∃ t, t = (K[k]'(by rw [HK.out]; exact hlt)) := ⟨_, rfl⟩
                rw [← ht] at HHm
                clear ht hlt hk
                go_wp2_with fail
                refine (kept_read (hS.out.1.aside hB.out).left (k : Int)).mono ?_
                rintro e w8 ⟨rfl, hb8⟩
                rw [HHm.out]
                simp only
                have HB8 := Lib.hid (hB.out.trans (hb8.mono hB.out.size))
                clear hb8
                go_wp2_with fail
                refine (kept_read (hS.out.1.aside HB8.out).symm.left (k : Int)).mono ?_
                rintro e w9 ⟨rfl, hb9⟩
                rw [HHm.out]
                simp only
                have HB9 := Lib.hid (HB8.out.trans (hb9.mono HB8.out.size))
                clear hb9
                go_wp2
                go_roundw
                case rel => exact ⟨k + 1, HLt.out, by go_num, HB9⟩
                case measure => have := HLt.out; simp [Go.RowKit.intOf]; omega
              · go_wp2
                go_ret
                exact ⟨rfl, hS.out.2.trans (hB.out.mono hS.out.2.size)⟩
      · have hc1 : (r.1 != 0) = true := by rw [bne_iff_ne]; exact h0
        have hc2 : (r.1 == 0) = false := beq_eq_false_iff_ne.2 h0
        have HE := Lib.hid (show r.2 = Wl.noughts 20 by rw [hr] at h0 ⊢; exact Wl.comm_no h0)
        have H0 := Lib.hid h0
        clear h0 hr
        go_wp2_with fail
        refine (new5_any 20 w7 (by decide)).mono ?_
        rintro e w8 ⟨v8, rfl, ho8, hb8⟩
        have H8 := Lib.hid (And.intro ho8 hb8)
        clear ho8 hb8
        go_wp2_with fail
        refine (kept_holds (H7.out.1.left.aside H8.out.2) _ (OwnS.reads H8.out.1) (by rw [noughts_len]; decide)).mono ?_
        rintro e w9 ⟨rfl, hb9⟩
        rw [decide_eq_true HE.out]
        have h78 := H7.out.2.trans (H8.out.2.mono H7.out.2.size)
        have H9 := Lib.hid (h78.trans (hb9.mono h78.size))
        clear hb9 h78
        go_wp2
        go_ret
        exact ⟨rfl, H9.out⟩
  · have j1 : (ll.length : Int) > 10 := by omega
    go_wp2
    go_ret
    exact ⟨rfl, H1.out⟩
end Go.Proofs.YthkblabpiajbhaaGreatDoor

namespace Go.Proofs.YthkblabpiajbhaaGreatDoor
open Go.ChangeShapes Go.WideShapes Go.ChangeAt Go.RowKit
open Go.ChangeMaps (open_string shut_string)
namespace lawWalGroups
set_option maxRecDepth 100000
theorem contract (H : Type) (enc : TypeId × Value → H) (W : World) (base : Nat) (args : Array Value) (ds gs : List (DataW H)) (before : List MemPlace)
    (hval : ∀ (j : Nat) t v, Tryz.f5.params[j]? = some t → args[j]? = some v → Value.okWide Tryz.prog W .any base t v)
    (hW : DataW.Whole enc Tryz.prog Tryz.f5.params.toList Rows.walGroupsSpec.vars false W args.toList ds gs before) :
    Calls Tryz.prog 5 args W fun e W' => ∃ v, e = .returned v ∧ Rows.walGroupsSpec.post enc Tryz.prog Tryz.f5 false true false false W args v W' := by
  have hW' := hW
  obtain ⟨p, q, hA0, hV, rfl, hfz, hnd⟩ := hW
  have hA : DataW.TrodAll enc Tryz.prog W 0 (fun _ => true) true Tryz.f5.params.toList args.toList ds p := hA0
  have hAk := hA
  rw [Tryz.params5] at hA hval
  obtain ⟨v0, vs0, d0, ds0, p0, q0, hargs, rfl, rfl, h0, r0⟩ := trodAll_cons hA
  obtain ⟨rfl, rfl, rfl⟩ := trodAll_nil r0
  obtain rfl : args = #[v0] := by cases args; simp_all
  obtain ⟨rfl, rfl⟩ := trodVars_none hV
  obtain ⟨l0, hr0⟩ := lists_in (hval 0 37 v0 rfl rfl) h0
  have lt := fun x hx => hW'.lt x hx
  clear hA0
  refine (walGroups_any W v0 l0 hr0).mono fun e W' ⟨he, hb⟩ => ?_
  subst he
  exact ⟨_, rfl, post_below (pv := []) hW' hb rfl (fun _ _ _ => trodAll_cons_mk (shut_bool Tryz.underlying4 _) trodAll_mk0) (fun sp hsp => trodAll_stays _ (by rw [Tryz.params5]; decide +kernel) hAk (fun x hx => hb.same (lt x (by simpa using hx))) (fun x hx => hsp x (by simpa using hx))) (fun _ _ => rfl)
    (ok_one (by kernel_rfl) rfl (okWide_bool_mk Tryz.underlying4 _))⟩
theorem laid_met (os : Os) : laidMet Tryz.prog Rows.walGroupsRow.laid ((laidWorld os).forCall (fun _ _ => 0) ⟨#[], #[.slice none 0 0], []⟩).memory :=
  laidMet_of_run' 8 (by kernel_rfl) (by kernel_rfl)
theorem reads (os : Os) {H : Type} (enc : TypeId × Value → H) : ∃ places, DataW.whole enc Tryz.prog ((laidWorld os).forCall (fun _ _ => 0) ⟨#[], #[.slice none 0 0], []⟩).memory Tryz.f5.params.toList Rows.walGroupsSpec.vars false #[Value.slice none 0 0].toList 8 = some ([.nil], [], places) :=
  ⟨[], by kernel_rfl⟩
theorem lifted (os : Os) (started : os.Started) (H : Type) (enc : TypeId × Value → H) (F : Stop.Interp) :
    ReturnsInHanded {} Tryz.checked os 5 .any ((OpenSpec.ofChange Rows.walGroupsSpec).preRow enc Tryz.prog Tryz.f5 Rows.walGroupsRow.domain false Rows.walGroupsRow.laid) (((OpenSpec.ofChange Rows.walGroupsSpec).at F).post enc Tryz.prog Tryz.f5 false true false false) := by
  obtain ⟨places, hx⟩ := reads os enc
  refine returnsInHanded_of_row (C := Tryz.checked) (s := OpenSpec.ofChange Rows.walGroupsSpec) own started (by kernel_rfl) Tryz.func5
    (witness_row_at (enc := enc) (C := Tryz.checked) false (laidWorld os) #[.slice none 0 0] rfl (by kernel_rfl) (by kernel_rfl) (by kernel_rfl)
      (OpenSpec.preRow_of_cond 8 hx (by kernel_rfl) (fun k hk => by cases hk) (by kernel_rfl) (laid_met os))) ?_
  intro W base args ds gs before hval hW _ _ _ hL _ _
  exact contract H enc W base args ds gs before hval hW
theorem said : Rows.WalGroupsSaid :=
  OpenClaim.holds_of_cond 5 Tryz.f5 rfl rfl rfl rfl rfl rfl rfl ⟨rfl, rfl, rfl, rfl, rfl⟩ rfl rfl rfl rfl rfl (by kernel_rfl) Tryz.func5 (by kernel_rfl)
    (of_decide_eq_true (by kernel_rfl)) (by unfold Func.isWrapper; first | (rw [if_pos (by decide +kernel)]; kernel_rfl) | (rw [if_neg (by decide +kernel)]; exact ⟨rfl, rfl⟩))
    (fun os started H enc _ F => by rw [OpenClaim.pre_eq_preRow]; exact lifted os started H enc F)
theorem plain (f : FuncId) (fn : Func) (hf : Tryz.pinned.checked.prog.funcNamed "cooperage/cooperagelaw05.WalGroups" = some f) (hfn : Tryz.pinned.checked.prog.funcs[f]? = some fn) :
    false = Tryz.pinned.checked.prog.looks [] ∧ ∀ (j : Nat) t, fn.params[j]? = some t → Tryz.pinned.checked.prog.wantsStandIn t = false := by
  obtain rfl : f = 5 := Option.some.inj ((show Tryz.prog.funcNamed "cooperage/cooperagelaw05.WalGroups" = some 5 by kernel_rfl).symm.trans hf) |>.symm
  obtain rfl : fn = Tryz.f5 := (Option.some.inj (Tryz.func5.symm.trans hfn)).symm
  refine ⟨by kernel_rfl, fun j t ht => ?_⟩
  rw [Tryz.params5] at ht
  have hm : t = 37 := by simpa using Array.mem_of_getElem? ht
  subst hm
  exact (show Tryz.prog.wantsStandIn 37 = false by kernel_rfl)
theorem card : Rows.WalGroupsCardSaid :=
  Claim7.holds_tied_plain_at .later [] _ _ _ _ said (fun _ h => by cases h) (by kernel_rfl) (fun _ h => by cases h) walGroups_row_tie rfl ⟨rfl, rfl⟩ (by kernel_rfl) rfl plain (by kernel_rfl)
end lawWalGroups
end Go.Proofs.YthkblabpiajbhaaGreatDoor
