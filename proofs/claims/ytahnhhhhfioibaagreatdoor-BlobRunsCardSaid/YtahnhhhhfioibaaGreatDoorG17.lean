/- Elder texts, merged (17). -/
import Derived.Test.YtahnhhhhfioibaaGreatDoorG16
import Derived.Test.YtahnhhhhfioibaaGreatDoorG11
namespace Go.Proofs.YtahnhhhhfioibaaGreatDoor
open Go.RowKit Lib

namespace Bl
theorem got_some {pg : List (Option Wl.Text)} {p : Nat} {t : Wl.Text} (h : pg.getD p none = some t) : Rm.got pg p = t ∧ Rm.refuse pg p = 0 := by
  have hp := getD_lt h
  unfold Rm.got Rm.refuse
  rw [if_pos (by omega), if_pos (by omega), Int.toNat_natCast, h]
  exact ⟨rfl, rfl⟩
theorem freed_some {pg : List (Option Wl.Text)} {p : Nat} (h : (pg.getD p none).isSome = true) : Rm.freed pg p = pg.set p none ∧ Rm.refuse pg p = 0 := by
  have hp := isSome_lt h
  have hr : Rm.refuse pg p = 0 := by
    unfold Rm.refuse
    rw [if_pos (by omega), Int.toNat_natCast, h]
    rfl
  refine ⟨?_, hr⟩
  unfold Rm.freed
  rw [hr, if_pos rfl, Int.toNat_natCast]
/-- A chain, from a page in it on: what stands there, and whether it goes on. -/
theorem Chain.here {pg : List (Option Wl.Text)} {k : UInt8} {p : Nat} {l : List Nat} {s : Wl.Text} (h : Chain pg k (p :: l) s) : pg.getD p none = some (page k s (l.headD 0)) ∧ (s.length ≤ 506 ∧ l = [] ∨ 506 < s.length ∧ ∃ q l', l = q :: l' ∧ Chain pg 0xb1 (q :: l') (s.drop 506)) := by
  cases l with
  | nil => exact ⟨h.2, .inl ⟨h.1, rfl⟩⟩
  | cons q l => exact ⟨h.2.1, .inr ⟨h.1, q, l, rfl, h.2.2⟩⟩
end Bl
/-! ### A builder beside a row of pages. -/
theorem Bd.grown {B : Nat} {w w' : World} {b : Nat} {l : List UInt8} {row : Option Nat} (h : Bd B w b l) (hg : w.grownBy w' row) (h1 : row ≠ some b) (h2 : ∀ g, row = some g → ∃ cs, w.heap[g]? = some (.cells cs 3 (0, 0))) : Bd B w' b l := by
  have key : ∀ p, Lib.BuilderAtF 136 5 B b p (Lib.byteCells l) w → Lib.BuilderAtF 136 5 B b p (Lib.byteCells l) w' := by
    rintro p ⟨hB, v, hb, ho, hn⟩
    have hlt := (Array.getElem?_eq_some_iff.1 hb).1
    refine ⟨hB, v, by rw [hg.block b hlt fun e => h1 e.symm]; exact hb, ho.kept hg ?_, hn⟩
    rcases ho.2 with ⟨hv, _⟩ | ⟨g, cap, cur, fz, hv, _, hgk, _⟩
    · exact .inl (by rw [hv]; rfl)
    · refine .inr fun e => ?_
      rw [hv] at e
      obtain ⟨cs, hcs⟩ := h2 g (e.symm.trans rfl)
      rw [hgk] at hcs
      injection hcs with hcs
      injection hcs with _ hcs
      exact absurd hcs (by decide)
  exact h.imp (key _) (key _)
theorem Bd.below {B : Nat} {w w' : World} {b : Nat} {l : List UInt8} (h : Bd B w b l) (hb : Below w.heap.size w w') : Bd B w' b l :=
  h.grown (row := none) ⟨hb.os, hb.tape, hb.output, hb.size, fun k hk _ => hb.block k hk⟩ (fun e => by cases e) (fun g e => by cases e)
theorem Bd.block {B : Nat} {w : World} {b : Nat} {l : List UInt8} (h : Bd B w b l) : ∃ cs, w.heap[b]? = some (.cells cs 136 (0, 0)) := by
  rcases h with ⟨_, v, hb, _⟩ | ⟨_, v, hb, _⟩
  · exact ⟨_, hb⟩
  · exact ⟨_, hb⟩
theorem OwnPg.oth {B b : Nat} {w w' : World} {v : Value} {l : List Nat} (h : OwnPg B w v l) (hb : ∃ cs, w.heap[b]? = some (.cells cs 136 (0, 0))) (k : Oth b w w') : OwnPg B w' v l := by
  obtain ⟨cs, hb⟩ := hb
  refine ⟨h.1, ?_⟩
  rcases h.2 with h0 | ⟨g, cap, cur, hv, hg, hh, r⟩
  · exact .inl h0
  · refine .inr ⟨g, cap, cur, hv, hg, k g _ hh (fun e => ?_) (fun c fz e => ?_), r⟩
    · injection e with e
      rw [e, hb] at hh
      injection hh with hh
      injection hh with _ hh
      exact absurd hh (by decide)
    · injection e with _ e
      exact absurd e (by decide)
theorem bd_new (B : Nat) (w : World) (hB : B ≤ w.heap.size) : Bd B (w.alloc (.cells #[.pointer none, .slice none 0 0] 136)) w.heap.size [] :=
  .inl ⟨hB, .slice none 0 0, heap_alloc_new w _, World.ownsRowF_nil _ _ _ _, by simp [Value.ownBlock]⟩
theorem bs_part (l t : List UInt8) (n : Nat) (h : (l.drop 6).take n = t) : (bs l).extract 6 (6 + n) = bs t := by
  have e : ((bs l).extract 6 (6 + n)).data.toList = t := by
    rw [ByteArray.data_extract, Array.toList_extract]
    show (List.drop 6 l).take (6 + n - 6) = t
    rw [show 6 + n - 6 = n by omega]
    exact h
  rw [← e, bs_data]
theorem bs_rest (l t : List UInt8) (h : l.drop 6 = t) : (bs l).extract 6 (bs l).size = bs t := by
  have e := ext_drop (bs l) 6
  rw [bs_list, h] at e
  rw [← e, bs_data]
theorem pg_lies (w : World) (p : Nat) : Lies pgElem (w.alloc (.cells #[.int .i64 (p : Int)] 3)) w.heap.size 0 [p] :=
  Lies.of_blk (Blk.new w #[.int .i64 (p : Int)] 3) (by rw [pg_cells]; rfl)
section
variable {X X' : World} {R R' S : Nat → Prop} {ring g N lb tb rb : Nat} {H H' : List Wl.Text} {ps ps' : List (Nat × List UInt8)} {pg pg' : List (Option Wl.Text)} {rt rt' : List Nat}
set_option maxRecDepth 100000 in
theorem blob_follow (h : RmI R ring g N lb tb rb H ps pg rt X) (p : Nat) {T : Wl.Text} (hp : pg.getD p none = some T) (hT : T.length = 512) (hk : Bl.kindOf T = 0xb1) (left : Nat) (hl : Bl.leftOf T = left) :
    Calls Tryz.prog 95 #[ptr rb, .int .i64 p, .int .i64 left] X fun e X' => e = .returned (.tuple #[.string (bs T), .int .i64 0]) ∧ Below X.heap.size X X' := by
  have HR := Lib.hid (room_Read h p)
  obtain ⟨e1, e2⟩ := Bl.got_some hp
  rw [e1, e2] at HR
  have hs : (bs T).size = 512 := by rw [bs_size]; exact hT
  have HK := Lib.hid (fun w => kindOf_any w (bs T) hs)
  have HL := Lib.hid (fun w => leftOf_any w (bs T) hs)
  rw [bs_list, hk] at HK
  rw [bs_list, hl] at HL
  have h177 : ((0xb1 : UInt8).toNat : Int) = 177 := rfl
  rw [h177] at HK
  clear hp hT hk hl e1 e2 h hs h177
  go_enter Tryz.func95, Tryz.ntmps95
  unfold ptr
  go_wp2_with fail
  refine HR.out.mono ?_
  rintro e X1 ⟨rfl, hb1⟩
  go_wp2_with fail
  refine (HK.out _).mono ?_
  rintro e X2 ⟨rfl, rfl⟩
  go_wp2_with fail
  refine (HL.out _).mono ?_
  rintro e X3 ⟨rfl, n, rfl⟩
  go_wp2
  go_ret2
  exact ⟨rfl, hb1.trans (below_drawn _ n |>.mono hb1.size)⟩
/-- What walk answers of a blob. -/
def WalkTo (l : List Nat) (s : ByteArray) (X : World) (e : Ending) (X' : World) : Prop :=
  ∃ v, e = .returned (.tuple #[v, .string s, .int .i64 0]) ∧ OwnPg X.heap.size X' v l ∧ Below X.heap.size X X'
/-- walk's state at its loop. -/
structure WalkAt (pg : List (Option Wl.Text)) (l : List Nat) (s : Wl.Text) (pre : List Nat) (p : Nat) (rest : List Nat) (k : UInt8) (t done : Wl.Text) : Prop where
  pages : l = pre ++ p :: rest
  chain : Bl.Chain pg k (p :: rest) t
  text : s = done ++ t
set_option maxRecDepth 100000 in
set_option maxHeartbeats 2000000 in
theorem blob_walk (h : RmI R ring g N lb tb rb H ps pg rt X) (p0 : Nat) (l0 : List Nat) (s : ByteArray) (hc : Bl.Chain pg 0xb0 (p0 :: l0) s.data.toList) (hs : s.size ≤ 131072) :
    Calls Tryz.prog 62 #[ptr rb, .int .i64 p0] X fun e X' => WalkTo (p0 :: l0) s X e X' := by
  have HR := Lib.hid (room_Read h p0)
  obtain ⟨hp0, -⟩ := hc.here
  obtain ⟨e1, e2⟩ := Bl.got_some hp0
  rw [e1, e2] at HR
  obtain ⟨T0, hT0⟩ : ∃ T0, T0 = Bl.page 0xb0 s.data.toList (l0.headD 0) := ⟨_, rfl⟩
  have hlen : s.data.toList.length = s.size := Array.length_toList
  have hs0 : (bs T0).size = 512 := by rw [bs_size, hT0]; exact Bl.page_length _ _ _
  have HK := Lib.hid (fun w => kindOf_any w (bs T0) hs0)
  have HL := Lib.hid (fun w => leftOf_any w (bs T0) hs0)
  rw [bs_list, hT0, Bl.kind_page] at HK
  rw [bs_list, hT0, Bl.left_page _ _ _ (by omega), hlen] at HL
  have h176 : ((0xb0 : UInt8).toNat : Int) = 176 := rfl
  rw [h176] at HK
  rw [← hT0] at HR HL HK
  have HT0 := Lib.hid hT0
  have HI := Lib.hid h
  have HC := Lib.hid (And.intro hc hs)
  have HCL := Lib.hid (show (p0 :: l0).length ≤ 260 by rw [hc.length, hlen]; exact Bl.need_le (by omega))
  have hsI : (s.size : Int) ≤ 131072 := by omega
  have hsN : ¬ (131072 : Int) < s.size := by omega
  clear h hc hs hp0 e1 e2 hT0 hs0 h176 hlen
  go_enter Tryz.func62, Tryz.ntmps62
  unfold ptr
  go_wp2_with fail
  refine HR.out.mono ?_
  rintro e X1 ⟨rfl, hb1⟩
  go_wp2_with fail
  refine (HL.out _).mono ?_
  rintro e X2 ⟨rfl, n2, rfl⟩
  go_wp2_with fail
  refine (HK.out _).mono ?_
  rintro e X3 ⟨rfl, rfl⟩
  have HB := Lib.hid (hb1.trans (below_drawn _ n2 |>.mono hb1.size))
  clear hb1
  generalize X1.drewN n2 = Y at *
  go_wp2
  obtain ⟨b, hb⟩ : ∃ b, b = Y.heap.size + 1 := ⟨_, rfl⟩
  obtain ⟨Z, hZ⟩ : ∃ Z, Z = (Y.alloc (.cells #[.int .i64 (p0 : Int)] 3)).alloc (.cells #[.pointer none, .slice none 0 0] 136) := ⟨_, rfl⟩
  have H0 := Lib.hid (show OwnPg X.heap.size Z (.slice (some ⟨Y.heap.size, 0, none⟩) 1 1) [p0] ∧ Bd X.heap.size Z b [] ∧ Below X.heap.size X Z by
    have hsz := HB.out.size
    rw [hZ]
    refine ⟨Own.alloc (OwnPg.of_blk (Blk.new Y #[.int .i64 (p0 : Int)] 3) rfl (by show 1 ≤ 1000000; omega) hsz) _, ?_, ?_⟩
    · have := bd_new X.heap.size (Y.alloc (.cells #[.int .i64 (p0 : Int)] 3)) (by rw [World.size_alloc]; omega)
      rw [World.size_alloc] at this
      rw [hb]; exact this
    · exact (HB.out.alloc hsz _).alloc (by rw [World.size_alloc]; omega) _)
  rw [← hb, ← hZ]
  clear hb hZ
  go_loopw [1, 7, 8, 9, 10] (fun pv hv ev lv gv wr => ∃ (pre : List Nat) (p : Nat) (rest : List Nat) (k : UInt8) (t done : Wl.Text), pv = .int .i64 p ∧ hv = .string (bs (Bl.page k t (rest.headD 0))) ∧ ev = .int .i64 0 ∧ lv = .int .i64 t.length ∧ Hid (WalkAt pg (p0 :: l0) s.data.toList pre p rest k t done) ∧ Hid (OwnPg X.heap.size wr gv (pre ++ [p])) ∧ Hid (Bd X.heap.size wr b done) ∧ Hid (Below X.heap.size X wr)) (fun _ _ _ lv _ _ => (Go.RowKit.intOf lv).toNat)
  case atStart => exact ⟨[], p0, l0, 0xb0, s.data.toList, [], rfl, by rw [HT0.out], rfl, by rw [show s.data.toList.length = s.size from Array.length_toList], Lib.hid ⟨rfl, HC.out.1, rfl⟩, Lib.hid H0.out.1, Lib.hid H0.out.2.1, Lib.hid H0.out.2.2⟩
  case round =>
    clear H0
    obtain ⟨pre, p, rest, k, t, done, rfl, rfl, rfl, rfl, hW, hO, hBd, hB⟩ := hrel
    have HLen := Lib.hid (show done.length + t.length ≤ 131072 by
      have := congrArg List.length hW.out.text
      rw [List.length_append, show s.data.toList.length = s.size from Array.length_toList] at this
      have := HC.out.2
      omega)
    obtain ⟨T, hT⟩ : ∃ T, T = Bl.page k t (rest.headD 0) := ⟨_, rfl⟩
    have hTs : (bs T).size = 512 := by rw [bs_size, hT]; exact Bl.page_length _ _ _
    have hTl : T.length = 512 := by rw [hT]; exact Bl.page_length _ _ _
    obtain ⟨hp, hor⟩ := hW.out.chain.here
    rw [← hT]
    rcases hor with ⟨h506, hrest⟩ | ⟨h506, q, l', hrest, hch⟩
    · have hI : ¬ (506 : Int) < t.length := by omega
      have hIl : (t.length : Int) ≤ 506 := by omega
      have he : (bs T).extract 6 (6 + t.length) = bs t := by
        rw [hT]
        exact bs_part _ _ _ (Bl.tail_page k t _ h506)
      have HE := Lib.hid he
      have HF := Lib.hid (show p0 :: l0 = pre ++ [p] by rw [hW.out.pages, hrest])
      have HX := Lib.hid (show done ++ t = s.data.toList from hW.out.text.symm)
      clear hp h506 hT hrest he hW
      obtain ⟨n, hn⟩ : ∃ n, t.length = n := ⟨_, rfl⟩
      have HNn := Lib.hid hn
      rw [hn] at HE HLen hI hIl ⊢
      clear hn
      go_wp2_with fail
      rw [HE.out]
      refine (writeString_any hBd.out (bs t) (by rw [bs_size, HNn.out]; have := HLen.out; omega) (by have := hB.out.size; omega)).mono ?_
      rintro e w1 ⟨rfl, hd1, hb1, hk1⟩
      rw [bs_list, HX.out] at hd1
      have H1 := Lib.hid (And.intro hd1 (And.intro (hB.out.trans hb1) (OwnPg.oth hO.out hBd.out.block hk1)))
      clear hd1 hb1 hk1
      go_wp2_with fail
      refine (builder_String X.heap.size b s.data.toList w1 H1.out.1 (by have := H1.out.2.1.size; omega)).mono ?_
      rintro e w2 ⟨rfl, hd2, hb2, hk2⟩
      have HEnd := Lib.hid (show WalkTo (p0 :: l0) s X (.returned (.tuple #[u10, .string s, .int .i64 0])) w2 from ⟨_, rfl, by rw [HF.out]; exact OwnPg.oth H1.out.2.2 H1.out.1.block hk2, H1.out.2.1.trans hb2⟩)
      clear hd2 hb2 hk2
      go_wp2
      go_ret3
      exact HEnd.out
    · have hI : (506 : Int) < t.length := by omega
      have hq := hch.here.1
      have hqn : q < 65536 := by
        have h1 := Bl.getD_lt hq
        have := HI.out.rep.few
        omega
      have hnx : Bl.nextOf T = q := by rw [hT, hrest]; exact Bl.next_page _ _ _ hqn
      have he : (bs T).extract 6 512 = bs (t.take 506) := by
        rw [← hTs, hT]
        exact bs_rest _ _ (Bl.body_page k t _ h506)
      have HE := Lib.hid he
      have HN := Lib.hid (fun w => nextOf_any w (bs T) hTs)
      rw [bs_list, hnx] at HN
      have hl5 : (t.drop 506).length = t.length - 506 := List.length_drop
      have HFo := Lib.hid (fun (w : World) (hw : Below X.heap.size X w) => blob_follow (HI.out.still hw) q hq (Bl.page_length _ _ _) (Bl.kind_page _ _ _) (t.length - 506) (by rw [Bl.left_page _ _ _ (by have := HLen.out; omega), hl5]))
      have HNew := Lib.hid (show WalkAt pg (p0 :: l0) s.data.toList (pre ++ [p]) q l' 0xb1 (t.drop 506) (done ++ t.take 506) from ⟨by rw [hW.out.pages, hrest, List.append_assoc]; rfl, hch, by rw [List.append_assoc, List.take_append_drop]; exact hW.out.text⟩)
      have HM := Lib.hid (show (t.take 506).length = 506 ∧ (t.drop 506).length = t.length - 506 ∧ 506 < t.length ∧ pre.length ≤ 5000 from ⟨by rw [List.length_take]; omega, hl5, h506, by
        have h1 := congrArg List.length hW.out.pages
        rw [List.length_append] at h1
        have := HCL.out
        omega⟩)
      obtain ⟨m, hm⟩ : ∃ m, t.length = m + 506 := ⟨t.length - 506, by omega⟩
      have HMM := Lib.hid hm
      rw [hm] at HFo hI ⊢
      rw [show m + 506 - 506 = m by omega] at HFo
      obtain ⟨T2, hT2⟩ : ∃ T2, T2 = Bl.page 0xb1 (t.drop 506) (l'.headD 0) := ⟨_, rfl⟩
      rw [← hT2] at HFo
      have HT2 := Lib.hid hT2
      clear hp h506 hT hrest he hW hch hq hqn hnx hl5 hm hT2
      have hcast : ((m + 506 : Nat) : Int) = (m : Int) + 506 := by omega
      rw [hcast] at hI ⊢
      have hI2 : (506 : Int) < (m : Int) + 506 := by omega
      have hmI : (m : Int) ≤ 131072 := by have := HLen.out; have := HMM.out; omega
      clear hcast
      go_wp2_with fail
      rw [HE.out]
      refine (writeString_any hBd.out (bs (t.take 506)) (by rw [bs_size, HM.out.1]; have := HLen.out; have := HMM.out; omega) (by have := hB.out.size; omega)).mono ?_
      rintro e w1 ⟨rfl, hd1, hb1, hk1⟩
      rw [bs_list] at hd1
      have H1 := Lib.hid (And.intro hd1 (And.intro (hB.out.trans hb1) (OwnPg.oth hO.out hBd.out.block hk1)))
      clear hd1 hb1 hk1
      go_wp2_with fail
      refine (HN.out w1).mono ?_
      rintro e w2 ⟨rfl, n3, rfl⟩
      have H2 := Lib.hid (show Bd X.heap.size (w1.drewN n3) b (done ++ t.take 506) ∧ Below X.heap.size X (w1.drewN n3) ∧ OwnPg X.heap.size (w1.drewN n3) u10 (pre ++ [p]) from ⟨Bd.below H1.out.1 (below_drawn w1 n3), H1.out.2.1.trans ((below_drawn w1 n3).mono H1.out.2.1.size), Own.drewN H1.out.2.2 n3⟩)
      clear H1
      generalize w1.drewN n3 = w2 at *
      go_wp2_with fail
      refine (HFo.out w2 H2.out.2.1).mono ?_
      rintro e w3 ⟨rfl, hb3⟩
      have H3 := Lib.hid (show Bd X.heap.size w3 b (done ++ t.take 506) ∧ Below X.heap.size X w3 ∧ OwnPg X.heap.size w3 u10 (pre ++ [p]) from ⟨Bd.below H2.out.1 hb3, H2.out.2.1.trans (hb3.mono H2.out.2.1.size), Own.below H2.out.2.2 hb3 (Nat.le_refl _)⟩)
      clear hb3 H2
      go_wp2_with (at_builtin; refine Hid.out ?_)
      refine Lib.hid ?_
      refine wpList_app pgST rfl _ _ rfl rfl (Own.alloc H3.out.2.2 _) (by have := H3.out.2.1.size; rw [World.size_alloc]; omega) w3.heap.size 0 1 1 [q] rfl rfl (pg_lies _ _) (by rw [List.length_append]; have := HM.out.2.2.2; show pre.length + 1 + 1 ≤ _; omega) ?_
      intro v' w4 ho4 hg4
      have H4 := Lib.hid (show OwnPg X.heap.size w4 v' (pre ++ [p] ++ [q]) ∧ Bd X.heap.size w4 b (done ++ t.take 506) ∧ Below X.heap.size X w4 by
        have hba : Below w3.heap.size w3 (w3.alloc (.cells #[.int .i64 (q : Int)] 3)) := (Below.refl _ w3).alloc (Nat.le_refl _) _
        have hu : ∀ g, u10.ownBlock = some g → X.heap.size ≤ g ∧ ∃ cs, (w3.alloc (.cells #[.int .i64 (q : Int)] 3)).heap[g]? = some (.cells cs 3 (0, 0)) := by
          intro g hg
          rcases (Own.alloc H3.out.2.2 (.cells #[.int .i64 (q : Int)] 3)).2 with ⟨e, _⟩ | ⟨g', cap', cur, e, hB', hh, _⟩
          · rw [e] at hg; cases hg
          · rw [e] at hg
            have e2 : some g' = some g := hg
            injection e2 with e2
            subst e2
            exact ⟨hB', _, hh⟩
        refine ⟨ho4, ?_, ?_⟩
        · refine Bd.grown (Bd.below H3.out.1 hba) hg4 (fun e => ?_) (fun g hg => (hu g hg).2)
          obtain ⟨cs, hcs⟩ := (hu b e).2
          obtain ⟨cs', hcs'⟩ := (Bd.below H3.out.1 hba).block
          rw [hcs] at hcs'
          injection hcs' with hcs'
          injection hcs' with _ hcs'
          exact absurd hcs' (by decide)
        · have h1 := H3.out.2.1.trans (hba.mono H3.out.2.1.size)
          exact h1.trans ⟨hg4.os, hg4.tape, hg4.output, hg4.size, fun k hk => hg4.block k (Nat.lt_of_lt_of_le hk h1.size) (fun e => by have := (hu k e.symm).1; omega)⟩)
      clear ho4 hg4
      go_wp2
      go_roundw
      case rel => exact ⟨pre ++ [p], q, l', 0xb1, t.drop 506, done ++ t.take 506, rfl, by rw [HT2.out], rfl, by rw [HM.out.2.1, HMM.out]; go_num, HNew, Lib.hid H4.out.1, Lib.hid H4.out.2.1, Lib.hid H4.out.2.2⟩
      case measure => simp [Go.RowKit.intOf]; omega
theorem blob_walk_no (h : RmI R ring g N lb tb rb H ps pg rt X) (i : Int) (hr : Rm.refuse pg i ≠ 0) :
    Calls Tryz.prog 62 #[ptr rb, .int .i64 i] X fun e X' => e = .returned (.tuple #[.slice none 0 0, .string ⟨#[]⟩, .int .i64 (Rm.refuse pg i)]) ∧ Below X.heap.size X X' := by
  have HR := Lib.hid (room_Read h i)
  generalize Rm.refuse pg i = E at *
  clear h
  go_enter Tryz.func62, Tryz.ntmps62
  unfold ptr
  go_wp2_with fail
  refine HR.out.mono ?_
  rintro e X1 ⟨rfl, hb1⟩
  go_wp2
  go_ret3
  exact ⟨rfl, hb1⟩
theorem blob_Get (h : RmI R ring g N lb tb rb H ps pg rt X) (p0 : Nat) (l0 : List Nat) (s : ByteArray) (hc : Bl.Chain pg 0xb0 (p0 :: l0) s.data.toList) (hs : s.size ≤ 131072) :
    Calls Tryz.prog 36 #[ptr rb, .int .i64 p0] X fun e X' => e = .returned (.tuple #[.string s, .int .i64 0]) ∧ Below X.heap.size X X' := by
  have HW := Lib.hid (blob_walk h p0 l0 s hc hs)
  clear h hc hs
  go_enter Tryz.func36, Tryz.ntmps36
  unfold ptr
  go_wp2_with fail
  refine HW.out.mono ?_
  rintro e X1 ⟨v, rfl, ho, hb1⟩
  clear ho
  go_wp2
  go_ret2
  exact ⟨rfl, hb1⟩
theorem blob_Get_no (h : RmI R ring g N lb tb rb H ps pg rt X) (i : Int) (hr : Rm.refuse pg i ≠ 0) :
    Calls Tryz.prog 36 #[ptr rb, .int .i64 i] X fun e X' => e = .returned (.tuple #[.string ⟨#[]⟩, .int .i64 (Rm.refuse pg i)]) ∧ Below X.heap.size X X' := by
  have HW := Lib.hid (blob_walk_no h i hr)
  generalize Rm.refuse pg i = E at *
  clear h hr
  go_enter Tryz.func36, Tryz.ntmps36
  unfold ptr
  go_wp2_with fail
  refine HW.out.mono ?_
  rintro e X1 ⟨rfl, hb1⟩
  go_wp2
  go_ret2
  exact ⟨rfl, hb1⟩
/-- What List answers of a blob. -/
def ListTo (l : List Nat) (X : World) (e : Ending) (X' : World) : Prop :=
  ∃ v, e = .returned (.tuple #[v, .int .i64 0]) ∧ OwnPg X.heap.size X' v l ∧ Below X.heap.size X X'
theorem blob_List (h : RmI R ring g N lb tb rb H ps pg rt X) (p0 : Nat) (l0 : List Nat) (s : ByteArray) (hc : Bl.Chain pg 0xb0 (p0 :: l0) s.data.toList) (hs : s.size ≤ 131072) :
    Calls Tryz.prog 38 #[ptr rb, .int .i64 p0] X fun e X' => ListTo (p0 :: l0) X e X' := by
  have HW := Lib.hid (blob_walk h p0 l0 s hc hs)
  clear h hc hs
  go_enter Tryz.func38, Tryz.ntmps38
  unfold ptr
  go_wp2_with fail
  refine HW.out.mono ?_
  rintro e X1 ⟨v, rfl, ho, hb1⟩
  have HE := Lib.hid (show ListTo (p0 :: l0) X (.returned (.tuple #[v, .int .i64 0])) X1 from ⟨v, rfl, ho, hb1⟩)
  clear ho hb1
  go_wp2
  go_ret2
  exact HE.out
theorem blob_Drop_no (h : RmI R ring g N lb tb rb H ps pg rt X) (i : Int) (hr : Rm.refuse pg i ≠ 0) :
    Calls Tryz.prog 34 #[ptr rb, .int .i64 i] X fun e X' => e = .returned (.int .i64 (Rm.refuse pg i)) ∧ Below X.heap.size X X' := by
  have HW := Lib.hid (blob_walk_no h i hr)
  generalize Rm.refuse pg i = E at *
  clear h
  go_enter Tryz.func34, Tryz.ntmps34
  unfold ptr
  go_wp2_with fail
  refine HW.out.mono ?_
  rintro e X1 ⟨rfl, hb1⟩
  go_wp2
  go_ret
  exact ⟨rfl, hb1⟩
set_option maxRecDepth 100000 in
set_option maxHeartbeats 1000000 in
theorem blob_Drop (h : RmI R ring g N lb tb rb H ps pg rt X) (p0 : Nat) (l0 : List Nat) (s : ByteArray) (hc : Bl.Chain pg 0xb0 (p0 :: l0) s.data.toList) (hs : s.size ≤ 131072) (hn : (p0 :: l0).Nodup) (hq : ps.length ≤ 600000) :
    Calls Tryz.prog 34 #[ptr rb, .int .i64 p0] X fun e X' => e = .returned (.int .i64 0) ∧ DidN (2 * (p0 :: l0).length) R ring g N lb tb rb H ps (Bl.dropped pg (p0 :: l0)) rt X X' := by
  have HW := Lib.hid (blob_walk h p0 l0 s hc hs)
  have HI := Lib.hid h
  have hlen : (p0 :: l0).length ≤ 260 := by
    rw [hc.length]
    exact Bl.need_le (by rw [show s.data.toList.length = s.size from Array.length_toList]; omega)
  have HT := Lib.hid (And.intro hc.taken (And.intro hn (And.intro hlen hq)))
  have h1l : 1 ≤ (p0 :: l0).length := by show 1 ≤ l0.length + 1; omega
  generalize p0 :: l0 = l at *
  have hlI : (l.length : Int) ≤ 260 := by omega
  clear h hc hs hn hq
  go_enter Tryz.func34, Tryz.ntmps34
  unfold ptr
  go_wp2_with fail
  refine HW.out.mono ?_
  rintro e X1 ⟨v, rfl, ho, hb1⟩
  obtain ⟨gv, cap, rfl, hgv, hgs, hcap⟩ := Own.form ho h1l
  have H1 := Lib.hid (show RmI (fun k => R k ∨ k = gv) ring g N lb tb rb H ps pg rt X1 ∧ OwnPg X.heap.size X1 (.slice (some ⟨gv, 0, none⟩) l.length cap) l ∧ But (fun k => ¬ R k) X X1 from
    ⟨HI.out.turn (But.of_below hb1 (fun _ => False)) (fun _ _ h => h.elim) id (fun k hk => hk.imp_right fun e => by omega) (.inl HI.out.rr), ho, But.of_below hb1 _⟩)
  clear ho hb1 hcap hlen
  go_wp2
  go_loopw [23] (fun i wr => ∃ j : Nat, j ≤ l.length ∧ i = .int .i64 j ∧ ∃ qs, Hid (RmI (fun k => R k ∨ k = gv) ring g N lb tb rb H qs (Bl.dropped pg (l.take j)) rt wr ∧ qs.length ≤ ps.length + 2 * j ∧ But (fun k => ¬ R k) X wr ∧ OwnPg X.heap.size wr (.slice (some ⟨gv, 0, none⟩) l.length cap) l)) (fun i _ => l.length - (Go.RowKit.intOf i).toNat)
  case atStart => exact ⟨0, Nat.zero_le _, rfl, ps, Lib.hid ⟨H1.out.1, by omega, H1.out.2.2, H1.out.2.1⟩⟩
  case round =>
    obtain ⟨j, hj, rfl, qs, hS⟩ := hrel
    by_cases hlt : j < l.length
    · have hI : (j : Int) < l.length := by omega
      have hcell := OwnPg.cellAt hS.out.2.2.2 hlt
      obtain ⟨p, hp⟩ : ∃ p, p = l[j] := ⟨_, rfl⟩
      rw [← hp] at hcell
      have hnot : p ∉ l.take j := by
        have hnd := HT.out.2.1
        intro hm
        rw [← List.take_append_drop j l, List.nodup_append] at hnd
        exact hnd.2.2 p hm p (by rw [Bl.drop_cons hlt, ← hp]; exact List.mem_cons_self) rfl
      have hso : ((Bl.dropped pg (l.take j)).getD p none).isSome = true := by
        rw [Bl.dropped_other _ _ _ hnot]
        exact HT.out.1 p (by rw [hp]; exact List.getElem_mem hlt)
      obtain ⟨e1, e2⟩ := Bl.freed_some hso
      have HE := Lib.hid (And.intro e1 (And.intro e2 (And.intro hlt (show Bl.dropped pg (l.take (j + 1)) = (Bl.dropped pg (l.take j)).set p none by rw [List.take_succ_eq_append_getElem hlt, Bl.dropped_snoc, ← hp]))))
      clear e1 e2 hso hnot hlt hp hj
      go_wp2_with fail
      refine (room_Free hS.out.1 p (by have := hS.out.2.1; have := HT.out.2.2; have := HE.out.2.2.1; omega)).mono ?_
      rintro e w1 ⟨rfl, qs1, hl1, h1, hb1⟩
      rw [HE.out.1, ← HE.out.2.2.2] at h1
      rw [HE.out.2.1]
      have H2 := Lib.hid (show RmI (fun k => R k ∨ k = gv) ring g N lb tb rb H qs1 (Bl.dropped pg (l.take (j + 1))) rt w1 ∧ qs1.length ≤ ps.length + 2 * (j + 1) ∧ But (fun k => ¬ R k) X w1 ∧ OwnPg X.heap.size w1 (.slice (some ⟨gv, 0, none⟩) l.length cap) l from ⟨h1, by have := hS.out.2.1; omega, hS.out.2.2.1.trans hb1 (fun k _ hn hr => hn (.inl hr)), Own.but hS.out.2.2.2 hb1 (fun x hx hn => hn (.inr (by have e : some gv = some x := hx; injection e with e; exact e.symm)))⟩)
      clear h1 hb1 hl1 hcell
      go_wp2
      go_roundw
      case rel => exact ⟨j + 1, HE.out.2.2.1, by go_num, qs1, H2⟩
      case measure => have := HE.out.2.2.1; simp [Go.RowKit.intOf]; omega
    · have hI : ¬ (j : Int) < l.length := by omega
      have hj2 : l.take j = l := List.take_of_length_le (by omega)
      have HE := Lib.hid (show DidN (2 * l.length) R ring g N lb tb rb H ps (Bl.dropped pg l) rt X wr from ⟨qs, by have := hS.out.2.1; omega, by have := hS.out.1; rw [hj2] at this; exact this.less (fun k hk => .inl hk) HI.out.rr, hS.out.2.2.1⟩)
      clear hlt hj2 hj
      go_wp2
      go_ret
      exact ⟨rfl, HE.out⟩
end
end Go.Proofs.YtahnhhhhfioibaaGreatDoor

namespace Go.Proofs.YtahnhhhhfioibaaGreatDoor
open Go.RowKit Lib

namespace Bl
theorem Placed.head {pg pg' : List (Option Wl.Text)} {l : List Nat} {s : Wl.Text} (h : Placed pg l s pg') : ∃ p l0, l = p :: l0 := by
  cases l with
  | nil => exact h.chain.elim
  | cons p l => exact ⟨p, l, rfl⟩
theorem refused_ok {pg : List (Option Wl.Text)} {n : Nat} (h1 : n ≤ 131072) (h2 : Rm.used pg + need n ≤ pg.length) : refused pg n = 0 := by
  unfold refused
  rw [if_neg (by omega), if_neg (by omega)]
theorem used_new (n : Nat) : Rm.used (List.replicate n none) = 0 := by
  unfold Rm.used
  rw [List.filter_eq_nil_iff.2]
  · rfl
  · intro a ha
    rw [(List.mem_replicate.1 ha).2]
    decide
end Bl
/-- The room of the laws of layer 8, with up to B puts. -/
def St8 (w : World) (R : Nat → Prop) (g b tb r n : Nat) (rt : List Nat) (pg : List (Option Wl.Text)) (B : Nat) (X : World) : Prop :=
  ∃ ps, RmI R 200 g 1 b tb r (Wl.noughts n) ps pg rt X ∧ ps.length ≤ B ∧ Below w.heap.size w X
section
variable {w X X' : World} {R : Nat → Prop} {g b tb r n B : Nat} {rt : List Nat} {pg : List (Option Wl.Text)}
theorem St8.below (h : St8 w R g b tb r n rt pg B X) : Below w.heap.size w X := by
  obtain ⟨_, _, _, h⟩ := h
  exact h
theorem St8.more (h : St8 w R g b tb r n rt pg B X) {B' : Nat} (hB : B ≤ B') : St8 w R g b tb r n rt pg B' X := by
  obtain ⟨ps, h1, h2, h3⟩ := h
  exact ⟨ps, h1, by omega, h3⟩
theorem St8.still (h : St8 w R g b tb r n rt pg B X) (hb : Below X.heap.size X X') : St8 w R g b tb r n rt pg B X' := by
  obtain ⟨ps, h1, h2, h3⟩ := h
  exact ⟨ps, h1.still hb, h2, h3.trans (hb.mono h3.size)⟩
/-- Blocks of the law's own, new ones, are held from here on. -/
theorem St8.hold (h : St8 w R g b tb r n rt pg B X) {R' : Nat → Prop} (hb : Below X.heap.size X X') (hR' : ∀ k, R' k → R k ∨ (X.heap.size ≤ k ∧ k < X'.heap.size)) (hr : R' r) : St8 w R' g b tb r n rt pg B X' := by
  obtain ⟨ps, h1, h2, h3⟩ := h
  exact ⟨ps, h1.turn (But.of_below hb (fun _ => False)) (fun _ _ h => h.elim) id hR' hr, h2, h3.trans (hb.mono h3.size)⟩
theorem St8.less (h : St8 w R g b tb r n rt pg B X) {R' : Nat → Prop} (hR' : ∀ k, R' k → R k) (hr : R' r) : St8 w R' g b tb r n rt pg B X :=
  h.hold (Below.refl _ _) (fun k hk => .inl (hR' k hk)) hr
theorem St8.rr (h : St8 w R g b tb r n rt pg B X) : R r ∧ r < X.heap.size := by
  obtain ⟨ps, h1, _, _⟩ := h
  exact ⟨h1.rr, h1.blk.lt⟩
/-- The law's own stores. -/
theorem St8.turn (h : St8 w R g b tb r n rt pg B X) {S : Nat → Prop} (hb : But S X X') (hS : ∀ k, k < X.heap.size → S k → R k ∧ k ≠ r ∧ w.heap.size ≤ k) : St8 w R g b tb r n rt pg B X' := by
  obtain ⟨ps, h1, h2, h3⟩ := h
  exact ⟨ps, h1.turn hb (fun k hk hs => (hS k hk hs).1) (fun hs => (hS r h1.blk.lt hs).2.1 rfl) (fun k hk => .inl hk) h1.rr, h2, h3.trans (hb.mono (T := fun k => k < X.heap.size → w.heap.size ≤ k) (fun k hk hs _ => (hS k hk hs).2.2) |>.below h3.size fun k hk e => by have := e (Nat.lt_of_lt_of_le hk h3.size); omega)⟩
theorem st8_did {m : Nat} {ps : List (Nat × List UInt8)} {pg' : List (Option Wl.Text)} (hR : ∀ k, k < w.heap.size → R k) (hb : Below w.heap.size w X) (hl : ps.length ≤ B) (h : DidN m R 200 g 1 b tb r (Wl.noughts n) ps pg' rt X X') : St8 w R g b tb r n rt pg' (B + m) X' ∧ But (fun k => ¬ R k) X X' := by
  obtain ⟨ps', h1, h2, h3⟩ := h
  exact ⟨⟨ps', h2, by omega, hb.trans (h3.below hb.size fun k hk hn => hn (hR k hk))⟩, h3⟩
/-- What Put of a law's text leaves. -/
def Put8 (w : World) (R : Nat → Prop) (g b tb r n : Nat) (rt : List Nat) (pg : List (Option Wl.Text)) (B : Nat) (X : World) (s : ByteArray) (e : Ending) (X' : World) : Prop :=
  ∃ p l0 pg', e = .returned (.tuple #[.int .i64 (p : Nat), .int .i64 0]) ∧ Bl.Placed pg (p :: l0) s.data.toList pg' ∧ St8 w R g b tb r n rt pg' (B + 1040) X' ∧ But (fun k => ¬ R k) X X'
theorem st8_put (h : St8 w R g b tb r n rt pg B X) (hR : ∀ k, k < w.heap.size → R k) (hB : B ≤ 500000) (s : ByteArray) (hr : Bl.refused pg s.size = 0) :
    Calls Tryz.prog 33 #[ptr r, .string s] X fun e X' => Put8 w R g b tb r n rt pg B X s e X' := by
  obtain ⟨ps, h1, h2, h3⟩ := h
  refine (blob_Put h1 s hr (by omega)).mono ?_
  rintro e X' ⟨l, pg', rfl, hp, hd⟩
  obtain ⟨p, l0, rfl⟩ := hp.head
  obtain ⟨h4, h5⟩ := st8_did hR h3 h2 hd
  refine ⟨p, l0, pg', rfl, hp, h4.more ?_, h5⟩
  have hs : s.size ≤ 131072 := by
    unfold Bl.refused at hr
    by_cases hs : 131072 < s.size
    · rw [if_pos hs] at hr; cases hr
    · omega
  have := Bl.need_le (n := s.size) (by omega)
  omega
theorem st8_put_no (h : St8 w R g b tb r n rt pg B X) (s : ByteArray) (hr : Bl.refused pg s.size ≠ 0) (hs : s.size ≤ 1000000) :
    Calls Tryz.prog 33 #[ptr r, .string s] X fun e X' => e = .returned (.tuple #[.int .i64 0, .int .i64 (Bl.refused pg s.size)]) ∧ St8 w R g b tb r n rt pg B X' ∧ Below X.heap.size X X' := by
  have h' := h
  obtain ⟨ps, h1, h2, h3⟩ := h
  refine (blob_Put_no h1 s hr hs).mono ?_
  rintro e X' ⟨rfl, hb⟩
  exact ⟨rfl, h'.still hb, hb⟩
theorem st8_get (h : St8 w R g b tb r n rt pg B X) (p : Nat) (l0 : List Nat) (s : ByteArray) (hc : Bl.Chain pg 0xb0 (p :: l0) s.data.toList) (hs : s.size ≤ 131072) :
    Calls Tryz.prog 36 #[ptr r, .int .i64 p] X fun e X' => e = .returned (.tuple #[.string s, .int .i64 0]) ∧ St8 w R g b tb r n rt pg B X' ∧ Below X.heap.size X X' := by
  have h' := h
  obtain ⟨ps, h1, h2, h3⟩ := h
  refine (blob_Get h1 p l0 s hc hs).mono ?_
  rintro e X' ⟨rfl, hb⟩
  exact ⟨rfl, h'.still hb, hb⟩
theorem st8_get_no (h : St8 w R g b tb r n rt pg B X) (i : Int) (hr : Rm.refuse pg i ≠ 0) :
    Calls Tryz.prog 36 #[ptr r, .int .i64 i] X fun e X' => e = .returned (.tuple #[.string ⟨#[]⟩, .int .i64 (Rm.refuse pg i)]) ∧ St8 w R g b tb r n rt pg B X' ∧ Below X.heap.size X X' := by
  have h' := h
  obtain ⟨ps, h1, h2, h3⟩ := h
  refine (blob_Get_no h1 i hr).mono ?_
  rintro e X' ⟨rfl, hb⟩
  exact ⟨rfl, h'.still hb, hb⟩
/-- What List answers the law. -/
def List8 (w : World) (R : Nat → Prop) (g b tb r n : Nat) (rt : List Nat) (pg : List (Option Wl.Text)) (B : Nat) (X : World) (l : List Nat) (e : Ending) (X' : World) : Prop :=
  ∃ v, e = .returned (.tuple #[v, .int .i64 0]) ∧ OwnPg X.heap.size X' v l ∧ St8 w R g b tb r n rt pg B X' ∧ Below X.heap.size X X'
theorem st8_list (h : St8 w R g b tb r n rt pg B X) (p : Nat) (l0 : List Nat) (s : ByteArray) (hc : Bl.Chain pg 0xb0 (p :: l0) s.data.toList) (hs : s.size ≤ 131072) :
    Calls Tryz.prog 38 #[ptr r, .int .i64 p] X fun e X' => List8 w R g b tb r n rt pg B X (p :: l0) e X' := by
  have h' := h
  obtain ⟨ps, h1, h2, h3⟩ := h
  refine (blob_List h1 p l0 s hc hs).mono ?_
  rintro e X' ⟨v, rfl, ho, hb⟩
  exact ⟨v, rfl, ho, h'.still hb, hb⟩
theorem st8_drop (h : St8 w R g b tb r n rt pg B X) (hR : ∀ k, k < w.heap.size → R k) (hB : B ≤ 500000) (p : Nat) (l0 : List Nat) (s : ByteArray) (hc : Bl.Chain pg 0xb0 (p :: l0) s.data.toList) (hs : s.size ≤ 131072) (hn : (p :: l0).Nodup) :
    Calls Tryz.prog 34 #[ptr r, .int .i64 p] X fun e X' => e = .returned (.int .i64 0) ∧ St8 w R g b tb r n rt (Bl.dropped pg (p :: l0)) (B + 520) X' ∧ But (fun k => ¬ R k) X X' := by
  have hl := hc.length
  rw [show s.data.toList.length = s.size from Array.length_toList] at hl
  have := Bl.need_le (n := s.size) (by omega)
  obtain ⟨ps, h1, h2, h3⟩ := h
  refine (blob_Drop h1 p l0 s hc hs hn (by omega)).mono ?_
  rintro e X' ⟨rfl, hd⟩
  obtain ⟨h4, h5⟩ := st8_did hR h3 h2 hd
  exact ⟨rfl, h4.more (by omega), h5⟩
theorem st8_drop_no (h : St8 w R g b tb r n rt pg B X) (i : Int) (hr : Rm.refuse pg i ≠ 0) :
    Calls Tryz.prog 34 #[ptr r, .int .i64 i] X fun e X' => e = .returned (.int .i64 (Rm.refuse pg i)) ∧ St8 w R g b tb r n rt pg B X' ∧ Below X.heap.size X X' := by
  have h' := h
  obtain ⟨ps, h1, h2, h3⟩ := h
  refine (blob_Drop_no h1 i hr).mono ?_
  rintro e X' ⟨rfl, hb⟩
  exact ⟨rfl, h'.still hb, hb⟩
theorem st8_used (h : St8 w R g b tb r n rt pg B X) :
    Calls Tryz.prog 37 #[ptr r] X fun e X' => e = .returned (.tuple #[.int .i64 (Rm.used pg : Nat), .int .i64 0]) ∧ St8 w R g b tb r n rt pg B X' ∧ Below X.heap.size X X' := by
  have h' := h
  obtain ⟨ps, h1, h2, h3⟩ := h
  refine (room_Used h1).mono ?_
  rintro e X' ⟨rfl, hb⟩
  exact ⟨rfl, h'.still hb, hb⟩
theorem st8_has (h : St8 w R g b tb r n rt pg B X) (i : Int) :
    Calls Tryz.prog 35 #[ptr r, .int .i64 i] X fun e X' => e = .returned (.tuple #[.bool (Rm.has pg i), .int .i64 (Rm.hasNo pg i)]) ∧ St8 w R g b tb r n rt pg B X' ∧ Below X.heap.size X X' := by
  have h' := h
  obtain ⟨ps, h1, h2, h3⟩ := h
  refine (room_has h1 i).mono ?_
  rintro e X' ⟨rfl, hb⟩
  exact ⟨rfl, h'.still hb, hb⟩
end
/-- A text of so many bytes. -/
def Text8 (n : Nat) (X : World) (e : Ending) (X' : World) : Prop := ∃ u : ByteArray, e = .returned (.string u) ∧ u.size = n ∧ Below X.heap.size X X'
set_option maxRecDepth 100000 in
theorem text8_any (w : World) (n : Nat) (c : Int) (hn : n ≤ 1000000) (hc : 0 ≤ c ∧ c ≤ 255) :
    Calls Tryz.prog 32 #[.int .i64 n, .int .u8 c] w fun e w' => Text8 n w e w' := by
  have hmk := make_zeros w n hn
  have hnI : (n : Int) ≤ 1000000 := by omega
  obtain ⟨r, hr⟩ : ∃ r, r = w.heap.size := ⟨_, rfl⟩
  obtain ⟨Y, hY⟩ : ∃ Y, Y = w.alloc (.cells (List.replicate n (.int .u8 0)).toArray 5) := ⟨_, rfl⟩
  rw [← hr, ← hY] at hmk
  have H0 := Lib.hid (show Blk Y r 5 ((List.replicate n (0 : UInt8)).map bcell) ∧ Below w.heap.size w Y ∧ w.heap.size ≤ r by
    rw [hY, hr, List.map_replicate]
    exact ⟨Blk.new w _ _, (Below.refl _ w).alloc (Nat.le_refl _) _, Nat.le_refl _⟩)
  have HC := Lib.hid hc
  clear hr hY hn hc
  go_enter Tryz.func32, Tryz.ntmps32
  go_wp2
  go_loopw [1, 11] (fun cv i wr => ∃ j : Nat, j ≤ n ∧ i = .int .i64 j ∧ ∃ (x : Int) (l : List UInt8), cv = .int .u8 x ∧ Hid (0 ≤ x ∧ x ≤ 255 ∧ l.length = n) ∧ Hid (Blk wr r 5 (l.map bcell)) ∧ Hid (Below w.heap.size w wr)) (fun _ i _ => n - (Go.RowKit.intOf i).toNat)
  case atStart => exact ⟨0, Nat.zero_le _, rfl, c, List.replicate n 0, rfl, Lib.hid ⟨HC.out.1, HC.out.2, List.length_replicate⟩, Lib.hid H0.out.1, Lib.hid H0.out.2.1⟩
  case round =>
    obtain ⟨j, hj, rfl, x, l, rfl, hL, hS, hB⟩ := hrel
    by_cases hlt : j < n
    · have hI : (j : Int) < n := by omega
      have hcell0 := hS.out.cell (j := j) (u := bcell (l[j]'(by rw [hL.out.2.2]; exact hlt))) (by rw [List.getElem?_map, List.getElem?_eq_getElem (by rw [hL.out.2.2]; exact hlt)]; rfl)
      obtain ⟨y, hcell⟩ : ∃ y : Int, wr.cell? ⟨r, j, none⟩ = some (.int .u8 y) := ⟨_, hcell0⟩
      have hfr := hS.out.frozen j
      have HJ := Lib.hid hlt
      obtain ⟨W, hW⟩ : ∃ W, W = wr.setCell ⟨r, j, none⟩ (.int .u8 x) := ⟨_, rfl⟩
      have HW := Lib.hid (show Blk W r 5 ((l.set j (UInt8.ofNat x.toNat)).map bcell) ∧ Below w.heap.size w W by
        rw [hW]
        refine ⟨?_, hB.out.setCell (p := ⟨r, j, none⟩) H0.out.2.2 _⟩
        have := hS.out.set j (.int .u8 x)
        rw [List.map_set]
        have e : bcell (UInt8.ofNat x.toNat) = .int .u8 x := by
          unfold bcell
          rw [UInt8.toNat_ofNat']
          congr 1
          have := hL.out
          omega
        rw [e]; exact this)
      have HWW := Lib.hid hW
      have hx1 := hL.out.1
      have hx2 := hL.out.2.1
      clear hcell0
      clear hlt hj hW
      go_wp2
      rw [← HWW.out]
      go_roundw
      case rel => exact ⟨j + 1, HJ.out, by go_num, _, l.set j (UInt8.ofNat x.toNat), rfl, Lib.hid ⟨by omega, by omega, by rw [List.length_set]; exact hL.out.2.2⟩, Lib.hid HW.out.1, Lib.hid HW.out.2⟩
      case measure => have := HJ.out; simp [Go.RowKit.intOf]; omega
    · have hI : ¬ (j : Int) < n := by omega
      have hback := back_row wr r n l hS.out
      rw [hL.out.2.2] at hback
      have HE := Lib.hid (show Text8 n w (.returned (.string (bs l))) wr from ⟨bs l, rfl, by rw [bs_size]; exact hL.out.2.2, hB.out⟩)
      clear hlt hj
      go_wp2
      go_ret
      exact HE.out
/-- The room that the laws begin with. -/
theorem st8_begun {w X : World} {A : Nat → Prop} {g b tb n : Nat} (h : C1 A 200 g 1 b tb (Wl.noughts n) [] X) (hb : Below w.heap.size w X) (h1 : 3 ≤ n) (h2 : n ≤ 4098) :
    St8 w (fun k => A k ∨ k = X.heap.size) g b tb X.heap.size n (List.replicate 16 0) (List.replicate (n - 2) none) 0 (X.alloc (.cells #[ptr tb] 112)) :=
  ⟨[], room_begun h h1 h2, Nat.le_refl _, hb.alloc hb.size _⟩
set_option maxRecDepth 100000 in
set_option maxHeartbeats 4000000 in
theorem awake8_any (w : World) : Calls Tryz.prog 26 #[] w fun e w' => e = .returned (.bool true) ∧ Below w.heap.size w w' := by
  have hmk := fun W => make_zeros W 507 (by decide)
  have hbk := fun W => zeros_back W 507 507
  obtain ⟨Zr, hZr⟩ : ∃ Zr : Array Value, Zr = (List.replicate 507 (Value.int .u8 0)).toArray := ⟨_, rfl⟩
  obtain ⟨zs, hzs⟩ : ∃ zs, zs = bs (List.replicate 507 0) := ⟨_, rfl⟩
  rw [← hZr] at hmk
  rw [← hZr, ← hzs] at hbk
  have hsz : zs.size = 507 := by rw [hzs, bs_size, List.length_replicate]
  clear hZr hzs
  go_enter Tryz.func26, Tryz.ntmps26
  go_wp2_with fail
  refine (wide_any w 10 (by decide) (by decide)).mono ?_
  rintro e w2 ⟨g, b, rfl, hk2, hb2⟩
  have H2 := Lib.hid (And.intro hk2 hb2)
  clear hk2 hb2
  go_wp2_with fail
  refine (c1_begin H2.out.1).mono ?_
  rintro e w3 ⟨tb, rfl, h3, hb3⟩
  have H3 := Lib.hid (And.intro h3 (H2.out.2.trans (hb3.mono H2.out.2.size)))
  clear h3 hb3
  go_wp2_with fail
  refine (room_Of w3 tb).mono ?_
  rintro e w4 ⟨rfl, rfl⟩
  obtain ⟨R, hR⟩ : ∃ R : Nat → Prop, R = fun k => k < w.heap.size ∨ k = w3.heap.size := ⟨_, rfl⟩
  obtain ⟨r, hr⟩ : ∃ r, r = w3.heap.size := ⟨_, rfl⟩
  have HR := Lib.hid (show ∀ k, k < w.heap.size → R k by rw [hR]; exact fun k hk => .inl hk)
  obtain ⟨P0, hP0⟩ : ∃ P0 : List (Option Wl.Text), P0 = List.replicate (10 - 2) none := ⟨_, rfl⟩
  have HP0 := Lib.hid (show Rm.used P0 = 0 ∧ P0.length = 8 by rw [hP0]; exact ⟨Bl.used_new _, rfl⟩)
  have H4 := Lib.hid (show St8 w R g b tb r 10 (List.replicate 16 0) P0 0 (w3.alloc (.cells #[ptr tb] 112)) by rw [hR, hr, hP0]; exact st8_begun H3.out.1 H3.out.2 (by decide) (by decide))
  rw [← hr]
  generalize List.replicate 16 0 = rt at H4
  obtain ⟨W, hW⟩ : ∃ W, W = w3.alloc (.cells #[ptr tb] 112) := ⟨_, rfl⟩
  rw [← hW] at H4 ⊢
  have hmk1 : (Instr.makeSlice 110 (.int .i64 507) (.int .i64 507)).run Tryz.prog W = .ok (.slice (some ⟨W.heap.size, 0, none⟩) 507 507) (W.alloc (.cells Zr 5)) := hmk W
  have hbk1 := hbk W
  obtain ⟨W2, hW2⟩ : ∃ W2, W2 = W.alloc (.cells Zr 5) := ⟨_, rfl⟩
  rw [← hW2] at hmk1 hbk1
  have H5 := Lib.hid (show St8 w R g b tb r 10 rt P0 0 W2 by rw [hW2]; exact H4.out.still ((Below.refl _ W).alloc (Nat.le_refl _) _))
  obtain ⟨s, hs⟩ : ∃ s, zs ++ ⟨#[120]⟩ = s := ⟨_, rfl⟩
  have HS := Lib.hid (show s.size = 508 by rw [← hs, ByteArray.size_append, hsz]; rfl)
  clear hR hr hW H3 H2 hP0 hmk hbk hW2 H4
  go_wp2_with fail
  have hneed : Bl.need s.size = 2 := by rw [HS.out]; rfl
  have HN := Lib.hid hneed
  refine (st8_put H5.out HR.out (by decide) s (Bl.refused_ok (by rw [HS.out]; decide) (by rw [HN.out, HP0.out.1, HP0.out.2]; decide))).mono ?_
  rintro e w6 ⟨p, l0, P1, rfl, hp, h6, -⟩
  have H6 := Lib.hid (And.intro hp h6)
  clear hp h6 hneed
  go_wp2_with fail
  refine (st8_get H6.out.2 p l0 s H6.out.1.chain (by rw [HS.out]; decide)).mono ?_
  rintro e w7 ⟨rfl, h7, -⟩
  have H7 := Lib.hid h7
  clear h7
  go_wp2_with fail
  refine (st8_used H7.out).mono ?_
  rintro e w8 ⟨rfl, h8, -⟩
  have hu := H6.out.1.used
  rw [show s.data.toList.length = s.size from Array.length_toList, HN.out, HP0.out.1] at hu
  rw [hu]
  have HU := Lib.hid hu
  have H8 := Lib.hid h8
  clear h8 hu
  go_wp2_with fail
  refine (st8_drop H8.out HR.out (by decide) p l0 s H6.out.1.chain (by rw [HS.out]; decide) H6.out.1.nodup).mono ?_
  rintro e w9 ⟨rfl, h9, -⟩
  have H9 := Lib.hid h9
  clear h9
  go_wp2_with fail
  refine (st8_used H9.out).mono ?_
  rintro e w10 ⟨rfl, h10, -⟩
  have hu2 : Rm.used (Bl.dropped P1 (p :: l0)) = 0 := by
    have h1 := Bl.dropped_used (p :: l0) P1 H6.out.1.nodup H6.out.1.chain.taken
    have h2 := H6.out.1.chain.length
    rw [show s.data.toList.length = s.size from Array.length_toList, HN.out] at h2
    have := HU.out
    omega
  rw [hu2]
  have H10 := Lib.hid h10.below
  clear h10 hu2
  go_wp2
  go_ret
  exact ⟨rfl, H10.out⟩
end Go.Proofs.YtahnhhhhfioibaaGreatDoor
