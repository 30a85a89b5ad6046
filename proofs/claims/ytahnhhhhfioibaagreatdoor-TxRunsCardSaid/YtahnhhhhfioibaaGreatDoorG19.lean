/- Elder texts, merged (19). -/
import Derived.Test.YtahnhhhhfioibaaGreatDoorG8
import Derived.Laws.ResultCell
namespace Go.Proofs.YtahnhhhhfioibaaGreatDoor
open Go.RowKit Lib

abbrev T6 : TypeId := 38
def ref6 (vh : Value) (ring : Nat) (vp : Value) : Value := .agg #[vh, .int .i64 ring, vp]
/-- A struct and a number as results. -/
theorem result_two {fn : Func} {p u : Tmp} (h : fn.results = #[.cell p T6, .tmp u]) (tmps : Array Value) {w : World} {g : Nat} {cs : List Value} (hp : tmps.getD p undef = .pointer (some ⟨g, 0, none⟩)) (hb : Blk w g T6 cs) (hc : cs.length = 3) :
    (results fn tmps).run Tryz.prog w = .ok (.tuple #[.agg cs.toArray, tmps.getD u undef]) w := by
  have hp' : tmps[p]?.getD undef = .pointer (some ⟨g, 0, none⟩) := by simpa using hp
  rw [results_cell_tmp h]
  simp [hp', asAddr, run_loadVar_row w g T6 T6 cs.toArray (0, 0) _ hb Tryz.underlying38 rfl (by rw [show (Tryz.prog.info? T6).map (·.size) = some 3 by kernel_rfl]; simp [hc])]
theorem result_one {fn : Func} {p : Tmp} (h : fn.results = #[.cell p T6]) (tmps : Array Value) {w : World} {g : Nat} {cs : List Value} (hp : tmps.getD p undef = .pointer (some ⟨g, 0, none⟩)) (hb : Blk w g T6 cs) (hc : cs.length = 3) :
    (results fn tmps).run Tryz.prog w = .ok (.agg cs.toArray) w :=
  results_cell_row h tmps w g T6 cs.toArray (0, 0) _ hp hb Tryz.underlying38 rfl (by rw [show (Tryz.prog.info? T6).map (·.size) = some 3 by kernel_rfl]; simp [hc])
set_option maxRecDepth 100000 in
set_option maxHeartbeats 1000000 in
theorem refWrite_no (w : World) (vh vp : Value) (ring : Nat) (B B' : Nat) (ps : List (Nat × List UInt8)) (h : OwnP B w vp ps) (H : List Wl.Text) (hH : OwnS B' w vh H) (i : Int) (s : ByteArray) (c : Int)
    (hc : (c = 2 ∧ (i < 0 ∨ (H.length : Int) ≤ i)) ∨ (c = 5 ∧ 0 ≤ i ∧ i < H.length ∧ 512 < s.size)) :
    Calls Tryz.prog 12 #[ref6 vh ring vp, .int .i64 i, .string s] w fun e w' => e = .returned (.tuple #[ref6 vh ring vp, .int .i64 c]) ∧ Below w.heap.size w w' := by
  obtain ⟨a, ca, hvp, _⟩ := Own.slice h
  obtain ⟨a', ca', hvh, _⟩ := Own.slice hH
  rw [List.length_map] at hvh
  subst hvp hvh
  unfold ref6
  have hb := Blk.new (w.alloc (.cells #[.slice a' H.length ca', .int .i64 ring, .slice a ps.length ca] T6)) #[.slice a' H.length ca', .int .i64 ring, .slice a ps.length ca] T6
  rw [World.size_alloc] at hb
  have HB := Lib.hid hb
  have HBl := Lib.hid (((Below.refl _ w).alloc (Nat.le_refl _) (.cells #[.slice a' H.length ca', .int .i64 ring, .slice a ps.length ca] T6)).alloc (by simp) (.cells #[.slice a' H.length ca', .int .i64 ring, .slice a ps.length ca] T6))
  clear hb
  go_enter Tryz.func12, Tryz.ntmps12
  rcases hc with ⟨rfl, hc⟩ | ⟨rfl, h1, h2, h3⟩
  · by_cases h0 : i < 0
    · go_wp2
      refine bodyPost_ret (result_two rfl _ rfl HB.out rfl) rfl ?_
      exact ⟨rfl, HBl.out⟩
    · have h1 : (H.length : Int) ≤ i := hc.resolve_left h0
      go_wp2
      refine bodyPost_ret (result_two rfl _ rfl HB.out rfl) rfl ?_
      exact ⟨rfl, HBl.out⟩
  · have h0 : ¬ i < 0 := by omega
    have h4 : ¬ (H.length : Int) ≤ i := by omega
    have h5 : (s.size : Int) > 512 := by omega
    go_wp2
    refine bodyPost_ret (result_two rfl _ rfl HB.out rfl) rfl ?_
    exact ⟨rfl, HBl.out⟩
set_option maxRecDepth 100000 in
set_option maxHeartbeats 1000000 in
theorem refWrite_ok (w : World) (vh vp : Value) (ring : Nat) (B B' : Nat) (ps : List (Nat × List UInt8)) (h : OwnP B w vp ps) (H : List Wl.Text) (hH : OwnS B' w vh H) (i : Nat) (s : ByteArray) (hi : i < H.length) (hs : s.size ≤ 512) (hp : ps.length ≤ 900000) (hB : B ≤ w.heap.size) :
    Calls Tryz.prog 12 #[ref6 vh ring vp, .int .i64 i, .string s] w fun e w' => ∃ vp', e = .returned (.tuple #[ref6 vh ring vp', .int .i64 0]) ∧ OwnP w.heap.size w' vp' (ps ++ [(i, s.data.toList)]) ∧ Below w.heap.size w w' := by
  have HP := Lib.hid h
  obtain ⟨a, ca, hvp, _⟩ := Own.slice h
  obtain ⟨a', ca', hvh, _⟩ := Own.slice hH
  rw [List.length_map] at hvh
  subst hvp hvh
  unfold ref6
  have h0 : ¬ (i : Int) < 0 := by omega
  have h4 : ¬ (H.length : Int) ≤ i := by omega
  have h5 : ¬ (s.size : Int) > 512 := by omega
  have HS := Lib.hid (And.intro hp hB)
  clear h hH
  go_enter Tryz.func12, Tryz.ntmps12
  go_wp2_with (at_builtin; refine Hid.out ?_)
  refine Lib.hid ?_
  obtain ⟨W, hW⟩ : ∃ W, W = (w.alloc (.cells #[.slice a' H.length ca', .int .i64 ring, .slice a ps.length ca] T6)).alloc (.cells #[.slice none 0 0, .int .i64 0, .slice none 0 0] T6) := ⟨_, rfl⟩
  rw [← hW]
  have hb0 := (Blk.new w #[.slice a' H.length ca', .int .i64 ring, .slice a ps.length ca] T6).alloc (.cells #[.slice none 0 0, .int .i64 0, .slice none 0 0] T6)
  have hbW : Below w.heap.size w W := by
    rw [hW]; exact ((Below.refl _ w).alloc (Nat.le_refl _) _).alloc (by simp) _
  have hsz : W.heap.size = w.heap.size + 1 + 1 := by rw [hW]; simp
  have hc0 : Blk W (w.heap.size + 1) T6 [.slice none 0 0, .int .i64 0, .slice none 0 0] := by
    have := Blk.new (w.alloc (.cells #[.slice a' H.length ca', .int .i64 ring, .slice a ps.length ca] T6)) #[.slice none 0 0, .int .i64 0, .slice none 0 0] T6
    rw [World.size_alloc] at this
    rw [hW]; exact this
  rw [← hW] at hb0
  have hsz' : w.heap.size + 1 + 1 = W.heap.size := hsz.symm
  rw [hsz']
  refine wpList_app_own putST rfl _ _ rfl rfl (own_lit0 putElem 99 W) (by simp) _ B ps rfl (Own.alloc (Own.below HP.out hbW (Nat.le_refl _)) _) (by simp; have := HS.out.1; omega) ?_
  intro vo w2 hown2 hg2
  rw [List.nil_append] at hown2
  have hb1 := Blk.alloc hb0 (.cells #[] 99)
  have hb2 : Blk w2 w.heap.size T6 [.slice a' H.length ca', .int .i64 ring, .slice a ps.length ca] := (hg2.block _ (Blk.lt hb1) (by simp [Act.eval, Value.ownBlock]; omega)).trans hb1
  have hc2 : Blk w2 (w.heap.size + 1) T6 [.slice none 0 0, .int .i64 0, .slice none 0 0] := (hg2.block _ (Blk.lt (Blk.alloc hc0 _)) (by simp [Act.eval, Value.ownBlock]; omega)).trans (Blk.alloc hc0 _)
  have hbl2 : Below w.heap.size w w2 := (hbW.alloc hbW.size (.cells #[] 99)).grown hg2 (by simp; omega) (fun x hx => by
    simp [Act.eval, Value.ownBlock] at hx
    omega)
  obtain ⟨a2, c2, hv2, _⟩ := Own.slice hown2
  subst hv2
  have c0 : w2.cell? ⟨w.heap.size, 0, none⟩ = some (.slice a' H.length ca') := Blk.cell hb2 rfl
  have c1 : w2.cell? ⟨w.heap.size, 1, none⟩ = some (.int .i64 ring) := Blk.cell hb2 rfl
  have c2' : w2.cell? ⟨w.heap.size, 2, none⟩ = some (.slice a ps.length ca) := Blk.cell hb2 rfl
  have f2 := Blk.frozen hb2 2
  have hs2 : W.heap.size ≤ w2.heap.size := by have := hg2.size; simp at this; omega
  have H2 := Lib.hid (And.intro hown2 (And.intro hb2 (And.intro hbl2 (And.intro hs2 hc2))))
  clear hown2 hb2 hbl2 hb0 hb1 hg2 hs2 hc0 hc2
  simp only [Act.put, List.setIfInBounds_toArray, List.set_cons_succ, List.set_cons_zero]
  go_wp2_with (at_builtin; refine Hid.out ?_)
  refine Lib.hid ?_
  refine wpList_app putST rfl _ _ rfl rfl (Own.alloc H2.out.1 _) (by have := H2.out.2.2.2.1; simp; omega) w2.heap.size 0 1 1 [(i, s.data.toList)] rfl rfl (lies_put w2 i s) (by have := HS.out.1; omega) ?_
  intro v3 w3 hown3 hg3
  have hne3 : some w.heap.size ≠ (Value.slice a2 ps.length c2).ownBlock := by
    intro e
    have := (H2.out.1.block _ e.symm).1
    omega
  have hb3 : Blk w3 w.heap.size T6 [.slice a' H.length ca', .int .i64 ring, .slice a ps.length ca] := (hg3.block _ (by have := H2.out.2.2.2.1; simp; omega) hne3).trans (Blk.alloc H2.out.2.1 _)
  have hc3 : Blk w3 (w.heap.size + 1) T6 [.slice none 0 0, .int .i64 0, .slice none 0 0] := (hg3.block _ (by have := H2.out.2.2.2.1; simp; omega) (fun e => by have := (H2.out.1.block _ e.symm).1; omega)).trans (Blk.alloc H2.out.2.2.2.2 _)
  have hbl3 : Below w.heap.size w w3 := (H2.out.2.2.1.alloc H2.out.2.2.1.size _).grown hg3 (by have := H2.out.2.2.1.size; simp; omega) (fun x hx => by have := (H2.out.1.block x hx).1; omega)
  obtain ⟨a3, c3, hv3, _⟩ := Own.slice hown3
  subst hv3
  have f3 := Blk.frozen hb3 2
  have d2 : w3.cell? ⟨w.heap.size, 2, none⟩ = some (.slice a ps.length ca) := Blk.cell hb3 rfl
  have hbX : But (fun x => x = w.heap.size) w3 (w3.setCell ⟨w.heap.size, 2, none⟩ (.slice a3 (ps ++ [(i, s.data.toList)]).length c3)) := (But.refl _ _).setCell _ _ (fun _ => rfl)
  obtain ⟨X, hX⟩ : ∃ X, X = w3.setCell ⟨w.heap.size, 2, none⟩ (.slice a3 (ps ++ [(i, s.data.toList)]).length c3) := ⟨_, rfl⟩
  rw [← hX] at hbX
  have hbx : Blk X w.heap.size T6 [.slice a' H.length ca', .int .i64 ring, .slice a3 (ps ++ [(i, s.data.toList)]).length c3] := by rw [hX]; exact Blk.set hb3 2 _
  have hcx : Blk X (w.heap.size + 1) T6 [.slice none 0 0, .int .i64 0, .slice none 0 0] := Blk.but hc3 hbX (by omega)
  have hox : OwnP W.heap.size X (.slice a3 (ps ++ [(i, s.data.toList)]).length c3) (ps ++ [(i, s.data.toList)]) := Own.but hown3 hbX (fun x hx e => by have := (hown3.block x hx).1; omega)
  have hlx : Below w.heap.size w X := Below.but hbl3 hbX hbl3.size (fun x hx e => by omega)
  have HX := Lib.hid hX
  have hsz3 : (Tryz.prog.info? T6).map (·.size) = some 3 := by kernel_rfl
  have H3 := Lib.hid (And.intro hbx (And.intro hcx (And.intro hox (And.intro hlx hsz3))))
  clear hown3 hg3 hb3 hbl3 hbX hne3 c0 c1 c2' f2 hc3 hbx hcx hox hlx hX hsz3
  generalize (ps ++ [(i, s.data.toList)]).length = N3 at H3 HX ⊢
  simp only [Act.put, List.setIfInBounds_toArray, List.set_cons_succ, List.set_cons_zero]
  go_wp2_with (rw [← HX.out]; refine wpList_load_row rfl T6 (.tmp 3) rfl w.heap.size rfl T6 _ (0, 0) _ H3.out.1 Tryz.underlying38 rfl (H3.out.2.2.2.2.trans rfl) ?_)
  simp only [Act.put, List.setIfInBounds_toArray, List.set_cons_succ, List.set_cons_zero]
  refine wp_store_row T6 (.tmp 6) (.tmp 32) rfl (w.heap.size + 1) #[.slice a' H.length ca', .int .i64 ring, .slice a3 N3 c3] rfl rfl T6 _ H3.out.2.1 (H3.out.2.2.2.2.trans rfl) rfl (by simp [Value.oneCell']) ?_
  have H4 := Lib.hid (setRow_heap X (w.heap.size + 1) _ #[.slice a' H.length ca', .int .i64 ring, .slice a3 N3 c3] T6 (0, 0) H3.out.2.1)
  simp only [Act.put]
  go_wp2
  refine bodyPost_ret (result_two rfl _ rfl H4.out rfl) rfl ?_
  refine ⟨_, rfl, ?_, ?_⟩
  · exact Own.mono (Own.but H3.out.2.2.1 ((But.refl (fun x => x = w.heap.size + 1) X).setRow _ _ (fun _ => rfl)) (fun x hx e => by have := (H3.out.2.2.1.block x hx).1; omega)) (by omega)
  · exact below_setRow H3.out.2.2.2.1 (by omega) _
set_option maxRecDepth 100000 in
set_option maxHeartbeats 1000000 in
theorem refBack_all (w : World) (vh vp : Value) (ring : Nat) (B B' : Nat) (ps : List (Nat × List UInt8)) (h : OwnP B w vp ps) (H : List Wl.Text) (hH : OwnS B' w vh H) (mark : Int) (M : Nat) (hM : max mark 0 = (M : Int)) (hm : ps.length ≤ M) :
    Calls Tryz.prog 18 #[ref6 vh ring vp, .int .i64 mark] w fun e w' => e = .returned (ref6 vh ring vp) ∧ Below w.heap.size w w' := by
  obtain ⟨a, ca, hvp, _⟩ := Own.slice h
  obtain ⟨a', ca', hvh, _⟩ := Own.slice hH
  rw [List.length_map] at hvh
  subst hvp hvh
  unfold ref6
  have hmI : (ps.length : Int) ≤ M := by omega
  have hb := Blk.new (w.alloc (.cells #[.slice a' H.length ca', .int .i64 ring, .slice a ps.length ca] T6)) #[.slice a' H.length ca', .int .i64 ring, .slice a ps.length ca] T6
  rw [World.size_alloc] at hb
  have HB := Lib.hid hb
  have HBl := Lib.hid (((Below.refl _ w).alloc (Nat.le_refl _) (.cells #[.slice a' H.length ca', .int .i64 ring, .slice a ps.length ca] T6)).alloc (by simp) (.cells #[.slice a' H.length ca', .int .i64 ring, .slice a ps.length ca] T6))
  clear hb h hH
  go_enter Tryz.func18, Tryz.ntmps18
  go_wp2
  refine bodyPost_ret (result_one rfl _ rfl HB.out rfl) rfl ?_
  exact ⟨rfl, HBl.out⟩
set_option maxRecDepth 100000 in
set_option maxHeartbeats 1000000 in
theorem refBack_some (w : World) (vh vp : Value) (ring : Nat) (B B' : Nat) (ps : List (Nat × List UInt8)) (h : OwnP B w vp ps) (H : List Wl.Text) (hH : OwnS B' w vh H) (mark : Int) (M : Nat) (hM : max mark 0 = (M : Int)) (hm : M < ps.length) :
    Calls Tryz.prog 18 #[ref6 vh ring vp, .int .i64 mark] w fun e w' => ∃ vp', e = .returned (ref6 vh ring vp') ∧ OwnP B w' vp' (ps.take M) ∧ vp'.ownBlock = vp.ownBlock ∧ Below w.heap.size w w' := by
  obtain ⟨g, ca, hvp, _, hg, hca⟩ := Own.form h (by omega)
  obtain ⟨a', ca', hvh, _⟩ := Own.slice hH
  rw [List.length_map] at hvh
  subst hvp hvh
  unfold ref6
  have hmI : (M : Int) < ps.length := by omega
  have hcI : (ps.length : Int) ≤ ca := by omega
  have hcM : M ≤ ca := by omega
  have hb := Blk.new (w.alloc (.cells #[.slice a' H.length ca', .int .i64 ring, .slice (some ⟨g, 0, none⟩) M ca] T6)) #[.slice a' H.length ca', .int .i64 ring, .slice (some ⟨g, 0, none⟩) M ca] T6
  rw [World.size_alloc] at hb
  have HB := Lib.hid hb
  have hbl := (((Below.refl _ w).alloc (Nat.le_refl _) (.cells #[.slice a' H.length ca', .int .i64 ring, .slice (some ⟨g, 0, none⟩) M ca] T6)).alloc (by simp) (.cells #[.slice a' H.length ca', .int .i64 ring, .slice (some ⟨g, 0, none⟩) M ca] T6))
  have HBl := Lib.hid (And.intro (Own.below (Own.upto h M (by omega)) hbl (Nat.le_refl _)) hbl)
  clear hb hbl h hH hg
  go_enter Tryz.func18, Tryz.ntmps18
  go_wp2
  refine bodyPost_ret (result_one rfl _ rfl HB.out rfl) rfl ?_
  exact ⟨_, rfl, HBl.out.1, rfl, HBl.out.2⟩
end Go.Proofs.YtahnhhhhfioibaaGreatDoor

namespace Go.Proofs.YtahnhhhhfioibaaGreatDoor
open Go.RowKit Lib

/-- The row v is u, or a new one. -/
def OldNew (n : Nat) (u v : Value) : Prop := v = u ∨ ∀ k, v.ownBlock = some k → n ≤ k
set_option maxRecDepth 100000 in
set_option maxHeartbeats 1000000 in
theorem refCommit_any (w : World) (vh vp : Value) (ring : Nat) (B B' : Nat) (ps : List (Nat × List UInt8)) (h : OwnP B w vp ps) (H : List Wl.Text) (hH : OwnS B' w vh H) (hs : ∀ p ∈ ps, p.1 ≤ 65536 ∧ p.2.length ≤ 512) (h1 : 1 ≤ H.length) (h2 : H.length ≤ 1000) (hB : B' ≤ w.heap.size) :
    Calls Tryz.prog 19 #[ref6 vh ring vp] w fun e w' =>
      ((Wl.comm ring H (Tx.psI ps)).1 = 0 → ∃ vh', e = .returned (.tuple #[ref6 vh' ring (.slice none 0 0), .int .i64 0]) ∧ OwnS B' w' vh' (Wl.comm ring H (Tx.psI ps)).2 ∧ OldNew w.heap.size vh vh') ∧
      ((Wl.comm ring H (Tx.psI ps)).1 ≠ 0 → e = .returned (.tuple #[ref6 vh ring vp, .int .i64 (Wl.comm ring H (Tx.psI ps)).1])) ∧ Below w.heap.size w w' := by
  have hrd := OwnP.rdP h hs
  obtain ⟨a, ca, hvp, _⟩ := Own.slice h
  obtain ⟨a', ca', hvh, _⟩ := Own.slice hH
  rw [List.length_map] at hvh
  subst hvp hvh
  unfold ref6
  have HRD := Lib.hid hrd
  have HH := Lib.hid hH
  obtain ⟨r, hr⟩ : ∃ r, r = Wl.comm ring H (Tx.psI ps) := ⟨_, rfl⟩
  rw [← hr]
  have HR := Lib.hid hr
  clear hrd hH h hr
  go_enter Tryz.func19, Tryz.ntmps19
  go_wp2_with fail
  have hb0 := ((Blk.new w #[.slice a' H.length ca', .int .i64 ring, .slice a ps.length ca] T6).alloc (.cells #[.slice none 0 0, .int .i64 0, .slice none 0 0] T6)).alloc (.cells #[.slice a ps.length ca] 36)
  have hb1 := (Blk.new (w.alloc (.cells #[.slice a' H.length ca', .int .i64 ring, .slice a ps.length ca] T6)) #[.slice none 0 0, .int .i64 0, .slice none 0 0] T6)
  have hb1 := Blk.alloc hb1 (.cells #[.slice a ps.length ca] 36)
  rw [World.size_alloc] at hb1
  obtain ⟨W, hW⟩ : ∃ W, W = (w.alloc (.cells #[.slice a' H.length ca', .int .i64 ring, .slice a ps.length ca] T6)).alloc (.cells #[.slice none 0 0, .int .i64 0, .slice none 0 0] T6) := ⟨_, rfl⟩
  have hbW : Below w.heap.size w W := by
    rw [hW]; exact ((Below.refl _ w).alloc (Nat.le_refl _) _).alloc (by simp) _
  have hsz : w.heap.size + 1 + 1 = W.heap.size := by rw [hW]; simp
  rw [← hW] at hb0 hb1
  rw [← hW, hsz]
  have hls := RdL.hand5 W _ _ (RdP.below HRD.out hbW)
  obtain ⟨V, hV⟩ : ∃ V, V = W.alloc (.cells #[.slice a ps.length ca] 36) := ⟨_, rfl⟩
  rw [← hV] at hls hb0 hb1 ⊢
  have hbV : Below w.heap.size w V := by rw [hV]; exact hbW.alloc hbW.size _
  refine (commit5_any V B' _ H ring _ _ (Own.below HH.out hbV (Nat.le_refl _)) h1 h2 (Nat.le_trans hB hbV.size) hls).mono ?_
  rintro e w1 ⟨vh1, rfl, ho1, hor, hl1⟩
  rw [putsD_pts, ← HR.out] at ho1 ⊢
  have hne : ∀ k, vh1.ownBlock = some k → k ≠ w.heap.size + 1 := by
    intro k hk
    have hVs : W.heap.size ≤ V.heap.size := by rw [hV]; simp
    rcases hor with rfl | hor
    · have := (HH.out.block k hk).2
      omega
    · have := hor k hk
      omega
  have hon : OldNew w.heap.size (.slice a' H.length ca') vh1 := hor.imp_right fun f k hk => Nat.le_trans hbV.size (f k hk)
  have k0 : Blk w1 w.heap.size T6 [.slice a' H.length ca', .int .i64 ring, .slice a ps.length ca] := Blk.below hb0 hl1 hb0.lt
  have k1 : Blk w1 (w.heap.size + 1) T6 [.slice none 0 0, .int .i64 0, .slice none 0 0] := Blk.below hb1 hl1 hb1.lt
  have hbl := hbV.trans (hl1.mono hbV.size)
  obtain ⟨av, cv, hvv, _⟩ := Own.slice ho1
  rw [List.length_map] at hvv
  have hsz3 : (Tryz.prog.info? T6).map (·.size) = some 3 := by kernel_rfl
  have H1 := Lib.hid (And.intro k0 (And.intro k1 (And.intro ho1 (And.intro hbl (And.intro hsz3 (And.intro hne hon))))))
  have c0 := Blk.cell k0 (j := 0) rfl
  have c1 := Blk.cell k0 (j := 1) rfl
  have c2 := Blk.cell k0 (j := 2) rfl
  clear hb0 hb1 hW hbW hls hV hbV hl1 k0 k1 ho1 hbl hsz3 hor hne hon
  obtain ⟨er, Hr⟩ := r
  simp only at H1 hvv ⊢
  subst hvv
  by_cases he : er = 0
  · subst he
    go_wp2_with (refine wpList_store_row rfl T6 (.tmp 2) _ rfl (w.heap.size + 1) #[.slice av Hr.length cv, .int .i64 ring, .slice none 0 0] rfl rfl T6 _ H1.out.2.1 (H1.out.2.2.2.2.1.trans rfl) rfl (by simp [Value.oneCell']) ?_)
    refine bodyPost_ret (result_two rfl _ rfl (setRow_heap w1 (w.heap.size + 1) _ _ T6 (0, 0) H1.out.2.1) rfl) rfl ?_
    exact ⟨⟨_, rfl, Own.but H1.out.2.2.1 ((But.refl (fun x => x = w.heap.size + 1) w1).setRow _ _ (fun _ => rfl)) (fun x hx e => H1.out.2.2.2.2.2.1 x hx e), H1.out.2.2.2.2.2.2⟩, below_setRow H1.out.2.2.2.1 (by omega) _⟩
  · go_wp2_with (refine wpList_store_row rfl T6 (.tmp 2) _ rfl (w.heap.size + 1) #[.slice a' H.length ca', .int .i64 ring, .slice a ps.length ca] rfl rfl T6 _ H1.out.2.1 (H1.out.2.2.2.2.1.trans rfl) rfl (by simp [Value.oneCell']) ?_)
    refine bodyPost_ret (result_two rfl _ rfl (setRow_heap w1 (w.heap.size + 1) _ _ T6 (0, 0) H1.out.2.1) rfl) rfl ?_
    exact ⟨rfl, below_setRow H1.out.2.2.2.1 (by omega) _⟩
end Go.Proofs.YtahnhhhhfioibaaGreatDoor
