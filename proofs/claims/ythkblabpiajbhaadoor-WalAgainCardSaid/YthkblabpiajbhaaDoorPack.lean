/- Walk of putsTexts. -/
import Derived.Test.YthkblabpiajbhaaDoorChunk
import Derived.Test.YthkblabpiajbhaaDoorContent
import Derived.Test.YthkblabpiajbhaaDoorKeys
import Derived.Test.YthkblabpiajbhaaDoorForm4
namespace Go.Proofs.YthkblabpiajbhaaDoor
open Go.RowKit Go.Shelf Lib

attribute [local go_sem] Oper.semAt_some

/-- While the bytes are laid: u holds l; the keys stand in block kb. -/
structure PI (w wr : World) (kb : Nat) (keys : List Int) (u : Value) (l : List UInt8) : Prop where
  own : OwnZ true w.heap.size wr u l
  bel : Below w.heap.size w wr
  ne : ∀ k, u.ownBlock = some k → k ≠ kb
  lt : kb < wr.heap.size
  keys : ∀ j (hj : j < keys.length), wr.cell? ⟨kb, j, none⟩ = some (.int .i64 keys[j])
theorem PI.turn {w wr w' : World} {kb : Nat} {keys : List Int} {u v : Value} {l l' : List UInt8} (h : PI w wr kb keys u l) (ho : OwnZ true w.heap.size w' v l') (hb : But (fun k => u.ownBlock = some k) wr w')
    (hat : v.ownBlock = u.ownBlock ∨ ∀ k, v.ownBlock = some k → wr.heap.size ≤ k) : PI w w' kb keys v l' :=
  ⟨ho, But.belowNew h.bel hb (fun k hk => (h.own.block k hk).1), fun k hk e => by
    rcases hat with e1 | e1
    · exact h.ne k (by rw [← e1]; exact hk) e
    · have := e1 k hk; have := h.lt; omega, Nat.lt_of_lt_of_le h.lt hb.size, fun j hj => hb.cell (h.keys j hj) (fun e => h.ne kb e rfl)⟩
theorem PI.same {w wr w' : World} {kb : Nat} {keys : List Int} {u : Value} {l : List UInt8} (h : PI w wr kb keys u l) (hb : But (fun _ => False) wr w') : PI w w' kb keys u l :=
  ⟨h.own.but hb (fun _ _ h => h), h.bel.trans (hb.below h.bel.size (fun _ _ h => h)), h.ne, Nat.lt_of_lt_of_le h.lt hb.size, fun j hj => hb.cell (h.keys j hj) id⟩
theorem pack_take (g : Wl.Grp) (k : Nat) (hk : k < g.length) : Wl.pack (g.take (k + 1)) = Wl.pack (g.take k) ++ Wl.enc 4 g[k].1 ++ g[k].2 := by
  rw [List.take_succ_eq_append_getElem hk, Wl.pack_append, Wl.pack_cons, Wl.pack_nil, List.append_nil, List.append_assoc]
theorem pack_take_len {homes : Nat} {g : Wl.Grp} (h : Wl.Fits homes g) (k : Nat) : (Wl.pack (g.take k)).length ≤ 516 * g.length := by
  rw [Wl.pack_length (homes := homes) (fun x hx => h.2 x (List.mem_of_mem_take hx)), List.length_take]; omega
theorem look_rising {g : Wl.Grp} (h : Wl.Rising g) (k : Nat) (hk : k < g.length) : Wl.look g[k].1 g = some g[k].2 := by
  induction g generalizing k with
  | nil => cases hk
  | cons x g ih =>
    cases k with
    | zero => simp [Wl.look]
    | succ k =>
      have h' := List.pairwise_cons.1 h
      rw [Wl.look, if_neg, List.getElem_cons_succ]
      · exact ih h'.2 k (by simpa using hk)
      · have := h'.1 _ (List.getElem_mem (by simpa using hk : k < g.length))
        simp only [List.getElem_cons_succ]; omega
/-- The texts of the first pieces. -/
def cutTexts (l : List UInt8) (pre : List Nat) : List (List UInt8) := pre.map fun k => 112 :: ((l.drop (511 * k)).take 511)
theorem cutTexts_snoc (l : List UInt8) (pre : List Nat) (x : Nat) : ((cutTexts l (pre ++ [x])).map fun t => Value.string (bs t)) = ((cutTexts l pre).map fun t => Value.string (bs t)) ++ [.string (bs (112 :: ((l.drop (511 * x)).take 511)))] := by simp [cutTexts]
theorem cutTexts_all (g : Wl.Grp) : cutTexts (Wl.pack g) (List.range (((Wl.pack g).length + 510) / 511)) = Wl.putsTexts g := by
  rw [cutTexts, Wl.putsTexts, Wl.pieces, List.map_map]; rfl
/-- While the list is laid. -/
def LI (w : World) (p : Nat) (g : Wl.Grp) (dg dc : Nat) (cur : Array Value) (pre : List Nat) (W : World) : Prop :=
  ((∃ v, Boxed W p 36 v ∧ W.ownsRow p 9 1 v pre.length ((cutTexts (Wl.pack g) pre).map fun t => Value.string (bs t)) ∧ True) ∧
    (Boxed W (p + 1) 22 (.slice (some ⟨dg, 0, none⟩) (Wl.pack g).length dc) ∧ Boxed W (p + 1 + 1) 3 (.int .i64 511) ∧ W.heap[dg]? = some (.cells cur 5 (0, 0)))) ∧ Below w.heap.size w W
theorem block_kept {X Y : World} {row : Option Nat} {b : Nat} {cs : Array Value} {t : TypeId} {fz : Nat × Nat} (h : X.heap[b]? = some (.cells cs t fz)) (hg : X.grownBy Y row) (hrow : ∀ r, row = some r → ∃ o : Obj, X.heap[r]? = some o ∧ o.isCells = false) : Y.heap[b]? = some (.cells cs t fz) := by
  refine (hg.block b (Array.getElem?_eq_some_iff.1 h).1 fun e => ?_).trans h
  obtain ⟨o, ho, hc⟩ := hrow b e.symm
  rw [h] at ho; cases ho; cases hc
theorem LI.own {w : World} {p : Nat} {g : Wl.Grp} {dg dc : Nat} {cur : Array Value} {B : Nat} (_hB : p ≤ B) (hw : w.heap.size ≤ B) : OwnFrom B (fun pre W => LI w p g dg dc cur pre W) := by
  refine OwnFrom.and (Go.Own.from (fun s X Y row hs hg hr => ⟨?_, block_kept hs.2.1 hg hr, block_kept hs.2.2.1 hg hr, block_kept hs.2.2.2 hg hr⟩) _) (ownFrom_below (Nat.le_refl _) hw)
  exact holdsRow_own p p 36 9 1 (fun pre : List Nat => pre.length) (fun pre => (cutTexts (Wl.pack g) pre).map fun t => Value.string (bs t)) (fun _ _ => True) s X Y row hs.1 hg hr
theorem piece_back (W : World) (dg : Nat) (l : List UInt8) (cur : Array Value) (x : Nat) (hD : W.heap[dg]? = some (.cells cur 5 (0, 0))) (hdt : cur.toList.take l.length = l.map bcell) :
    (convert 22 9 (piece dg l.length x)).run Tryd.prog W = .ok (.string (bs ((l.drop (511 * x)).take 511))) W := by
  have := run_convert_bytes_back (P := Tryd.prog) W 22 9 5 ⟨dg, 511 * x, none⟩ (Nat.min 511 (l.length - 511 * x)) ((l.drop (511 * x)).take 511) (by kernel_rfl) (by kernel_rfl) (by kernel_rfl) (by
    intro j hj
    rw [List.length_take, List.length_drop] at hj
    rw [show (⟨dg, 511 * x, none⟩ : Addr).add j = ⟨dg, 511 * x + j, none⟩ by unfold Addr.add; split <;> simp_all]
    rw [cell_of_row W dg _ cur _ (0, 0) hD, List.getElem_take, List.getElem_drop]
    have h2 : (cur.toList.take l.length)[511 * x + j]? = some (bcell l[511 * x + j]) := by rw [hdt, List.getElem?_map, List.getElem?_eq_getElem (by omega)]; rfl
    rw [List.getElem?_take, if_pos (by omega)] at h2
    rw [← Array.getElem?_toList]
    exact h2)
  rw [Wl.piece_length] at this
  exact this
set_option maxRecDepth 100000 in
set_option maxHeartbeats 4000000 in
theorem putsTexts_any (w : World) (homes gb : Nat) (g : Wl.Grp) (hg : CMap w gb g) (hf : Wl.Fits homes g) (hh : homes ≤ 65536) (hl : g.length ≤ 65536) :
    Calls Tryd.prog 40 #[.map (some gb)] w fun e w' => ∃ v, e = .returned v ∧ OwnS w.heap.size w' v (Wl.putsTexts g) ∧ Below w.heap.size w w' := by
  have HG := Lib.hid hg
  have HF := Lib.hid hf
  have HH := Lib.hid hh
  have hlI : (g.length : Int) ≤ 65536 := by omega
  have hl0 : (0 : Int) ≤ g.length := by omega
  have hgt := hg.lt
  clear hg hf hh
  obtain ⟨Z, hZ⟩ : ∃ Z, Z = (zeros.map bcell).toArray := ⟨_, rfl⟩
  have hz : ∀ w, (zeroValue CT).run Tryd.prog w = .ok (.agg Z) w := fun w => by rw [hZ]; exact zero_CT w
  have hzs : Z.size = 512 := by rw [hZ]; simp [zeros_len]
  have hzn : ¬ Z = #[] := by intro e; rw [e] at hzs; cases hzs
  have HZ := Lib.hid hZ
  clear hZ
  refine (callsIn_wide (n := 6)).1 ?_
  refine callsIn_of_wp_marks Tryd.func40 rfl trivial ?_ rfl
  refine wpIn_wide.2 ?_
  simp only [Tryd.ntmps40, List.size_toArray, List.length_cons, List.length_nil, Nat.reduceAdd, Nat.reduceSub, Array.replicate_succ, Array.replicate_zero, List.push_toArray, List.append_toArray, List.nil_append, List.cons_append]
  go_wp2_with (first
    | (at_len; refine wpList_lenC rfl _ rfl gb g rfl HG.out ?_)
    | (refine wpList_make0 (K := byteElem) byteST rfl _ _ rfl w.heap.size (Nat.le_refl _) (516 * (g.length : Int)) (516 * g.length) rfl rfl (by omega) (by omega) ?_; intro w1 ho1 hg1; have H1 := Lib.hid (And.intro (OwnZ.ofOwn ho1) hg1); clear ho1 hg1)
    | fail)
  have H2 := Lib.hid (show OwnZ true w.heap.size w1 (.slice (some ⟨w.heap.size, 0, none⟩) 0 (516 * g.length)) [] ∧ Below w.heap.size w w1 from ⟨H1.out.1, ⟨H1.out.2.os, H1.out.2.tape, H1.out.2.output, H1.out.2.size, fun k hk => H1.out.2.block k hk (by simp)⟩⟩)
  clear H1
  refine (keys_any (some gb) w1).mono ?_
  rintro e w2 ⟨rfl, hw2⟩
  have H3 := Lib.hid (show OwnZ true w.heap.size w2 (.slice (some ⟨w.heap.size, 0, none⟩) 0 (516 * g.length)) [] ∧ Below w.heap.size w w2 ∧ CMap w2 gb g ∧ w2.cell? ⟨w1.heap.size, 0, none⟩ = some (.map (some gb)) ∧ w1.heap.size < w2.heap.size by
    have hb : Below w.heap.size w w2 := by rw [hw2]; exact H2.out.2.alloc H2.out.2.size _
    refine ⟨by rw [hw2]; exact H2.out.1.alloc _, hb, HG.out.but (But.of_below hb (fun _ => False)) id, ?_, by rw [hw2]; simp⟩
    rw [hw2]; exact (Blk.new w1 #[.map (some gb)] 52).cell rfl)
  clear hw2
  go_wp2_with fail
  refine (sorted_any gb w1.heap.size g w2 H3.out.2.2.1 (by omega) H3.out.2.2.2.1).mono ?_
  rintro e w3 ⟨kv, rfl, hkv, hb3⟩
  obtain ⟨ka, kcap, hke, hkc⟩ := hkv.slice
  rw [List.length_map] at hke hkc
  obtain ⟨kb, hkb1, hkb2, hkb⟩ : ∃ kb, w1.heap.size ≤ kb ∧ kb < w3.heap.size ∧ ∀ j (hj : j < (g.map fun x => (x.1 : Int)).length), ka = some ⟨kb, 0, none⟩ ∧ w3.cell? ⟨kb, j, none⟩ = some (.int .i64 (g.map fun x => (x.1 : Int))[j]) := by
    rcases Nat.eq_zero_or_pos g.length with h0 | h0
    · refine ⟨w1.heap.size, Nat.le_refl _, Nat.lt_of_lt_of_le H3.out.2.2.2.2 hb3.size, fun j hj => ?_⟩
      rw [List.length_map] at hj; omega
    · obtain ⟨kb, kc', e1, e2, e3, _⟩ := hkv.form (by rw [List.length_map]; exact h0)
      rw [e1] at hke
      rw [List.length_map] at hke
      injection hke with i1 i2 i3
      have hkv' := hkv
      rw [e1] at hkv'
      refine ⟨kb, by have := H3.out.2.2.2.2; omega, e3, fun j hj => ⟨i1.symm, ?_⟩⟩
      have := hkv'.lies j (.int .i64 (g.map fun x => (x.1 : Int))[j]) (by rw [show (intElem .i64).cells (g.map fun x => (x.1 : Int)) = (g.map fun x => (x.1 : Int)).map (fun n => Value.int .i64 n) from oneElem_cells _ _ _, List.getElem?_map, List.getElem?_eq_getElem hj]; rfl)
      rw [Nat.zero_add] at this
      exact this
  subst hke
  have HP := Lib.hid (show PI w w3 kb (g.map fun x => (x.1 : Int)) (.slice (some ⟨w.heap.size, 0, none⟩) 0 (516 * g.length)) [] ∧ CMap w3 gb g from
    ⟨⟨H3.out.1.but (But.of_below hb3 (fun _ => False)) (fun _ _ h => h), H3.out.2.1.trans ⟨hb3.os, hb3.tape, hb3.output, hb3.size, fun k hk => hb3.block k (Nat.lt_of_lt_of_le hk H3.out.2.1.size)⟩,
      fun k hk e => by simp [Value.ownBlock] at hk; have := (H2.out.1.block w.heap.size rfl).2; omega, hkb2, fun j hj => (hkb j hj).2⟩, H3.out.2.2.1.but (But.of_below hb3 (fun _ => False)) id⟩)
  have HK := Lib.hid (fun j hj => (hkb j hj).1)
  clear hkb hkb1 hkb2 hkv hb3 H3 H2
  go_wp2_with fail
  go_loopw [3, 17] (fun u i wr => ∃ k : Nat, k ≤ g.length ∧ i = .int .i64 k ∧ Hid (PI w wr kb (g.map fun x => (x.1 : Int)) u (Wl.pack (g.take k))) ∧ Hid (CMap wr gb g)) (fun _ i _ => g.length - (Go.RowKit.intOf i).toNat)
  case atStart => exact ⟨0, Nat.zero_le _, rfl, Lib.hid HP.out.1, Lib.hid HP.out.2⟩
  case round =>
    obtain ⟨k, hk, rfl, hP, hM⟩ := hrel
    by_cases hlt : k < g.length
    · have hI : (k : Int) < g.length := by omega
      have hk1 := HK.out k (by rw [List.length_map]; exact hlt)
      subst hk1
      have hcell := hP.out.keys k (by rw [List.length_map]; exact hlt)
      rw [List.getElem_map] at hcell
      have HT := Lib.hid (pack_take g k hlt)
      have HLn := Lib.hid (pack_take_len HF.out k)
      have hin := HF.out.2 g[k] (List.getElem_mem hlt)
      have hlk := look_rising HF.out.1 k hlt
      have HI := Lib.hid (And.intro hlt (And.intro hk hI))
      generalize g[k] = x at *
      obtain ⟨i, t⟩ := x
      simp only at hin hlk hcell HT
      have hi6 : (i : Int) ≤ 65536 := by have := HH.out; omega
      have hi0 : (0 : Int) ≤ i := by omega
      obtain ⟨hat, _⟩ := CMap.at hM.out (k := i) (by omega) hlk
      have ht : t.length = 512 := hin.2
      have HHt := Lib.hid ht
      obtain ⟨r, hr⟩ : ∃ r, wr.heap.size = r := ⟨_, rfl⟩
      have HR := Lib.hid hr
      clear hin hlk hk hlt ht
      go_wp2_with (first
        | (refine wpList_storeC rfl _ _ rfl r t zeros rfl rfl HHt.out (by rw [← hr]; exact CBlk.new wr Z HZ.out) ?_; intro w5 hc5 hb5; have H5 := Lib.hid (And.intro hc5 hb5); clear hc5 hb5)
        | fail)
      have hur : ∀ q, u3.ownBlock = some q → q < r := fun q hq => by have := (hP.out.own.block q hq).2; omega
      have HP5 := Lib.hid (show PI w w5 kb (g.map fun x => (x.1 : Int)) u3 (Wl.pack (g.take k)) ∧ CMap w5 gb g ∧ CBlk w5 r t ∧ r < w5.heap.size by
        have hb5 : But (fun _ => False) wr w5 := ((But.refl (fun _ => False) wr).alloc _).trans H5.out.2 (fun q hq e => by have := HR.out; omega)
        exact ⟨hP.out.same hb5, hM.out.but hb5 id, H5.out.1, H5.out.1.lt⟩)
      have HUR := Lib.hid hur
      clear hP hM H5 hat hcell hr hur
      refine (appendNumber_any true w.heap.size w5 u3 _ i 4 HP5.out.1.own HP5.out.1.bel.size (by have := HLn.out; omega) (by omega) (by decide)).mono ?_
      rintro e w6 ⟨u6, rfl, ho6, hb6, hat6⟩
      have HP6 := Lib.hid (show PI w w6 kb (g.map fun x => (x.1 : Int)) u6 (Wl.pack (g.take k) ++ Wl.enc 4 i) ∧ CMap w6 gb g ∧ CBlk w6 r t by
        refine ⟨HP5.out.1.turn ho6 hb6 hat6, HP5.out.2.1.but hb6 (fun e => by have := (HP5.out.1.own.block gb e).1; omega), HP5.out.2.2.1.but hb6 (fun e => by have := HUR.out r e; omega)⟩)
      have hxs := slice_CT w6 r
      clear ho6 hb6 hat6 HP5 HUR
      go_wp2_with (first
        | (at_builtin; refine wpList_app2 (K := byteElem) byteST rfl _ _ rfl rfl HP6.out.1.own.own HP6.out.1.bel.size r 0 512 512 t rfl HHt.out (Lies.of_blk HP6.out.2.2.1 (oneElem_cells _ _ _).symm) (by rw [List.length_append, Wl.enc_length]; have := HLn.out; omega) ?_; intro u7 w7 ho7 hg7 hat7; have H7 := Lib.hid (And.intro ho7 (And.intro hg7 hat7)); clear ho7 hg7 hat7)
        | fail)
      go_roundw
      case rel =>
        obtain ⟨ho7, hg7, hat7⟩ := H7.out
        refine ⟨k + 1, HI.out.1, by go_num, Lib.hid ?_, Lib.hid (HP6.out.2.1.kept hg7 (fun e => by have := (HP6.out.1.own.block gb e.symm).1; omega))⟩
        rw [HT.out]
        obtain ⟨a7, c7, e7, _⟩ := ho7.slice
        have hz : OwnZ true w.heap.size w7 u7 (Wl.pack (g.take k) ++ Wl.enc 4 i ++ t) := by
          obtain ⟨q7, c7, e7, _⟩ := ho7.form (by rw [List.length_append, HHt.out]; omega)
          rw [e7] at ho7 ⊢
          exact OwnZ.ofOwn ho7
        exact HP6.out.1.turn hz (But.ofGrown hg7) hat7
      case measure => have := HI.out.1; simp [Go.RowKit.intOf]; omega
    · obtain rfl : k = g.length := by omega
      rw [List.take_length] at hP
      go_wp2_with fail
      obtain ⟨dg, dc, cur, fz, rfl, hdB, hdh, _, hdl, hdm, hds, hdt, hdz⟩ := hP.out.own
      rw [hdz rfl] at hdh
      have hdlt : dg < wr.heap.size := (Array.getElem?_eq_some_iff.1 hdh).1
      have hL : (Wl.pack g).length ≤ 800000000 := by have := pack_take_len HF.out g.length; rw [List.take_length] at this; omega
      refine ((callsIn_wide (n := 5)).1 (chunk_in Fence.wide 5 trivial rfl (some ⟨dg, 0, none⟩) (Wl.pack g).length dc _)).mono ?_
      rintro e V ⟨rfl, hV⟩
      obtain ⟨p, hp⟩ : ∃ p, wr.heap.size = p := ⟨_, rfl⟩
      rw [World.size_alloc, hp]
      have bP : Boxed V p 36 (.slice none 0 0) := by
        rw [hV, ← hp]; exact ((Boxed.new wr _ _).alloc _).alloc _
      have bA : Boxed V (p + 1) 22 (.slice (some ⟨dg, 0, none⟩) (Wl.pack g).length dc) := by
        have := Boxed.new (wr.alloc (.cells #[.slice none 0 0] 36)) 22 (.slice (some ⟨dg, 0, none⟩) (Wl.pack g).length dc)
        rw [World.size_alloc, hp] at this
        rw [hV]; exact this.alloc _
      have bB : Boxed V (p + 1 + 1) 3 (.int .i64 511) := by
        have := Boxed.new ((wr.alloc (.cells #[.slice none 0 0] 36)).alloc (.cells #[.slice (some ⟨dg, 0, none⟩) (Wl.pack g).length dc] 22)) 3 (.int .i64 511)
        rw [World.size_alloc, World.size_alloc, hp] at this
        rw [hV]; exact this
      have hbV : Below p wr V := by
        rw [hV]; exact (((Below.refl _ _).alloc (by omega) _).alloc (by simp; omega) _).alloc (by simp; omega) _
      have hVs : V.heap.size = p + 3 := by rw [hV]; simp [hp]
      have hbw : Below w.heap.size w V := hP.out.bel.trans ⟨hbV.os, hbV.tape, hbV.output, hbV.size, fun k hk => hbV.block k (by have := hP.out.bel.size; omega)⟩
      have hdV : V.heap[dg]? = some (.cells cur 5 (0, 0)) := (hbV.block dg (by omega)).trans hdh
      have HB := Lib.hid (And.intro bP (And.intro bA (And.intro bB (And.intro hbw (And.intro hVs hdV)))))
      clear hV hbV bP bA bB hbw hVs hdV
      go_wp2_with fail
      clear hz hzs hzn HZ HP
      have HHP := Lib.hid hp
      clear hp
      refine (wpIn_wide (n := 6)).1 ?_
      refine wpIn_rangeFunc_ownG (F := Fence.wide) rfl (by omega) (gf := 69) (lb := #[.pointer (some ⟨p + 1, 0, none⟩), .pointer (some ⟨p + 1 + 1, 0, none⟩)]) rfl trivial (enters_of Tryd.func69 (by kernel_rfl) rfl)
        (chunk_stops Fence.wide 5 trivial rfl (by omega) (p + 1) (p + 1 + 1) dg dc (Wl.pack g).length hL hdl V HB.out.2.1.lt HB.out.2.2.1.lt HB.out.2.1.cell HB.out.2.2.1.cell)
        (fun h k => h.trans k) (fun W l o o' hl _ _ _ => ⟨World.putObj_heap_other (by have := HB.out.2.2.2.2.1; omega), World.putObj_heap_other (by have := HB.out.2.2.2.2.1; omega)⟩) (Below.refl _ _) (fun _ => rfl)
        (fun pre W => LI w p g dg dc cur pre W) (fun _ _ _ => False)
        (LI.own (by have := HB.out.2.2.2.2.1; omega) (by have := HB.out.2.2.2.1.size; omega)) (fun _ _ _ _ _ hs _ _ => hs) ?h0
        (fun x => { tmps := #[.map (some gb), undef, .slice none 0 0, .slice (some ⟨dg, 0, none⟩) (Wl.pack g).length dc, undef, u5, u6, .pointer (some ⟨p, 0, none⟩), piece dg (Wl.pack g).length x, .map (some gb), .int .i64 g.length, .int .i64 (516 * (g.length : Int)), .slice (some ⟨w.heap.size, 0, none⟩) 0 (516 * g.length), .map (some gb), .func (.func 47) #[] #[.pointer (some ⟨w1.heap.size, 0, none⟩)], .slice ka g.length kcap, .int .i64 g.length, .int .i64 g.length, .bool false, u19, u20, u21, u22, u23, u24, u25, u26, u27, u28, u29, u30, u31, .slice (some ⟨dg, 0, none⟩) (Wl.pack g).length dc, .func (.func 69) #[] #[.pointer (some ⟨p + 1, 0, none⟩), .pointer (some ⟨p + 1 + 1, 0, none⟩)], piece dg (Wl.pack g).length x, undef, undef, undef, undef, undef, undef, undef], defers := [] }) ?assign ?body ?done ?stop
      case h0 => exact ⟨⟨⟨_, HB.out.1, World.ownsRow_nil _ _ _ _, trivial⟩, HB.out.2.1, HB.out.2.2.1, HB.out.2.2.2.2.2⟩, HB.out.2.2.2.1⟩
      case assign =>
        intro l x W K hK
        gi_wp2
        exact hK
      case body =>
        rintro l pre x W ⟨⟨⟨v, hv, hrow, _⟩, hA, hB2, hD⟩, hBW⟩ hlt
        have hc := hv.cell
        obtain ⟨i0, hi, hz0, hz1, hz2⟩ := info_of (P := Tryd.prog) (E := 9) (size := 1) (bytes := 16) (z := .string .empty) (by kernel_rfl)
        have hcv := piece_back W dg (Wl.pack g) cur x hD hdt
        have hpW : p + 3 ≤ W.heap.size := by have := hB2.lt; omega
        have hss : ¬ 9223372036854775807 < 1 + (bs (((Wl.pack g).drop (511 * x)).take 511)).size := by rw [bs_size, List.length_take]; omega
        have HP2 := Lib.hid (show pre.length < 800000000 by omega)
        gi_wp2_with (gi_at_builtin; refine wpListIn_append_own _ rfl _ _ 36 rfl p 9 i0 (.string .empty) 1 16 Tryd.underlying36 hi hz0 hz1 hz2 rfl (by decide) _ _ _ rfl (hrow.alloc _) ⟨W.heap.size, 0, none⟩ 1 1 [.string (bs (112 :: (((Wl.pack g).drop (511 * x)).take 511)))] rfl rfl (cell_one_new _ _ _) (by simp [Value.oneCell']) (by unfold maxLen; omega) (by omega) (by simp; omega) ?_; intro v' w1 hown' hgrow _; obtain ⟨g', cap', rfl⟩ := ownsRow_succ hown'; obtain ⟨hv1, hv2, hr2, hk2, hb2⟩ := hv.appended (by decide) hrow (by omega) (Nat.le_refl _) hown' hgrow; have hc1 := hv1.cell; have hf1 := hv1.frozen)
        have hx1 : ∀ b t u, b = p + 1 ∨ b = p + 1 + 1 → t ≠ 9 → Boxed W b t u → Boxed (w1.setCell ⟨p, 0, none⟩ (.slice (some ⟨g', 0, none⟩) (pre.length + 1) cap')) b t u := fun b t u hb ht h =>
          Boxed.kept (Boxed.kept (h.alloc _) hgrow (h.not_row ht hrow)) (grownBy_setCell' w1 p _) (by simp; omega)
        have eA := hx1 _ _ _ (.inl rfl) (by decide) hA
        have eB := hx1 _ _ _ (.inr rfl) (by decide) hB2
        have hdp : dg < p := by have := HHP.out; omega
        exact ⟨hk2.from _, ⟨eA.trans hA.symm, eB.trans hB2.symm⟩, ⟨⟨_, hv2, by rw [cutTexts_snoc, List.length_append]; exact hr2, trivial⟩, eA, eB, (hb2.block dg hdp).trans hD⟩,
          hBW.trans ⟨hb2.os, hb2.tape, hb2.output, hb2.size, fun k hk => hb2.block k (by omega)⟩⟩
      case done =>
        rintro D ys W hD rfl ⟨⟨⟨v, hv, hrow, _⟩, hA, hB2, hD2⟩, hBW⟩ hK
        have hc := hv.cell
        go_wp2
        refine ⟨by simp, .inl ⟨_, _, rfl, run_takeDeferred hK, ?_⟩⟩
        refine ⟨_, results_tmp rfl _ _ _, v, rfl, ?_, hBW.trans (belowK_b (w := w) (Nat.le_refl _) W D _ _ (by have := HB.out.2.2.2.1.size; omega) hK rfl rfl)⟩
        have h1 := ownsRow_putObj hrow (.deferred none) hK rfl
        rw [cutTexts_all] at h1
        have hlen : (List.range (((Wl.pack g).length + 510) / 511)).length = ((Wl.putsTexts g).map bs).length := by rw [List.length_map, List.length_range, Wl.putsTexts, List.length_map, Wl.pieces_length]
        refine Own.mono (B := p) ?_ (by have := HB.out.2.2.2.1.size; have := hP.out.bel.size; have := HHP.out; omega)
        unfold Own
        rw [show strElem.cells ((Wl.putsTexts g).map bs) = ((Wl.putsTexts g).map bs).map (fun s => Value.string s) from oneElem_cells _ _ _, ← hlen, List.map_map]
        exact h1
      case stop =>
        rintro D c pre W _ _ h _
        exact h.elim
end Go.Proofs.YthkblabpiajbhaaDoor
