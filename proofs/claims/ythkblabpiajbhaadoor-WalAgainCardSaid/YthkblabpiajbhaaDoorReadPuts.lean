/- Walk of readPuts. -/
import Derived.Test.YthkblabpiajbhaaDoorNext
import Derived.Test.YthkblabpiajbhaaDoorContent
import Derived.Laws.CopyOwn
import Derived.StillTailTactics
namespace Go.Proofs.YthkblabpiajbhaaDoor
open Go.RowKit Lib

theorem Wl.ins_snoc : ∀ (m : Wl.Grp) (k : Nat) (t : Wl.Text), (∀ y ∈ m, y.1 < k) → Wl.ins k t m = m ++ [(k, t)]
  | [], k, t, _ => rfl
  | x :: m, k, t, h => by
    have hx := h x List.mem_cons_self
    rw [Wl.ins, if_neg (by omega), if_neg (by omega), Wl.ins_snoc m k t fun y hy => h y (List.mem_cons_of_mem _ hy)]
    rfl
theorem Wl.ins_take {g : Wl.Grp} (h : Wl.Rising g) (j : Nat) (hj : j < g.length) : Wl.ins g[j].1 g[j].2 (g.take j) = g.take (j + 1) := by
  rw [List.take_succ_eq_append_getElem hj, Wl.ins_snoc]
  intro y hy
  obtain ⟨i, hi, rfl⟩ := List.mem_iff_getElem.1 hy
  rw [List.length_take] at hi
  rw [List.getElem_take]
  exact List.pairwise_iff_getElem.1 h i j (by omega) hj (by omega)
theorem Wl.pack_drop {homes : Nat} {g : Wl.Grp} (h : Wl.Fits homes g) (j : Nat) (hj : j < g.length) : (Wl.pack g).drop (516 * j) = Wl.enc 4 g[j].1 ++ (g[j].2 ++ Wl.pack (g.drop (j + 1))) := by
  have e : Wl.pack g = Wl.pack (g.take j) ++ Wl.pack (g.drop j) := by rw [← Wl.pack_append, List.take_append_drop]
  have hl : (Wl.pack (g.take j)).length = 516 * j := by
    rw [Wl.pack_length (homes := homes) (fun x hx => h.2 x (List.mem_of_mem_take hx)), List.length_take, Nat.min_eq_left (by omega)]
  rw [e, ← hl, List.drop_left, List.drop_eq_getElem_cons hj, Wl.pack_cons]
/-- All bytes of a group's sectors. -/
def whole (g : Wl.Grp) : List UInt8 := Wl.pack g ++ List.replicate (511 * (((Wl.pack g).length + 510) / 511) - (Wl.pack g).length) 0
theorem whole_eq (g : Wl.Grp) : ((((Wl.putsTexts g).map Dk.full).map fun s => s.drop 1)).flatten = whole g := by
  rw [Wl.putsTexts, List.map_map, List.map_map]
  exact Wl.sectors_join (Wl.pack g)
theorem whole_drop {homes : Nat} {g : Wl.Grp} (h : Wl.Fits homes g) (j : Nat) (hj : j < g.length) : ∃ rest, (whole g).drop (516 * j) = Wl.enc 4 g[j].1 ++ (g[j].2 ++ rest) := by
  have hl := Wl.pack_length h.2
  refine ⟨Wl.pack (g.drop (j + 1)) ++ List.replicate (511 * (((Wl.pack g).length + 510) / 511) - (Wl.pack g).length) 0, ?_⟩
  rw [whole, List.drop_append_of_le_length (by omega), Wl.pack_drop h j hj]
  simp only [List.append_assoc]
theorem whole_end {homes : Nat} {g : Wl.Grp} (h : Wl.Fits homes g) : Wl.blank ((whole g).drop (516 * g.length)) = true := by
  have hl := Wl.pack_length h.2
  rw [whole, ← hl, List.drop_left]
  exact Wl.blank_replicate _
theorem whole_length {homes : Nat} {g : Wl.Grp} (h : Wl.Fits homes g) : 516 * g.length ≤ (whole g).length ∧ (whole g).length ≤ 516 * g.length + 511 := by
  have hl := Wl.pack_length h.2
  rw [whole, List.length_append, List.length_replicate, hl]
  omega
/-- append of a text to a row of bytes. -/
theorem wpList_app_strY {B : Nat} {w : World} {v : Value} {l : List UInt8} {ops : Array Oper} {rest : List Oper} {o : Oper} {a : Act} {Q : Exit → Act → World → Prop} (hgd : o.guard = none) (s x : Operand)
    (ho : o.op = .call { callee := .builtin .append, args := #[s, x], argTypes := #[22, 9] })
    (hs : a.eval s = v) (hown : OwnY B w v l) (hB : B ≤ w.heap.size) (t : ByteArray) (hx : a.eval x = .string t) (hlen : l.length + t.size ≤ 900000000)
    (h : ∀ v' w', OwnY B w' v' (l ++ t.data.toList) → w.grownBy w' v.ownBlock → wpList Tryd.prog ops Q rest (a.put o.dst v') w') : wpList Tryd.prog ops Q (o :: rest) a w := by
  obtain ⟨i, hi, hz, hsz, hby⟩ := info_of (P := Tryd.prog) (E := 5) (size := 1) (bytes := 1) (z := .int .u8 0) (by kernel_rfl)
  refine wpList_append_own_string w hgd s x 22 9 ho B 5 i Tryd.underlying22 Tryd.underlying9 hi hz hsz hby v l.length (byteElem.cells l) hs hown t hx (by unfold maxLen; omega) (by omega) hB ?_
  intro v' w' h1 h2 _
  refine h v' w' ?_ h2
  unfold OwnY Own
  rw [byteElem.cells_append, List.length_append, show byteElem.cells t.data.toList = strCells t from oneElem_cells _ _ _, Array.length_toList]
  exact h1
theorem row_back (W : World) (gg o cp : Nat) (l : List UInt8) (hc : ∀ x (hx : x < l.length), W.cell? ⟨gg, o + x, none⟩ = some (bcell l[x])) :
    (convert 22 9 (.slice (some ⟨gg, o, none⟩) l.length cp)).run Tryd.prog W = .ok (.string (bs l)) W :=
  run_convert_bytes_back (P := Tryd.prog) W 22 9 5 ⟨gg, o, none⟩ cp l (by kernel_rfl) (by kernel_rfl) (by kernel_rfl) (by
    intro j hj
    rw [show (⟨gg, o, none⟩ : Addr).add j = ⟨gg, o + j, none⟩ by unfold Addr.add; split <;> simp_all]
    exact hc j hj)
theorem sub_cells {W : World} {gg o : Nat} {A X Y : List UInt8} (hD : ∀ x (hx : x < A.length), W.cell? ⟨gg, x, none⟩ = some (bcell A[x])) (he : A.drop o = X ++ Y) : ∀ x (hx : x < X.length), W.cell? ⟨gg, o + x, none⟩ = some (bcell X[x]) := by
  intro x hx
  have h1 : (A.drop o)[x]? = some X[x] := by rw [he, List.getElem?_append_left hx, List.getElem?_eq_getElem hx]
  rw [List.getElem?_drop] at h1
  obtain ⟨h2, h3⟩ := List.getElem?_eq_some_iff.1 h1
  rw [hD _ h2, h3]
set_option maxRecDepth 100000 in
set_option maxHeartbeats 4000000 in
theorem readPuts_any (w : World) (homes : Nat) (g : Wl.Grp) (v : Value) (hv : Reads w v ((Wl.putsTexts g).map Dk.full)) (hf : Wl.Fits homes g) (hh : homes ≤ 65536) (hl : g.length ≤ 65536) (hg0 : 0 < g.length) :
    Calls Tryd.prog 54 #[v, .int .i64 g.length, .int .i64 homes] w fun e w' => ∃ gb, e = .returned (.tuple #[.map (some gb), .bool true]) ∧ CMap w' gb g ∧ w.heap.size ≤ gb ∧ Below w.heap.size w w' := by
  obtain ⟨L, hL⟩ : ∃ L, L = (Wl.putsTexts g).map Dk.full := ⟨_, rfl⟩
  have HL1 := Lib.hid (show ∀ k (hk : k < L.length), L[k].length = 512 ∧ Wl.isPuts L[k] = true by
    intro k hk
    have hm : L[k] ∈ (Wl.putsTexts g).map Dk.full := by rw [← hL]; exact List.getElem_mem hk
    obtain ⟨t, ht, e⟩ := List.mem_map.1 hm
    rw [← e]
    exact ⟨Dk.full_length _ (Wl.putsTexts_le g t ht), Wl.putsTexts_isPuts g t ht⟩)
  have HLl := Lib.hid (show L.length ≤ 70000 by
    have h1 := Wl.putsTexts_length (homes := homes) (g := g) hf.2
    rw [hL, List.length_map]
    unfold Wl.sizeOf at h1
    omega)
  have HW := Lib.hid (show (L.map fun s => s.drop 1).flatten = whole g by rw [hL]; exact whole_eq g)
  rw [← hL] at hv
  clear hL
  obtain ⟨a, cap, rfl, hc, hr⟩ := hv
  have HR := Lib.hid hr
  have HF := Lib.hid (And.intro hf hh)
  have hlI : (g.length : Int) ≤ 65536 := by omega
  have hhI : (homes : Int) ≤ 65536 := by omega
  have HG0 := Lib.hid hg0
  clear hr hf hc
  obtain ⟨Z, hZ⟩ : ∃ Z, Z = (zeros.map bcell).toArray := ⟨_, rfl⟩
  have hz : ∀ w, (zeroValue CT).run Tryd.prog w = .ok (.agg Z) w := fun w => by rw [hZ]; exact zero_CT w
  have hzs : Z.size = 512 := by rw [hZ]; simp [zeros_len]
  have hzn : ¬ Z = #[] := by intro e; rw [e] at hzs; cases hzs
  have HZ := Lib.hid hZ
  clear hZ
  go_enter Tryd.func54, Tryd.ntmps54
  go_wp2_with fail
  go_loopw [8, 17] (fun u i wr => ∃ k : Nat, k ≤ L.length ∧ i = .int .i64 k ∧ Hid (OwnY w.heap.size wr u ((L.map fun s => s.drop 1).take k).flatten) ∧ Hid (Below w.heap.size w wr)) (fun _ i _ => L.length - (Go.RowKit.intOf i).toNat)
  case atStart => exact ⟨0, Nat.zero_le _, rfl, Lib.hid (Own.nil _ _ _ _), Lib.hid (Below.refl _ _)⟩
  case round =>
    obtain ⟨k, hk, rfl, ho, hB⟩ := hrel
    by_cases hlt : k < L.length
    · have hI : (k : Int) < L.length := by omega
      obtain ⟨ga, oa, rfl, hga, hxa⟩ := HR.out k hlt
      have hcl : wr.cell? ⟨ga, oa + k, none⟩ = some (.string (bs L[k])) := (hB.out.cell (p := ⟨ga, oa + k, none⟩) hga).trans (hxa k hlt)
      obtain ⟨hl5, hlp⟩ := HL1.out k hlt
      have HX := Lib.hid (show ((L.map fun s => s.drop 1).take (k + 1)).flatten = ((L.map fun s => s.drop 1).take k).flatten ++ L[k].drop 1 by
        rw [flatten_take_succ _ k (by rw [List.length_map]; exact hlt), List.getElem_map])
      have HK := Lib.hid hlt
      clear hxa
      generalize L[k] = t at *
      clear hk hlt
      have hts : (bs t).size = 512 := by rw [bs_size]; exact hl5
      have htI : (512 : Int) ≤ (bs t).size := by omega
      have htJ : ((bs t).size : Int) ≤ 512 := by omega
      go_wp2_with fail
      refine (isPuts_any (bs t) wr).mono ?_
      rintro e w1 ⟨rfl, rfl⟩
      rw [bs_list, hlp]
      have hss : ((bs t).extract 1 512).data.toList = t.drop 1 := by rw [← hts, ext_drop, bs_list]
      have hsz : ((bs t).extract 1 512).size = 511 := by rw [ByteArray.size_extract]; omega
      have HSS := Lib.hid (And.intro hss hsz)
      have HLe := Lib.hid (show (((L.map fun s => s.drop 1).take k).flatten).length ≤ 800000000 by
        have h1 := flatten_take_le (L.map fun s => s.drop 1) k
        rw [HW.out] at h1
        have h2 := (whole_length HF.out.1).2
        omega)
      have hkI : (k : Int) ≤ 70000 := by have := HLl.out; have := HK.out; omega
      clear hss hsz hlp hl5
      go_wp2_with (refine wpList_app_strY rfl _ _ rfl rfl ho.out hB.out.size _ rfl (by rw [HSS.out.2]; have := HLe.out; omega) ?_; intro u2 w2 ho2 hg2; have H2 := Lib.hid (And.intro ho2 hg2); clear ho2 hg2)
      go_roundw
      case rel =>
        obtain ⟨ho2, hg2⟩ := H2.out
        rw [HSS.out.1] at ho2
        exact ⟨k + 1, HK.out, by have := HLl.out; have := HK.out; go_num, Lib.hid (by rw [HX.out]; exact ho2), Lib.hid (hB.out.grown hg2 hB.out.size (fun j e => (ho.out.block j e).1))⟩
      case measure => have := HLl.out; have := HK.out; simp [Go.RowKit.intOf]; omega
    · obtain rfl : k = L.length := by omega
      rw [List.take_of_length_le (by rw [List.length_map]; exact Nat.le_refl _), HW.out] at ho
      have hlen := whole_length HF.out.1
      obtain ⟨gg, cp0, hu, hg1, hg2, hcp0, hD0⟩ : ∃ gg cp, u8 = .slice (some ⟨gg, 0, none⟩) (whole g).length cp ∧ w.heap.size ≤ gg ∧ gg < wr.heap.size ∧ (whole g).length ≤ cp ∧ ∀ i (hi : i < (whole g).length), wr.cell? ⟨gg, i, none⟩ = some (bcell (whole g)[i]) := by
        obtain ⟨gg, c', e1, e2, e3, e4⟩ := Own.form ho.out (by omega)
        have ho' := ho.out
        rw [e1] at ho'
        refine ⟨gg, c', e1, e2, e3, e4, fun i hi => ?_⟩
        have := Own.lies ho' i (bcell (whole g)[i]) (by rw [show byteElem.cells (whole g) = (whole g).map bcell from oneElem_cells _ _ _]; simp [hi])
        rwa [Nat.zero_add] at this
      subst hu
      have hmm := @run_makeMap Tryd.prog
      go_wp2
      obtain ⟨V, hV⟩ : ∃ V, V = wr.alloc (.map #[] 0) := ⟨_, rfl⟩
      obtain ⟨mb, hmb⟩ : ∃ mb, wr.heap.size = mb := ⟨_, rfl⟩
      rw [← hV, hmb]
      have HV := Lib.hid (show CMap V mb [] ∧ Below w.heap.size w V ∧ mb < V.heap.size ∧ w.heap.size ≤ gg ∧ gg < mb ∧ ∀ i (hi : i < (whole g).length), V.cell? ⟨gg, i, none⟩ = some (bcell (whole g)[i]) by
        have hb := (Below.refl wr.heap.size wr).alloc (Nat.le_refl _) (.map #[] 0)
        rw [← hV] at hb
        refine ⟨by rw [hV, ← hmb]; exact IMap.made _ _ _ _, by rw [hV]; exact hB.out.alloc hB.out.size _, by rw [hV, ← hmb]; simp, hg1, by omega, fun i hi => (hb.cell (p := ⟨gg, i, none⟩) hg2).trans (hD0 i hi)⟩)
      have HLn := Lib.hid hlen
      have HCP := Lib.hid hcp0
      clear hV hmb hmm hg1 hg2 hD0 hB ho hk hlt hlen hcp0
      go_loopw [8, 12, 31] (fun u lst i wq => ∃ (j m o cp : Nat) (q : Int), j ≤ g.length ∧ u = .slice (some ⟨gg, o, none⟩) m cp ∧ lst = .int .i64 q ∧ i = .int .i64 j ∧
        Hid (m = (whole g).length - 516 * j ∧ (0 < m → o = 516 * j) ∧ m ≤ cp ∧ (∀ h : j < g.length, q < g[j].1) ∧ -1 ≤ q ∧ q ≤ 65536) ∧ Hid (CMap wq mb (g.take j)) ∧ Hid (Below mb V wq ∧ Below w.heap.size w wq)) (fun _ _ i _ => g.length - (Go.RowKit.intOf i).toNat)
      case atStart => exact ⟨0, _, 0, cp0, -1, Nat.zero_le _, rfl, rfl, rfl, Lib.hid ⟨by omega, fun _ => rfl, HCP.out, fun _ => by omega, by omega, by omega⟩, Lib.hid HV.out.1, Lib.hid ⟨Below.refl _ _, HV.out.2.1⟩⟩
      case round =>
        obtain ⟨j, m, o, cp, q, hj, rfl, rfl, rfl, hS, hM, hB⟩ := hrel
        have hD : ∀ i (hi : i < (whole g).length), wr.cell? ⟨gg, i, none⟩ = some (bcell (whole g)[i]) := fun i hi => (hB.out.1.cell (p := ⟨gg, i, none⟩) HV.out.2.2.2.2.1).trans (HV.out.2.2.2.2.2 i hi)
        by_cases hlt : j < g.length
        · have hI : (j : Int) < g.length := by omega
          obtain ⟨s1, s2, s3, s4, s5, s6⟩ := hS.out
          have hlen := HLn.out
          have hm516 : 516 ≤ m := by omega
          have ho := s2 (by omega)
          obtain ⟨rest, hrest⟩ := whole_drop HF.out.1 j hlt
          rw [← ho] at hrest
          have hin := HF.out.1.2 g[j] (List.getElem_mem hlt)
          have hq := s4 hlt
          have HTk := Lib.hid (Wl.ins_take HF.out.1.1 j hlt)
          have HNx := Lib.hid (show ∀ h : j + 1 < g.length, (g[j].1 : Int) < g[j + 1].1 from fun h => by
            have := List.pairwise_iff_getElem.1 HF.out.1.1 j (j + 1) hlt h (by omega); omega)
          generalize g[j] = x at *
          obtain ⟨i, t⟩ := x
          simp only at hrest hin hq HTk HNx
          have hcv := row_back wr gg o cp (Wl.enc 4 i) (sub_cells hD hrest)
          rw [Wl.enc_length] at hcv
          have hsrc := sub_cells (X := t) (Y := rest) (o := o + 4) hD (by
            rw [← List.drop_drop, hrest]; exact List.drop_left' (Wl.enc_length 4 i))
          have hi6 : (i : Int) ≤ 65536 := by have := HF.out.2; omega
          have hi0 : (0 : Int) ≤ i := by omega
          have hihI : (i : Int) < homes := by omega
          have hqn : ¬ (i : Int) ≤ q := by omega
          have hm5 : (516 : Int) ≤ m := by omega
          have hc5 : (516 : Int) ≤ cp := by omega
          have hc4 : ¬ cp = 4 := by omega
          have hdec := Wl.dec_enc 4 i (by have := HF.out.2; omega)
          have HS2 := Lib.hid (show m = (whole g).length - 516 * j ∧ o = 516 * j ∧ m ≤ cp ∧ t.length = 512 ∧ 516 ≤ m ∧ j < g.length from ⟨s1, ho, s3, hin.2, hm516, hlt⟩)
          have HSR := Lib.hid hsrc
          have HDE := Lib.hid hdec
          clear s1 s2 s3 s4 s5 s6 hlen ho hrest hin hq hsrc hD hdec hS hlt hj hm516
          go_wp2_with fail
          refine (numberOf_any (bs (Wl.enc 4 i)) wr (by rw [bs_size, Wl.enc_length]; decide)).mono ?_
          rintro e w1 ⟨rfl, rfl⟩
          rw [bs_list, HDE.out]
          obtain ⟨r, hr⟩ : ∃ r, w1.heap.size = r := ⟨_, rfl⟩
          have hsz := w1.heap.size
          clear hcv
          go_wp2
          obtain ⟨X, hX⟩ : ∃ X, X = w1.alloc (.cells Z CT) := ⟨_, rfl⟩
          rw [← hX]
          have hxs := slice_CT X r
          have hmr : mb < r := by have := HV.out.2.2.1; have := hB.out.1.size; omega
          have HX := Lib.hid (show CBlk X r zeros ∧ CMap X mb (g.take j) ∧ Below mb V X ∧ Below w.heap.size w X ∧ X.heap.size = r + 1 ∧ mb < r ∧ ∀ x (hx : x < t.length), X.cell? ⟨gg, o + 4 + x, none⟩ = some (bcell t[x]) by
            have hbx : But (fun _ => False) w1 X := by rw [hX]; exact (But.refl _ _).alloc _
            refine ⟨by rw [hX, ← hr]; exact CBlk.new w1 Z HZ.out, hM.out.but hbx id, hB.out.1.trans (hbx.below (by omega) (fun _ _ h => h)), hB.out.2.trans (hbx.below hB.out.2.size (fun _ _ h => h)), by rw [hX]; simp [hr], hmr, fun x hx => hbx.cell (HSR.out x hx) id⟩)
          clear hX hM hB hr hmr hsz hqn hihI
          go_still_tail 3, (by kernel_rfl)
          change wpList _ _ _ _ _ X.drew
          obtain ⟨U, hU⟩ : ∃ U, U = X.drew := ⟨_, rfl⟩
          rw [← hU]
          have HU := Lib.hid (show CBlk U r zeros ∧ CMap U mb (g.take j) ∧ Below mb V U ∧ Below w.heap.size w U ∧ U.heap.size = r + 1 ∧ mb < r ∧ ∀ x (hx : x < t.length), U.cell? ⟨gg, o + 4 + x, none⟩ = some (bcell t[x]) by
            obtain ⟨h1, h2, h3, h4, h5, h6, h7⟩ := HX.out
            rw [hU]
            exact ⟨h1, h2.but ((But.refl (fun _ => False) X).drew) id, h3.drew, h4.drew, h5, h6, h7⟩)
          clear hU hxs HX HSR
          have hsrcU : ∀ y v, (t.map bcell)[y]? = some v → U.cell? ((⟨gg, o + 4, none⟩ : Addr).add y) = some v := by
            intro y v hy
            rw [List.getElem?_map] at hy
            obtain ⟨hy1, hy2⟩ : ∃ h : y < t.length, bcell t[y] = v := by
              cases he : t[y]? with
              | none => rw [he] at hy; cases hy
              | some z =>
                rw [he] at hy
                obtain ⟨h1, h2⟩ := List.getElem?_eq_some_iff.1 he
                exact ⟨h1, by rw [h2]; simpa using hy⟩
            rw [show (⟨gg, o + 4, none⟩ : Addr).add y = ⟨gg, o + 4 + y, none⟩ by unfold Addr.add; split <;> simp_all, ← hy2]
            exact HU.out.2.2.2.2.2.2 y hy1
          have HSU := Lib.hid hsrcU
          clear hsrcU
          go_wp2_with (refine wpList_copy_own rfl _ _ _ _ rfl 5 Tryd.underlying22 (by kernel_rfl) r 0 512 512 ⟨gg, o + 4, none⟩ 512 (cp - 4) rfl rfl (zeros.map bcell).toArray CT HU.out.1.1 (t.map bcell) (by rw [List.length_map, HS2.out.2.2.2.1]; rfl) HSU.out (by rw [List.length_map, HS2.out.2.2.2.1]; simp [zeros_len]) (fun v hv => by obtain ⟨y, _, rfl⟩ := List.mem_map.1 hv; rfl) ?_; refine Hid.out ?_)
          refine Lib.hid ?_
          obtain ⟨Y, hY⟩ : ∃ Y, Y = U.setRow r (List.map bcell t ++ List.drop t.length (List.map bcell zeros)).toArray := ⟨_, rfl⟩
          rw [← hY]
          have HY := Lib.hid (show CBlk Y r t ∧ CMap Y mb (g.take j) ∧ Below mb V Y ∧ Below w.heap.size w Y by
            obtain ⟨h1, h2, h3, h4, h5, h6, _⟩ := HU.out
            have hbY : But (fun k => k = r) U Y := by rw [hY]; exact (But.refl _ _).setRow _ _ (fun _ => rfl)
            have hwr : w.heap.size ≤ mb := by have := HV.out.2.2.2.1; have := HV.out.2.2.2.2.1; omega
            refine ⟨⟨?_, HS2.out.2.2.2.1⟩, h2.but hbY (by omega), Below.but h3 hbY (by omega) (fun k hk e => by omega), Below.but h4 hbY h4.size (fun k hk e => by omega)⟩
            have hd0 : List.drop t.length (List.map bcell zeros) = [] := List.drop_eq_nil_of_le (by rw [List.length_map, zeros_len, HS2.out.2.2.2.1]; exact Nat.le_refl _)
            rw [hY, hd0, List.append_nil]
            exact setRow_heap U r _ _ _ _ h1.1)
          clear hY HU HSU
          have hjI : (j : Int) ≤ 65536 := by have := HS2.out.2.2.2.2.2; omega
          have hmn : 516 ≤ m := by omega
          have hcn : 516 ≤ cp := by omega
          go_wp2_with (first
            | (refine wpList_loadC rfl _ rfl r t rfl HY.out.1 ?_)
            | (at_mapUpdate; refine wpList_store (M := contentE) rfl _ _ _ rfl HY.out.2.1 underInt underMap (by rw [List.length_take]; have := HS2.out.2.2.2.2.2; omega) i (by omega) t HY.out.1.2 rfl rfl rfl ?_; intro w8 hM8 hg8; have H8 := Lib.hid (And.intro hM8 hg8); clear hM8 hg8; go_frame))
          obtain ⟨s1, s2, s3, s4, s5, s6⟩ := HS2.out
          have hwr : w.heap.size ≤ mb := by have := HV.out.2.2.2.1; have := HV.out.2.2.2.2.1; omega
          refine ⟨⟨j + 1, m - 516, if cp = 516 then o else o + 516, cp - 516, i, s6, by split <;> rfl, rfl, rfl, Lib.hid ⟨by omega, fun h => ?_, by omega, HNx.out, by omega, hi6⟩, Lib.hid (by rw [← HTk.out]; exact H8.out.1), Lib.hid ⟨HY.out.2.2.1.grown H8.out.2 (by have := HY.out.2.2.1.size; have := HV.out.2.2.1; omega) (fun k e => by cases e; exact Nat.le_refl _), HY.out.2.2.2.grown H8.out.2 HY.out.2.2.2.size (fun k e => by cases e; exact hwr)⟩⟩, ?_⟩
          · rw [if_neg (by omega)]; omega
          · simp only [Go.RowKit.intOf]; omega
        · obtain rfl : j = g.length := by omega
          obtain ⟨s1, s2, s3, s4, s5, s6⟩ := hS.out
          have hlen := HLn.out
          have hle : ((whole g).drop (516 * g.length)).length = m := by rw [List.length_drop]; omega
          have hcv := row_back wr gg o cp ((whole g).drop (516 * g.length)) (fun x hx => by
            have ho := s2 (by omega)
            exact sub_cells (X := (whole g).drop (516 * g.length)) (Y := []) hD (by rw [ho, List.append_nil]) x hx)
          rw [hle] at hcv
          have HE := Lib.hid (And.intro hle hlen)
          rw [List.take_length] at hM
          clear s1 s2 s3 s4 s5 s6 hlen hD hS hle
          go_wp2_with fail
          refine (wblank_any _ wr (by rw [bs_size, HE.out.1]; have := HE.out.2; have h2 := HE.out.1; rw [List.length_drop] at h2; omega)).mono ?_
          rintro e w4 ⟨rfl, nq, rfl⟩
          rw [bs_list, whole_end HF.out.1]
          clear hcv
          go_wp2
          go_ret2
          exact ⟨mb, rfl, hM.out.but ((But.refl (fun _ => False) wr).drewN nq) id, by have := HV.out.2.2.2.1; have := HV.out.2.2.2.2.1; omega, hB.out.2.trans ((below_drawn wr nq).mono hB.out.2.size)⟩
end Go.Proofs.YthkblabpiajbhaaDoor
