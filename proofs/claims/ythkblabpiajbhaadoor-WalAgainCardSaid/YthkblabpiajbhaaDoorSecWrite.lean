/- Walk of Write. -/
import Derived.Test.YthkblabpiajbhaaDoorSecRead
import Derived.Test.YthkblabpiajbhaaDoorAppend
import Derived.Laws.CopyRow
import Derived.Lib.AppendStr
namespace Go.Proofs.YthkblabpiajbhaaDoor
open Go.RowKit Lib

theorem run_copy_str {P : Program} (w : World) (dT sT ty elem : TypeId) (g dLen dCap : Nat) (s : ByteArray) (cur : Array Value) (t : TypeId)
    (hu : P.underlying dT = some (.slice elem)) (hs : (P.info? elem).map (·.size) = some 1)
    (hg : w.heap[g]? = some (.cells cur t (0, 0))) (hn : s.size ≤ dLen) (hfit : s.size ≤ cur.size) :
    (Builtin.copy_ #[dT, sT] ty #[.slice (some ⟨g, 0, none⟩) dLen dCap, .string s]).run P w =
      .ok (goInt s.size) (w.setRow g (strCells s ++ cur.toList.drop s.size).toArray) := by
  have hl := fun size => run_firstCells_string (P := P) w size s
  have hst := run_storeCells_at P g 0 t (strCells s) 0 cur w hg (by simpa [strCells_length] using hfit) (strCells_oneCell s)
  simp only [Nat.zero_add, strCells_length, List.take_zero, List.nil_append] at hst
  have hmin : Nat.min s.size dLen = s.size := Nat.min_eq_left hn
  cases hq : P.info? elem with
  | none => simp [hq] at hs
  | some i => simp [Builtin.copy_, run_underlying hu, Builtin.lenOf, sizeOf, typeInfo, hq, hmin, hl, hst]
theorem wpList_copy_str {P : Program} {w : World} {ops : Array Oper} {rest : List Oper} {o : Oper} {a : Act} {Q : Exit → Act → World → Prop} (hgd : o.guard = none) (d s : Operand) (dT sT : TypeId)
    (ho : o.op = .call { callee := .builtin .copy, args := #[d, s], argTypes := #[dT, sT] }) (elem : TypeId) (hu : P.underlying dT = some (.slice elem)) (hsz : (P.info? elem).map (·.size) = some 1)
    (g dLen dCap : Nat) (str : ByteArray) (hd : a.eval d = .slice (some ⟨g, 0, none⟩) dLen dCap) (hs : a.eval s = .string str)
    (cur : Array Value) (t : TypeId) (hg : w.heap[g]? = some (.cells cur t (0, 0))) (hn : str.size ≤ dLen) (hfit : str.size ≤ cur.size)
    (h : wpList P ops Q rest (a.put o.dst (goInt str.size)) (w.setRow g (strCells str ++ cur.toList.drop str.size).toArray)) : wpList P ops Q (o :: rest) a w := by
  refine wpList_plain hgd fun K hK => ?_
  have hrun := run_copy_str (P := P) w dT sT o.type elem g dLen dCap str cur t hu hsz hg hn hfit
  unfold Oper.wp
  simp [execOp, ho, resolve, invoke, builtin, hd, hs, hrun, Result.andThen]
  exact hK _ _ h

def zeroContent : List Value := List.replicate 512 (.int .u8 0)
theorem zero_content (w : World) : (zeroValue 77).run Tryd.prog w = .ok (.agg zeroContent.toArray) w := by kernel_rfl
theorem full_cells (s : ByteArray) : strCells s ++ zeroContent.drop s.size = (Dk.full s.data.toList).map bcell := by
  unfold Dk.full zeroContent strCells
  rw [List.map_append, List.map_replicate, List.drop_replicate, Array.length_toList]
  rfl
theorem lies_wr (w : World) (i c : Nat) : Lies wrElem (w.alloc (.cells #[.int .i64 i, ptr c] 76)) w.heap.size 0 [(i, c)] :=
  Lies.of_blk (Blk.new w #[.int .i64 i, ptr c] 76) rfl

theorem Sec.wrote {w1 W w5 : World} {F : Nat → Prop} {g f cf l cl c k : Nat} {vo v' : Value} {n : Int} {pf pl : List Nat} {ws : List (Nat × Nat)} {T : Nat → List UInt8} {d : Dk.Disk} {t : List UInt8}
    (hbW : But (· = c) w1 W) (hc : w1.heap.size = c) (hcW : Blk W c 77 (t.map bcell)) (ht : t.length = 512) (tW : Txts W F T (pf ++ (pl ++ ws.map (·.2)))) (kW : SecIn W g f cf l cl vo n d.off pf pl ws)
    (k5' : SecIn w5 g f cf l cl v' n d.off pf (pl.set k c) (ws ++ [(k, c)])) (hb5 : But (fun x => x = g ∨ x = l ∨ vo.ownBlock = some x) W w5) (hv : ∀ x, v'.ownBlock = some x → F x ∨ w1.heap.size ≤ x)
    (k3 : d.firm = pf.map T) (k4 : d.loose = ws.map (fun x => (x.1, T x.2))) (kp : d.now = pl.map T) (k5 : max n (-1) = d.fuel) (k6 : n ≤ 9223372036854775807) (k6' : -9223372036854775808 ≤ n) (k7 : 1 ≤ pf.length) (k8 : pf.length ≤ 65536)
    (k9 : ∀ x ∈ ws, x.1 < pf.length) (k10 : F g) (k11 : F f) (k12 : F l) (k13 : ∀ x, vo.ownBlock = some x → F x) (k14 : ∀ x, F x → x < w1.heap.size) (hk : k < pl.length) (hpl : pl.length = pf.length) :
    ∃ F', Sec w5 F' g { d with loose := d.loose ++ [(k, t)] } ∧ Moved F w1 F' w5 := by
  have hFc : ∀ x, F x → x ≠ c := fun x hx e => by have := k14 x hx; omega
  have hsz := hbW.size
  have hsz5 := hb5.size
  have hcs := hcW.lt
  have hT : ∀ x ∈ pf ++ (pl ++ ws.map (·.2)), (if x = c then t else T x) = T x := fun x hx => if_neg (hFc x (tW x hx).2.1)
  refine ⟨fun x => F x ∨ (w1.heap.size ≤ x ∧ x < w5.heap.size), ⟨f, cf, l, cl, v', n, pf, pl.set k c, ws ++ [(k, c)], fun x => if x = c then t else T x, k5', ?_, ?_, ?_, ?_, k5, k6, k6', k7, k8, ?_, .inl k10, .inl k11, .inl k12, ?_, ?_⟩, ?_, ?_⟩
  · have hold : ∀ x ∈ pf ++ (pl ++ ws.map (·.2)), Blk w5 x 77 (((if x = c then t else T x)).map bcell) ∧ (F x ∨ (w1.heap.size ≤ x ∧ x < w5.heap.size)) ∧ (if x = c then t else T x).length = 512 := by
      intro x hx
      obtain ⟨h1, h2, h3⟩ := tW x hx
      rw [hT x hx]
      refine ⟨h1.but hb5 ?_, .inl h2, h3⟩
      rintro (e | e | e)
      · exact h1.ne kW.blk (by decide) e
      · subst e
        obtain ⟨cur, hcur⟩ := kW.ol.typed (k := x) rfl
        unfold Blk at h1
        rw [h1] at hcur
        injection hcur with hcur
        injection hcur with _ hcur
        exact absurd hcur (by decide)
      · exact kW.oo.ne_blk h1 (by decide) e
    intro x hx
    have hx' : x ∈ pf ++ (pl ++ ws.map (·.2)) ∨ x = c := by
      rw [List.map_append] at hx
      simp only [List.mem_append] at hx ⊢
      rcases hx with hx | hx | hx | hx
      · exact .inl (.inl hx)
      · rcases List.mem_or_eq_of_mem_set hx with h | h
        · exact .inl (.inr (.inl h))
        · exact .inr h
      · exact .inl (.inr (.inr hx))
      · exact .inr (by simpa using hx)
    rcases hx' with hx | hx
    · exact hold x hx
    · obtain rfl : x = c := hx
      refine ⟨?_, .inr ⟨by omega, by omega⟩, ?_⟩
      · show Blk w5 x _ ((if x = x then t else T x).map bcell)
        rw [if_pos rfl]
        refine hcW.but hb5 ?_
        rintro (e | e | e)
        · exact hFc _ k10 e.symm
        · exact hFc _ k12 e.symm
        · exact hFc _ (k13 _ e) rfl
      · show (if x = x then t else T x).length = 512
        rw [if_pos rfl]; exact ht
  · show d.firm = _
    rw [k3]
    exact List.map_congr_left fun x hx => (hT x (List.mem_append_left _ hx)).symm
  · show d.loose ++ [(k, t)] = _
    rw [k4, List.map_append]
    congr 1
    · exact List.map_congr_left fun x hx => by show _ = (x.1, if x.2 = c then t else T x.2); rw [hT x.2 (List.mem_append_right _ (List.mem_append_right _ (List.mem_map.2 ⟨x, hx, rfl⟩)))]
    · simp
  · show Dk.puts d.firm (d.loose ++ [(k, t)]) = _
    rw [Dk.puts_append, Dk.puts_one, List.map_set, if_pos rfl]
    congr 1
    rw [show Dk.puts d.firm d.loose = d.now from rfl, kp]
    exact List.map_congr_left fun x hx => (hT x (List.mem_append_right _ (List.mem_append_left _ hx))).symm
  · intro x hx
    rcases List.mem_append.1 hx with hx | hx
    · exact k9 x hx
    · obtain rfl : x = (k, c) := by simpa using hx
      rw [hpl] at hk
      exact hk
  · intro x hx
    rcases hv x hx with h | h
    · exact .inl h
    · exact .inr ⟨h, (k5'.oo.block x hx).2⟩
  · rintro x (h | h)
    · have := k14 x h; omega
    · exact h.2
  · have h1 : But (fun x => x = c ∨ (x = g ∨ x = l ∨ vo.ownBlock = some x)) w1 w5 := (hbW.mono (fun x _ e => .inl e)).trans hb5 (fun x _ e => .inr e)
    refine h1.mono ?_
    rintro x hx (e | e | e | e)
    · omega
    · exact e ▸ k10
    · exact e ▸ k12
    · exact k13 x e
  · rintro x (h | h)
    · exact .inl h
    · exact .inr h.1

set_option maxRecDepth 100000 in
set_option maxHeartbeats 1000000 in
theorem write_any (w : World) (F : Nat → Prop) (g : Nat) (d : Dk.Disk) (i : Int) (s : ByteArray) (hd : Sec w F g d) (hn : d.loose.length ≤ 900000000) :
    Calls Tryd.prog 48 #[ptr g, .int .i64 i, .string s] w fun e w' => e = .returned (.int .i64 (d.write i s.data.toList).1) ∧ ∃ F', Sec w' F' g (d.write i s.data.toList).2 ∧ Moved F w F' w' := by
  have HD := Lib.hid hd
  have hsz : s.data.toList.length = s.size := Array.length_toList
  by_cases ho : d.off = true
  · have HR : d.write i s.data.toList = (3, d) := by unfold Dk.Disk.write; rw [if_pos ho]
    rw [HR]
    clear HR hd
    go_enter Tryd.func48, Tryd.ntmps48
    go_wp2_with fail
    refine (down_any _ _ _ _ HD.out).mono ?_
    rintro e w1 ⟨rfl, rfl⟩
    rw [ho]
    go_wp2
    go_ret
    exact ⟨rfl, _, HD.out, Moved.refl _ _⟩
  · have ho' : d.off = false := by simpa using ho
    by_cases hh : d.has i = true
    · have hi : 0 ≤ i ∧ i < d.firm.length := by simpa [Dk.Disk.has] using hh
      by_cases hs : s.size ≤ 512
      · have hsI : ¬ ((s.size : Int) > 512) := by omega
        by_cases hf : d.fuel = 0
        · have HR : d.write i s.data.toList = (3, d.dead) := by
            unfold Dk.Disk.write; rw [if_neg ho, hh, hsz, if_neg (by decide), if_neg (by omega), if_pos hf]
          have hst := fun w' (hw : w' = w) => step_any w' F g d (hw ▸ hd)
          rw [if_pos hf, show decide (d.fuel ≠ 0) = false by simp [hf]] at hst
          have HST := Lib.hid (hst w rfl)
          rw [HR]
          clear HR hd hst
          go_enter Tryd.func48, Tryd.ntmps48
          go_wp2_with fail
          refine (down_any _ _ _ _ HD.out).mono ?_
          rintro e w1 ⟨rfl, rfl⟩
          rw [ho']
          go_wp2_with fail
          refine (has_any _ _ _ _ _ HD.out).mono ?_
          rintro e w1 ⟨rfl, rfl⟩
          rw [hh]
          go_wp2_with fail
          refine HST.out.mono ?_
          rintro e w1 ⟨rfl, h1, h2⟩
          have H12 := Lib.hid (And.intro h1 h2)
          clear h1 h2
          go_wp2
          go_ret
          exact ⟨rfl, _, H12.out⟩
        · have HR : d.write i s.data.toList = (0, { d.burnt with loose := d.loose ++ [(i.toNat, Dk.full s.data.toList)] }) := by
            unfold Dk.Disk.write; rw [if_neg ho, hh, hsz, if_neg (by decide), if_neg (by omega), if_neg hf]
          have hst := fun w' (hw : w' = w) => step_any w' F g d (hw ▸ hd)
          rw [if_neg hf, show decide (d.fuel ≠ 0) = true by simp [hf]] at hst
          have HST := Lib.hid (hst w rfl)
          rw [HR]
          obtain ⟨k, rfl⟩ : ∃ k : Nat, i = k := ⟨i.toNat, by omega⟩
          clear HR hd hst
          obtain ⟨Z, hZ⟩ : ∃ Z, Z = zeroContent.toArray := ⟨_, rfl⟩
          have hz := fun w => zero_content w
          rw [← hZ] at hz
          have hzs : Z.size = 512 := by rw [hZ]; rfl
          have hzn : ¬ Z = #[] := by intro e; rw [e] at hzs; cases hzs
          have HZ := Lib.hid hZ
          clear hZ
          go_enter Tryd.func48, Tryd.ntmps48
          go_wp2_with fail
          refine (down_any _ _ _ _ HD.out).mono ?_
          rintro e w1 ⟨rfl, rfl⟩
          rw [ho']
          go_wp2_with fail
          refine (has_any _ _ _ _ _ HD.out).mono ?_
          rintro e w1 ⟨rfl, rfl⟩
          rw [hh]
          go_wp2_with fail
          refine HST.out.mono ?_
          rintro e w1 ⟨rfl, h1, h2⟩
          have HM := Lib.hid h2
          clear h2
          obtain ⟨f, cf, l, cl, vo, n, pf, pl, ws, T, k1, k2, k3, k4, kp, k5, k6, k6', k7, k8, k9, k10, k11, k12, k13, k14⟩ := h1
          have hsl := slice_content (w1.alloc (.cells Z 77)) w1.heap.size
          go_wp2_with (refine wpList_copy_str rfl _ _ 22 9 rfl 5 (by kernel_rfl) (by kernel_rfl) w1.heap.size 512 512 s rfl rfl Z 77 (heap_alloc_new w1 _) hs (by omega) ?_; refine Hid.out ?_)
          refine Lib.hid ?_
          obtain ⟨c, hc⟩ : ∃ c, w1.heap.size = c := ⟨_, rfl⟩
          rw [hc]
          obtain ⟨W, hW⟩ : ∃ W, W = (w1.alloc (.cells Z 77)).setRow c (strCells s ++ Z.toList.drop s.size).toArray := ⟨_, rfl⟩
          rw [← hW]
          have hb1 : But (· = c) w1 (w1.alloc (.cells Z 77)) := (But.refl _ w1).alloc _
          have hbW : But (· = c) w1 W := by rw [hW]; exact hb1.setRow c _ (fun _ => rfl)
          have hcW : Blk W c 77 ((Dk.full s.data.toList).map bcell) := by
            rw [← full_cells s, hW]
            have := setRow_heap (w1.alloc (.cells Z 77)) c Z (strCells s ++ Z.toList.drop s.size).toArray 77 (0, 0) (by rw [← hc]; exact heap_alloc_new w1 _)
            rw [HZ.out] at this ⊢
            exact this
          have hlt := fun k hk => k14 k hk
          rw [hc] at hlt
          have kW := k1.but hbW (fun e => by have := hlt _ k10; omega) (fun e => by have := hlt _ k11; omega) (fun e => by have := hlt _ k12; omega) (fun k hk e => by have := hlt _ (k13 k hk); omega)
          have tW := k2.but hbW (fun x hx e => by have := hlt _ (k2 x hx).2.1; omega)
          clear hW hb1 k1 k2 hsl
          have HF : d.firm.length = pf.length := by rw [show d.firm = d.burnt.firm from rfl, k3, List.length_map]
          have HP : pl.length = pf.length := by
            have := congrArg List.length kp
            rw [List.length_map, Dk.Disk.now, Dk.puts_length, k3, List.length_map] at this
            exact this.symm
          have hklt : k < pl.length := by omega
          have hkI : (k : Int) < pl.length := by omega
          have c1 : W.cell? ⟨g, 1, none⟩ = some (.slice (some ⟨l, 0, none⟩) pl.length cl) := kW.blk.cell rfl
          have clk : W.cell? ⟨l, k, none⟩ = some (ptr pl[k]) := by
            have := Own.lies kW.ol k (ptr pl[k]) (by rw [show ptrElem.cells pl = pl.map ptr from oneElem_cells _ _ _, List.getElem?_map, List.getElem?_eq_getElem hklt]; rfl)
            rwa [Nat.zero_add] at this
          have flk : W.frozen? ⟨l, k, none⟩ = false := Own.frozen kW.ol k
          unfold ptr at clk
          have kV := kW.setLatest k c
          have hbV : But (· = l) W (W.setCell ⟨l, k, none⟩ (ptr c)) := (But.refl _ W).setCell _ _ (fun _ => rfl)
          unfold ptr at kV hbV
          have c2 : (W.setCell ⟨l, k, none⟩ (.pointer (some ⟨c, 0, none⟩))).cell? ⟨g, 2, none⟩ = some vo := kV.blk.cell rfl
          have hws : ws.length ≤ 900000000 := by rw [show d.burnt.loose = d.loose from rfl] at k4; rw [k4, List.length_map] at hn; exact hn
          have HCW := Lib.hid (And.intro hbW (And.intro hcW (And.intro tW (And.intro kW (And.intro kV (And.intro hbV (And.intro hlt (And.intro k9 (And.intro k13 (And.intro k14 (And.intro k3 (And.intro k4 (And.intro k5 (And.intro kp HP))))))))))))))
          clear hbW hcW tW kW kV hbV hlt k9 k13 k14 k3 k4 k5 kp HF HP
          unfold ptr
          go_wp2_with (at_builtin; refine Hid.out ?_)
          refine Lib.hid ?_
          obtain ⟨hbW, hcW, tW, kW, kV, hbV, hlt, k9, k13, k14, k3, k4, k5, kp, HP⟩ := HCW.out
          clear HCW
          obtain ⟨V, hV⟩ : ∃ V, V = W.setCell ⟨l, k, none⟩ (.pointer (some ⟨c, 0, none⟩)) := ⟨_, rfl⟩
          rw [← hV] at kV hbV ⊢
          have hVs : W.heap.size = V.heap.size := by rw [hV]; simp [World.setCell]
          refine wpList_app2 wrST rfl _ _ rfl rfl (kV.oo.alloc _) (Nat.zero_le _) W.heap.size 0 1 1 [(k, c)] rfl rfl (by rw [hVs]; exact lies_wr V k c) (by omega) ?_
          intro v' w4 hown4 hg4 hat4
          obtain ⟨a', cp', hv', _⟩ := Own.slice hown4
          generalize (ws ++ [(k, c)]).length = N' at hv'
          subst hv'
          obtain ⟨v', hv'⟩ : ∃ v', v' = Value.slice a' N' cp' := ⟨_, rfl⟩
          rw [← hv'] at hown4 hat4
          change (V.alloc (.cells #[.int .i64 k, ptr c] 76)).grownBy w4 vo.ownBlock at hg4
          change v'.ownBlock = vo.ownBlock ∨ _ at hat4
          have k4' := (kV.alloc (.cells #[.int .i64 k, ptr c] 76)).grownLoose hg4 v' _ hown4
          have hbg : But (fun x => vo.ownBlock = some x) (V.alloc (.cells #[.int .i64 k, ptr c] 76)) w4 := ⟨hg4.os, hg4.tape, hg4.output, hg4.size, fun x hx hn => hg4.block x hx (fun e => hn e.symm)⟩
          have b4 := (kV.alloc (.cells #[.int .i64 k, ptr c] 76)).blk.but hbg kV.og
          have c2' : w4.cell? ⟨g, 2, none⟩ = some vo := b4.cell rfl
          have f2' : w4.frozen? ⟨g, 2, none⟩ = false := b4.frozen 2
          have hb5 : But (fun x => x = g ∨ x = l ∨ vo.ownBlock = some x) W (w4.setCell ⟨g, 2, none⟩ v') :=
            (((hbV.mono (T := fun x => x = g ∨ x = l ∨ vo.ownBlock = some x) (fun x _ e => .inr (.inl e))).alloc (.cells #[.int .i64 k, ptr c] 76)).trans hbg (fun x _ e => .inr (.inr e))).setCell ⟨g, 2, none⟩ v' (fun _ => .inl rfl)
          have H := Lib.hid (Sec.wrote (d := d.burnt) (t := Dk.full s.data.toList) hbW hc hcW (Dk.full_length _ (by omega)) tW kW k4' hb5 (fun x hx => by
            rcases hat4 with e | e
            · rw [e] at hx; exact .inl (k13 x hx)
            · have h1 := e x hx
              have h2 := hbW.size
              have h3 := hbV.size
              simp at h1
              exact .inr (by omega)) k3 k4 kp k5 k6 k6' k7 k8 k9 k10 k11 k12 k13 k14 (by omega) HP)
          rw [hv'] at H
          clear hv'
          clear hbW hcW tW kW kV hbV hlt k9 k13 k14 k3 k4 k5 kp HP hV hVs hown4 hg4 hat4 k4' hbg b4 hb5
          go_wp2
          go_ret
          obtain ⟨F', h1, h2⟩ := H.out
          exact ⟨rfl, F', h1, HM.out.trans h2⟩
      · have hsI : (s.size : Int) > 512 := by omega
        have HR : d.write i s.data.toList = (5, d) := by
          unfold Dk.Disk.write; rw [if_neg ho, hh, hsz, if_neg (by decide), if_pos (by omega)]
        rw [HR]
        clear HR hd
        go_enter Tryd.func48, Tryd.ntmps48
        go_wp2_with fail
        refine (down_any _ _ _ _ HD.out).mono ?_
        rintro e w1 ⟨rfl, rfl⟩
        rw [ho']
        go_wp2_with fail
        refine (has_any _ _ _ _ _ HD.out).mono ?_
        rintro e w1 ⟨rfl, rfl⟩
        rw [hh]
        go_wp2
        go_ret
        exact ⟨rfl, _, HD.out, Moved.refl _ _⟩
    · have hh' : d.has i = false := by simpa using hh
      have HR : d.write i s.data.toList = (2, d) := by unfold Dk.Disk.write; rw [if_neg ho, hh', if_pos (by decide)]
      rw [HR]
      clear HR hd
      go_enter Tryd.func48, Tryd.ntmps48
      go_wp2_with fail
      refine (down_any _ _ _ _ HD.out).mono ?_
      rintro e w1 ⟨rfl, rfl⟩
      rw [ho']
      go_wp2_with fail
      refine (has_any _ _ _ _ _ HD.out).mono ?_
      rintro e w1 ⟨rfl, rfl⟩
      rw [hh']
      go_wp2
      go_ret
      exact ⟨rfl, _, HD.out, Moved.refl _ _⟩
end Go.Proofs.YthkblabpiajbhaaDoor
