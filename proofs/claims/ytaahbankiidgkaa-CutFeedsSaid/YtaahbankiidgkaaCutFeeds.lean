/- Walk of the statement CutFeeds. -/
import Derived.Test.YtaahbankiidgkaaCutWhole
namespace Go.Proofs.Ytaahbankiidgkaa
open Go.RowKit Fx

theorem flatten_take_succ' (C : List (List UInt8)) (k : Nat) (hk : k < C.length) : ((C.take (k + 1)).flatten).length = ((C.take k).flatten).length + C[k].length := by
  rw [flatten_take_succ C k hk, List.length_append]

theorem OwnS.below' {B B' : Nat} {w w' : World} {v : Value} {l : List (List UInt8)} (h : OwnS B w v l) (hb : Below B' w w') (hB : w.heap.size ≤ B') : OwnS B w' v l := Own.below h hb hB

section
variable {α : Type} {K : Elem α} {P : Program} {E T : TypeId} {B : Nat} {w : World} {v : Value} {l : List α}
theorem wpList_app_own (ST : SliceT P T E K.size) {ops : Array Oper} {rest : List Oper} {o : Oper} {a : Act} {Q : Exit → Act → World → Prop} (hgd : o.guard = none) (s x : Operand)
    (ho : o.op = .call { callee := .builtin .append, args := #[s, x], argTypes := #[T, T] })
    (hs : a.eval s = v) (hown : Own K E B w v l) (hB : B ≤ w.heap.size)
    (vx : Value) (Bx : Nat) (ms : List α) (hx : a.eval x = vx) (hownx : Own K E Bx w vx ms) (hlen : l.length + ms.length ≤ 1000000000)
    (h : ∀ v' w', Own K E B w' v' (l ++ ms) → w.grownBy w' v.ownBlock → wpList P ops Q rest (a.put o.dst v') w') : wpList P ops Q (o :: rest) a w :=
  wpList_plain hgd fun _ hK => wp_app_own ST s x ho hs hown hB vx Bx ms hx hownx hlen fun v' w' h1 h2 => hK _ _ (h v' w' h1 h2)
end

/-- What a cutter and its chunks are when all of x was fed. -/
structure Fed (B : Nat) (w : World) (g : Nat) (v : Value) (x : List UInt8) : Prop where
  own : OwnS B w v (Ct.feed [] x).1
  cut : Cutter w g (Ct.feed [] x).2
  lt : g < B
  size : B ≤ w.heap.size

theorem Fed.zero (w : World) (g : Nat) (hc : Cutter w g []) : Fed w.heap.size w g (.slice none 0 0) [] := ⟨Own.nil _ _ _ _, hc, hc.lt, Nat.le_refl _⟩
theorem Fed.count {B : Nat} {w : World} {g : Nat} {v : Value} {x : List UInt8} (_ : Fed B w g v x) : (Ct.feed [] x).1.length ≤ x.length := feed_count x []
theorem Cutter.grown {B : Nat} {w w' : World} {g : Nat} {v : Value} {h : List UInt8} {l : List (List UInt8)} (hc : Cutter w g h) (ho : OwnS B w v l) (hg : g < B) (hgr : w.grownBy w' v.ownBlock) : Cutter w' g h :=
  hc.but (S := fun k => v.ownBlock = some k) ⟨hgr.os, hgr.tape, hgr.output, hgr.size, fun k hk hn => hgr.block k hk (fun e => hn e.symm)⟩ (fun e => by have := (ho.block g e).1; omega)
theorem Cutter.below {B : Nat} {w w' : World} {g : Nat} {h : List UInt8} (hc : Cutter w g h) (hb : Below B w w') (hg : g < B) : Cutter w' g h := by
  obtain ⟨j, x, y, a, b, c⟩ := hc
  exact ⟨j, x, y, a, b, c.below hb hg⟩
/-- A part more: Feed, and its chunks behind those that there are. -/
theorem Fed.more {B : Nat} {w w' w'' : World} {g : Nat} {v v'' : Value} {x p : List UInt8} (hf : Fed B w g v x)
    (hc : Cutter w' g (Ct.feed (Ct.feed [] x).2 p).2) (hb : But (· = g) w w')
    (ho : Own strElem 9 B w'' v'' ((Ct.feed [] x).1.map bs ++ (Ct.feed (Ct.feed [] x).2 p).1.map bs)) (hgr : w'.grownBy w'' v.ownBlock) : Fed B w'' g v'' (x ++ p) := by
  have e := Ct.feed_append [] x p
  refine ⟨?_, ?_, hf.lt, Nat.le_trans hf.size (Nat.le_trans hb.size hgr.size)⟩
  · rw [e]
    show Own _ _ _ _ _ _
    rw [List.map_append]
    exact ho
  · rw [e]
    exact hc.grown (hf.own.butOwn hb hf.lt) hf.lt hgr

set_option maxRecDepth 100000 in
set_option maxHeartbeats 4000000 in
theorem cutFeeds_any (va : Value) (la : List (List UInt8)) (w : World) (ha : Reads w va la) (hsz : ∀ i (hi : i < la.length), la[i].length ≤ 140737488355328) (hn : la.length ≤ 140737488355328) :
    Calls Try.prog 4 #[va] w fun e w' => e = .returned (.bool true) ∧ Below w.heap.size w w' := by
  obtain ⟨aa, capa, rfl, hcap, hcells⟩ := ha
  go_enter Try.func4, Try.ntmps4
  go_wp2_with fail
  refine (awake_any _).mono ?_
  rintro e w1 ⟨rfl, hb1⟩
  by_cases hs : la.length ≤ 100
  · have hs1 : ¬ ((la.length : Int) > 100) := by omega
    go_wp2_with fail
    go_loopw [4, 6, 19] (fun n _ i wr => ∃ k : Nat, k ≤ la.length ∧ i = .int .i64 k ∧ n = .int .i64 ((la.take k).flatten.length : Nat) ∧ (la.take k).flatten.length ≤ 3000 ∧ wr = w1) (fun _ _ i _ => la.length - (intOf i).toNat)
    case atStart => exact ⟨0, Nat.zero_le _, rfl, rfl, Nat.zero_le _, rfl⟩
    case round =>
      obtain ⟨k, hk, rfl, rfl, htot, rfl⟩ := hrel
      by_cases hlt : k < la.length
      · obtain ⟨ga, oa, rfl, hga, hxa⟩ := hcells k hlt
        have ca : wr.cell? ⟨ga, oa + k, none⟩ = some (.string (bs la[k])) := (hb1.cell (p := ⟨ga, oa + k, none⟩) hga).trans (hxa k hlt)
        have hszk := hsz k hlt
        have hbz := bs_size la[k]
        have hfl := flatten_take_succ' la k hlt
        have hltI : (k : Int) < la.length := by omega
        obtain ⟨X, hX⟩ : ∃ X, X = bs la[k] := ⟨_, rfl⟩
        rw [← hX] at ca hbz
        generalize hm : (la.take k).flatten.length = m at *
        generalize hm' : (la.take (k + 1)).flatten.length = m' at *
        have HM := Lib.hid hm'
        have hXI : (X.size : Int) ≤ 140737488355328 := by omega
        have hmI : (m : Int) ≤ 3000 := by omega
        clear hX hxa hcells hsz hm hm'
        by_cases h3 : m' ≤ 3000
        · have h3I : ¬ ((m : Int) + X.size > 3000) := by omega
          have hmm : (m : Int) + X.size = (m' : Nat) := by omega
          clear hbz hfl
          go_wp2
          go_roundw
          case rel => exact ⟨k + 1, by omega, by go_num, by rw [HM.out]; (try rw [hmm]), by rw [HM.out]; exact h3, trivial⟩
          case measure => simp [intOf]; omega
        · have h3I : ((m : Int) + X.size > 3000) := by omega
          go_wp2
          go_ret
          exact ⟨rfl, hb1⟩
      · have hkl : k = la.length := by omega
        subst hkl
        rw [List.take_length] at htot ⊢
        clear hlt hk hs1
        go_wp2_with fail
        refine (new_any _).mono ?_
        rintro e w2 ⟨rfl, hc2, hb2, hl2⟩
        have hbA := hb1.trans (hb2.mono hb1.size)
        obtain ⟨g, hg⟩ : ∃ g, wr.heap.size = g := ⟨_, rfl⟩
        rw [hg] at hc2 hl2 ⊢
        have hgw : w.heap.size ≤ g := by have := hb1.size; omega
        have HCELLS := Lib.hid (show ∀ (wq : World), Below w.heap.size w wq → ∀ i (hi : i < la.length), ∃ ga oa, aa = some ⟨ga, oa, none⟩ ∧ wq.cell? ⟨ga, oa + i, none⟩ = some (.string (bs la[i])) from by
          intro wq hq i hi
          obtain ⟨ga, oa, e1, e2, e3⟩ := hcells i hi
          exact ⟨ga, oa, e1, (hq.cell (p := ⟨ga, oa + i, none⟩) e2).trans (e3 i hi)⟩)
        have HTOT := Lib.hid htot
        clear hcells hsz htot hb2 hb1
        go_wp2_with fail
        go_loopw [31] (fun r wr => ∃ j : Nat, j ≤ 2 ∧ r = .int .i64 j ∧ Cutter wr g [] ∧ Below w.heap.size w wr) (fun r _ => 2 - (intOf r).toNat)
        case atStart => exact ⟨0, by decide, rfl, hc2, hbA⟩
        case round =>
          clear hc2 hbA
          obtain ⟨j, hj, rfl, hc, hb⟩ := hrel
          by_cases hj2 : j < 2
          · have hj2I : (j : Int) < 2 := by omega
            go_wp2_with fail
            have hF0 := Fed.zero _ _ hc
            have hBw := hb.size
            obtain ⟨B, hB⟩ : ∃ B, wr.heap.size = B := ⟨_, rfl⟩
            rw [hB] at hF0 hBw
            clear hc hB
            go_loopw [3, 8, 35] (fun al v i wq => ∃ k : Nat, k ≤ la.length ∧ i = .int .i64 k ∧ al = .string (bs (la.take k).flatten) ∧ Hid (Fed B wq g v (la.take k).flatten) ∧ Below w.heap.size w wq) (fun _ _ i _ => la.length - (intOf i).toNat)
            case atStart => exact ⟨0, Nat.zero_le _, rfl, rfl, Lib.hid hF0, hb⟩
            case round =>
              clear hb hF0
              obtain ⟨k, hk, rfl, rfl, hF, hb⟩ := hrel
              by_cases hlt : k < la.length
              · obtain ⟨ga, oa, rfl, ca⟩ := HCELLS.out _ hb k hlt
                have hfl := flatten_take_succ la k hlt
                have hle := flatten_take_le la (k + 1)
                have hlen := congrArg List.length hfl
                rw [List.length_append] at hlen
                have htot := HTOT.out
                have hh := Ct.feed_held (la.take k).flatten [] Ct.Held.nil
                have hltI : (k : Int) < la.length := by omega
                obtain ⟨X, hX⟩ : ∃ X, X = bs la[k] := ⟨_, rfl⟩
                have hXl : X.data.toList = la[k] := by rw [hX]; exact bs_list _
                have hXs : X.size = la[k].length := by rw [hX, bs_size]
                rw [← hX] at ca
                have hXa : (bs (la.take k).flatten) ++ X = bs (la.take (k + 1)).flatten := by rw [hX, bs_append, hfl]
                have HXA := Lib.hid hXa
                have HFL := Lib.hid hfl
                obtain ⟨A, hA⟩ : ∃ A, A = bs (la.take k).flatten := ⟨_, rfl⟩
                have hAs : A.size ≤ 3000 := by rw [hA, bs_size]; omega
                have hXs' : X.size ≤ 3000 := by omega
                rw [← hA] at HXA ⊢
                have hcount := feed_count (la.take k).flatten []
                have hcount2 := feed_count la[k] (Ct.feed [] (la.take k).flatten).2
                generalize hx : (la.take k).flatten = x at *
                generalize hp : la[k] = p at *
                have hb3000 : (Ct.feed [] x).1.length + (Ct.feed (Ct.feed [] x).2 p).1.length ≤ 1000000000 := by omega
                clear hfl hle hlen htot hX hXa hA hx hp hcount hcount2 hXs HCELLS HTOT
                go_wp2_with fail
                refine (feed_any _ _ _ _ hF.out.cut hh (by omega)).mono ?_
                rintro e w3 ⟨v3, rfl, ho3, hc3, hb3⟩
                rw [hXl] at ho3 hc3
                have hbW := hb.trans (hb3.below (B := w.heap.size) hb.size (fun k hk e => by omega))
                have HFW := hF
                go_wp2_with (at_builtin; refine Hid.out ?_)
                refine Lib.hid ?_
                refine wpList_app_own stringST rfl _ _ rfl rfl (hF.out.own.butOwn hb3 hF.out.lt) (Nat.le_trans hF.out.size hb3.size) _ _ _ rfl ho3 (by rw [List.length_map, List.length_map]; exact hb3000) ?_
                intro v4 w4 ho4 hg4
                have hF4 := Lib.hid (hF.out.more hc3 hb3 ho4 hg4)
                have hbX := hbW.grown hg4 hbW.size (fun k hk => Nat.le_trans hBw (hF.out.own.block k hk).1)
                rw [← HFL.out] at hF4
                clear ho4 hg4 hb3 hc3 ho3 hF HFW hb hbW
                go_wp2
                go_roundw
                case rel => exact ⟨k + 1, by omega, by go_num, by rw [HXA.out], hF4, hbX⟩
                case measure => simp [intOf]; omega
              · have hkl : k = la.length := by omega
                subst hkl
                rw [List.take_length] at hF ⊢
                have htot := HTOT.out
                have hcount := feed_count la.flatten []
                have HCH := Lib.hid (show Ct.chunks la.flatten = (Ct.feed [] la.flatten).1 ++ Ct.rest (Ct.feed [] la.flatten).2 from rfl)
                have hcnt := Ct.chunks_count la.flatten
                have hAd := bs_list la.flatten
                have hAs := bs_size la.flatten
                generalize bs la.flatten = A at *
                have hAs' : A.size ≤ 1000000 := by omega
                have HAD := Lib.hid hAd
                obtain ⟨ho, hc, hlt', hsz⟩ := hF.out
                generalize la.flatten = x at *
                clear hAd hAs hF HCELLS hlt hk
                go_wp2_with fail
                refine (end_any _ _ _ hc).mono ?_
                rintro e w3 ⟨rfl, hc3, hb3⟩
                have ho3 := ho.butOwn hb3 hlt'
                have hbW := hb.trans (hb3.below (B := w.heap.size) hb.size (fun k hk e => by omega))
                have hsz3 := Nat.le_trans hsz hb3.size
                clear hc hb3 ho hb hsz
                generalize Ct.feed [] x = F at *
                obtain ⟨O, H⟩ := F
                simp only at *
                have hO : O.length ≤ 3000 := by omega
                by_cases he : H = []
                · subst he
                  have hrest : Ct.rest [] = [] := rfl
                  rw [hrest, List.append_nil] at HCH
                  rw [← HCH.out] at ho3
                  have ho4 := ho3
                  have hc4 := hc3
                  have hbX := hbW
                  clear ho3 hc3 hbW HCH
                  go_wp2_with fail
                  refine (cut_any A _ hAs').mono ?_
                  rintro e w5 ⟨v5, rfl, ho5, hb5⟩
                  rw [HAD.out] at ho5
                  have hr4 := ho4.reads.below hb5
                  have hr5 := ho5.reads
                  have hc5 := hc4.below hb5 hc4.lt
                  have hbY := hbX.trans (hb5.mono hbX.size)
                  clear ho4 ho5 hb5 hc4 hbX
                  go_wp2_with fail
                  refine (same_any _ _ _ _ _ hr4 hr5 (by omega)).mono ?_
                  rintro e w6 ⟨rfl, hb6⟩
                  rw [show decide (Ct.chunks x = Ct.chunks x) = true by simp]
                  have hc6 := hc5.below hb6 hc5.lt
                  have hbZ := hbY.trans (hb6.mono hbY.size)
                  clear hr4 hr5 hb6 hc5 hbY
                  go_wp2
                  go_roundw
                  case rel => exact ⟨j + 1, by omega, by go_num, hc6, hbZ⟩
                  case measure => simp [intOf]; omega
                · have hem : H.isEmpty = false := by simpa using he
                  have hrest : Ct.rest H = [H] := by unfold Ct.rest; rw [if_neg he]
                  rw [hrest] at HCH
                  go_wp2_with (at_builtin; refine Hid.out ?_)
                  refine Lib.hid ?_
                  refine wpList_app stringST rfl _ _ rfl rfl (ho3.alloc _) (by simp; omega) w3.heap.size 0 1 1 [bs H] rfl rfl (lies_new _ _) (by rw [List.length_map]; omega) ?_
                  intro v' w4 hown4 hg4
                  have ho4 : OwnS B w4 v' (Ct.chunks x) := by
                    rw [HCH.out]
                    show Own _ _ _ _ _ _
                    rw [List.map_append]
                    exact hown4
                  have hc4 : Cutter w4 g [] := (hc3.but ((But.refl (fun _ => False) w3).alloc _) (fun h => h)).grown (ho3.alloc _) hlt' hg4
                  have hbX : Below w.heap.size w w4 := (hbW.alloc hbW.size _).grown hg4 (by have := hbW.size; simp; omega) (fun k hk => Nat.le_trans hBw (ho3.block k hk).1)
                  clear ho3 hc3 hbW HCH hown4 hg4
                  go_wp2_with fail
                  refine (cut_any A _ hAs').mono ?_
                  rintro e w5 ⟨v5, rfl, ho5, hb5⟩
                  rw [HAD.out] at ho5
                  have hr4 := ho4.reads.below hb5
                  have hr5 := ho5.reads
                  have hc5 := hc4.below hb5 hc4.lt
                  have hbY := hbX.trans (hb5.mono hbX.size)
                  clear ho4 ho5 hb5 hc4 hbX
                  go_wp2_with fail
                  refine (same_any _ _ _ _ _ hr4 hr5 (by omega)).mono ?_
                  rintro e w6 ⟨rfl, hb6⟩
                  rw [show decide (Ct.chunks x = Ct.chunks x) = true by simp]
                  have hc6 := hc5.below hb6 hc5.lt
                  have hbZ := hbY.trans (hb6.mono hbY.size)
                  clear hr4 hr5 hb6 hc5 hbY
                  go_wp2
                  go_roundw
                  case rel => exact ⟨j + 1, by omega, by go_num, hc6, hbZ⟩
                  case measure => simp [intOf]; omega
          · go_wp2
            go_ret
            exact ⟨rfl, hb⟩
  · have hs1 : (la.length : Int) > 100 := by omega
    go_wp2
    go_ret
    exact ⟨rfl, hb1⟩
end Go.Proofs.Ytaahbankiidgkaa
