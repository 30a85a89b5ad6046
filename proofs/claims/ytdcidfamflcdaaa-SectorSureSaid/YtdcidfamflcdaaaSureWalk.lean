/- Walk of the statement SectorSure. -/
import Derived.Test.YtdcidfamflcdaaaApartWalk
import Derived.Test.YtdcidfamflcdaaaSureMath
namespace Go.Proofs.Ytdcidfamflcdaaa
open Go.RowKit Lib

def sinceCells (ls : List (Nat × UInt8)) : List Value := (List.range 8).map fun j => .string (bs (Dk.toJ ls j))
theorem bs_get (l : List UInt8) (i : Nat) (h : i < (bs l).size) : (bs l)[i]'h = l[i]'(by rw [bs_size] at h; exact h) := rfl
theorem bs_last {l : List UInt8} {z : UInt8} (hz : l.getLast? = some z) (h : (bs l).size - 1 < (bs l).size) : (bs l)[(bs l).size - 1]'h = z := by
  rw [bs_get]
  rw [List.getLast?_eq_getElem?] at hz
  have := (List.getElem?_eq_some_iff.1 hz).2
  rw [← this]
  congr 1
theorem since_set (ls : List (Nat × UInt8)) (j : Nat) (y : UInt8) (hj : j < 8) : (sinceCells ls).set j (.string (bs (Dk.toJ ls j) ++ bs [y])) = sinceCells (ls ++ [(j, y)]) := by
  unfold sinceCells
  refine List.ext_getElem? fun i => ?_
  rw [List.getElem?_set, List.length_map, List.length_range]
  by_cases e : j = i
  · subst e
    rw [if_pos rfl, if_pos hj, List.getElem?_map, List.getElem?_range hj, Option.map_some, Dk.toJ_snoc, if_pos rfl, bs_append]
  · rw [if_neg e]
    by_cases hi : i < 8
    · rw [List.getElem?_map, List.getElem?_map, List.getElem?_range hi, Option.map_some, Option.map_some, Dk.toJ_snoc, if_neg e]
    · rw [List.getElem?_eq_none (by simp; omega), List.getElem?_eq_none (by simp; omega)]
theorem since_at (ls : List (Nat × UInt8)) (j : Nat) (hj : j < 8) : (sinceCells ls)[j]? = some (.string (bs (Dk.toJ ls j))) := by
  unfold sinceCells; rw [List.getElem?_map, List.getElem?_range hj]; rfl
theorem eight_index (w : World) (s0 s1 s2 s3 s4 s5 s6 s7 : ByteArray) (m : Nat) (hm : m < 8) :
    (Instr.index 40 (.agg #[.string s0, .string s1, .string s2, .string s3, .string s4, .string s5, .string s6, .string s7]) (.int .i64 m)).run Try.prog w = .ok (.string ([s0, s1, s2, s3, s4, s5, s6, s7].getD m .empty)) w := by
  rcases (show m = 0 ∨ m = 1 ∨ m = 2 ∨ m = 3 ∨ m = 4 ∨ m = 5 ∨ m = 6 ∨ m = 7 by omega) with rfl | rfl | rfl | rfl | rfl | rfl | rfl | rfl
  all_goals kernel_rfl
theorem since_index (w : World) (L : List (Nat × UInt8)) (m : Nat) (hm : m < 8) :
    (Instr.index 40 (.agg #[.string (bs (Dk.toJ L 0)), .string (bs (Dk.toJ L 1)), .string (bs (Dk.toJ L 2)), .string (bs (Dk.toJ L 3)), .string (bs (Dk.toJ L 4)), .string (bs (Dk.toJ L 5)), .string (bs (Dk.toJ L 6)), .string (bs (Dk.toJ L 7))]) (.int .i64 m)).run Try.prog w = .ok (.string (bs (Dk.toJ L m))) w := by
  rw [eight_index w _ _ _ _ _ _ _ _ m hm]
  rcases (show m = 0 ∨ m = 1 ∨ m = 2 ∨ m = 3 ∨ m = 4 ∨ m = 5 ∨ m = 6 ∨ m = 7 by omega) with rfl | rfl | rfl | rfl | rfl | rfl | rfl | rfl <;> rfl
theorem zero8 (w : World) : (zeroValue 40).run Try.prog w = .ok (.agg (sinceCells []).toArray) w := by kernel_rfl

set_option maxRecDepth 100000 in
set_option maxHeartbeats 2000000 in
theorem sectorSure_any (va vk : Value) (l : List UInt8) (fl : Int) (keep : List Bool) (w : World) (ha : RdY w va l) (hk : RdB w vk keep) :
    Calls Try.prog 4 #[va, .int .i64 fl, vk] w fun e w' => e = .returned (.bool true) ∧ Below w.heap.size w w' := by
  obtain ⟨a, cap, rfl, hc, hr⟩ := ha
  have HK := Lib.hid hk
  obtain ⟨ak, capk, rfl, hck, _⟩ := hk
  have HR := Lib.hid hr
  clear hr
  by_cases hg : l.length ≤ 30 ∧ keep.length ≤ 60
  · obtain ⟨g1, g2⟩ := hg
    have e1 : ¬ (l.length : Int) > 30 := by omega
    have e2 : ¬ (keep.length : Int) > 60 := by omega
    go_enter Try.func4, Try.ntmps4
    go_wp2_with fail
    refine (awake_any _).mono ?_
    rintro e w1 ⟨rfl, hb1⟩
    go_wp2_with fail
    refine (new_any 8 w1 (by decide) (by decide)).mono ?_
    rintro e w2 ⟨g, F, rfl, hd2, hF, hb2⟩
    obtain ⟨q, hq⟩ : ∃ q, w2.heap.size = q := ⟨_, rfl⟩
    have hlt2 := hd2.lt
    obtain ⟨W, hW⟩ : ∃ W, W = (w2.alloc (.cells #[.int .u8 0, .int .u8 0, .int .u8 0, .int .u8 0, .int .u8 0, .int .u8 0, .int .u8 0, .int .u8 0] 39)).alloc (.cells #[.string ⟨#[]⟩, .string ⟨#[]⟩, .string ⟨#[]⟩, .string ⟨#[]⟩, .string ⟨#[]⟩, .string ⟨#[]⟩, .string ⟨#[]⟩, .string ⟨#[]⟩] 40) := ⟨_, rfl⟩
    have hwq : (w2.alloc (.cells #[.int .u8 0, .int .u8 0, .int .u8 0, .int .u8 0, .int .u8 0, .int .u8 0, .int .u8 0, .int .u8 0] 39)).heap.size = q + 1 := by simp [hq]
    have B1 : Blk W q 39 ((List.replicate 8 (0 : UInt8)).map bcell) := by
      have := (Blk.new w2 #[.int .u8 0, .int .u8 0, .int .u8 0, .int .u8 0, .int .u8 0, .int .u8 0, .int .u8 0, .int .u8 0] 39).alloc (.cells #[.string ⟨#[]⟩, .string ⟨#[]⟩, .string ⟨#[]⟩, .string ⟨#[]⟩, .string ⟨#[]⟩, .string ⟨#[]⟩, .string ⟨#[]⟩, .string ⟨#[]⟩] 40)
      rw [hq, ← hW] at this
      exact this
    have B2 : Blk W (q + 1) 40 (sinceCells []) := by
      have := Blk.new (w2.alloc (.cells #[.int .u8 0, .int .u8 0, .int .u8 0, .int .u8 0, .int .u8 0, .int .u8 0, .int .u8 0, .int .u8 0] 39)) #[.string ⟨#[]⟩, .string ⟨#[]⟩, .string ⟨#[]⟩, .string ⟨#[]⟩, .string ⟨#[]⟩, .string ⟨#[]⟩, .string ⟨#[]⟩, .string ⟨#[]⟩] 40
      rw [hwq, ← hW] at this
      exact this
    have hbW : But (fun _ => False) w2 W := by rw [hW]; exact ((But.refl _ _).alloc _).alloc _
    have HD := Lib.hid (hd2.but hbW (fun _ _ h => h))
    have HF := Lib.hid (show ∀ x, F x → w.heap.size ≤ x ∧ x ≠ q ∧ x ≠ q + 1 from fun x hx => ⟨Nat.le_trans hb1.size (hF x hx), by have := hlt2 x hx; omega, by have := hlt2 x hx; omega⟩)
    have HB := Lib.hid ((hb1.trans (hb2.mono hb1.size)).trans (hbW.below (Nat.le_trans hb1.size hb2.size) (fun _ _ h => h)))
    have HQ := Lib.hid (show w.heap.size ≤ q by have := hb1.size; have := hb2.size; omega)
    have HB1 := Lib.hid B1
    have HB2 := Lib.hid B2
    clear hd2 hF hb1 hb2 e1 e2 hlt2 hbW B1 B2 hwq
    have HW := Lib.hid hW
    clear hW
    go_wp2
    rw [← HW.out]
    clear HW hq
    go_loopw [37] (fun i wr => ∃ (k : Nat) (fm : List UInt8) (ls : List (Nat × UInt8)) (d : Dk.Disk) (F' : Nat → Prop), k ≤ l.length ∧ i = .int .i64 k ∧ Hid (Blk wr q 39 (fm.map bcell)) ∧ Hid (Blk wr (q + 1) 40 (sinceCells ls)) ∧ Hid (Dk.Sure k fm ls d) ∧ Hid (Sec wr F' g d) ∧ Hid (∀ x, F' x → w.heap.size ≤ x ∧ x ≠ q ∧ x ≠ q + 1) ∧ Hid (Below w.heap.size w wr)) (fun i _ => l.length - (intOf i).toNat)
    case atStart => exact ⟨0, _, _, _, F, Nat.zero_le _, rfl, HB1, HB2, Lib.hid Dk.sure_begin, HD, HF, HB⟩
    case round =>
      obtain ⟨k, fm, ls, d, F', hk, rfl, h1, h2, hS, hd, hF, hb⟩ := hrel
      by_cases hlt : k < l.length
      · have hI : (k : Int) < l.length := by omega
        obtain ⟨ga, oa, rfl, hga, hxa⟩ := HR.out k hlt
        have ca : wr.cell? ⟨ga, oa + k, none⟩ = some (.int .u8 l[k].toNat) := (hb.out.cell (p := ⟨ga, oa + k, none⟩) hga).trans (hxa k hlt)
        clear hxa
        generalize l[k] = c at *
        have hct := c.toNat_lt
        obtain ⟨y, hy⟩ : ∃ y : UInt8, y.toNat = k + 1 := ⟨UInt8.ofNat (k + 1), by rw [UInt8.toNat_ofNat']; omega⟩
        have hyI : (y.toNat : Int) = (k : Int) + 1 := by omega
        have hob := one_back wr y
        have hs0 := hd.out.but ((But.refl (fun _ => False) wr).alloc (.cells #[.int .u8 (y.toNat : Int)] 5)) (fun _ _ h => h)
        have hb0 := (hb.out.alloc hb.out.size (.cells #[.int .u8 (y.toNat : Int)] 5))
        have h10 := h1.out.alloc (.cells #[.int .u8 (y.toNat : Int)] 5)
        have h20 := h2.out.alloc (.cells #[.int .u8 (y.toNat : Int)] 5)
        rw [hyI] at hob hs0 hb0 h10 h20
        have HY := Lib.hid hyI
        have H10 := Lib.hid h10
        have H20 := Lib.hid h20
        have HB0 := Lib.hid hb0
        clear hyI hy h10 h20 hb0
        go_wp2_with fail
        refine (write_any _ F' g d ((c.toNat : Int) % 8) (bs [y]) hs0 (by have := hS.out.few; have := congrArg List.length hS.out.loose; rw [List.length_map] at this; omega)).mono ?_
        rintro e wA ⟨rfl, F2, hdA, hmA⟩
        have hw := hS.out.write (c.toNat % 8) y (Nat.mod_lt _ (by decide))
        rw [bs_list, show (c.toNat : Int) % 8 = ((c.toNat % 8 : Nat) : Int) from by omega, hw.1]
        rw [bs_list, show (c.toNat : Int) % 8 = ((c.toNat % 8 : Nat) : Int) from by omega] at hdA
        have hA1 := H10.out.but hmA.1 (fun hf => (hF.out q hf).2.1 rfl)
        have hA2 := H20.out.but hmA.1 (fun hf => (hF.out (q + 1) hf).2.2 rfl)
        have hszA := hmA.1.size
        have hFA := Lib.hid (show ∀ x, F2 x → w.heap.size ≤ x ∧ x ≠ q ∧ x ≠ q + 1 from fun x hx => by
          rcases hmA.2 x hx with h | h
          · exact hF.out x h
          · have := H10.out.lt; have := H20.out.lt; have := HB0.out.size; exact ⟨by omega, by omega, by omega⟩)
        have hBA := Lib.hid (HB0.out.trans (hmA.1.below HB0.out.size (fun x hx hf => by have := (hF.out x hf).1; omega)))
        have HSA := Lib.hid hw.2
        have HDA := Lib.hid hdA
        clear hdA hmA hs0 hob hw ca H10 H20 HB0 hd hF hb h1 h2 hS hszA
        generalize (d.write ((c.toNat % 8 : Nat) : Int) [y]).2 = dA at *
        clear HB HD HB1 HB2
        have HA1 := Lib.hid hA1
        have HA2 := Lib.hid hA2
        obtain ⟨j, hj⟩ : ∃ j, c.toNat % 8 = j := ⟨_, rfl⟩
        have hj8 : j < 8 := by omega
        have hjI : (c.toNat : Int) % 8 = j := by omega
        rw [hj] at HSA
        have hs2 : wA.cell? ⟨q + 1, j, none⟩ = some (.string (bs (Dk.toJ ls j))) := hA2.cell (by unfold sinceCells; rw [List.getElem?_map, List.getElem?_range hj8]; rfl)
        have hf2 : wA.frozen? ⟨q + 1, j, none⟩ = false := hA2.frozen j
        clear hA1 hA2
        have hyI := HY.out
        have hobd : (convert 38 9 (.slice (some ⟨wA.heap.size, 0, none⟩) 1 1)).run Try.prog (wA.alloc (.cells #[.int .u8 y.toNat] 5)).drew = .ok (.string (bs [y])) (wA.alloc (.cells #[.int .u8 y.toNat] 5)).drew := one_back wA.drew y
        have hsd : (wA.alloc (.cells #[.int .u8 y.toNat] 5)).drew.cell? ⟨q + 1, j, none⟩ = some (.string (bs (Dk.toJ ls j))) := (((But.refl (fun _ => False) wA).alloc _).drew).cell hs2 id
        have hfd : (wA.alloc (.cells #[.int .u8 y.toNat] 5)).drew.frozen? ⟨q + 1, j, none⟩ = false := ((((But.refl (fun _ => False) wA).alloc _).drew).frozen (World.block_lt_of_cell? _ _ hs2) id).trans hf2
        rw [hyI] at hobd hsd hfd
        clear hyI
        have hj8I : (j : Int) < 8 := by omega
        have hcat : (bs (Dk.toJ ls j)).size + (bs [y]).size ≤ 9223372036854775807 := by
          have h1 := Dk.toJ_length ls j
          have h2 := HSA.out.few
          rw [List.length_append] at h2
          rw [bs_size, bs_size]; simp; omega
        go_wp2_with fail
        go_region
        obtain ⟨V, hV⟩ : ∃ V, V = ((wA.alloc (.cells #[.int .u8 ((k : Int) + 1)] 5)).setCell ⟨q + 1, j, none⟩ (.string (bs (Dk.toJ ls j) ++ bs [y]))).drew := ⟨_, rfl⟩
        rw [← hV]
        have hbV : But (· = q + 1) wA V := by rw [hV]; exact (((But.refl (· = q + 1) wA).alloc _).setCell ⟨q + 1, j, none⟩ _ (fun _ => rfl)).drew
        have HV1 := Lib.hid (HA1.out.but hbV (by omega))
        have HV2 : Hid (Blk V (q + 1) 40 (sinceCells (ls ++ [(j, y)]))) := by
          have := ((HA2.out.alloc (.cells #[.int .u8 ((k : Int) + 1)] 5)).set j (.string (bs (Dk.toJ ls j) ++ bs [y]))).drew
          rw [since_set _ _ _ hj8, ← hV] at this
          exact Lib.hid this
        have HDV := Lib.hid (HDA.out.but hbV (fun x hx e => (hFA.out x hx).2.2 e))
        have HBV := Lib.hid (hBA.out.trans (hbV.below hBA.out.size (fun x hx e => by have h1 := HA1.out.lt; have h2 := HA2.out.lt; have h3 := HQ.out; omega)))
        clear hV hbV hobd hsd hfd hcat hs2 hf2 HA1 HA2 HDA hBA
        by_cases hfl : (k : Int) = fl
        · go_wp2_with fail
          refine (flush_any V F2 g dA HDV.out).mono ?_
          rintro e wB ⟨rfl, hdB, hmB⟩
          rw [HSA.out.flush.1]
          have HSB := Lib.hid HSA.out.flush.2
          have HFEW := Lib.hid HSA.out.few
          have HDB := Lib.hid hdB
          have HB1 := Lib.hid (HV1.out.but hmB.1 (fun hf => (hFA.out q hf).2.1 rfl))
          have HB2 := Lib.hid (HV2.out.but hmB.1 (fun hf => (hFA.out (q + 1) hf).2.2 rfl))
          have HBB := Lib.hid (HBV.out.trans (hmB.1.below HBV.out.size (fun x hx hf => by have := (hFA.out x hf).1; omega)))
          clear hdB hmB HV1 HV2 HBV HDV HSA
          generalize dA.flush.2 = dB at *
          have HLL := Lib.hid (show (ls ++ [(j, y)]).length ≤ 31 by have := HFEW.out; rw [List.length_append] at this ⊢; simpa using (by omega : ls.length ≤ 30))
          generalize ls ++ [(j, y)] = L at *
          have s0 : wB.cell? ⟨q + 1, 0, none⟩ = some (.string (bs (Dk.toJ L 0))) := HB2.out.cell (since_at L 0 (by decide))
          have s1 : wB.cell? ⟨q + 1, 1, none⟩ = some (.string (bs (Dk.toJ L 1))) := HB2.out.cell (since_at L 1 (by decide))
          have s2 : wB.cell? ⟨q + 1, 2, none⟩ = some (.string (bs (Dk.toJ L 2))) := HB2.out.cell (since_at L 2 (by decide))
          have s3 : wB.cell? ⟨q + 1, 3, none⟩ = some (.string (bs (Dk.toJ L 3))) := HB2.out.cell (since_at L 3 (by decide))
          have s4 : wB.cell? ⟨q + 1, 4, none⟩ = some (.string (bs (Dk.toJ L 4))) := HB2.out.cell (since_at L 4 (by decide))
          have s5 : wB.cell? ⟨q + 1, 5, none⟩ = some (.string (bs (Dk.toJ L 5))) := HB2.out.cell (since_at L 5 (by decide))
          have s6 : wB.cell? ⟨q + 1, 6, none⟩ = some (.string (bs (Dk.toJ L 6))) := HB2.out.cell (since_at L 6 (by decide))
          have s7 : wB.cell? ⟨q + 1, 7, none⟩ = some (.string (bs (Dk.toJ L 7))) := HB2.out.cell (since_at L 7 (by decide))
          go_wp2
          clear s0 s1 s2 s3 s4 s5 s6 s7
          go_loopw [71] (fun i wq => ∃ m : Nat, m ≤ 8 ∧ i = .int .i64 m ∧ Hid (Blk wq q 39 ((Dk.upTo (Dk.puts fm L) fm m).map bcell)) ∧ Hid (But (· = q) wB wq)) (fun i _ => 8 - (intOf i).toNat)
          case atStart => exact ⟨0, by decide, rfl, by rw [Dk.upTo_zero]; exact HB1, Lib.hid (But.refl _ _)⟩
          case round =>
            obtain ⟨m, hm, rfl, hq1, hbq⟩ := hrel
            by_cases hm8 : m < 8
            · have hmI : (m : Int) < 8 := by omega
              have hix := since_index wr L m hm8
              have hml : (Dk.puts fm L).length = fm.length := Dk.puts_length _ _
              have hmf : m < fm.length := by have := HSB.out.eight; omega
              have hpt := Dk.puts_toJ m L fm hmf
              by_cases he : Dk.toJ L m = []
              · have HP := Lib.hid (Dk.upTo_same (Dk.puts fm L) fm m hml hmf (by rw [hpt, he]; rfl))
                rw [he, show bs [] = ⟨#[]⟩ from rfl] at hix
                clear hpt
                go_wp2
                go_roundw
                case rel =>
                  refine ⟨m + 1, by omega, by go_num, ?_, hbq⟩
                  rw [HP.out]; exact hq1
                case measure => simp [intOf]; omega
              · have hq := hq1.out.cell (show ((Dk.upTo (Dk.puts fm L) fm m).map bcell)[m]? = some _ by rw [List.getElem?_map, List.getElem?_eq_getElem (by rw [Dk.upTo_length _ _ _ hml (by omega)]; exact hmf)]; rfl)
                unfold bcell at hq
                have hfq := hq1.out.frozen m
                obtain ⟨z, hz⟩ : ∃ z, (Dk.toJ L m).getLast? = some z := ⟨_, List.getLast?_eq_some_getLast he⟩
                have HP : Hid (Dk.upTo (Dk.puts fm L) fm (m + 1) = (Dk.upTo (Dk.puts fm L) fm m).set m z) := by
                  have e1 : (Dk.puts fm L)[m]'(by omega) = z := by
                    rw [hz, Option.some_or] at hpt
                    exact (List.getElem?_eq_some_iff.1 hpt).2
                  rw [Dk.upTo_succ _ _ _ hml hmf, e1]
                  exact Lib.hid rfl
                have hpos : 0 < (Dk.toJ L m).length := List.length_pos_iff.2 he
                have hSe : (bs (Dk.toJ L m)).toList.isEmpty = false := by rw [bs_toList]; simpa using he
                have hSs : (bs (Dk.toJ L m)).size = (Dk.toJ L m).length := bs_size _
                have hSz : ∀ h : (bs (Dk.toJ L m)).size - 1 < (bs (Dk.toJ L m)).size, (bs (Dk.toJ L m))[(bs (Dk.toJ L m)).size - 1]'h = z := bs_last hz
                have hll := Dk.toJ_length L m
                have hlf := HLL.out
                generalize bs (Dk.toJ L m) = S at *
                have hSw : wrap64 ((S.size : Int) - 1) = ((S.size - 1 : Nat) : Int) := by
                  unfold wrap64; omega
                have hSl : ((S.size - 1 : Nat) : Int) < S.size := by omega
                have HSZ := Lib.hid hSz
                obtain ⟨n, hn⟩ : ∃ n, S.size - 1 = n := ⟨_, rfl⟩
                rw [hn] at hSw hSl
                have HN := Lib.hid hn
                clear hn hSz hz hpt hpos hSs
                go_wp2
                go_roundw
                case rel =>
                  refine ⟨m + 1, by omega, by go_num, ?_, Lib.hid (hbq.out.setCell _ _ (fun _ => rfl))⟩
                  rw [HP.out]
                  refine Lib.hid ?_
                  have hb' := hq1.out.set m (bcell z)
                  rw [← List.map_set] at hb'
                  have e2 := HSZ.out
                  rw [HN.out] at e2
                  rw [e2 (by have := HN.out; omega)]
                  exact hb'
                case measure => simp [intOf]; omega
            · have hme : m = 8 := by omega
              subst hme
              have H81 : Hid (Blk wr q 39 ((Dk.puts fm L).map bcell)) := by
                have hf8 := HSB.out.eight
                have e := Dk.upTo_all (Dk.puts fm L) fm (Dk.puts_length _ _)
                rw [Dk.puts_length] at hf8
                rw [hf8] at e
                have := hq1.out
                rw [e] at this
                exact Lib.hid this
              have h82 := HB2.out.but hbq.out (by omega)
              have hbb := HBB.out.trans (hbq.out.below HBB.out.size (fun x hx e => by have := HQ.out; omega))
              have hd8 := HDB.out.but hbq.out (fun x hx e => (hFA.out x hx).2.1 e)
              have H82 := Lib.hid h82
              have HB8 := Lib.hid hbb
              have HD8 := Lib.hid hd8
              clear hq1 h82 hbb hd8 HB1 HB2 HDB hbq
              obtain ⟨Z, hZ⟩ : ∃ Z, Z = (sinceCells []).toArray := ⟨_, rfl⟩
              have hz := fun w => zero8 w
              rw [← hZ] at hz
              have hzs : Z.size = 8 := by rw [hZ]; rfl
              have hzn : ¬ Z = #[] := by intro e; rw [e] at hzs; cases hzs
              have HZ := Lib.hid hZ
              clear hZ
              have hst : (storeCells ⟨q + 1, 0, none⟩ Z.toList).run Try.prog wr = .ok () (wr.setRow (q + 1) Z) := by
                have := run_storeCells_from (P := Try.prog) (q + 1) _ Z.toList 0 _ _ H82.out (by simp [hzs, sinceCells]) (fun v hv => by
                  rw [HZ.out] at hv
                  have e : (sinceCells []) = List.replicate 8 (.string ⟨#[]⟩) := rfl
                  rw [e] at hv
                  have hv' : v = .string ⟨#[]⟩ := by simpa using hv
                  rw [hv']; rfl)
                rw [this]
                simp
              have HR1 := Lib.hid (show Blk (wr.setRow (q + 1) Z) (q + 1) 40 (sinceCells []) by
                have := setRow_heap wr (q + 1) (sinceCells L).toArray Z 40 (0, 0) H82.out
                rw [HZ.out] at this ⊢
                exact this)
              have hbr : But (· = q + 1) wr (wr.setRow (q + 1) Z) := (But.refl _ wr).setRow _ _ (fun _ => rfl)
              have HR0 := Lib.hid (H81.out.but hbr (by omega))
              have HRD := Lib.hid (HD8.out.but hbr (fun x hx e => (hFA.out x hx).2.2 e))
              have HRB := Lib.hid (HB8.out.trans (hbr.below HB8.out.size (fun x hx e => by have := HQ.out; omega)))
              clear H81 H82 HD8 HB8 hbr
              have HFL := Lib.hid hfl
              go_wp2
              go_roundw
              case rel => exact ⟨k + 1, _, _, _, _, by omega, by rw [← hfl]; go_num, HR0, HR1, HSB, HRD, hFA, HRB⟩
              case measure => simp [intOf]; omega
        · go_wp2
          go_roundw
          case rel => exact ⟨k + 1, fm, _, _, _, by omega, by go_num, HV1, HV2, HSA, HDV, hFA, HBV⟩
          case measure => simp [intOf]; omega
      · have hke : k = l.length := by omega
        subst hke
        have hkr := HK.out.below hb.out
        go_wp2_with fail
        refine (fall_any wr F' g d _ keep hd.out hkr (fun h0 x hx hf => by have := HK.out.lt h0 x hx; have := (hF.out x hf).1; omega)).mono ?_
        rintro e wC ⟨rfl, hdC, hmC⟩
        have HC1 := Lib.hid (h1.out.but hmC.1 (fun hf => (hF.out q hf).2.1 rfl))
        have HC2 := Lib.hid (h2.out.but hmC.1 (fun hf => (hF.out (q + 1) hf).2.2 rfl))
        have HCB := Lib.hid (hb.out.trans (hmC.1.below hb.out.size (fun x hx hf => by have := (hF.out x hf).1; omega)))
        have HCD := Lib.hid hdC
        have hS8 := hS.out.eight
        have hlsl := hS.out.few
        clear hdC hmC hkr h1 h2 hb hd HB HD HB1 HB2
        go_wp2
        go_loopw [90] (fun i wq => ∃ r : Nat, r ≤ 8 ∧ i = .int .i64 r ∧ ∃ m, wq = wC.drewN m) (fun i _ => 8 - (intOf i).toNat)
        case atStart => exact ⟨0, by decide, rfl, 0, rfl⟩
        case round =>
          obtain ⟨r, hr, rfl, m, hwq⟩ := hrel
          have HWQ := Lib.hid hwq
          by_cases hr8 : r < 8
          · have hrI : (r : Int) < 8 := by omega
            obtain ⟨z, hz1, hz2⟩ := hS.out.fall keep r hr8
            have HDQ := HCD.out.drewN m
            rw [← hwq] at HDQ
            have cq := (HC1.out.drewN m).cell (show (fm.map bcell)[r]? = some _ by rw [List.getElem?_map, List.getElem?_eq_getElem (by omega)]; rfl)
            have cs := (HC2.out.drewN m).cell (since_at ls r hr8)
            unfold bcell at cq
            rw [← hwq] at cq cs
            clear hwq
            have HZ2 := Lib.hid hz2
            clear hz2
            go_wp2_with fail
            refine (read_any _ F' g _ r HDQ).mono ?_
            rintro e wE ⟨rfl, rfl⟩
            rw [hz1]
            clear hz1 HDQ
            have hS5 : (bs (Dk.one8 z)).size = 512 := by rw [bs_size]; exact Dk.one8_length z
            have hS0 : ∀ h : 0 < (bs (Dk.one8 z)).size, (bs (Dk.one8 z))[0]'h = z := fun h => rfl
            generalize bs (Dk.one8 z) = S at *
            have hSI : (0 : Int) < S.size := by omega
            have hSn : 0 < S.size := by omega
            have e0 := hS0 hSn
            clear hS0
            go_wp2_with fail
            go_quiet (fail)
            go_wp2
            have hSL : (bs (Dk.toJ ls r)).size = (Dk.toJ ls r).length := bs_size _
            have hfr : fm[r]? = some (fm[r]'(by omega)) := List.getElem?_eq_getElem (by omega)
            have HB0 := Lib.hid (show ((z.toNat : Int) == ((fm[r]'(by omega)).toNat : Int)) = true ↔ fm[r]? = some z ∨ z ∈ (Dk.toJ ls r).take 0 by
              rw [List.take_zero, hfr]
              simp only [beq_iff_eq, Option.some.injEq, List.not_mem_nil, or_false]
              constructor
              · intro h; exact (UInt8.toNat_inj.1 (by omega)).symm
              · intro h; rw [h])
            clear hfr
            go_loopw [19, 20] (fun ok i wz => ∃ (i' : Nat) (b : Bool) (m' : Nat), i' ≤ (Dk.toJ ls r).length ∧ i = .int .i64 i' ∧ ok = .bool b ∧ Hid (b = true ↔ fm[r]? = some z ∨ z ∈ (Dk.toJ ls r).take i') ∧ Hid (wz = wE.drewN m')) (fun _ i _ => (Dk.toJ ls r).length - (intOf i).toNat)
            case atStart => exact ⟨0, _, nq, Nat.zero_le _, rfl, rfl, HB0, Lib.hid rfl⟩
            case round =>
              obtain ⟨i', b, m', hi', rfl, rfl, hbb, hwz⟩ := hrel
              have cs' : wr.cell? ⟨q + 1, r, none⟩ = some (.string (bs (Dk.toJ ls r))) := by rw [hwz.out]; exact cs
              have hls := Dk.toJ_length ls r
              by_cases hil : i' < (Dk.toJ ls r).length
              · have hilI : (i' : Int) < (bs (Dk.toJ ls r)).size := by omega
                have hnat : i' < (bs (Dk.toJ ls r)).size := by omega
                have e1 : (bs (Dk.toJ ls r))[i']'hnat = (Dk.toJ ls r)[i'] := bs_get (Dk.toJ ls r) i' hnat
                have HT := Lib.hid (List.take_succ_eq_append_getElem hil)
                generalize (Dk.toJ ls r)[i'] = t at *
                cases b
                · generalize bs (Dk.toJ ls r) = S2 at *
                  go_wp2_with fail
                  go_quiet (fail)
                  go_wp2
                  go_roundw
                  case rel =>
                    refine ⟨i' + 1, _, m' + nq, by omega, by go_num, rfl, Lib.hid ?_, Lib.hid (by rw [hwz.out, World.drewN_drewN])⟩
                    rw [HT.out, List.mem_append, List.mem_singleton]
                    have := hbb.out
                    simp only [beq_iff_eq]
                    constructor
                    · intro h; exact .inr (.inr (UInt8.toNat_inj.1 (by omega)))
                    · rintro (h | h | h)
                      · exact absurd (this.2 (.inl h)) (by decide)
                      · exact absurd (this.2 (.inr h)) (by decide)
                      · rw [h]
                  case measure => simp [intOf]; omega
                · generalize bs (Dk.toJ ls r) = S2 at *
                  go_wp2_with fail
                  go_quiet (fail)
                  go_wp2
                  go_roundw
                  case rel =>
                    refine ⟨i' + 1, true, m' + nq, by omega, by go_num, rfl, Lib.hid ?_, Lib.hid (by rw [hwz.out, World.drewN_drewN])⟩
                    rw [HT.out, List.mem_append]
                    refine ⟨fun _ => ?_, fun _ => rfl⟩
                    rcases hbb.out.1 (by first | exact rfl | trivial) with h | h
                    · exact .inl h
                    · exact .inr (.inl h)
                  case measure => simp [intOf]; omega
              · have hbt : b = true := by
                  refine hbb.out.2 ?_
                  rw [List.take_of_length_le (by omega)]
                  exact HZ2.out
                subst hbt
                have hilI : ¬ (i' : Int) < (bs (Dk.toJ ls r)).size := by omega
                go_wp2
                go_roundw
                case rel => exact ⟨r + 1, by omega, by go_num, m + m', by rw [hwz.out, HWQ.out, World.drewN_drewN]⟩
                case measure => simp [intOf]; omega
          · have hre : r = 8 := by omega
            subst hre
            have HDQ := HCD.out.drewN m
            rw [← hwq] at HDQ
            have HCQ := Lib.hid (HCB.out.trans (show Below w.heap.size wC wr by rw [hwq]; exact (below_drawn wC m).mono HCB.out.size))
            clear hwq HWQ
            go_wp2_with fail
            refine (loose_any _ F' g _ HDQ (Nat.zero_le _)).mono ?_
            rintro e wE ⟨v, rfl, hv, hbE⟩
            obtain ⟨av, cv, rfl, _⟩ := Own.slice hv
            rw [show ((d.fall keep).loose.map fun x => (x.1 : Int)) = [] from rfl, List.length_nil]
            have HDE := HDQ.below hbE HDQ.lt
            have HBE := Lib.hid (HCQ.out.trans (hbE.mono HCQ.out.size))
            clear hv hbE HDQ
            go_wp2_with fail
            refine (down_any _ F' g _ HDE).mono ?_
            rintro e wF ⟨rfl, rfl⟩
            rw [show (d.fall keep).off = false from rfl]
            go_wp2
            go_ret
            exact ⟨rfl, HBE.out⟩
  · go_enter Try.func4, Try.ntmps4
    go_wp2_with fail
    refine (awake_any _).mono ?_
    rintro e w1 ⟨rfl, hb1⟩
    go_wp2
    all_goals first
      | exfalso; omega
      | (go_ret; exact ⟨rfl, hb1⟩)
end Go.Proofs.Ytdcidfamflcdaaa
