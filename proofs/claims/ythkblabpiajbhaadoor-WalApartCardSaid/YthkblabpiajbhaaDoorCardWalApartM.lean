/- WalApart: for every list of puts, every list of what is kept and either bool the function of the statement returns true: homes that no group is of hold what they held, and of several puts of one home the last one counts. Conditions: none beside those of the form; no walk reads the two tables that are laid. -/
import Derived.Test.YthkblabpiajbhaaDoorG6
import Derived.Test.YthkblabpiajbhaaDoorG3
namespace Go.Proofs.YthkblabpiajbhaaDoor
open Go.RowKit Lib

/-- Lists of puts that are just built: one list of one put. -/
theorem RdL.single (w : World) (a : Int) (t : ByteArray) (ha : -9223372036854775808 ≤ a ∧ a ≤ 9223372036854775807) :
    RdL ((w.alloc (.cells #[.int .i64 a, .string t] 34)).alloc (.cells #[.slice (some ⟨w.heap.size, 0, none⟩) 1 1] 35)) (.slice (some ⟨w.heap.size + 1, 0, none⟩) 1 1) [(.slice (some ⟨w.heap.size, 0, none⟩) 1 1, [(a, t)])] := by
  have p1 := RdP.one w a t ha
  have q1 := p1.below ((Below.refl _ _).alloc (Nat.le_refl _) (.cells #[.slice (some ⟨w.heap.size, 0, none⟩) 1 1] 35))
  have hbl := Blk.new (w.alloc (.cells #[.int .i64 a, .string t] 34)) #[.slice (some ⟨w.heap.size, 0, none⟩) 1 1] 35
  rw [World.size_alloc] at hbl
  refine ⟨_, 1, rfl, Nat.le_refl _, by simp, fun i hi => ⟨?_, w.heap.size + 1, 0, rfl, hbl.lt, fun j hj => ?_⟩⟩
  · obtain rfl : i = 0 := by simpa using hi
    exact q1
  · obtain rfl : j = 0 := by simpa using hj
    exact hbl.cell rfl
/-- make([]bool, 100). -/
theorem make_bools (w : World) : (Instr.makeSlice 23 (.int .i64 100) (.int .i64 100)).run Tryd.prog w = .ok (.slice (some ⟨w.heap.size, 0, none⟩) 100 100) (w.alloc (.cells (List.replicate 100 (.bool false)).toArray 4)) := by
  obtain ⟨i, hi, hz, hs, hb⟩ := info_of (P := Tryd.prog) (E := 4) (size := 1) (bytes := 1) (z := .bool false) (by kernel_rfl)
  have := run_make (P := Tryd.prog) w 23 4 i (.bool false) Tryd.underlying23 hi hz .i64 .i64 (100 : Nat) (100 : Nat) (by omega) (by omega) (by rw [hb]; omega) (by omega)
  rw [hs, Nat.mul_one, show (Value.bool false).cells = #[.bool false] from rfl, made_one] at this
  exact this
/-- Such a row while it is filled. -/
def filling (c : Bool) (j : Nat) : List Bool := List.replicate j c ++ List.replicate (100 - j) false
theorem filling_len (c : Bool) (j : Nat) (hj : j ≤ 100) : (filling c j).length = 100 := by unfold filling; rw [List.length_append, List.length_replicate, List.length_replicate]; omega
theorem filling_set (c : Bool) (j : Nat) (hj : j < 100) : ((filling c j).map Value.bool).set j (.bool c) = (filling c (j + 1)).map Value.bool := by
  unfold filling
  rw [List.map_append, List.map_append, List.map_replicate, List.map_replicate, List.map_replicate, List.map_replicate]
  rw [List.set_append_right _ _ (by rw [List.length_replicate]; exact Nat.le_refl _), List.length_replicate, Nat.sub_self]
  rw [show 100 - j = (100 - (j + 1)) + 1 by omega, List.replicate_succ, List.set_cons_zero, List.replicate_succ', List.append_assoc]
  rfl
theorem filling_all (c : Bool) : filling c 100 = List.replicate 100 c := by simp [filling]
theorem RdB.of_blk {w : World} {r : Nat} {ks : List Bool} (h : Blk w r 4 (ks.map Value.bool)) : RdB w (.slice (some ⟨r, 0, none⟩) ks.length ks.length) ks := by
  refine ⟨_, _, rfl, Nat.le_refl _, fun i hi => ⟨r, 0, rfl, h.lt, fun j hj => ?_⟩⟩
  rw [Nat.zero_add]
  exact h.cell (by rw [List.getElem?_map, List.getElem?_eq_getElem hj]; rfl)
set_option maxRecDepth 100000 in
set_option maxHeartbeats 4000000 in
theorem walAgain_any (w : World) (vl vf : Value) (l : List UInt8) (falls : List Bool) (hl : RdY w vl l) (hf : RdB w vf falls) :
    Calls Tryd.prog 3 #[vl, vf] w fun e w' => e = .returned (.bool true) ∧ Below w.heap.size w w' := by
  have HY := Lib.hid hl
  have HB := Lib.hid hf
  obtain ⟨al, cl, rfl, hcl, hrl⟩ := hl
  obtain ⟨af, cf, rfl, hcf, hrf⟩ := hf
  have HRL := Lib.hid hrl
  have HRF := Lib.hid hrf
  clear hcl hrl hcf hrf
  go_enter Tryd.func3, Tryd.ntmps3
  go_wp2_with fail
  refine (awake_any w).mono ?_
  rintro e w1 ⟨rfl, hb1⟩
  have H1 := Lib.hid hb1
  clear hb1
  by_cases h20 : l.length ≤ 20
  · by_cases h8 : falls.length ≤ 8
    · have j1 : (l.length : Int) ≤ 20 := by omega
      have j2 : (falls.length : Int) ≤ 8 := by omega
      go_wp2_with fail
      refine (new_any 29 w1 (by decide) (by decide)).mono ?_
      rintro e w2 ⟨g, FD, rfl, hd2, hF2, hb2⟩
      have H2 := Lib.hid (And.intro hd2 (And.intro hF2 hb2))
      clear hd2 hF2 hb2
      go_wp2_with fail
      refine (kept_begun (A := fun x => x < w.heap.size) H2.out.1 (fun x hx hn => by have := H2.out.2.1 x hx; have := H1.out.size; omega) (fun x hx => by have := H1.out.size; have := H2.out.2.2.size; omega) (by decide) (by decide) (by decide) (by decide)).mono ?_
      rintro e w3 ⟨b, rfl, hk3, ho3⟩
      have H3 := Lib.hid (show Kept (fun x => x < w.heap.size) 8 w3 b g 1 (Wl.noughts 20) ∧ Below w.heap.size w w3 by
        have h12 : Below w.heap.size w w2 := H1.out.trans (H2.out.2.2.mono H1.out.size)
        exact ⟨hk3, h12.trans (Off.below ho3 (fun x hx => hx) h12.size)⟩)
      clear hk3 ho3
      go_wp2_with fail
      go_loopw [42] (fun i wr => ∃ k : Nat, k ≤ l.length ∧ i = .int .i64 k ∧ Hid (∃ H, Kept (fun x => x < w.heap.size) 8 wr b g (1 + k) H ∧ H.length = 20 ∧ Below w.heap.size w wr)) (fun i _ => l.length - (Go.RowKit.intOf i).toNat)
      case atStart => exact ⟨0, Nat.zero_le _, rfl, Lib.hid ⟨_, H3.out.1, by simp [Wl.noughts], H3.out.2⟩⟩
      case round =>
        obtain ⟨k, hk, rfl, hS⟩ := hrel
        by_cases hlt : k < l.length
        · have hI : (k : Int) < l.length := by omega
          obtain ⟨gl, ol, rfl, hgl, hxl⟩ := HRL.out k hlt
          obtain ⟨H, hk1, hk2, hk3⟩ := hS.out
          have hcl : wr.cell? ⟨gl, ol + k, none⟩ = some (.int .u8 l[k].toNat) := (hk3.cell (p := ⟨gl, ol + k, none⟩) hgl).trans (hxl k hlt)
          have hn : l[k].toNat < 256 := UInt8.toNat_lt _
          generalize l[k].toNat = n at *
          have HK := Lib.hid (And.intro hlt (And.intro hk1 (And.intro hk2 hk3)))
          have n1 : (n : Int) ≤ 255 := by omega
          have n0 : (0 : Int) ≤ n := by omega
          have k1 : (k : Int) ≤ 20 := by omega
          have k0 : (0 : Int) ≤ k := by omega
          obtain ⟨q, hq⟩ : ∃ q, q = n % 20 := ⟨_, rfl⟩
          have hrem : (n : Int).tmod 20 = (q : Int) := by rw [hq, Int.tmod_eq_emod_of_nonneg (by omega)]; omega
          have hq20 : q < 20 := by omega
          obtain ⟨t, ht⟩ : ∃ t, t = bs [UInt8.ofNat (k + 1)] := ⟨_, rfl⟩
          have htl : t.data.toList.length ≤ 512 := by rw [ht, bs_list]; simp
          have hcv := row_back (wr.alloc (.cells #[.int .u8 ((k : Int) + 1)] 5)) wr.heap.size 0 1 [UInt8.ofNat (k + 1)] (by
            intro x hx
            obtain rfl : x = 0 := by simpa using hx
            have hb := (Blk.new wr #[.int .u8 ((k : Int) + 1)] 5).cell (j := 0) rfl
            have e : ((UInt8.ofNat (k + 1)).toNat : Int) = (k : Int) + 1 := by rw [UInt8.toNat_ofNat']; omega
            show _ = some (Value.int .u8 ((UInt8.ofNat (k + 1)).toNat : Int))
            rw [e]; exact hb)
          rw [show ([UInt8.ofNat (k + 1)] : List UInt8).length = 1 from rfl] at hcv
          rw [← ht] at hcv
          have hsl := RdL.single (wr.alloc (.cells #[.int .u8 ((k : Int) + 1)] 5)) (q : Int) t (by omega)
          rw [World.size_alloc] at hsl
          have HSL := Lib.hid hsl
          have HT := Lib.hid (And.intro hq20 htl)
          clear hsl hk1 hk2 hk3 hxl hk hlt hS hq ht hq20 htl
          go_wp2_with fail
          obtain ⟨V, hV⟩ : ∃ V, V = ((wr.alloc (.cells #[.int .u8 ((k : Int) + 1)] 5)).alloc (.cells #[.int .i64 q, .string t] 34)).alloc (.cells #[.slice (some ⟨wr.heap.size + 1, 0, none⟩) 1 1] 35) := ⟨_, rfl⟩
          rw [← hV] at HSL ⊢
          have hbV : Below wr.heap.size wr V := by rw [hV]; exact (((Below.refl _ _).alloc (Nat.le_refl _) _).alloc (by simp) _).alloc (by simp; omega) _
          have HbV := Lib.hid hbV
          clear hbV hV hcv hcl
          refine (kept_commit (HK.out.2.1.aside HbV.out) (by have := HK.out.1; omega) _ _ HSL.out).mono ?_
          rintro e w5 ⟨rfl, hk5, ho5⟩
          have hps : ptsL [(Value.slice (some ⟨wr.heap.size + 1, 0, none⟩) 1 1, [((q : Int), t)])] = [((q : Int), t.data.toList)] := rfl
          rw [hps, comm_one (by decide) q (by rw [HK.out.2.2.1]; exact HT.out.1) _ HT.out.2] at hk5 ⊢
          have H5 := Lib.hid (show Kept (fun x => x < w.heap.size) 8 w5 b g (1 + (k + 1)) (Dk.puts H [(q, Dk.full t.data.toList)]) ∧ (Dk.puts H [(q, Dk.full t.data.toList)]).length = 20 ∧ Below w.heap.size w w5 by
            have hwV : Below w.heap.size w V := HK.out.2.2.2.trans (HbV.out.mono HK.out.2.2.2.size)
            exact ⟨hk5, by rw [Dk.puts_length]; exact HK.out.2.2.1, hwV.trans (Off.below ho5 (fun x hx => hx) hwV.size)⟩)
          clear hk5 ho5 hps
          simp only
          go_wp2
          go_roundw
          case rel => exact ⟨k + 1, HK.out.1, by go_num, Lib.hid ⟨_, H5.out⟩⟩
          case measure => have := HK.out.1; simp [Go.RowKit.intOf]; omega
        · obtain rfl : l.length = k := by omega
          obtain ⟨H, hk1, hk2, hk3⟩ := hS.out
          obtain ⟨W, hW⟩ : ∃ W, W = wr := ⟨_, rfl⟩
          have HK := Lib.hid (show Kept (fun x => x < w.heap.size) 8 W b g (1 + l.length) H ∧ H.length = 20 ∧ Below w.heap.size w W by rw [hW]; exact ⟨hk1, hk2, hk3⟩)
          rw [← hW]
          clear hW hk1 hk2 hk3 hS hk hlt
          go_wp2_with fail
          go_loopw [11, 62] (fun u i wr => ∃ k : Nat, k ≤ 20 ∧ i = .int .i64 k ∧ Hid (OwnS W.heap.size wr u (H.take k)) ∧ Hid (Below W.heap.size W wr)) (fun _ i _ => 20 - (Go.RowKit.intOf i).toNat)
          case atStart => exact ⟨0, Nat.zero_le _, rfl, Lib.hid (Own.nil _ _ _ _), Lib.hid (Below.refl _ _)⟩
          case round =>
            obtain ⟨k, hk, rfl, hO, hB⟩ := hrel
            by_cases hlt : k < 20
            · have hI : (k : Int) < 20 := by omega
              have k0 : (0 : Int) ≤ k := by omega
              have hkH : k < H.length := by rw [HK.out.2.1]; exact hlt
              have HHm := Lib.hid (homeOf_at hkH)
              have HX := Lib.hid (show H.take (k + 1) = H.take k ++ [H[k]] from List.take_succ_eq_append_getElem hkH)
              generalize H[k] = x at *
              have HLt := Lib.hid hlt
              clear hlt hkH hk
              go_wp2_with fail
              refine (kept_read (HK.out.1.aside hB.out) (k : Int)).mono ?_
              rintro e w5 ⟨rfl, hb5⟩
              rw [HHm.out]
              simp only
              have HB5 := Lib.hid (show Below W.heap.size W w5 ∧ OwnS W.heap.size w5 u11 (H.take k) from ⟨hB.out.trans (hb5.mono hB.out.size), hO.out.but (But.of_below hb5 (fun _ => False)) (fun _ _ h => h)⟩)
              clear hb5
              go_wp2_with (at_builtin; refine wpList_app stringST rfl _ _ rfl rfl (HB5.out.2.alloc _) (by have := HB5.out.1.size; simp; omega) w5.heap.size 0 1 1 [bs x] rfl rfl (lies_new _ _) (by rw [List.length_map, List.length_take]; have := HLt.out; omega) ?_; intro u6 w6 ho6 hg6; have H6 := Lib.hid (And.intro ho6 hg6); clear ho6 hg6)
              go_roundw
              case rel =>
                obtain ⟨ho6, hg6⟩ := H6.out
                refine ⟨k + 1, HLt.out, by go_num, Lib.hid ?_, Lib.hid ?_⟩
                · rw [HX.out]
                  unfold OwnS
                  rw [List.map_append]
                  exact ho6
                · exact (HB5.out.1.alloc HB5.out.1.size _).grown hg6 (by have := HB5.out.1.size; simp; omega) (fun j e => (Own.block HB5.out.2 j e).1)
              case measure => have := HLt.out; simp [Go.RowKit.intOf]; omega
            · obtain rfl : k = 20 := by omega
              rw [List.take_of_length_le (by rw [HK.out.2.1]; exact Nat.le_refl _)] at hO
              obtain ⟨q, cq, rfl, hq1, hq2, _⟩ := Own.form hO.out (by rw [List.length_map, HK.out.2.1]; decide)
              rw [List.length_map] at hO ⊢
              have HQ := Lib.hid (show Kept (fun x => x < w.heap.size ∨ x = q) 8 wr b g (1 + l.length) H ∧ Below w.heap.size w wr ∧ OwnS W.heap.size wr (.slice (some ⟨q, 0, none⟩) H.length cq) H from ⟨HK.out.1.more hB.out q hq1 hq2, HK.out.2.2.trans (hB.out.mono HK.out.2.2.size), hO.out⟩)
              have hH20 := HK.out.2.1
              have HH := Lib.hid hH20
              obtain ⟨ZB, hZB⟩ : ∃ ZB, ZB = (List.replicate 100 (Value.bool false)).toArray := ⟨_, rfl⟩
              have hmk := make_bools
              rw [← hZB] at hmk
              have HZB := Lib.hid hZB
              clear hZB
              clear hq1 hq2 hO hB hk hlt
              rw [hH20]
              go_wp2_with fail
              go_loopw [7, 80] (fun u i wx => ∃ (k b' : Nat), k ≤ falls.length ∧ u = ptr b' ∧ i = .int .i64 k ∧ Hid (Kept (fun x => x < w.heap.size ∨ x = q) 8 wx b' g (1 + l.length) H ∧ Below w.heap.size w wx ∧ OwnS W.heap.size wx (.slice (some ⟨q, 0, none⟩) H.length cq) H)) (fun _ i _ => falls.length - (Go.RowKit.intOf i).toNat)
              case atStart => exact ⟨0, b, Nat.zero_le _, rfl, rfl, HQ⟩
              case round =>
                obtain ⟨k, b', hk, rfl, rfl, hS⟩ := hrel
                obtain ⟨X, rfl⟩ : ∃ X, X = wr := ⟨_, rfl⟩
                by_cases hlt : k < falls.length
                · have hI : (k : Int) < falls.length := by omega
                  obtain ⟨gf, of, rfl, hgf, hxf⟩ := HRF.out k hlt
                  have hcf : X.cell? ⟨gf, of + k, none⟩ = some (.bool falls[k]) := (hS.out.2.1.cell (p := ⟨gf, of + k, none⟩) hgf).trans (hxf k hlt)
                  generalize falls[k] = c at *
                  have HLt := Lib.hid hlt
                  clear hxf hlt hk
                  go_wp2_with fail
                  obtain ⟨r, hr⟩ : ∃ r, X.heap.size = r := ⟨_, rfl⟩
                  obtain ⟨V, hV⟩ : ∃ V, V = X.alloc (.cells ZB 4) := ⟨_, rfl⟩
                  rw [← hV, hr]
                  have HV := Lib.hid (show Blk V r 4 ((filling c 0).map Value.bool) ∧ Below X.heap.size X V ∧ X.heap.size = r ∧ r < V.heap.size by
                    refine ⟨?_, by rw [hV]; exact (Below.refl _ _).alloc (Nat.le_refl _) _, hr, by rw [hV, ← hr]; simp⟩
                    have hb := Blk.new X ZB 4
                    rw [hr, ← hV, HZB.out] at hb
                    have e : (filling c 0).map Value.bool = List.replicate 100 (Value.bool false) := by unfold filling; rw [List.replicate_zero, List.nil_append, List.map_replicate]
                    rw [e]; exact hb)
                  clear hV hr hcf
                  go_loopw [87] (fun i wy => ∃ j : Nat, j ≤ 100 ∧ i = .int .i64 j ∧ Hid (Blk wy r 4 ((filling c j).map Value.bool) ∧ But (fun x => x = r) V wy)) (fun i _ => 100 - (Go.RowKit.intOf i).toNat)
                  case atStart => exact ⟨0, Nat.zero_le _, rfl, Lib.hid ⟨HV.out.1, But.refl _ _⟩⟩
                  case round =>
                    obtain ⟨j, hj, rfl, hF⟩ := hrel
                    by_cases hjl : j < 100
                    · have hJ : (j : Int) < 100 := by omega
                      have hJ0 : (0 : Int) ≤ j := by omega
                      have hl100 := filling_len c j hj
                      have hcj : wr.cell? ⟨r, j, none⟩ = some (((filling c j).map Value.bool)[j]'(by rw [List.length_map, hl100]; exact hjl)) := hF.out.1.cell (List.getElem?_eq_getElem _)
                      rw [List.getElem_map] at hcj
                      generalize (filling c j)[j] = old at hcj
                      have hfj := hF.out.1.frozen j
                      have HJ := Lib.hid hjl
                      have HFs := Lib.hid (show Blk (wr.setCell ⟨r, j, none⟩ (.bool c)) r 4 ((filling c (j + 1)).map Value.bool) ∧ But (fun x => x = r) V (wr.setCell ⟨r, j, none⟩ (.bool c)) by
                        refine ⟨?_, hF.out.2.setCell ⟨r, j, none⟩ _ (fun _ => rfl)⟩
                        rw [← filling_set c j hjl]
                        exact hF.out.1.set j _)
                      clear hl100 hj hjl
                      go_wp2
                      go_roundw
                      case rel => exact ⟨j + 1, HJ.out, by go_num, HFs⟩
                      case measure => have := HJ.out; simp [Go.RowKit.intOf]; omega
                    · obtain rfl : j = 100 := by omega
                      rw [filling_all] at hF
                      have hrow : RdB wr (.slice (some ⟨r, 0, none⟩) 100 100) (List.replicate 100 c) := by
                        have := RdB.of_blk hF.out.1
                        rw [List.length_replicate] at this
                        exact this
                      have HR := Lib.hid (show RdB wr (.slice (some ⟨r, 0, none⟩) 100 100) (List.replicate 100 c) ∧ Kept (fun x => (x < w.heap.size ∨ x = q) ∨ x = r) 8 wr b' g (1 + l.length) H ∧ Below w.heap.size w wr ∧ OwnS W.heap.size wr (.slice (some ⟨q, 0, none⟩) H.length cq) H by
                        have hbl : Below X.heap.size X wr := Below.but HV.out.2.1 hF.out.2 HV.out.2.1.size (fun x hx e => by have := HV.out.2.2.1; omega)
                        refine ⟨hrow, hS.out.1.more hbl r (by have := HV.out.2.2.1; omega) (Nat.lt_of_lt_of_le HV.out.2.2.2 hF.out.2.size), hS.out.2.1.trans (hbl.mono hS.out.2.1.size), hS.out.2.2.but (But.of_below hbl (fun _ => False)) (fun _ _ h => h)⟩)
                      clear hrow hF hj hjl
                      go_wp2_with fail
                      refine (kept_check HR.out.2.1).mono ?_
                      rintro e w7 ⟨rfl, hk7, ho7⟩
                      have H7 := Lib.hid (show RdB w7 (.slice (some ⟨r, 0, none⟩) 100 100) (List.replicate 100 c) ∧ Kept (fun x => (x < w.heap.size ∨ x = q) ∨ x = r) 8 w7 b' g (1 + l.length) H ∧ Below w.heap.size w w7 ∧ OwnS W.heap.size w7 (.slice (some ⟨q, 0, none⟩) H.length cq) H from
                        ⟨HR.out.1.but ho7 (fun x hx hn => hn (.inr (by simpa [Value.ownBlock] using hx.symm))), hk7, HR.out.2.2.1.trans (Off.below ho7 (fun x hx => .inl (.inl hx)) HR.out.2.2.1.size), HR.out.2.2.2.but ho7 (fun x hx hn => hn (.inl (.inr (by simpa [Value.ownBlock] using hx.symm))))⟩)
                      clear hk7 ho7
                      go_wp2_with fail
                      refine (kept_fall H7.out.2.1 _ _ H7.out.1 (fun x hx => .inr (by simpa [Value.ownBlock] using hx.symm))).mono ?_
                      rintro e w8 ⟨rfl, hf8, ho8⟩
                      have H8 := Lib.hid (show Fallen (fun x => (x < w.heap.size ∨ x = q) ∨ x = r) 8 w8 g (1 + l.length) H ∧ Below w.heap.size w w8 ∧ OwnS W.heap.size w8 (.slice (some ⟨q, 0, none⟩) H.length cq) H from
                        ⟨hf8, H7.out.2.2.1.trans (Off.below ho8 (fun x hx => .inl (.inl hx)) H7.out.2.2.1.size), H7.out.2.2.2.but ho8 (fun x hx hn => hn (.inl (.inr (by simpa [Value.ownBlock] using hx.symm))))⟩)
                      clear hf8 ho8
                      go_wp2_with fail
                      refine (fallen_open (ring := 8) H8.out.1).mono ?_
                      rintro e w9 ⟨b9, rfl, hk9, ho9⟩
                      have H9 := Lib.hid (show Kept (fun x => x < w.heap.size ∨ x = q) 8 w9 b9 g (1 + l.length) H ∧ Below w.heap.size w w9 ∧ OwnS W.heap.size w9 (.slice (some ⟨q, 0, none⟩) H.length cq) H from
                        ⟨hk9.fewer (fun x hx => .inl hx), H8.out.2.1.trans (Off.below ho9 (fun x hx => .inl (.inl hx)) H8.out.2.1.size), H8.out.2.2.but ho9 (fun x hx hn => hn (.inl (.inr (by simpa [Value.ownBlock] using hx.symm))))⟩)
                      clear hk9 ho9
                      go_wp2_with fail
                      have hrd := OwnS.reads H9.out.2.2
                      rw [hH20] at hrd
                      refine (kept_holds H9.out.1 _ hrd (by omega)).mono ?_
                      rintro e w10 ⟨rfl, hb10⟩
                      rw [decide_eq_true (rfl : H = H)]
                      have H10 := Lib.hid (show Kept (fun x => x < w.heap.size ∨ x = q) 8 w10 b9 g (1 + l.length) H ∧ Below w.heap.size w w10 ∧ OwnS W.heap.size w10 (.slice (some ⟨q, 0, none⟩) H.length cq) H from
                        ⟨H9.out.1.aside hb10, H9.out.2.1.trans (hb10.mono H9.out.2.1.size), H9.out.2.2.but (But.of_below hb10 (fun _ => False)) (fun _ _ h => h)⟩)
                      clear hb10 hrd
                      have hk8 : (k : Int) ≤ 8 := by omega
                      go_wp2
                      go_roundw
                      case rel =>
                        iterate 43 apply Exists.intro
                        refine ⟨⟨k + 1, b9, HLt.out, ?_, ?_, H10⟩, rfl⟩
                        · rfl
                        · go_num
                      case measure => have := HLt.out; simp [Go.RowKit.intOf]; omega
                · obtain rfl : falls.length = k := by omega
                  go_wp2
                  go_ret
                  exact ⟨rfl, hS.out.2.1⟩
    · have j2 : (falls.length : Int) > 8 := by omega
      have j1 : (l.length : Int) ≤ 20 := by omega
      go_wp2
      go_ret
      exact ⟨rfl, H1.out⟩
  · have j1 : (l.length : Int) > 20 := by omega
    go_wp2
    go_ret
    exact ⟨rfl, H1.out⟩
end Go.Proofs.YthkblabpiajbhaaDoor

namespace Go.Proofs.YthkblabpiajbhaaDoor
namespace Wl
open Dk (puts full)

def raw (g : Grp) (ps : List (Int × Text)) : Grp := ps.foldl (fun g p => ins p.1.toNat p.2 g) g
theorem raw_append (g : Grp) (a b : List (Int × Text)) : raw g (a ++ b) = raw (raw g a) b := by simp [raw]
theorem raw_one (g : Grp) (p : Int × Text) : raw g [p] = ins p.1.toNat p.2 g := rfl
theorem raw_rising : ∀ (ps : List (Int × Text)) {g : Grp}, Rising g → Rising (raw g ps)
  | [], _, h => h
  | _ :: ps, _, h => raw_rising ps (ins_rising _ _ h)
theorem ins_map (f : Text → Text) (k : Nat) (t : Text) : ∀ m : Grp, ins k (f t) (m.map fun x => (x.1, f x.2)) = (ins k t m).map fun x => (x.1, f x.2)
  | [] => rfl
  | x :: m => by
    rw [List.map_cons]
    unfold ins
    by_cases h : k < x.1
    · rw [if_pos h, if_pos h]; rfl
    · rw [if_neg h, if_neg h]
      by_cases e : k = x.1
      · rw [if_pos e, if_pos e]; rfl
      · rw [if_neg e, if_neg e, ins_map f k t m]; rfl
theorem look_map (f : Text → Text) (k : Nat) : ∀ m : Grp, look k (m.map fun x => (x.1, f x.2)) = (look k m).map f
  | [] => rfl
  | x :: m => by
    rw [List.map_cons]
    unfold look
    by_cases h : x.1 = k
    · rw [if_pos h, if_pos h]; rfl
    · rw [if_neg h, if_neg h, look_map f k m]
theorem grp_raw : ∀ (ps : List (Int × Text)) (g : Grp), grp (g.map fun x => (x.1, full x.2)) ps = (raw g ps).map fun x => (x.1, full x.2)
  | [], _ => rfl
  | p :: ps, g => by
    show grp (ins p.1.toNat (full p.2) _) ps = (raw (ins p.1.toNat p.2 g) ps).map _
    rw [ins_map full, grp_raw ps]
theorem along_raw (H : List Text) (ps : List (Int × Text)) {j : Nat} (hj : j < H.length) : (along H ps)[j]? = ((look j (raw [] ps)).map full).or H[j]? := by
  have h1 := puts_grp ps H rising_nil
  rw [Dk.puts_nil] at h1
  have h2 := grp_raw ps []
  rw [List.map_nil] at h2
  rw [← h1, puts_look (grp_rising ps rising_nil), if_pos hj, h2, look_map]
/-- What the last loop asks of a text with noughts behind it. -/
theorem full_take (t : Text) : (full t).take t.length = t := by unfold full; rw [List.take_left]
theorem full_next (t : Text) (h : t.length < 512) : (full t)[t.length]? = some 0 := by
  unfold full
  rw [List.getElem?_append_right (Nat.le_refl _), Nat.sub_self, List.getElem?_replicate, if_pos (by omega)]
/-- Up to 100 bytes: a put that the law takes. -/
def Small (ps : List (Int × Text)) : Prop := ∀ p ∈ ps, 0 ≤ p.1 ∧ p.1 ≤ 19 ∧ p.2.length ≤ 100
theorem Small.fit {ps : List (Int × Text)} (h : Small ps) : Fit 20 ps := fun p hp => by have := h p hp; omega
theorem small_raw {ps : List (Int × Text)} (h : Small ps) {k : Nat} {t : Text} (hl : look k (raw [] ps) = some t) : t.length ≤ 100 := by
  have key : ∀ (ps : List (Int × Text)) (g : Grp), Small ps → (∀ x ∈ g, x.2.length ≤ 100) → ∀ x ∈ raw g ps, x.2.length ≤ 100 := by
    intro ps
    induction ps with
    | nil => intro g _ hg; exact hg
    | cons p ps ih =>
      intro g hs hg
      refine ih (ins p.1.toNat p.2 g) (fun q hq => hs q (List.mem_cons_of_mem _ hq)) fun x hx => ?_
      rcases ins_mem hx with rfl | hx
      · exact (hs p List.mem_cons_self).2.2
      · exact hg x hx
  exact key ps [] h (fun x hx => by cases hx) _ (look_mem hl)
theorem small_comm {H : List Text} {ps : List (Int × Text)} (hH : H.length = 20) (h : Small ps) (hl : ps.length ≤ 10) : comm 16 H ps = (0, along H ps) := by
  rw [comm_fit (by rw [hH]; exact h.fit), if_neg]
  have h1 := grp_len_le ps rising_nil
  have h2 : (grp [] ps).length ≤ 10 := by simp only [List.length_nil] at h1; omega
  have h3 := sizeOf_mono h2
  have h4 : sizeOf 10 = 12 := by decide
  omega
end Wl
end Go.Proofs.YthkblabpiajbhaaDoor

namespace Go.Proofs.YthkblabpiajbhaaDoor
open Go.RowKit Go.Maps Lib

/-! ### Maps of texts. -/
def stext (l : List UInt8) : Value := .string (bs l)
def readS : Value → Option (DataW Unit × List MemPlace)
  | .string s => some (.lit (.string s.data.toList), [])
  | _ => none
theorem readS_inv {v : Value} {y : DataW Unit × List MemPlace} (h : readS v = some y) : ∃ l, v = stext l ∧ True ∧ y = (.lit (.string l), []) := by
  unfold readS at h
  split at h
  · rename_i s
    injection h with h
    exact ⟨s.data.toList, rfl, trivial, h.symm⟩
  · cases h
def stextE : ME := ⟨stext, readS, fun _ => True, fun _ _ => rfl, fun _ _ h => readS_inv h⟩
abbrev TMap (w : World) (b : Nat) (m : Wl.Grp) : Prop := IMap Tryd.prog 3 stextE w b m
theorem underSMap : Tryd.prog.underlying 43 = some (.map 3 9) := Tryd.underlying43
theorem zero_str (w : World) : (zeroValue 9).run Tryd.prog w = .ok (stextE.enc []) w := by kernel_rfl
theorem TMap.look_some {w : World} {b : Nat} {m : Wl.Grp} (h : TMap w b m) {k : Nat} (hk : k ≤ 1000000) {t : List UInt8} (hl : Wl.look k m = some t) : (Instr.lookup 43 (.map (some b)) (.int .i64 k) true).run Tryd.prog w = .ok (.tuple #[.string (bs t), .bool true]) w :=
  (IMap.look_some (M := stextE) h underInt underSMap (zero_str w) trivial hk hl).1
theorem TMap.look_none {w : World} {b : Nat} {m : Wl.Grp} (h : TMap w b m) {k : Nat} (hk : k ≤ 1000000) (hl : Wl.look k m = none) : (Instr.lookup 43 (.map (some b)) (.int .i64 k) true).run Tryd.prog w = .ok (.tuple #[.string (bs []), .bool false]) w :=
  IMap.look_none (M := stextE) h underInt underSMap (zero_str w) trivial hk hl
theorem Kept.turned {A S : Nat → Prop} {ring b g N : Nat} {H : List Wl.Text} {w w' : World} (h : Kept A ring w b g N H) (hb : But S w w') (hS : ∀ x, S x → A x) : Kept A ring w' b g N H := by
  obtain ⟨F, s, hl, hv, hf, ha, hlt⟩ := h
  exact ⟨F, s, hl.but hb (fun k hk hn => ha k hk (hS k hn)), hv, hf, ha, fun x hx => Nat.lt_of_lt_of_le (hlt x hx) hb.size⟩
/-- One list that is handed on. -/
theorem RdL.of (w : World) (v : Value) (l : List PutD) (h : RdP w v l) :
    RdL (w.alloc (.cells #[v] 35)) (.slice (some ⟨w.heap.size, 0, none⟩) 1 1) [(v, l)] := by
  have q1 := h.below ((Below.refl _ _).alloc (Nat.le_refl _) (.cells #[v] 35))
  have hbl := Blk.new w #[v] 35
  refine ⟨_, 1, rfl, Nat.le_refl _, by simp, fun i hi => ⟨?_, w.heap.size, 0, rfl, hbl.lt, fun j hj => ?_⟩⟩
  · obtain rfl : i = 0 := by simpa using hi
    exact q1
  · obtain rfl : j = 0 := by simpa using hj
    exact hbl.cell rfl
/-- The homes behind the first loop, up to k. -/
def Begun (k : Nat) (H : List Wl.Text) : Prop := H.length = 20 ∧ ∀ i, i < k → H[i]? = some (Dk.full [UInt8.ofNat (i + 1)])
theorem Begun.next {k : Nat} {H : List Wl.Text} (h : Begun k H) (hk : k < 20) : Begun (k + 1) (Dk.puts H [(k, Dk.full [UInt8.ofNat (k + 1)])]) := by
  obtain ⟨h1, h2⟩ := h
  refine ⟨by rw [Dk.puts_length]; exact h1, fun i hi => ?_⟩
  rw [Dk.puts_one]
  by_cases e : i = k
  · subst e; rw [List.getElem?_set_self (by omega)]
  · rw [List.getElem?_set_ne (Ne.symm e)]; exact h2 i (by omega)
theorem raw_len {l : List PutD} (k : Nat) (h : l.length ≤ 10) : (Wl.raw [] (pts (l.take k))).length ≤ 1000000 := by
  have key : ∀ (ps : List (Int × Wl.Text)) (g : Wl.Grp), Wl.Rising g → (Wl.raw g ps).length ≤ g.length + ps.length := by
    intro ps
    induction ps with
    | nil => intro g _; exact Nat.le_refl _
    | cons p ps ih =>
      intro g hr
      have h1 := ih (Wl.ins p.1.toNat p.2 g) (Wl.ins_rising _ _ hr)
      have h2 := Wl.ins_length p.1.toNat p.2 hr
      show (Wl.raw (Wl.ins _ _ g) ps).length ≤ g.length + (ps.length + 1)
      split at h2 <;> omega
  have h1 := key (pts (l.take k)) [] Wl.rising_nil
  have h2 : (pts (l.take k)).length ≤ 10 := by unfold pts; rw [List.length_map, List.length_take]; omega
  simp only [List.length_nil] at h1
  omega
theorem kept_fall2 {A : Nat → Prop} {ring b g N : Nat} {H : List Wl.Text} {w : World} (h : Kept A ring w b g N H) (vk : Value) (keep : List Bool) (hk : RdB w vk keep) (hv : 0 < keep.length → ∀ q, vk.ownBlock = some q → A q) :
    Calls Tryd.prog 11 #[ptr g, vk] w fun e w' => e = .returned (.tuple #[]) ∧ Fallen A ring w' g N H ∧ Off A w w' := by
  obtain ⟨F, s, hl, hlv, hf, hA, hlt⟩ := h
  obtain ⟨FD, hs, hfd⟩ := hl.sec
  refine (fall_any w FD g s.d vk keep hs hk (fun h0 q hq hn => hA q (hfd q hn) (hv h0 q hq))).mono ?_
  rintro e w' ⟨rfl, hs', hM⟩
  obtain ⟨a, n, gs, K, hg, rfl, hN⟩ := hlv.safe keep
  exact ⟨rfl, ⟨FD, _, hs', rfl, rfl, by show (-1 : Int) < 0; decide, ⟨a, n, gs, hg, hN⟩, fun x hx => hA x (hfd x hx), fun x hx => Nat.lt_of_lt_of_le (hlt x hx) hM.1.size⟩, hM.1.mono (fun x _ hx => hA x (hfd x hx))⟩
theorem RdB.low {w : World} {v : Value} {l : List Bool} (h : RdB w v l) (h0 : 0 < l.length) : ∀ q, v.ownBlock = some q → q < w.heap.size := by
  obtain ⟨a, cap, rfl, _, hi⟩ := h
  obtain ⟨g, o, rfl, e2, _⟩ := hi 0 h0
  intro q hq
  simp [Value.ownBlock] at hq
  omega
theorem TMap.off {A : Nat → Prop} {w w' : World} {q : Nat} {m : Wl.Grp} (h : TMap w q m) (ho : Off A w w') (hq : A q) : TMap w' q m := h.but ho (fun hn => hn hq)
/-- What the last loop finds of home i. -/
theorem apart_at {H : List Wl.Text} {ps : List (Int × Wl.Text)} (hH : Begun 20 H) (hs : Wl.Small ps) {i : Nat} (hi : i < 20) :
    (∃ t, Wl.look i (Wl.raw [] ps) = some t ∧ t.length ≤ 100 ∧ homeOf (Wl.along H ps) i = (Dk.full t, 0)) ∨ (Wl.look i (Wl.raw [] ps) = none ∧ homeOf (Wl.along H ps) i = (Dk.full [UInt8.ofNat (i + 1)], 0)) := by
  have h1 := Wl.along_raw H ps (j := i) (by rw [hH.1]; exact hi)
  have h2 : i < (Wl.along H ps).length := by rw [Wl.along_length, hH.1]; exact hi
  have h3 := homeOf_at h2
  rw [List.getElem?_eq_getElem h2, hH.2 i hi] at h1
  cases hl : Wl.look i (Wl.raw [] ps) with
  | some t =>
    rw [hl] at h1
    injection h1 with h1
    exact .inl ⟨t, rfl, Wl.small_raw hs hl, by rw [h3, h1]⟩
  | none =>
    rw [hl] at h1
    injection h1 with h1
    exact .inr ⟨rfl, by rw [h3, h1]⟩
/-- A text with noughts behind it, as the law asks. -/
theorem full_asked (t : Wl.Text) (h : t.length ≤ 100) : (bs (Dk.full t)).size = 512 ∧ (bs (Dk.full t)).extract 0 (bs t).size = bs t ∧ (bs t).size ≤ 100 ∧ ∀ h : (bs t).size < (bs (Dk.full t)).size, (bs (Dk.full t))[(bs t).size]'h = 0 := by
  refine ⟨by rw [bs_size, Dk.full_length t (by omega)], by rw [ext_take, bs_size, bs_list, Wl.full_take], by rw [bs_size]; exact h, ?_⟩
  intro h
  have h1 := Wl.full_next t (by omega)
  show (Dk.full t).toArray[(bs t).size] = 0
  simp only [bs_size] at h ⊢
  rw [List.getElem_toArray]
  rw [List.getElem?_eq_getElem h] at h1
  injection h1
theorem ptsL_one (v : Value) (l : List PutD) : ptsL [(v, l)] = pts l := by unfold ptsL; simp
set_option maxRecDepth 100000 in
set_option maxHeartbeats 4000000 in
theorem walApart_any (w : World) (vl vk : Value) (c : Bool) (l : List PutD) (keep : List Bool) (hl : RdP w vl l) (hf : RdB w vk keep) :
    Calls Tryd.prog 4 #[vl, vk, .bool c] w fun e w' => e = .returned (.bool true) ∧ Below w.heap.size w w' := by
  have HP := Lib.hid hl
  have HB := Lib.hid hf
  obtain ⟨al, cl, rfl, hcl, _, hrl⟩ := hl
  obtain ⟨af, cf, rfl, hcf, _⟩ := hf
  have HRL := Lib.hid hrl
  clear hcl hrl hcf
  have hmm := @run_makeMap Tryd.prog
  go_enter Tryd.func4, Tryd.ntmps4
  go_wp2_with fail
  refine (awake_any w).mono ?_
  rintro e w1 ⟨rfl, hb1⟩
  have H1 := Lib.hid hb1
  clear hb1
  by_cases h10 : l.length ≤ 10
  · by_cases h100 : keep.length ≤ 100
    · have j1 : (l.length : Int) ≤ 10 := by omega
      have j2 : (keep.length : Int) ≤ 100 := by omega
      have HLE := Lib.hid h10
      go_wp2_with fail
      refine (new_any 37 w1 (by decide) (by decide)).mono ?_
      rintro e w2 ⟨g, FD, rfl, hd2, hF2, hb2⟩
      have H2 := Lib.hid (And.intro hd2 (And.intro hF2 hb2))
      clear hd2 hF2 hb2 j2
      go_wp2_with fail
      refine (kept_begun (A := fun x => x < w.heap.size) H2.out.1 (fun x hx hn => by have := H2.out.2.1 x hx; have := H1.out.size; omega) (fun x hx => by have := H1.out.size; have := H2.out.2.2.size; omega) (by decide) (by decide) (by decide) (by decide)).mono ?_
      rintro e w3 ⟨b, rfl, hk3, ho3⟩
      have H3 := Lib.hid (show Kept (fun x => x < w.heap.size) 16 w3 b g 1 (Wl.noughts 20) ∧ Below w.heap.size w w3 by
        have h12 : Below w.heap.size w w2 := H1.out.trans (H2.out.2.2.mono H1.out.size)
        exact ⟨hk3, h12.trans (Off.below ho3 (fun x hx => hx) h12.size)⟩)
      clear hk3 ho3
      go_wp2_with fail
      go_loopw [41] (fun i wr => ∃ k : Nat, k ≤ 20 ∧ i = .int .i64 k ∧ Hid (∃ H, Kept (fun x => x < w.heap.size) 16 wr b g (1 + k) H ∧ Begun k H ∧ Below w.heap.size w wr)) (fun i _ => 20 - (Go.RowKit.intOf i).toNat)
      case atStart => exact ⟨0, Nat.zero_le _, rfl, Lib.hid ⟨_, H3.out.1, ⟨by simp [Wl.noughts], fun i hi => by omega⟩, H3.out.2⟩⟩
      case round =>
        obtain ⟨k, hk, rfl, hS⟩ := hrel
        by_cases hlt : k < 20
        · have hI : (k : Int) < 20 := by omega
          have k0 : (0 : Int) ≤ k := by omega
          obtain ⟨H, hk1, hk2, hk3⟩ := hS.out
          have HK := Lib.hid (And.intro hlt (And.intro hk1 (And.intro hk2 hk3)))
          obtain ⟨t, ht⟩ : ∃ t, t = bs [UInt8.ofNat (k + 1)] := ⟨_, rfl⟩
          have htl : t.data.toList = [UInt8.ofNat (k + 1)] := by rw [ht, bs_list]
          have hcv := row_back (wr.alloc (.cells #[.int .u8 ((k : Int) + 1)] 5)) wr.heap.size 0 1 [UInt8.ofNat (k + 1)] (by
            intro x hx
            obtain rfl : x = 0 := by simpa using hx
            have hb := (Blk.new wr #[.int .u8 ((k : Int) + 1)] 5).cell (j := 0) rfl
            have e : ((UInt8.ofNat (k + 1)).toNat : Int) = (k : Int) + 1 := by rw [UInt8.toNat_ofNat']; omega
            show _ = some (Value.int .u8 ((UInt8.ofNat (k + 1)).toNat : Int))
            rw [e]; exact hb)
          rw [show ([UInt8.ofNat (k + 1)] : List UInt8).length = 1 from rfl] at hcv
          rw [← ht] at hcv
          have hsl := RdL.single (wr.alloc (.cells #[.int .u8 ((k : Int) + 1)] 5)) (k : Int) t (by omega)
          rw [World.size_alloc] at hsl
          have HSL := Lib.hid hsl
          have HT := Lib.hid htl
          clear hsl hk1 hk2 hk3 hk hlt hS ht htl
          go_wp2_with fail
          obtain ⟨V, hV⟩ : ∃ V, V = ((wr.alloc (.cells #[.int .u8 ((k : Int) + 1)] 5)).alloc (.cells #[.int .i64 k, .string t] 34)).alloc (.cells #[.slice (some ⟨wr.heap.size + 1, 0, none⟩) 1 1] 35) := ⟨_, rfl⟩
          rw [← hV] at HSL ⊢
          have hbV : Below wr.heap.size wr V := by rw [hV]; exact (((Below.refl _ _).alloc (Nat.le_refl _) _).alloc (by simp) _).alloc (by simp; omega) _
          have HbV := Lib.hid hbV
          clear hbV hV hcv
          refine (kept_commit (HK.out.2.1.aside HbV.out) (by have := HK.out.1; omega) _ _ HSL.out).mono ?_
          rintro e w5 ⟨rfl, hk5, ho5⟩
          have hps : ptsL [(Value.slice (some ⟨wr.heap.size + 1, 0, none⟩) 1 1, [((k : Int), t)])] = [((k : Int), t.data.toList)] := rfl
          rw [hps, HT.out, comm_one (by decide) k (by rw [HK.out.2.2.1.1]; exact HK.out.1) _ (by simp)] at hk5 ⊢
          have H5 := Lib.hid (show Kept (fun x => x < w.heap.size) 16 w5 b g (1 + (k + 1)) (Dk.puts H [(k, Dk.full [UInt8.ofNat (k + 1)])]) ∧ Begun (k + 1) (Dk.puts H [(k, Dk.full [UInt8.ofNat (k + 1)])]) ∧ Below w.heap.size w w5 by
            have hwV : Below w.heap.size w V := HK.out.2.2.2.trans (HbV.out.mono HK.out.2.2.2.size)
            exact ⟨hk5, HK.out.2.2.1.next HK.out.1, hwV.trans (Off.below ho5 (fun x hx => hx) hwV.size)⟩)
          clear hk5 ho5 hps
          simp only
          go_wp2
          go_roundw
          case rel => exact ⟨k + 1, HK.out.1, by go_num, Lib.hid ⟨_, H5.out⟩⟩
          case measure => have := HK.out.1; simp [Go.RowKit.intOf]; omega
        · have hk20 : k = 20 := by omega
          have HK20 := Lib.hid hk20
          have hI : ¬ (k : Int) < 20 := by omega
          obtain ⟨H, hk1, hk2, hk3⟩ := hS.out
          rw [hk20] at hk1 hk2
          clear hk20
          obtain ⟨q, hq⟩ : ∃ q, wr.heap.size = q := ⟨_, rfl⟩
          go_wp2
          obtain ⟨V, hV⟩ : ∃ V, V = wr.alloc (.map #[] 0) := ⟨_, rfl⟩
          rw [← hV]
          have HV := Lib.hid (show Kept (fun x => x < w.heap.size ∨ x = q) 16 V b g 21 H ∧ Begun 20 H ∧ Below w.heap.size w V ∧ TMap V q [] ∧ w.heap.size ≤ q by
            have hbV : Below wr.heap.size wr V := by rw [hV]; exact (Below.refl _ _).alloc (Nat.le_refl _) _
            have hs := hk3.size
            refine ⟨hk1.more hbV q (by omega) (by rw [hV, World.size_alloc]; omega), hk2, hk3.trans (hbV.mono hk3.size), ?_, by omega⟩
            rw [hV, ← hq]; exact IMap.made _ _ _ _)
          clear hV hq hmm hk1 hk2 hk3 hS hk hlt
          go_loopw [60] (fun i wr => ∃ k : Nat, k ≤ l.length ∧ i = .int .i64 k ∧ Hid (Kept (fun x => x < w.heap.size ∨ x = q) 16 wr b g 21 H ∧ TMap wr q (Wl.raw [] (pts (l.take k))) ∧ Wl.Small (pts (l.take k)) ∧ Below w.heap.size w wr)) (fun i _ => l.length - (Go.RowKit.intOf i).toNat)
          case atStart => exact ⟨0, Nat.zero_le _, rfl, Lib.hid ⟨HV.out.1, HV.out.2.2.2.1, (show Wl.Small (pts (l.take 0)) from fun p hp => by simp [pts] at hp), HV.out.2.2.1⟩⟩
          case round =>
            obtain ⟨k, hk, rfl, hS⟩ := hrel
            by_cases hlt : k < l.length
            · have hI : (k : Int) < l.length := by omega
              obtain ⟨⟨hi1, hi2⟩, gp, op, rfl, hgp, hxp⟩ := HRL.out k hlt
              obtain ⟨cp0, cp1⟩ := hxp k hlt
              have d0 : wr.cell? ⟨gp, op + k * 2, none⟩ = some (.int .i64 l[k].1) := (hS.out.2.2.2.cell (p := ⟨gp, op + k * 2, none⟩) hgp).trans cp0
              have d1 : wr.cell? ⟨gp, op + k * 2 + 1, none⟩ = some (.string l[k].2) := (hS.out.2.2.2.cell (p := ⟨gp, op + k * 2 + 1, none⟩) hgp).trans cp1
              have HPT := Lib.hid (pts_take l k hlt)
              clear hxp cp0 cp1
              generalize l[k] = p at *
              obtain ⟨at_, text⟩ := p
              simp only at d0 d1 hi1 hi2
              have HLt := Lib.hid hlt
              have k10 : (k : Int) ≤ 10 := by omega
              have hbp := hS.out.2.2.2.alloc hS.out.2.2.2.size (.cells #[.int .i64 at_, .string text] 34)
              have HBp := Lib.hid hbp
              have HS1 := Lib.hid (show Kept (fun x => x < w.heap.size ∨ x = q) 16 (wr.alloc (.cells #[.int .i64 at_, .string text] 34)) b g 21 H ∧ TMap (wr.alloc (.cells #[.int .i64 at_, .string text] 34)) q (Wl.raw [] (pts (l.take k))) from
                ⟨hS.out.1.aside ((Below.refl _ _).alloc (Nat.le_refl _) _), hS.out.2.1.kept (World.grownBy_alloc _ _ none) (by simp)⟩)
              clear hbp hlt hk
              by_cases ha0 : 0 ≤ at_
              · by_cases ha19 : at_ ≤ 19
                · by_cases hts : text.size ≤ 100
                  · have htsI : (text.size : Int) ≤ 100 := by omega
                    obtain ⟨i, rfl⟩ : ∃ i : Nat, at_ = i := ⟨at_.toNat, by omega⟩
                    have HI := Lib.hid (show i ≤ 19 by omega)
                    have HTS := Lib.hid hts
                    go_wp2_with (first
                      | (at_mapUpdate; refine wpList_store (M := stextE) rfl _ _ _ rfl HS1.out.2 underInt underSMap (raw_len k HLE.out) i (by have := HI.out; omega) text.data.toList trivial rfl rfl rfl ?_; intro w8 hM8 hg8; have H8 := Lib.hid (And.intro hM8 hg8); clear hM8 hg8; go_frame))
                    go_roundw
                    case rel =>
                      refine ⟨k + 1, HLt.out, by go_num, Lib.hid ⟨HS1.out.1.turned (S := fun x => x = q) ⟨H8.out.2.os, H8.out.2.tape, H8.out.2.output, H8.out.2.size, fun x hx hn => H8.out.2.block x hx (fun e => hn (by injection e))⟩ (fun x e => .inr e), ?_, ?_, HBp.out.grown H8.out.2 (by simp; have := hS.out.2.2.2.size; omega) (fun x e => by injection e with e; have := HV.out.2.2.2.2; omega)⟩⟩
                      · rw [HPT.out, Wl.raw_append, Wl.raw_one]
                        exact H8.out.1
                      · rw [HPT.out]
                        intro p hp
                        rcases List.mem_append.1 hp with hp | hp
                        · exact hS.out.2.2.1 p hp
                        · obtain rfl := List.mem_singleton.1 hp
                          have := HI.out
                          have hts := HTS.out
                          refine ⟨by show (0 : Int) ≤ i; omega, by show (i : Int) ≤ 19; omega, ?_⟩
                          show text.data.toList.length ≤ 100
                          rw [Array.length_toList]; exact hts
                    case measure => have := HLt.out; simp [Go.RowKit.intOf]; omega
                  · have htsI : (text.size : Int) > 100 := by omega
                    go_wp2
                    go_ret
                    exact ⟨rfl, HBp.out⟩
                · go_wp2
                  go_ret
                  exact ⟨rfl, HBp.out⟩
              · go_wp2
                go_ret
                exact ⟨rfl, HBp.out⟩
            · obtain rfl : k = l.length := by omega
              rw [List.take_length] at hS
              have HC := Lib.hid (Wl.small_comm HV.out.2.1.1 hS.out.2.2.1 (by unfold pts; rw [List.length_map]; exact HLE.out))
              obtain ⟨W, rfl⟩ : ∃ W, W = wr := ⟨_, rfl⟩
              have hls := RdL.of W _ l (HP.out.below hS.out.2.2.2)
              obtain ⟨V2, hV2⟩ : ∃ V2, V2 = W.alloc (.cells #[.slice al l.length cl] 35) := ⟨_, rfl⟩
              have HLS := Lib.hid (show RdL V2 (.slice (some ⟨W.heap.size, 0, none⟩) 1 1) [(.slice al l.length cl, l)] ∧ Below W.heap.size W V2 by rw [hV2]; exact ⟨hls, (Below.refl _ _).alloc (Nat.le_refl _) _⟩)
              clear hls hk hlt
              obtain ⟨K, hK⟩ : ∃ K, K = Wl.along H (pts l) := ⟨_, rfl⟩
              have HKK := Lib.hid hK
              have commit : Calls Tryd.prog 8 #[ptr b, .slice (some ⟨W.heap.size, 0, none⟩) 1 1] V2 fun e w' => e = .returned (.int .i64 0) ∧ Kept (fun x => x < w.heap.size ∨ x = q) 16 w' b g 22 K ∧ TMap w' q (Wl.raw [] (pts l)) ∧ Below w.heap.size w w' := by
                refine (kept_commit (hS.out.1.aside HLS.out.2) (by decide) _ _ HLS.out.1).mono ?_
                rintro e w' ⟨rfl, hk', ho'⟩
                rw [ptsL_one, HC.out] at hk' ⊢
                rw [hK]
                have hwV := hS.out.2.2.2.trans (HLS.out.2.mono hS.out.2.2.2.size)
                exact ⟨rfl, hk', TMap.off (hS.out.2.1.but (But.of_below HLS.out.2 (fun _ => False)) id) ho' (.inr rfl), hwV.trans (Off.below ho' (fun x hx => .inl hx) hwV.size)⟩
              have HCm := Lib.hid commit
              have HS := Lib.hid hS.out.2.2.1
              clear commit hK hS HC
              cases c
              all_goals (
                go_wp2_with fail
                rw [← hV2]
                refine HCm.out.mono ?_
                rintro e w5 ⟨rfl, h5⟩
                have H5 := Lib.hid h5
                clear h5
                go_wp2_with fail)
              rotate_left
              focus (
                refine (kept_check H5.out.1).mono ?_
                rintro e w6 ⟨rfl, hk6, ho6⟩
                have H5 := Lib.hid (show Kept (fun x => x < w.heap.size ∨ x = q) 16 w6 b g 22 K ∧ TMap w6 q (Wl.raw [] (pts l)) ∧ Below w.heap.size w w6 from
                  ⟨hk6, TMap.off H5.out.2.1 ho6 (.inr rfl), H5.out.2.2.trans (Off.below ho6 (fun x hx => .inl hx) H5.out.2.2.size)⟩)
                clear hk6 ho6
                go_wp2_with fail)
              all_goals (
                refine (kept_fall2 H5.out.1 _ keep (HB.out.below H5.out.2.2) (fun h0 q' hq' => .inl (HB.out.low h0 q' hq'))).mono ?_
                rintro e w7 ⟨rfl, hf7, ho7⟩
                have H7 := Lib.hid (show Fallen (fun x => x < w.heap.size ∨ x = q) 16 w7 g 22 K ∧ TMap w7 q (Wl.raw [] (pts l)) ∧ Below w.heap.size w w7 from
                  ⟨hf7, TMap.off H5.out.2.1 ho7 (.inr rfl), H5.out.2.2.trans (Off.below ho7 (fun x hx => .inl hx) H5.out.2.2.size)⟩)
                clear hf7 ho7
                go_wp2_with fail
                refine (fallen_open (ring := 16) H7.out.1).mono ?_
                rintro e w8 ⟨b8, rfl, hk8, ho8⟩
                have H8 := Lib.hid (show Kept (fun x => x < w.heap.size ∨ x = q) 16 w8 b8 g 22 K ∧ TMap w8 q (Wl.raw [] (pts l)) ∧ Below w.heap.size w w8 from
                  ⟨hk8, TMap.off H7.out.2.1 ho8 (.inr rfl), H7.out.2.2.trans (Off.below ho8 (fun x hx => .inl hx) H7.out.2.2.size)⟩)
                clear hk8 ho8
                go_wp2_with fail
                go_loopw [107] (fun i wr => ∃ k : Nat, k ≤ 20 ∧ i = .int .i64 k ∧ Hid (Below w8.heap.size w8 wr)) (fun i _ => 20 - (Go.RowKit.intOf i).toNat)
                case atStart => exact ⟨0, Nat.zero_le _, rfl, Lib.hid (Below.refl _ _)⟩
                case round =>
                  obtain ⟨k, hk, rfl, hB⟩ := hrel
                  by_cases hlt : k < 20
                  · have hI : (k : Int) < 20 := by omega
                    have k0 : (0 : Int) ≤ k := by omega
                    have HLt := Lib.hid hlt
                    have HX := Lib.hid (show Kept (fun x => x < w.heap.size ∨ x = q) 16 wr b8 g 22 K ∧ TMap wr q (Wl.raw [] (pts l)) from ⟨H8.out.1.aside hB.out, H8.out.2.1.but (But.of_below hB.out (fun _ => False)) id⟩)
                    have hat := apart_at HV.out.2.1 HS.out (i := k) hlt
                    rw [← HKK.out] at hat
                    clear hk hlt
                    rcases hat with ⟨t, hl, ht, hh⟩ | ⟨hl, hh⟩
                    · have hlk := TMap.look_some HX.out.2 (by have := HLt.out; omega) hl
                      obtain ⟨f1, f2, f3, f4⟩ := full_asked t ht
                      have HHh := Lib.hid (show bs (homeOf K k).1 = bs (Dk.full t) ∧ (homeOf K k).2 = 0 by rw [hh]; exact ⟨rfl, rfl⟩)
                      clear hl hh ht
                      generalize bs (Dk.full t) = S at *
                      generalize bs t = T at *
                      have f5 : (S.size : Int) = 512 := by omega
                      have f6 : (T.size : Int) ≤ 100 := by omega
                      have HF := Lib.hid (And.intro f1 (And.intro f2 f4))
                      clear f1 f2 f4
                      go_wp2_with fail
                      refine (kept_read (HX.out.1) (k : Int)).mono ?_
                      rintro e w9 ⟨rfl, hb9⟩
                      rw [HHh.out.1, HHh.out.2]
                      have f1 := HF.out.1
                      have f2 := HF.out.2.1
                      have f4 := HF.out.2.2
                      have HB9 := Lib.hid (show Below w8.heap.size w8 w9 from hB.out.trans (hb9.mono hB.out.size))
                      clear hb9 hlk
                      go_wp2
                      go_roundw
                      case rel => exact ⟨k + 1, HLt.out, by go_num, HB9⟩
                      case measure => have := HLt.out; simp [Go.RowKit.intOf]; omega
                    · have hlk := TMap.look_none HX.out.2 (by have := HLt.out; omega) hl
                      obtain ⟨t, ht⟩ : ∃ t, t = [UInt8.ofNat (k + 1)] := ⟨_, rfl⟩
                      rw [← ht] at hh
                      obtain ⟨f1, f2, f3, f4⟩ := full_asked t (by rw [ht]; simp)
                      have HHh := Lib.hid (show bs (homeOf K k).1 = bs (Dk.full t) ∧ (homeOf K k).2 = 0 by rw [hh]; exact ⟨rfl, rfl⟩)
                      have hcv := row_back (wr.alloc (.cells #[.int .u8 ((k : Int) + 1)] 5)) wr.heap.size 0 1 [UInt8.ofNat (k + 1)] (by
                        intro x hx
                        obtain rfl : x = 0 := by simpa using hx
                        have hb := (Blk.new wr #[.int .u8 ((k : Int) + 1)] 5).cell (j := 0) rfl
                        have e : ((UInt8.ofNat (k + 1)).toNat : Int) = (k : Int) + 1 := by rw [UInt8.toNat_ofNat']; have := HLt.out; omega
                        show _ = some (Value.int .u8 ((UInt8.ofNat (k + 1)).toNat : Int))
                        rw [e]; exact hb)
                      rw [show ([UInt8.ofNat (k + 1)] : List UInt8).length = 1 from rfl, ← ht] at hcv
                      have hk20 : (k : Int) < 20 := hI
                      clear hl hh ht
                      generalize bs (Dk.full t) = S at *
                      generalize bs t = T at *
                      have f5 : (S.size : Int) = 512 := by omega
                      have f6 : (T.size : Int) ≤ 100 := by omega
                      have HF := Lib.hid (And.intro f1 (And.intro f2 f4))
                      clear f1 f2 f4
                      go_wp2_with fail
                      refine (kept_read (HX.out.1.aside ((Below.refl _ _).alloc (Nat.le_refl _) _)) (k : Int)).mono ?_
                      rintro e w9 ⟨rfl, hb9⟩
                      rw [HHh.out.1, HHh.out.2]
                      have f1 := HF.out.1
                      have f2 := HF.out.2.1
                      have f4 := HF.out.2.2
                      have HB9 := Lib.hid (show Below w8.heap.size w8 w9 from (hB.out.trans (((Below.refl _ wr).alloc (Nat.le_refl _) (.cells #[.int .u8 ((k : Int) + 1)] 5)).mono hB.out.size)).trans (hb9.mono (by have := hB.out.size; simp; omega)))
                      clear hb9 hlk
                      go_wp2
                      go_roundw
                      case rel => exact ⟨k + 1, HLt.out, by go_num, HB9⟩
                      case measure => have := HLt.out; simp [Go.RowKit.intOf]; omega
                  · go_wp2
                    go_ret
                    exact ⟨rfl, H8.out.2.2.trans (hB.out.mono H8.out.2.2.size)⟩)
    · have j2 : (keep.length : Int) > 100 := by omega
      have j1 : (l.length : Int) ≤ 10 := by omega
      go_wp2
      go_ret
      exact ⟨rfl, H1.out⟩
  · have j1 : (l.length : Int) > 10 := by omega
    go_wp2
    go_ret
    exact ⟨rfl, H1.out⟩
end Go.Proofs.YthkblabpiajbhaaDoor

namespace Go.Proofs.YthkblabpiajbhaaDoor
open Go.ChangeShapes Go.WideShapes Go.ChangeAt Go.RowKit
open Go.ChangeMaps (open_string shut_string)
namespace lawWalApart
set_option maxRecDepth 100000
theorem contract (H : Type) (enc : TypeId × Value → H) (W : World) (base : Nat) (args : Array Value) (ds gs : List (DataW H)) (before : List MemPlace)
    (hval : ∀ (j : Nat) t v, Tryd.f4.params[j]? = some t → args[j]? = some v → Value.okWide Tryd.prog W .any base t v)
    (hW : DataW.Whole enc Tryd.prog Tryd.f4.params.toList Rows.walApartSpec.vars false W args.toList ds gs before) :
    Calls Tryd.prog 4 args W fun e W' => ∃ v, e = .returned v ∧ Rows.walApartSpec.post enc Tryd.prog Tryd.f4 false true false false W args v W' := by
  have hW' := hW
  obtain ⟨p, q, hA0, hV, rfl, hfz, hnd⟩ := hW
  have hA : DataW.TrodAll enc Tryd.prog W 0 (fun _ => true) true Tryd.f4.params.toList args.toList ds p := hA0
  have hAk := hA
  rw [Tryd.params4] at hA hval
  obtain ⟨v0, vs0, d0, ds0, p0, q0, hargs, rfl, rfl, h0, r0⟩ := trodAll_cons hA
  obtain ⟨v1, vs1, d1, ds1, p1, q1, rfl, rfl, rfl, h1, r1⟩ := trodAll_cons r0
  obtain ⟨v2, vs2, d2, ds2, p2, q2, rfl, rfl, rfl, h2, r2⟩ := trodAll_cons r1
  obtain ⟨rfl, rfl, rfl⟩ := trodAll_nil r2
  obtain rfl : args = #[v0, v1, v2] := by cases args; simp_all
  obtain ⟨rfl, rfl⟩ := trodVars_none hV
  obtain ⟨l0, hr0⟩ := puts_in (hval 0 35 v0 rfl rfl) h0
  obtain ⟨l1, hr1⟩ := bools_in (hval 1 23 v1 rfl rfl) h1
  obtain ⟨x2, rfl, rfl, rfl⟩ := open_bool Tryd.underlying4 (hval 2 4 v2 rfl rfl) h2
  have lt := fun x hx => hW'.lt x hx
  clear hA0
  refine (walApart_any W v0 v1 x2 l0 l1 hr0 hr1).mono fun e W' ⟨he, hb⟩ => ?_
  subst he
  exact ⟨_, rfl, post_below (pv := []) hW' hb rfl (fun _ _ _ => trodAll_cons_mk (shut_bool Tryd.underlying4 _) trodAll_mk0) (fun sp hsp => trodAll_stays _ (by rw [Tryd.params4]; decide +kernel) hAk (fun x hx => hb.same (lt x (by simpa using hx))) (fun x hx => hsp x (by simpa using hx))) (fun _ _ => rfl)
    (ok_one (by kernel_rfl) rfl (okWide_bool_mk Tryd.underlying4 _))⟩
theorem laid_met (os : Os) : laidMet Tryd.prog Rows.walApartRow.laid ((laidWorld os).forCall (fun _ _ => 0) ⟨#[], #[.slice none 0 0, .slice none 0 0, .bool false], []⟩).memory :=
  laidMet_of_run' 8 (by kernel_rfl) (by kernel_rfl)
theorem reads (os : Os) {H : Type} (enc : TypeId × Value → H) : ∃ places, DataW.whole enc Tryd.prog ((laidWorld os).forCall (fun _ _ => 0) ⟨#[], #[.slice none 0 0, .slice none 0 0, .bool false], []⟩).memory Tryd.f4.params.toList Rows.walApartSpec.vars false #[Value.slice none 0 0, .slice none 0 0, .bool false].toList 8 = some ([.nil, .nil, .lit (.bool false)], [], places) :=
  ⟨[], by kernel_rfl⟩
theorem lifted (os : Os) (started : os.Started) (H : Type) (enc : TypeId × Value → H) (F : Stop.Interp) :
    ReturnsInHanded {} Tryd.checked os 4 .any ((OpenSpec.ofChange Rows.walApartSpec).preRow enc Tryd.prog Tryd.f4 Rows.walApartRow.domain false Rows.walApartRow.laid) (((OpenSpec.ofChange Rows.walApartSpec).at F).post enc Tryd.prog Tryd.f4 false true false false) := by
  obtain ⟨places, hx⟩ := reads os enc
  refine returnsInHanded_of_row (C := Tryd.checked) (s := OpenSpec.ofChange Rows.walApartSpec) own started (by kernel_rfl) Tryd.func4
    (witness_row_at (enc := enc) (C := Tryd.checked) false (laidWorld os) #[.slice none 0 0, .slice none 0 0, .bool false] rfl (by kernel_rfl) (by kernel_rfl) (by kernel_rfl)
      (OpenSpec.preRow_of_cond 8 hx (by kernel_rfl) (fun k hk => by cases hk) (by kernel_rfl) (laid_met os))) ?_
  intro W base args ds gs before hval hW _ _ _ hL _ _
  exact contract H enc W base args ds gs before hval hW
theorem said : Rows.WalApartSaid :=
  OpenClaim.holds_of_cond 4 Tryd.f4 rfl rfl rfl rfl rfl rfl rfl ⟨rfl, rfl, rfl, rfl, rfl⟩ rfl rfl rfl rfl rfl (by kernel_rfl) Tryd.func4 (by kernel_rfl)
    (of_decide_eq_true (by kernel_rfl)) (by unfold Func.isWrapper; first | (rw [if_pos (by decide +kernel)]; kernel_rfl) | (rw [if_neg (by decide +kernel)]; exact ⟨rfl, rfl⟩))
    (fun os started H enc _ F => by rw [OpenClaim.pre_eq_preRow]; exact lifted os started H enc F)
theorem plain (f : FuncId) (fn : Func) (hf : Tryd.pinned.checked.prog.funcNamed "cooperage/cooperagelaw05.WalApart" = some f) (hfn : Tryd.pinned.checked.prog.funcs[f]? = some fn) :
    false = Tryd.pinned.checked.prog.looks [] ∧ ∀ (j : Nat) t, fn.params[j]? = some t → Tryd.pinned.checked.prog.wantsStandIn t = false := by
  obtain rfl : f = 4 := Option.some.inj ((show Tryd.prog.funcNamed "cooperage/cooperagelaw05.WalApart" = some 4 by kernel_rfl).symm.trans hf) |>.symm
  obtain rfl : fn = Tryd.f4 := (Option.some.inj (Tryd.func4.symm.trans hfn)).symm
  refine ⟨by kernel_rfl, fun j t ht => ?_⟩
  rw [Tryd.params4] at ht
  have hm : t = 35 ∨ t = 23 ∨ t = 4 := by simpa using Array.mem_of_getElem? ht
  rcases hm with rfl | rfl | rfl
  · exact (show Tryd.prog.wantsStandIn 35 = false by kernel_rfl)
  · exact (show Tryd.prog.wantsStandIn 23 = false by kernel_rfl)
  · exact (show Tryd.prog.wantsStandIn 4 = false by kernel_rfl)
theorem card : Rows.WalApartCardSaid :=
  Claim7.holds_tied_plain_at .later [] _ _ _ _ said (fun _ h => by cases h) (by kernel_rfl) (fun _ h => by cases h) walApart_row_tie rfl ⟨rfl, rfl⟩ (by kernel_rfl) rfl plain (by kernel_rfl)
end lawWalApart
end Go.Proofs.YthkblabpiajbhaaDoor
