/- Walk of the law WalAgain. -/
import Derived.Test.YthkblabpiajbhaaDoorWalKept
import Derived.Test.YthkblabpiajbhaaDoorWalAwake
import Derived.Test.YthkblabpiajbhaaDoorReads4
namespace Go.Proofs.YthkblabpiajbhaaDoor
open Go.RowKit Lib

/-- Lists of puts that are just built: one list of one put. -/
theorem RdL.single (w : World) (a : Int) (t : ByteArray) (ha : -9223372036854775808 ≤ a ∧ a ≤ 9223372036854775807) :
    RdL ((w.alloc (.cells #[.int .i64 a, .string t] 34)).alloc (.cells #[.slice (some ⟨w.heap.size, 0, none⟩) 1 1] 35)) (.slice (some ⟨w.heap.size + 1, 0, none⟩) 1 1) [(.slice (some ⟨w.heap.size, 0, none⟩) 1 1, [(a, t)])] := by
  have p1 := RdP.one w a t ha
  have q1 := p1.below ((Below.refl _ _).alloc (Nat.le_refl _) (.cells #[.slice (some ⟨w.heap.size, 0, none⟩) 1 1] 35))
  have hbl := Blk.new (w.alloc (.cells #[.int .i64 a, .string t] 34)) #[.slice (some ⟨w.heap.size, 0, none⟩) 1 1] 35
  rw [World.size_alloc] at hbl
  refine ⟨_, 1, rfl, Nat.le_refl _, by simp, fun i hi => ⟨?_, w.heap.size + 1, 0, rfl, hbl.lt, fun j hj => ?_⟩⟩
  · obtain rfl : i = 0 := by simpa using hi
    exact q1
  · obtain rfl : j = 0 := by simpa using hj
    exact hbl.cell rfl
/-- make([]bool, 100). -/
theorem make_bools (w : World) : (Instr.makeSlice 23 (.int .i64 100) (.int .i64 100)).run Tryd.prog w = .ok (.slice (some ⟨w.heap.size, 0, none⟩) 100 100) (w.alloc (.cells (List.replicate 100 (.bool false)).toArray 4)) := by
  obtain ⟨i, hi, hz, hs, hb⟩ := info_of (P := Tryd.prog) (E := 4) (size := 1) (bytes := 1) (z := .bool false) (by kernel_rfl)
  have := run_make (P := Tryd.prog) w 23 4 i (.bool false) Tryd.underlying23 hi hz .i64 .i64 (100 : Nat) (100 : Nat) (by omega) (by omega) (by rw [hb]; omega) (by omega)
  rw [hs, Nat.mul_one, show (Value.bool false).cells = #[.bool false] from rfl, made_one] at this
  exact this
/-- Such a row while it is filled. -/
def filling (c : Bool) (j : Nat) : List Bool := List.replicate j c ++ List.replicate (100 - j) false
theorem filling_len (c : Bool) (j : Nat) (hj : j ≤ 100) : (filling c j).length = 100 := by unfold filling; rw [List.length_append, List.length_replicate, List.length_replicate]; omega
theorem filling_set (c : Bool) (j : Nat) (hj : j < 100) : ((filling c j).map Value.bool).set j (.bool c) = (filling c (j + 1)).map Value.bool := by
  unfold filling
  rw [List.map_append, List.map_append, List.map_replicate, List.map_replicate, List.map_replicate, List.map_replicate]
  rw [List.set_append_right _ _ (by rw [List.length_replicate]; exact Nat.le_refl _), List.length_replicate, Nat.sub_self]
  rw [show 100 - j = (100 - (j + 1)) + 1 by omega, List.replicate_succ, List.set_cons_zero, List.replicate_succ', List.append_assoc]
  rfl
theorem filling_all (c : Bool) : filling c 100 = List.replicate 100 c := by simp [filling]
theorem RdB.of_blk {w : World} {r : Nat} {ks : List Bool} (h : Blk w r 4 (ks.map Value.bool)) : RdB w (.slice (some ⟨r, 0, none⟩) ks.length ks.length) ks := by
  refine ⟨_, _, rfl, Nat.le_refl _, fun i hi => ⟨r, 0, rfl, h.lt, fun j hj => ?_⟩⟩
  rw [Nat.zero_add]
  exact h.cell (by rw [List.getElem?_map, List.getElem?_eq_getElem hj]; rfl)
set_option maxRecDepth 100000 in
set_option maxHeartbeats 4000000 in
theorem walAgain_any (w : World) (vl vf : Value) (l : List UInt8) (falls : List Bool) (hl : RdY w vl l) (hf : RdB w vf falls) :
    Calls Tryd.prog 3 #[vl, vf] w fun e w' => e = .returned (.bool true) ∧ Below w.heap.size w w' := by
  have HY := Lib.hid hl
  have HB := Lib.hid hf
  obtain ⟨al, cl, rfl, hcl, hrl⟩ := hl
  obtain ⟨af, cf, rfl, hcf, hrf⟩ := hf
  have HRL := Lib.hid hrl
  have HRF := Lib.hid hrf
  clear hcl hrl hcf hrf
  go_enter Tryd.func3, Tryd.ntmps3
  go_wp2_with fail
  refine (awake_any w).mono ?_
  rintro e w1 ⟨rfl, hb1⟩
  have H1 := Lib.hid hb1
  clear hb1
  by_cases h20 : l.length ≤ 20
  · by_cases h8 : falls.length ≤ 8
    · have j1 : (l.length : Int) ≤ 20 := by omega
      have j2 : (falls.length : Int) ≤ 8 := by omega
      go_wp2_with fail
      refine (new_any 29 w1 (by decide) (by decide)).mono ?_
      rintro e w2 ⟨g, FD, rfl, hd2, hF2, hb2⟩
      have H2 := Lib.hid (And.intro hd2 (And.intro hF2 hb2))
      clear hd2 hF2 hb2
      go_wp2_with fail
      refine (kept_begun (A := fun x => x < w.heap.size) H2.out.1 (fun x hx hn => by have := H2.out.2.1 x hx; have := H1.out.size; omega) (fun x hx => by have := H1.out.size; have := H2.out.2.2.size; omega) (by decide) (by decide) (by decide) (by decide)).mono ?_
      rintro e w3 ⟨b, rfl, hk3, ho3⟩
      have H3 := Lib.hid (show Kept (fun x => x < w.heap.size) 8 w3 b g 1 (Wl.noughts 20) ∧ Below w.heap.size w w3 by
        have h12 : Below w.heap.size w w2 := H1.out.trans (H2.out.2.2.mono H1.out.size)
        exact ⟨hk3, h12.trans (Off.below ho3 (fun x hx => hx) h12.size)⟩)
      clear hk3 ho3
      go_wp2_with fail
      go_loopw [42] (fun i wr => ∃ k : Nat, k ≤ l.length ∧ i = .int .i64 k ∧ Hid (∃ H, Kept (fun x => x < w.heap.size) 8 wr b g (1 + k) H ∧ H.length = 20 ∧ Below w.heap.size w wr)) (fun i _ => l.length - (Go.RowKit.intOf i).toNat)
      case atStart => exact ⟨0, Nat.zero_le _, rfl, Lib.hid ⟨_, H3.out.1, by simp [Wl.noughts], H3.out.2⟩⟩
      case round =>
        obtain ⟨k, hk, rfl, hS⟩ := hrel
        by_cases hlt : k < l.length
        · have hI : (k : Int) < l.length := by omega
          obtain ⟨gl, ol, rfl, hgl, hxl⟩ := HRL.out k hlt
          obtain ⟨H, hk1, hk2, hk3⟩ := hS.out
          have hcl : wr.cell? ⟨gl, ol + k, none⟩ = some (.int .u8 l[k].toNat) := (hk3.cell (p := ⟨gl, ol + k, none⟩) hgl).trans (hxl k hlt)
          have hn : l[k].toNat < 256 := UInt8.toNat_lt _
          generalize l[k].toNat = n at *
          have HK := Lib.hid (And.intro hlt (And.intro hk1 (And.intro hk2 hk3)))
          have n1 : (n : Int) ≤ 255 := by omega
          have n0 : (0 : Int) ≤ n := by omega
          have k1 : (k : Int) ≤ 20 := by omega
          have k0 : (0 : Int) ≤ k := by omega
          obtain ⟨q, hq⟩ : ∃ q, q = n % 20 := ⟨_, rfl⟩
          have hrem : (n : Int).tmod 20 = (q : Int) := by rw [hq, Int.tmod_eq_emod_of_nonneg (by omega)]; omega
          have hq20 : q < 20 := by omega
          obtain ⟨t, ht⟩ : ∃ t, t = bs [UInt8.ofNat (k + 1)] := ⟨_, rfl⟩
          have htl : t.data.toList.length ≤ 512 := by rw [ht, bs_list]; simp
          have hcv := row_back (wr.alloc (.cells #[.int .u8 ((k : Int) + 1)] 5)) wr.heap.size 0 1 [UInt8.ofNat (k + 1)] (by
            intro x hx
            obtain rfl : x = 0 := by simpa using hx
            have hb := (Blk.new wr #[.int .u8 ((k : Int) + 1)] 5).cell (j := 0) rfl
            have e : ((UInt8.ofNat (k + 1)).toNat : Int) = (k : Int) + 1 := by rw [UInt8.toNat_ofNat']; omega
            show _ = some (Value.int .u8 ((UInt8.ofNat (k + 1)).toNat : Int))
            rw [e]; exact hb)
          rw [show ([UInt8.ofNat (k + 1)] : List UInt8).length = 1 from rfl] at hcv
          rw [← ht] at hcv
          have hsl := RdL.single (wr.alloc (.cells #[.int .u8 ((k : Int) + 1)] 5)) (q : Int) t (by omega)
          rw [World.size_alloc] at hsl
          have HSL := Lib.hid hsl
          have HT := Lib.hid (And.intro hq20 htl)
          clear hsl hk1 hk2 hk3 hxl hk hlt hS hq ht hq20 htl
          go_wp2_with fail
          obtain ⟨V, hV⟩ : ∃ V, V = ((wr.alloc (.cells #[.int .u8 ((k : Int) + 1)] 5)).alloc (.cells #[.int .i64 q, .string t] 34)).alloc (.cells #[.slice (some ⟨wr.heap.size + 1, 0, none⟩) 1 1] 35) := ⟨_, rfl⟩
          rw [← hV] at HSL ⊢
          have hbV : Below wr.heap.size wr V := by rw [hV]; exact (((Below.refl _ _).alloc (Nat.le_refl _) _).alloc (by simp) _).alloc (by simp; omega) _
          have HbV := Lib.hid hbV
          clear hbV hV hcv hcl
          refine (kept_commit (HK.out.2.1.aside HbV.out) (by have := HK.out.1; omega) _ _ HSL.out).mono ?_
          rintro e w5 ⟨rfl, hk5, ho5⟩
          have hps : ptsL [(Value.slice (some ⟨wr.heap.size + 1, 0, none⟩) 1 1, [((q : Int), t)])] = [((q : Int), t.data.toList)] := rfl
          rw [hps, comm_one (by decide) q (by rw [HK.out.2.2.1]; exact HT.out.1) _ HT.out.2] at hk5 ⊢
          have H5 := Lib.hid (show Kept (fun x => x < w.heap.size) 8 w5 b g (1 + (k + 1)) (Dk.puts H [(q, Dk.full t.data.toList)]) ∧ (Dk.puts H [(q, Dk.full t.data.toList)]).length = 20 ∧ Below w.heap.size w w5 by
            have hwV : Below w.heap.size w V := HK.out.2.2.2.trans (HbV.out.mono HK.out.2.2.2.size)
            exact ⟨hk5, by rw [Dk.puts_length]; exact HK.out.2.2.1, hwV.trans (Off.below ho5 (fun x hx => hx) hwV.size)⟩)
          clear hk5 ho5 hps
          simp only
          go_wp2
          go_roundw
          case rel => exact ⟨k + 1, HK.out.1, by go_num, Lib.hid ⟨_, H5.out⟩⟩
          case measure => have := HK.out.1; simp [Go.RowKit.intOf]; omega
        · obtain rfl : l.length = k := by omega
          obtain ⟨H, hk1, hk2, hk3⟩ := hS.out
          obtain ⟨W, hW⟩ : ∃ W, W = wr := ⟨_, rfl⟩
          have HK := Lib.hid (show Kept (fun x => x < w.heap.size) 8 W b g (1 + l.length) H ∧ H.length = 20 ∧ Below w.heap.size w W by rw [hW]; exact ⟨hk1, hk2, hk3⟩)
          rw [← hW]
          clear hW hk1 hk2 hk3 hS hk hlt
          go_wp2_with fail
          go_loopw [11, 62] (fun u i wr => ∃ k : Nat, k ≤ 20 ∧ i = .int .i64 k ∧ Hid (OwnS W.heap.size wr u (H.take k)) ∧ Hid (Below W.heap.size W wr)) (fun _ i _ => 20 - (Go.RowKit.intOf i).toNat)
          case atStart => exact ⟨0, Nat.zero_le _, rfl, Lib.hid (Own.nil _ _ _ _), Lib.hid (Below.refl _ _)⟩
          case round =>
            obtain ⟨k, hk, rfl, hO, hB⟩ := hrel
            by_cases hlt : k < 20
            · have hI : (k : Int) < 20 := by omega
              have k0 : (0 : Int) ≤ k := by omega
              have hkH : k < H.length := by rw [HK.out.2.1]; exact hlt
              have HHm := Lib.hid (homeOf_at hkH)
              have HX := Lib.hid (show H.take (k + 1) = H.take k ++ [H[k]] from List.take_succ_eq_append_getElem hkH)
              generalize H[k] = x at *
              have HLt := Lib.hid hlt
              clear hlt hkH hk
              go_wp2_with fail
              refine (kept_read (HK.out.1.aside hB.out) (k : Int)).mono ?_
              rintro e w5 ⟨rfl, hb5⟩
              rw [HHm.out]
              simp only
              have HB5 := Lib.hid (show Below W.heap.size W w5 ∧ OwnS W.heap.size w5 u11 (H.take k) from ⟨hB.out.trans (hb5.mono hB.out.size), hO.out.but (But.of_below hb5 (fun _ => False)) (fun _ _ h => h)⟩)
              clear hb5
              go_wp2_with (at_builtin; refine wpList_app stringST rfl _ _ rfl rfl (HB5.out.2.alloc _) (by have := HB5.out.1.size; simp; omega) w5.heap.size 0 1 1 [bs x] rfl rfl (lies_new _ _) (by rw [List.length_map, List.length_take]; have := HLt.out; omega) ?_; intro u6 w6 ho6 hg6; have H6 := Lib.hid (And.intro ho6 hg6); clear ho6 hg6)
              go_roundw
              case rel =>
                obtain ⟨ho6, hg6⟩ := H6.out
                refine ⟨k + 1, HLt.out, by go_num, Lib.hid ?_, Lib.hid ?_⟩
                · rw [HX.out]
                  unfold OwnS
                  rw [List.map_append]
                  exact ho6
                · exact (HB5.out.1.alloc HB5.out.1.size _).grown hg6 (by have := HB5.out.1.size; simp; omega) (fun j e => (Own.block HB5.out.2 j e).1)
              case measure => have := HLt.out; simp [Go.RowKit.intOf]; omega
            · obtain rfl : k = 20 := by omega
              rw [List.take_of_length_le (by rw [HK.out.2.1]; exact Nat.le_refl _)] at hO
              obtain ⟨q, cq, rfl, hq1, hq2, _⟩ := Own.form hO.out (by rw [List.length_map, HK.out.2.1]; decide)
              rw [List.length_map] at hO ⊢
              have HQ := Lib.hid (show Kept (fun x => x < w.heap.size ∨ x = q) 8 wr b g (1 + l.length) H ∧ Below w.heap.size w wr ∧ OwnS W.heap.size wr (.slice (some ⟨q, 0, none⟩) H.length cq) H from ⟨HK.out.1.more hB.out q hq1 hq2, HK.out.2.2.trans (hB.out.mono HK.out.2.2.size), hO.out⟩)
              have hH20 := HK.out.2.1
              have HH := Lib.hid hH20
              obtain ⟨ZB, hZB⟩ : ∃ ZB, ZB = (List.replicate 100 (Value.bool false)).toArray := ⟨_, rfl⟩
              have hmk := make_bools
              rw [← hZB] at hmk
              have HZB := Lib.hid hZB
              clear hZB
              clear hq1 hq2 hO hB hk hlt
              rw [hH20]
              go_wp2_with fail
              go_loopw [7, 80] (fun u i wx => ∃ (k b' : Nat), k ≤ falls.length ∧ u = ptr b' ∧ i = .int .i64 k ∧ Hid (Kept (fun x => x < w.heap.size ∨ x = q) 8 wx b' g (1 + l.length) H ∧ Below w.heap.size w wx ∧ OwnS W.heap.size wx (.slice (some ⟨q, 0, none⟩) H.length cq) H)) (fun _ i _ => falls.length - (Go.RowKit.intOf i).toNat)
              case atStart => exact ⟨0, b, Nat.zero_le _, rfl, rfl, HQ⟩
              case round =>
                obtain ⟨k, b', hk, rfl, rfl, hS⟩ := hrel
                obtain ⟨X, rfl⟩ : ∃ X, X = wr := ⟨_, rfl⟩
                by_cases hlt : k < falls.length
                · have hI : (k : Int) < falls.length := by omega
                  obtain ⟨gf, of, rfl, hgf, hxf⟩ := HRF.out k hlt
                  have hcf : X.cell? ⟨gf, of + k, none⟩ = some (.bool falls[k]) := (hS.out.2.1.cell (p := ⟨gf, of + k, none⟩) hgf).trans (hxf k hlt)
                  generalize falls[k] = c at *
                  have HLt := Lib.hid hlt
                  clear hxf hlt hk
                  go_wp2_with fail
                  obtain ⟨r, hr⟩ : ∃ r, X.heap.size = r := ⟨_, rfl⟩
                  obtain ⟨V, hV⟩ : ∃ V, V = X.alloc (.cells ZB 4) := ⟨_, rfl⟩
                  rw [← hV, hr]
                  have HV := Lib.hid (show Blk V r 4 ((filling c 0).map Value.bool) ∧ Below X.heap.size X V ∧ X.heap.size = r ∧ r < V.heap.size by
                    refine ⟨?_, by rw [hV]; exact (Below.refl _ _).alloc (Nat.le_refl _) _, hr, by rw [hV, ← hr]; simp⟩
                    have hb := Blk.new X ZB 4
                    rw [hr, ← hV, HZB.out] at hb
                    have e : (filling c 0).map Value.bool = List.replicate 100 (Value.bool false) := by unfold filling; rw [List.replicate_zero, List.nil_append, List.map_replicate]
                    rw [e]; exact hb)
                  clear hV hr hcf
                  go_loopw [87] (fun i wy => ∃ j : Nat, j ≤ 100 ∧ i = .int .i64 j ∧ Hid (Blk wy r 4 ((filling c j).map Value.bool) ∧ But (fun x => x = r) V wy)) (fun i _ => 100 - (Go.RowKit.intOf i).toNat)
                  case atStart => exact ⟨0, Nat.zero_le _, rfl, Lib.hid ⟨HV.out.1, But.refl _ _⟩⟩
                  case round =>
                    obtain ⟨j, hj, rfl, hF⟩ := hrel
                    by_cases hjl : j < 100
                    · have hJ : (j : Int) < 100 := by omega
                      have hJ0 : (0 : Int) ≤ j := by omega
                      have hl100 := filling_len c j hj
                      have hcj : wr.cell? ⟨r, j, none⟩ = some (((filling c j).map Value.bool)[j]'(by rw [List.length_map, hl100]; exact hjl)) := hF.out.1.cell (List.getElem?_eq_getElem _)
                      rw [List.getElem_map] at hcj
                      generalize (filling c j)[j] = old at hcj
                      have hfj := hF.out.1.frozen j
                      have HJ := Lib.hid hjl
                      have HFs := Lib.hid (show Blk (wr.setCell ⟨r, j, none⟩ (.bool c)) r 4 ((filling c (j + 1)).map Value.bool) ∧ But (fun x => x = r) V (wr.setCell ⟨r, j, none⟩ (.bool c)) by
                        refine ⟨?_, hF.out.2.setCell ⟨r, j, none⟩ _ (fun _ => rfl)⟩
                        rw [← filling_set c j hjl]
                        exact hF.out.1.set j _)
                      clear hl100 hj hjl
                      go_wp2
                      go_roundw
                      case rel => exact ⟨j + 1, HJ.out, by go_num, HFs⟩
                      case measure => have := HJ.out; simp [Go.RowKit.intOf]; omega
                    · obtain rfl : j = 100 := by omega
                      rw [filling_all] at hF
                      have hrow : RdB wr (.slice (some ⟨r, 0, none⟩) 100 100) (List.replicate 100 c) := by
                        have := RdB.of_blk hF.out.1
                        rw [List.length_replicate] at this
                        exact this
                      have HR := Lib.hid (show RdB wr (.slice (some ⟨r, 0, none⟩) 100 100) (List.replicate 100 c) ∧ Kept (fun x => (x < w.heap.size ∨ x = q) ∨ x = r) 8 wr b' g (1 + l.length) H ∧ Below w.heap.size w wr ∧ OwnS W.heap.size wr (.slice (some ⟨q, 0, none⟩) H.length cq) H by
                        have hbl : Below X.heap.size X wr := Below.but HV.out.2.1 hF.out.2 HV.out.2.1.size (fun x hx e => by have := HV.out.2.2.1; omega)
                        refine ⟨hrow, hS.out.1.more hbl r (by have := HV.out.2.2.1; omega) (Nat.lt_of_lt_of_le HV.out.2.2.2 hF.out.2.size), hS.out.2.1.trans (hbl.mono hS.out.2.1.size), hS.out.2.2.but (But.of_below hbl (fun _ => False)) (fun _ _ h => h)⟩)
                      clear hrow hF hj hjl
                      go_wp2_with fail
                      refine (kept_check HR.out.2.1).mono ?_
                      rintro e w7 ⟨rfl, hk7, ho7⟩
                      have H7 := Lib.hid (show RdB w7 (.slice (some ⟨r, 0, none⟩) 100 100) (List.replicate 100 c) ∧ Kept (fun x => (x < w.heap.size ∨ x = q) ∨ x = r) 8 w7 b' g (1 + l.length) H ∧ Below w.heap.size w w7 ∧ OwnS W.heap.size w7 (.slice (some ⟨q, 0, none⟩) H.length cq) H from
                        ⟨HR.out.1.but ho7 (fun x hx hn => hn (.inr (by simpa [Value.ownBlock] using hx.symm))), hk7, HR.out.2.2.1.trans (Off.below ho7 (fun x hx => .inl (.inl hx)) HR.out.2.2.1.size), HR.out.2.2.2.but ho7 (fun x hx hn => hn (.inl (.inr (by simpa [Value.ownBlock] using hx.symm))))⟩)
                      clear hk7 ho7
                      go_wp2_with fail
                      refine (kept_fall H7.out.2.1 _ _ H7.out.1 (fun x hx => .inr (by simpa [Value.ownBlock] using hx.symm))).mono ?_
                      rintro e w8 ⟨rfl, hf8, ho8⟩
                      have H8 := Lib.hid (show Fallen (fun x => (x < w.heap.size ∨ x = q) ∨ x = r) 8 w8 g (1 + l.length) H ∧ Below w.heap.size w w8 ∧ OwnS W.heap.size w8 (.slice (some ⟨q, 0, none⟩) H.length cq) H from
                        ⟨hf8, H7.out.2.2.1.trans (Off.below ho8 (fun x hx => .inl (.inl hx)) H7.out.2.2.1.size), H7.out.2.2.2.but ho8 (fun x hx hn => hn (.inl (.inr (by simpa [Value.ownBlock] using hx.symm))))⟩)
                      clear hf8 ho8
                      go_wp2_with fail
                      refine (fallen_open (ring := 8) H8.out.1).mono ?_
                      rintro e w9 ⟨b9, rfl, hk9, ho9⟩
                      have H9 := Lib.hid (show Kept (fun x => x < w.heap.size ∨ x = q) 8 w9 b9 g (1 + l.length) H ∧ Below w.heap.size w w9 ∧ OwnS W.heap.size w9 (.slice (some ⟨q, 0, none⟩) H.length cq) H from
                        ⟨hk9.fewer (fun x hx => .inl hx), H8.out.2.1.trans (Off.below ho9 (fun x hx => .inl (.inl hx)) H8.out.2.1.size), H8.out.2.2.but ho9 (fun x hx hn => hn (.inl (.inr (by simpa [Value.ownBlock] using hx.symm))))⟩)
                      clear hk9 ho9
                      go_wp2_with fail
                      have hrd := OwnS.reads H9.out.2.2
                      rw [hH20] at hrd
                      refine (kept_holds H9.out.1 _ hrd (by omega)).mono ?_
                      rintro e w10 ⟨rfl, hb10⟩
                      rw [decide_eq_true (rfl : H = H)]
                      have H10 := Lib.hid (show Kept (fun x => x < w.heap.size ∨ x = q) 8 w10 b9 g (1 + l.length) H ∧ Below w.heap.size w w10 ∧ OwnS W.heap.size w10 (.slice (some ⟨q, 0, none⟩) H.length cq) H from
                        ⟨H9.out.1.aside hb10, H9.out.2.1.trans (hb10.mono H9.out.2.1.size), H9.out.2.2.but (But.of_below hb10 (fun _ => False)) (fun _ _ h => h)⟩)
                      clear hb10 hrd
                      have hk8 : (k : Int) ≤ 8 := by omega
                      go_wp2
                      go_roundw
                      case rel =>
                        iterate 43 apply Exists.intro
                        refine ⟨⟨k + 1, b9, HLt.out, ?_, ?_, H10⟩, rfl⟩
                        · rfl
                        · go_num
                      case measure => have := HLt.out; simp [Go.RowKit.intOf]; omega
                · obtain rfl : falls.length = k := by omega
                  go_wp2
                  go_ret
                  exact ⟨rfl, hS.out.2.1⟩
    · have j2 : (falls.length : Int) > 8 := by omega
      have j1 : (l.length : Int) ≤ 20 := by omega
      go_wp2
      go_ret
      exact ⟨rfl, H1.out⟩
  · have j1 : (l.length : Int) > 20 := by omega
    go_wp2
    go_ret
    exact ⟨rfl, H1.out⟩
end Go.Proofs.YthkblabpiajbhaaDoor
