/- A part of the law. -/
import Derived.Test.YtahnhhhhfioibaaGreatDoorG21
import Derived.Test.YtahnhhhhfioibaaGreatDoorG20
import Derived.Deep.RegionHeld3
import Derived.OrdersHeld
import Derived.Deep.CutBlock
import Derived.Deep.DeepCutAuto
namespace Go.Proofs.YtahnhhhhfioibaaGreatDoor
open Go.RowKit Lib


theorem tx_id {G : Prop} (_ : G → G) (hf : Hid (∀ G : Prop, G)) : G := hf.out G
def tx_of {A : Prop} (_ : A → A) : Prop := A
set_option maxRecDepth 100000 in
set_option maxHeartbeats 100000000 in
theorem tx_walk0 (cs : Hid (∀ G : Prop, G)) : ∀ (w : World) (v : Value) (l : List Act6) (_ : RdX w v l),
    Calls Tryz.prog 3 #[v] w fun e w' => e = .returned (.bool true) ∧ Below w.heap.size w w' := by
  intro w v l hl
  have HL := Lib.hid hl
  obtain ⟨al, cl, rfl⟩ := hl.slice
  clear hl
  go_enter Tryz.func3, Tryz.ntmps3
  go_wp2_with fail
  refine (awake6_any w).mono ?_
  rintro e w1 ⟨rfl, hb1⟩
  have H1 := Lib.hid hb1
  clear hb1
  by_cases hl60 : 60 < l.length
  · have j1 : (60 : Int) < l.length := by omega
    go_wp2
    go_ret
    exact ⟨rfl, H1.out⟩
  have j1 : ¬ (60 : Int) < l.length := by omega
  have HM := Lib.hid (show l.length ≤ 60 by omega)
  clear hl60
  go_wp2_with fail
  refine (new_any 37 w1 (by decide) (by decide)).mono ?_
  rintro e w2 ⟨g, FD, rfl, hd2, hF2, hb2⟩
  have H2 := Lib.hid (And.intro hd2 (And.intro hF2 hb2))
  clear hd2 hF2 hb2
  go_wp2_with fail
  refine (kept_begun (A := fun x => x < w.heap.size) H2.out.1 (fun x hx hn => by have := H2.out.2.1 x hx; have := H1.out.size; omega) (fun x hx => by have := H1.out.size; have := H2.out.2.2.size; omega) (by decide) (by decide) (by decide) (by decide)).mono ?_
  rintro e w3 ⟨b, rfl, hk3, ho3⟩
  have H3 := Lib.hid (show Kept (fun x => x < w.heap.size) 16 w3 b g 1 (Wl.noughts 20) ∧ Below w.heap.size w w3 by
    have h12 : Below w.heap.size w w2 := H1.out.trans (H2.out.2.2.mono H1.out.size)
    exact ⟨hk3, h12.trans (Off.below ho3 (fun x hx => hx) h12.size)⟩)
  clear hk3 ho3
  obtain ⟨H, hH⟩ : ∃ H, H = Wl.noughts 20 := ⟨_, rfl⟩
  have HH := Lib.hid (show H.length = 20 by rw [hH]; simp [Wl.noughts])
  have HHn := Lib.hid hH
  rw [← hH] at H3
  clear hH
  go_wp2_with fail
  refine (c2_begin H3.out.1 (fun k hk => hk) H3.out.2).mono ?_
  rintro e w4 ⟨ta, Ta, rfl, hx4, hk4, hT4, hb4⟩
  have H4 := Lib.hid (And.intro hx4 (And.intro hk4 (And.intro hT4 hb4)))
  clear hx4 hk4 hT4 hb4
  go_wp2_with fail
  refine (c2_begin (w0 := w) H4.out.2.1 (fun k hk => .inl hk) (H3.out.2.trans (H4.out.2.2.2.mono H3.out.2.size))).mono ?_
  rintro e w5 ⟨tb, Tb, rfl, hx5, hk5, hT5, hb5⟩
  have H5 := Lib.hid (show C2 w (fun _ => False) 16 g 1 b ta tb H [] [] w5 from c2_begun (fun k hk => hk) (fun k hk => by have := H3.out.2.size; omega) H3.out.2 H4.out.1 H4.out.2.2.1 H4.out.2.2.2 hx5 hk5 hT5 hb5)
  clear hx5 hk5 hT5 hb5 H4 H3 H2
  unfold ptr
  go_wp2_with fail
  refine (new5_any 20 _ (by decide)).mono ?_
  rintro e w6 ⟨vh0, rfl, ho6, hb6⟩
  rw [← HHn.out] at ho6
  have HT := Lib.hid (And.intro ho6 hb6)
  obtain ⟨ah, ch, hvh, -⟩ := Own.slice ho6
  rw [List.length_map] at hvh
  clear ho6 hb6
  subst hvh
  have hl20 : H.length = 20 := HH.out
  rw [hl20] at HT ⊢
  obtain ⟨t, ht0, ht1⟩ : ∃ t : Nat → Nat, t 0 = ta ∧ t 1 = tb := ⟨fun j => if j = 0 then ta else tb, rfl, rfl⟩
  have H7 := Lib.hid (TS.begun H5.out HH.out rfl HT.out.1 HT.out.2 ⟨_, _, _, rfl⟩ ht0 ht1)
  clear HT H5 HHn HH hl20
  have ht0' := Lib.hid ht0
  have ht1' := Lib.hid ht1
  clear ht0 ht1
  go_wp2_with fail
  generalize w6.heap.size + 1 = gm at H7 ⊢
  generalize w6.heap.size = gw at H7 ⊢
  generalize w5.heap.size = gb at H7 ⊢
  go_loopw [8, 55] (fun vv i wr => ∃ k a c H p q h m M, k ≤ l.length ∧ vv = .slice a 20 c ∧ i = .int .i64 (k : Nat) ∧ Hid (TS w g b gb gw gm (fun _ => False) k (.slice a 20 c) H t p p q h m M wr)) (fun _ i _ => l.length - (Go.RowKit.intOf i).toNat)
  case atStart => exact ⟨0, ah, ch, H, _, _, _, _, _, Nat.zero_le _, rfl, rfl, H7⟩
  case round =>
    clear H7 ht0' ht1'
    obtain ⟨k, a, c, H', p, q, h, m, M, hk, rfl, rfl, hS⟩ := hrel
    by_cases hlt : k < l.length
    · have hI : (k : Int) < l.length := by omega
      obtain ⟨gp, op, rfl, hok, c0, c1, c2, c3, c4, c5⟩ := RdX.at HL.out hS.out.below hlt
      have HOk := Lib.hid hok
      have HLt := Lib.hid (show k < l.length ∧ k ≤ 60 by have := HM.out; omega)
      clear hk hok
      generalize l[k] = x at *
      obtain ⟨what, at_, xn, text, two, raw⟩ := x
      simp only at c0 c1 c2 c3 c4 c5 HOk
      obtain ⟨Y, hY⟩ : ∃ Y, Y = wr.alloc (.cells #[.int .i64 what, .int .i64 at_, .int .i64 xn, .string text, .bool two, .bool raw] 43) := ⟨_, rfl⟩
      have HY := Lib.hid (show TS w g b gb gw gm (fun x => x = wr.heap.size) k (.slice a 20 c) H' t p p q h m M Y ∧ Blk Y wr.heap.size 43 [.int .i64 what, .int .i64 at_, .int .i64 xn, .string text, .bool two, .bool raw] by
        rw [hY]
        exact ⟨hS.out.hold ((Below.refl _ wr).alloc (Nat.le_refl _) _) (fun x hx => .inr ⟨Nat.le_of_eq hx.symm, by rw [hx]; simp⟩), Blk.new wr #[.int .i64 what, .int .i64 at_, .int .i64 xn, .string text, .bool two, .bool raw] 43⟩)
      have HYY := Lib.hid hY
      have y0 := HY.out.2.cell (j := 0) rfl
      have y1 := HY.out.2.cell (j := 1) rfl
      have y2 := HY.out.2.cell (j := 2) rfl
      have y3 := HY.out.2.cell (j := 3) rfl
      have y4 := HY.out.2.cell (j := 4) rfl
      have y5 := HY.out.2.cell (j := 5) rfl
      clear hY hlt
      by_cases ht : text.size ≤ 600
      · have htI : (text.size : Int) ≤ 600 := by omega
        have HT := Lib.hid ht
        clear ht
        cases two
        · have hkk : 0 < 2 := by decide
          clear hkk
          obtain ⟨z0, z1, z2⟩ := HY.out.1.cells (k := 0) (by decide)
          obtain ⟨z3, z4, z5, z6⟩ := HY.out.1.want (k := 0) (by decide)
          unfold ptr at z0
          obtain ⟨_, _, _, hh0⟩ := HY.out.1.home0 (j := 0) (by decide)
          rw [hh0] at z3
          obtain ⟨Z, hZ⟩ : ∃ Z, Z = Y.setCell ⟨gw, 0, none⟩ (.slice a 20 c) := ⟨_, rfl⟩
          obtain ⟨HH, hHH⟩ : ∃ HH, HH = upd h 0 (.slice a 20 c) := ⟨_, rfl⟩
          have HHk := Lib.hid (show HH 0 = .slice a 20 c by rw [hHH]; exact upd_here _ _ _)
          have HZ := Lib.hid (show TS w g b gb gw gm (fun x => x = wr.heap.size) k (.slice a 20 c) H' t p p q HH m M Z ∧ Blk Z wr.heap.size 43 [.int .i64 what, .int .i64 at_, .int .i64 xn, .string text, .bool false, .bool raw] by
            rw [hZ, hHH]
            exact ⟨HY.out.1.home (k := 0) (by decide) ⟨_, _, _, rfl⟩, HY.out.2.but ((But.refl (fun x => x = gw) Y).setCell ⟨gw, 0, none⟩ (.slice a 20 c) (fun _ => rfl)) (fun e => by have := hS.out.boxes.2.1; omega)⟩)
          have HZZ := Lib.hid hZ
          have y3' := HZ.out.2.cell (j := 3) rfl
          have y0' := HZ.out.2.cell (j := 0) rfl
          rw [hZ, HYY.out] at y3' y0'
          rw [HYY.out] at z0 z3
          have z6' := z6 0
          rw [HYY.out] at z6'
          simp only [Nat.mul_zero] at z3 z6' y3' y0'
          clear hZ y0 y1 y2 y3 y4 y5 z1 z2 z4 z5 z6 hHH hh0
          go_upto_block 2 with fail
          rw [← HYY.out, ← HZZ.out]
          clear y3' y0' z0 z3 z6'
          have b0 := HZ.out.2.cell (j := 0) rfl
          have b1 := HZ.out.2.cell (j := 1) rfl
          have b2 := HZ.out.2.cell (j := 2) rfl
          have b3 := HZ.out.2.cell (j := 3) rfl
          have b5 := HZ.out.2.cell (j := 5) rfl
          go_cut [8] (fun vv wx => ∃ a c H' p q h m M, vv = .slice a 20 c ∧ Hid (TS w g b gb gw gm (fun _ => False) (k + 1) (.slice a 20 c) H' t p p q h m M wx))
          case first =>
            clear c0 c1 c2 c3 c4 c5
            obtain ⟨aq, cq, hq⟩ := HZ.out.1.qlen (j := 0) (by decide)
            have HQk := Lib.hid hq
            clear hq
            by_cases h0 : what = 0
            · rename_i z1 z2 z3 z4 z5 z6 z7 z8 z9 z10 z11 z12 z13 z14 z15 z16 z17
              revert w l cl z1 w1 H1 HM j1 z2 w2 g FD w3 b H w4 ta Ta w5 tb Tb w6 ah ch t z3 z4 gm gw gb wr u2 u12 u13 u14 u15 u16 u17 u18 u19 u20 u21 u22 u23 u24 u25 u26 u27 u56 u57 u58 u59 u60 u61 u62 u63 u64 u65 u66 u67 u68 u69 u70 u71 u72 u73 u74 u75 u76 u77 u78 u79 u80 u81 u82 u83 u84 u85 u86 u87 u88 u89 u90 u91 u92 u93 u94 u95 u96 u97 u98 u99 u100 u101 u102 u103 u104 u105 u106 u107 u108 u109 u110 u111 u112 u113 u114 u115 u116 u117 u118 u119 u120 u121 u122 u123 u124 u125 u126 u127 u128 u129 u130 u131 u132 u133 u134 u135 u136 u137 u138 u139 u140 u141 u142 u143 u144 u145 u146 u147 u148 u149 u150 u151 u152 u153 u154 u155 u156 u157 u158 u159 u160 u161 u162 u163 u164 u165 u166 u167 u168 u169 u170 u171 u172 u173 u174 u175 u176 u177 u178 u179 u180 u181 u182 u183 u184 u185 u186 u187 u188 u189 u190 u191 u192 u193 u194 u195 u196 u197 u198 u199 u200 u201 u202 u203 u204 u205 u206 u207 u208 u209 u210 u211 u212 u213 u214 u215 u216 u217 u218 u219 u220 u221 u222 u223 u224 u225 u226 u227 u228 u229 u230 u231 u232 u233 u234 u235 u236 u237 u238 u239 u240 u241 u242 u243 u244 u245 u246 u247 u248 u249 k a c H' p q h m M hS hI gp op HL HLt what at_ xn text raw Y htI HT HOk HY HYY z5 z6 z7 Z HH HHk HZ HZZ z8 z9 z10 z11 z12 z13 b0 b1 b2 b3 b5 z14 z15 z16 z17 aq cq HQk h0
              refine tx_id ?_ cs
              as_aux_lemma => exact id
            by_cases h1 : what = 1
            · rename_i z1 z2 z3 z4 z5 z6 z7 z8 z9 z10 z11 z12 z13 z14 z15 z16 z17
              revert w l cl z1 w1 H1 HM j1 z2 w2 g FD w3 b H w4 ta Ta w5 tb Tb w6 ah ch t z3 z4 gm gw gb wr u2 u12 u13 u14 u15 u16 u17 u18 u19 u20 u21 u22 u23 u24 u25 u26 u27 u56 u57 u58 u59 u60 u61 u62 u63 u64 u65 u66 u67 u68 u69 u70 u71 u72 u73 u74 u75 u76 u77 u78 u79 u80 u81 u82 u83 u84 u85 u86 u87 u88 u89 u90 u91 u92 u93 u94 u95 u96 u97 u98 u99 u100 u101 u102 u103 u104 u105 u106 u107 u108 u109 u110 u111 u112 u113 u114 u115 u116 u117 u118 u119 u120 u121 u122 u123 u124 u125 u126 u127 u128 u129 u130 u131 u132 u133 u134 u135 u136 u137 u138 u139 u140 u141 u142 u143 u144 u145 u146 u147 u148 u149 u150 u151 u152 u153 u154 u155 u156 u157 u158 u159 u160 u161 u162 u163 u164 u165 u166 u167 u168 u169 u170 u171 u172 u173 u174 u175 u176 u177 u178 u179 u180 u181 u182 u183 u184 u185 u186 u187 u188 u189 u190 u191 u192 u193 u194 u195 u196 u197 u198 u199 u200 u201 u202 u203 u204 u205 u206 u207 u208 u209 u210 u211 u212 u213 u214 u215 u216 u217 u218 u219 u220 u221 u222 u223 u224 u225 u226 u227 u228 u229 u230 u231 u232 u233 u234 u235 u236 u237 u238 u239 u240 u241 u242 u243 u244 u245 u246 u247 u248 u249 k a c H' p q h m M hS hI gp op HL HLt what at_ xn text raw Y htI HT HOk HY HYY z5 z6 z7 Z HH HHk HZ HZZ z8 z9 z10 z11 z12 z13 b0 b1 b2 b3 b5 z14 z15 z16 z17 aq cq HQk h0 h1
              refine tx_id ?_ cs
              as_aux_lemma => exact id
            by_cases h2 : what = 2
            · rename_i z1 z2 z3 z4 z5 z6 z7 z8 z9 z10 z11 z12 z13 z14 z15 z16 z17
              revert w l cl z1 w1 H1 HM j1 z2 w2 g FD w3 b H w4 ta Ta w5 tb Tb w6 ah ch t z3 z4 gm gw gb wr u2 u12 u13 u14 u15 u16 u17 u18 u19 u20 u21 u22 u23 u24 u25 u26 u27 u56 u57 u58 u59 u60 u61 u62 u63 u64 u65 u66 u67 u68 u69 u70 u71 u72 u73 u74 u75 u76 u77 u78 u79 u80 u81 u82 u83 u84 u85 u86 u87 u88 u89 u90 u91 u92 u93 u94 u95 u96 u97 u98 u99 u100 u101 u102 u103 u104 u105 u106 u107 u108 u109 u110 u111 u112 u113 u114 u115 u116 u117 u118 u119 u120 u121 u122 u123 u124 u125 u126 u127 u128 u129 u130 u131 u132 u133 u134 u135 u136 u137 u138 u139 u140 u141 u142 u143 u144 u145 u146 u147 u148 u149 u150 u151 u152 u153 u154 u155 u156 u157 u158 u159 u160 u161 u162 u163 u164 u165 u166 u167 u168 u169 u170 u171 u172 u173 u174 u175 u176 u177 u178 u179 u180 u181 u182 u183 u184 u185 u186 u187 u188 u189 u190 u191 u192 u193 u194 u195 u196 u197 u198 u199 u200 u201 u202 u203 u204 u205 u206 u207 u208 u209 u210 u211 u212 u213 u214 u215 u216 u217 u218 u219 u220 u221 u222 u223 u224 u225 u226 u227 u228 u229 u230 u231 u232 u233 u234 u235 u236 u237 u238 u239 u240 u241 u242 u243 u244 u245 u246 u247 u248 u249 k a c H' p q h m M hS hI gp op HL HLt what at_ xn text raw Y htI HT HOk HY HYY z5 z6 z7 Z HH HHk HZ HZZ z8 z9 z10 z11 z12 z13 b0 b1 b2 b3 b5 z14 z15 z16 z17 aq cq HQk h0 h1 h2
              refine tx_id ?_ cs
              as_aux_lemma => exact id
            by_cases h3 : what = 3
            · rename_i z1 z2 z3 z4 z5 z6 z7 z8 z9 z10 z11 z12 z13 z14 z15 z16 z17
              revert w l cl z1 w1 H1 HM j1 z2 w2 g FD w3 b H w4 ta Ta w5 tb Tb w6 ah ch t z3 z4 gm gw gb wr u2 u12 u13 u14 u15 u16 u17 u18 u19 u20 u21 u22 u23 u24 u25 u26 u27 u56 u57 u58 u59 u60 u61 u62 u63 u64 u65 u66 u67 u68 u69 u70 u71 u72 u73 u74 u75 u76 u77 u78 u79 u80 u81 u82 u83 u84 u85 u86 u87 u88 u89 u90 u91 u92 u93 u94 u95 u96 u97 u98 u99 u100 u101 u102 u103 u104 u105 u106 u107 u108 u109 u110 u111 u112 u113 u114 u115 u116 u117 u118 u119 u120 u121 u122 u123 u124 u125 u126 u127 u128 u129 u130 u131 u132 u133 u134 u135 u136 u137 u138 u139 u140 u141 u142 u143 u144 u145 u146 u147 u148 u149 u150 u151 u152 u153 u154 u155 u156 u157 u158 u159 u160 u161 u162 u163 u164 u165 u166 u167 u168 u169 u170 u171 u172 u173 u174 u175 u176 u177 u178 u179 u180 u181 u182 u183 u184 u185 u186 u187 u188 u189 u190 u191 u192 u193 u194 u195 u196 u197 u198 u199 u200 u201 u202 u203 u204 u205 u206 u207 u208 u209 u210 u211 u212 u213 u214 u215 u216 u217 u218 u219 u220 u221 u222 u223 u224 u225 u226 u227 u228 u229 u230 u231 u232 u233 u234 u235 u236 u237 u238 u239 u240 u241 u242 u243 u244 u245 u246 u247 u248 u249 k a c H' p q h m M hS hI gp op HL HLt what at_ xn text raw Y htI HT HOk HY HYY z5 z6 z7 Z HH HHk HZ HZZ z8 z9 z10 z11 z12 z13 b0 b1 b2 b3 b5 z14 z15 z16 z17 aq cq HQk h0 h1 h2 h3
              refine tx_id ?_ cs
              as_aux_lemma => exact id
            by_cases h4 : what = 4
            · rename_i z1 z2 z3 z4 z5 z6 z7 z8 z9 z10 z11 z12 z13 z14 z15 z16 z17
              revert w l cl z1 w1 H1 HM j1 z2 w2 g FD w3 b H w4 ta Ta w5 tb Tb w6 ah ch t z3 z4 gm gw gb wr u2 u12 u13 u14 u15 u16 u17 u18 u19 u20 u21 u22 u23 u24 u25 u26 u27 u56 u57 u58 u59 u60 u61 u62 u63 u64 u65 u66 u67 u68 u69 u70 u71 u72 u73 u74 u75 u76 u77 u78 u79 u80 u81 u82 u83 u84 u85 u86 u87 u88 u89 u90 u91 u92 u93 u94 u95 u96 u97 u98 u99 u100 u101 u102 u103 u104 u105 u106 u107 u108 u109 u110 u111 u112 u113 u114 u115 u116 u117 u118 u119 u120 u121 u122 u123 u124 u125 u126 u127 u128 u129 u130 u131 u132 u133 u134 u135 u136 u137 u138 u139 u140 u141 u142 u143 u144 u145 u146 u147 u148 u149 u150 u151 u152 u153 u154 u155 u156 u157 u158 u159 u160 u161 u162 u163 u164 u165 u166 u167 u168 u169 u170 u171 u172 u173 u174 u175 u176 u177 u178 u179 u180 u181 u182 u183 u184 u185 u186 u187 u188 u189 u190 u191 u192 u193 u194 u195 u196 u197 u198 u199 u200 u201 u202 u203 u204 u205 u206 u207 u208 u209 u210 u211 u212 u213 u214 u215 u216 u217 u218 u219 u220 u221 u222 u223 u224 u225 u226 u227 u228 u229 u230 u231 u232 u233 u234 u235 u236 u237 u238 u239 u240 u241 u242 u243 u244 u245 u246 u247 u248 u249 k a c H' p q h m M hS hI gp op HL HLt what at_ xn text raw Y htI HT HOk HY HYY z5 z6 z7 Z HH HHk HZ HZZ z8 z9 z10 z11 z12 z13 b0 b1 b2 b3 b5 z14 z15 z16 z17 aq cq HQk h0 h1 h2 h3 h4
              refine tx_id ?_ cs
              as_aux_lemma => exact id
            by_cases h5 : what = 5
            · rename_i z1 z2 z3 z4 z5 z6 z7 z8 z9 z10 z11 z12 z13 z14 z15 z16 z17
              revert w l cl z1 w1 H1 HM j1 z2 w2 g FD w3 b H w4 ta Ta w5 tb Tb w6 ah ch t z3 z4 gm gw gb wr u2 u12 u13 u14 u15 u16 u17 u18 u19 u20 u21 u22 u23 u24 u25 u26 u27 u56 u57 u58 u59 u60 u61 u62 u63 u64 u65 u66 u67 u68 u69 u70 u71 u72 u73 u74 u75 u76 u77 u78 u79 u80 u81 u82 u83 u84 u85 u86 u87 u88 u89 u90 u91 u92 u93 u94 u95 u96 u97 u98 u99 u100 u101 u102 u103 u104 u105 u106 u107 u108 u109 u110 u111 u112 u113 u114 u115 u116 u117 u118 u119 u120 u121 u122 u123 u124 u125 u126 u127 u128 u129 u130 u131 u132 u133 u134 u135 u136 u137 u138 u139 u140 u141 u142 u143 u144 u145 u146 u147 u148 u149 u150 u151 u152 u153 u154 u155 u156 u157 u158 u159 u160 u161 u162 u163 u164 u165 u166 u167 u168 u169 u170 u171 u172 u173 u174 u175 u176 u177 u178 u179 u180 u181 u182 u183 u184 u185 u186 u187 u188 u189 u190 u191 u192 u193 u194 u195 u196 u197 u198 u199 u200 u201 u202 u203 u204 u205 u206 u207 u208 u209 u210 u211 u212 u213 u214 u215 u216 u217 u218 u219 u220 u221 u222 u223 u224 u225 u226 u227 u228 u229 u230 u231 u232 u233 u234 u235 u236 u237 u238 u239 u240 u241 u242 u243 u244 u245 u246 u247 u248 u249 k a c H' p q h m M hS hI gp op HL HLt what at_ xn text raw Y htI HT HOk HY HYY z5 z6 z7 Z HH HHk HZ HZZ z8 z9 z10 z11 z12 z13 b0 b1 b2 b3 b5 z14 z15 z16 z17 aq cq HQk h0 h1 h2 h3 h4 h5
              refine tx_id ?_ cs
              as_aux_lemma => exact id
            · rename_i z1 z2 z3 z4 z5 z6 z7 z8 z9 z10 z11 z12 z13 z14 z15 z16 z17
              revert w l cl z1 w1 H1 HM j1 z2 w2 g FD w3 b H w4 ta Ta w5 tb Tb w6 ah ch t z3 z4 gm gw gb wr u2 u12 u13 u14 u15 u16 u17 u18 u19 u20 u21 u22 u23 u24 u25 u26 u27 u56 u57 u58 u59 u60 u61 u62 u63 u64 u65 u66 u67 u68 u69 u70 u71 u72 u73 u74 u75 u76 u77 u78 u79 u80 u81 u82 u83 u84 u85 u86 u87 u88 u89 u90 u91 u92 u93 u94 u95 u96 u97 u98 u99 u100 u101 u102 u103 u104 u105 u106 u107 u108 u109 u110 u111 u112 u113 u114 u115 u116 u117 u118 u119 u120 u121 u122 u123 u124 u125 u126 u127 u128 u129 u130 u131 u132 u133 u134 u135 u136 u137 u138 u139 u140 u141 u142 u143 u144 u145 u146 u147 u148 u149 u150 u151 u152 u153 u154 u155 u156 u157 u158 u159 u160 u161 u162 u163 u164 u165 u166 u167 u168 u169 u170 u171 u172 u173 u174 u175 u176 u177 u178 u179 u180 u181 u182 u183 u184 u185 u186 u187 u188 u189 u190 u191 u192 u193 u194 u195 u196 u197 u198 u199 u200 u201 u202 u203 u204 u205 u206 u207 u208 u209 u210 u211 u212 u213 u214 u215 u216 u217 u218 u219 u220 u221 u222 u223 u224 u225 u226 u227 u228 u229 u230 u231 u232 u233 u234 u235 u236 u237 u238 u239 u240 u241 u242 u243 u244 u245 u246 u247 u248 u249 k a c H' p q h m M hS hI gp op HL HLt what at_ xn text raw Y htI HT HOk HY HYY z5 z6 z7 Z HH HHk HZ HZZ z8 z9 z10 z11 z12 z13 b0 b1 b2 b3 b5 z14 z15 z16 z17 aq cq HQk h0 h1 h2 h3 h4 h5
              refine tx_id ?_ cs
              as_aux_lemma => exact id
          case rest =>
            rename_i z1 z2 z3 z4 z5 z6 z7 z8 z9 z10 z11 z12 z13 z14 z15 z16 z17 z18 z19 z20 z21 z22 z23 z24 z25 z26 z27 z28 z29 z30 z31 z32 z33 z34 z35 z36 z37 z38 z39 z40 z41 z42 z43 z44 z45 z46 z47 z48 z49 z50 z51 z52 z53 z54 z55 z56 z57 z58 z59 z60 z61 z62 z63 z64 z65 z66 z67 z68 z69 z70 z71 z72 z73 z74 z75 z76 z77 z78 z79 z80 z81 z82 z83 z84 z85 z86 z87 z88 z89 z90 z91 z92 z93 z94 z95 z96 z97 z98 z99 z100 z101 z102 z103 z104 z105 z106 z107 z108 z109 z110 z111 z112 z113 z114 z115 z116 z117 z118 z119 z120 z121 z122 z123 z124 z125 z126 z127 z128 z129 z130 z131 z132 z133 z134 z135 z136 z137 z138 z139 z140 z141 z142 z143 z144 z145 z146 z147 z148 z149 z150 z151 z152 z153 z154 z155 z156 z157 z158 z159 z160 z161 z162 z163 z164 z165 z166 z167 z168 z169 z170 z171 z172 z173 z174 z175 z176 z177 z178 z179 z180 z181 z182 z183 z184 z185 z186 z187 z188 z189 z190 z191 z192 z193 z194 z195 z196 z197 z198 z199 z200 z201 z202 z203 z204 z205 z206 z207 z208 z209 z210 z211 z212 z213
            revert w l cl z1 w1 H1 HM j1 z2 w2 g FD w3 b H w4 ta Ta w5 tb Tb w6 ah ch t z3 z4 gm gw gb wr z5 u12 u13 u14 z6 z7 z8 z9 z10 z11 z12 z13 z14 u24 u25 u26 u27 z15 z16 z17 z18 z19 z20 z21 z22 z23 z24 z25 z26 z27 z28 z29 z30 z31 u73 z32 z33 z34 z35 z36 z37 z38 z39 z40 z41 z42 z43 z44 z45 z46 z47 z48 z49 z50 z51 z52 z53 z54 z55 z56 z57 z58 z59 z60 z61 z62 z63 z64 z65 z66 z67 z68 z69 z70 z71 z72 z73 z74 z75 z76 z77 z78 z79 z80 z81 z82 z83 z84 z85 z86 z87 z88 z89 z90 z91 z92 z93 z94 z95 z96 z97 z98 z99 z100 z101 z102 z103 z104 z105 z106 z107 z108 z109 z110 z111 z112 z113 z114 z115 z116 z117 z118 z119 z120 z121 z122 z123 z124 z125 z126 z127 z128 z129 z130 z131 z132 z133 z134 z135 z136 z137 z138 z139 z140 z141 z142 z143 z144 z145 z146 z147 z148 z149 z150 z151 z152 z153 z154 z155 z156 z157 z158 z159 z160 z161 z162 z163 z164 z165 z166 z167 z168 z169 z170 z171 z172 z173 z174 z175 z176 z177 z178 z179 z180 z181 z182 z183 z184 z185 u228 u229 u230 z186 z187 z188 z189 z190 z191 z192 z193 z194 z195 z196 z197 z198 z199 z200 z201 z202 z203 z204 k a c H' p q h m M hS hI gp op HL HLt what at_ xn text raw c0 c1 c2 c3 c5 Y htI HT c4 HOk HY HYY z205 z206 z207 Z HH HHk HZ HZZ z208 z209 z210 z211 z212 z213 b0 b1 b2 b3 b5 wc u2 u8 u15 u16 u17 u18 u19 u20 u21 u22 u23 u56 u57 u58 u59 u60 u61 u62 u63 u64 u65 u66 u67 u68 u69 u70 u71 u72 u74 u75 u76 u77 u78 u79 u80 u81 u82 u83 u84 u85 u86 u87 u88 u89 u90 u91 u92 u93 u94 u95 u96 u97 u98 u99 u100 u101 u102 u103 u104 u105 u106 u107 u108 u109 u110 u111 u112 u113 u114 u115 u116 u117 u118 u119 u120 u121 u122 u123 u124 u125 u126 u127 u128 u129 u130 u131 u132 u133 u134 u135 u136 u137 u138 u139 u140 u141 u142 u143 u144 u145 u146 u147 u148 u149 u150 u151 u152 u153 u154 u155 u156 u157 u158 u159 u160 u161 u162 u163 u164 u165 u166 u167 u168 u169 u170 u171 u172 u173 u174 u175 u176 u177 u178 u179 u180 u181 u182 u183 u184 u185 u186 u187 u188 u189 u190 u191 u192 u193 u194 u195 u196 u197 u198 u199 u200 u201 u202 u203 u204 u205 u206 u207 u208 u209 u210 u211 u212 u213 u214 u215 u216 u217 u218 u219 u220 u221 u222 u223 u224 u225 u226 u227 u231 u232 u233 u234 u235 u236 u237 u238 u239 u240 u241 u242 u243 u244 u245 u246 u247 u248 u249 hcut
            refine tx_id ?_ cs
            as_aux_lemma => exact id
        · have hkk : 1 < 2 := by decide
          clear hkk
          obtain ⟨z0, z1, z2⟩ := HY.out.1.cells (k := 1) (by decide)
          obtain ⟨z3, z4, z5, z6⟩ := HY.out.1.want (k := 1) (by decide)
          unfold ptr at z0
          obtain ⟨_, _, _, hh0⟩ := HY.out.1.home0 (j := 1) (by decide)
          rw [hh0] at z3
          obtain ⟨Z, hZ⟩ : ∃ Z, Z = Y.setCell ⟨gw, 3, none⟩ (.slice a 20 c) := ⟨_, rfl⟩
          obtain ⟨HH, hHH⟩ : ∃ HH, HH = upd h 1 (.slice a 20 c) := ⟨_, rfl⟩
          have HHk := Lib.hid (show HH 1 = .slice a 20 c by rw [hHH]; exact upd_here _ _ _)
          have HZ := Lib.hid (show TS w g b gb gw gm (fun x => x = wr.heap.size) k (.slice a 20 c) H' t p p q HH m M Z ∧ Blk Z wr.heap.size 43 [.int .i64 what, .int .i64 at_, .int .i64 xn, .string text, .bool true, .bool raw] by
            rw [hZ, hHH]
            exact ⟨HY.out.1.home (k := 1) (by decide) ⟨_, _, _, rfl⟩, HY.out.2.but ((But.refl (fun x => x = gw) Y).setCell ⟨gw, 3, none⟩ (.slice a 20 c) (fun _ => rfl)) (fun e => by have := hS.out.boxes.2.1; omega)⟩)
          have HZZ := Lib.hid hZ
          have y3' := HZ.out.2.cell (j := 3) rfl
          have y0' := HZ.out.2.cell (j := 0) rfl
          rw [hZ, HYY.out] at y3' y0'
          rw [HYY.out] at z0 z3
          have z6' := z6 3
          rw [HYY.out] at z6'
          simp only [Nat.mul_one] at z3 z6' y3' y0'
          clear hZ y0 y1 y2 y3 y4 y5 z1 z2 z4 z5 z6 hHH hh0
          go_upto_block 2 with fail
          rw [← HYY.out, ← HZZ.out]
          clear y3' y0' z0 z3 z6'
          have b0 := HZ.out.2.cell (j := 0) rfl
          have b1 := HZ.out.2.cell (j := 1) rfl
          have b2 := HZ.out.2.cell (j := 2) rfl
          have b3 := HZ.out.2.cell (j := 3) rfl
          have b5 := HZ.out.2.cell (j := 5) rfl
          go_cut [8] (fun vv wx => ∃ a c H' p q h m M, vv = .slice a 20 c ∧ Hid (TS w g b gb gw gm (fun _ => False) (k + 1) (.slice a 20 c) H' t p p q h m M wx))
          case first =>
            clear c0 c1 c2 c3 c4 c5
            obtain ⟨aq, cq, hq⟩ := HZ.out.1.qlen (j := 1) (by decide)
            have HQk := Lib.hid hq
            clear hq
            by_cases h0 : what = 0
            · rename_i z1 z2 z3 z4 z5 z6 z7 z8 z9 z10 z11 z12 z13 z14 z15 z16 z17
              revert w l cl z1 w1 H1 HM j1 z2 w2 g FD w3 b H w4 ta Ta w5 tb Tb w6 ah ch t z3 z4 gm gw gb wr u2 u12 u13 u14 u15 u16 u17 u18 u19 u20 u21 u22 u23 u24 u25 u26 u27 u56 u57 u58 u59 u60 u61 u62 u63 u64 u65 u66 u67 u68 u69 u70 u71 u72 u73 u74 u75 u76 u77 u78 u79 u80 u81 u82 u83 u84 u85 u86 u87 u88 u89 u90 u91 u92 u93 u94 u95 u96 u97 u98 u99 u100 u101 u102 u103 u104 u105 u106 u107 u108 u109 u110 u111 u112 u113 u114 u115 u116 u117 u118 u119 u120 u121 u122 u123 u124 u125 u126 u127 u128 u129 u130 u131 u132 u133 u134 u135 u136 u137 u138 u139 u140 u141 u142 u143 u144 u145 u146 u147 u148 u149 u150 u151 u152 u153 u154 u155 u156 u157 u158 u159 u160 u161 u162 u163 u164 u165 u166 u167 u168 u169 u170 u171 u172 u173 u174 u175 u176 u177 u178 u179 u180 u181 u182 u183 u184 u185 u186 u187 u188 u189 u190 u191 u192 u193 u194 u195 u196 u197 u198 u199 u200 u201 u202 u203 u204 u205 u206 u207 u208 u209 u210 u211 u212 u213 u214 u215 u216 u217 u218 u219 u220 u221 u222 u223 u224 u225 u226 u227 u228 u229 u230 u231 u232 u233 u234 u235 u236 u237 u238 u239 u240 u241 u242 u243 u244 u245 u246 u247 u248 u249 k a c H' p q h m M hS hI gp op HL HLt what at_ xn text raw Y htI HT HOk HY HYY z5 z6 z7 Z HH HHk HZ HZZ z8 z9 z10 z11 z12 z13 b0 b1 b2 b3 b5 z14 z15 z16 z17 aq cq HQk h0
              refine tx_id ?_ cs
              as_aux_lemma => exact id
            by_cases h1 : what = 1
            · rename_i z1 z2 z3 z4 z5 z6 z7 z8 z9 z10 z11 z12 z13 z14 z15 z16 z17
              revert w l cl z1 w1 H1 HM j1 z2 w2 g FD w3 b H w4 ta Ta w5 tb Tb w6 ah ch t z3 z4 gm gw gb wr u2 u12 u13 u14 u15 u16 u17 u18 u19 u20 u21 u22 u23 u24 u25 u26 u27 u56 u57 u58 u59 u60 u61 u62 u63 u64 u65 u66 u67 u68 u69 u70 u71 u72 u73 u74 u75 u76 u77 u78 u79 u80 u81 u82 u83 u84 u85 u86 u87 u88 u89 u90 u91 u92 u93 u94 u95 u96 u97 u98 u99 u100 u101 u102 u103 u104 u105 u106 u107 u108 u109 u110 u111 u112 u113 u114 u115 u116 u117 u118 u119 u120 u121 u122 u123 u124 u125 u126 u127 u128 u129 u130 u131 u132 u133 u134 u135 u136 u137 u138 u139 u140 u141 u142 u143 u144 u145 u146 u147 u148 u149 u150 u151 u152 u153 u154 u155 u156 u157 u158 u159 u160 u161 u162 u163 u164 u165 u166 u167 u168 u169 u170 u171 u172 u173 u174 u175 u176 u177 u178 u179 u180 u181 u182 u183 u184 u185 u186 u187 u188 u189 u190 u191 u192 u193 u194 u195 u196 u197 u198 u199 u200 u201 u202 u203 u204 u205 u206 u207 u208 u209 u210 u211 u212 u213 u214 u215 u216 u217 u218 u219 u220 u221 u222 u223 u224 u225 u226 u227 u228 u229 u230 u231 u232 u233 u234 u235 u236 u237 u238 u239 u240 u241 u242 u243 u244 u245 u246 u247 u248 u249 k a c H' p q h m M hS hI gp op HL HLt what at_ xn text raw Y htI HT HOk HY HYY z5 z6 z7 Z HH HHk HZ HZZ z8 z9 z10 z11 z12 z13 b0 b1 b2 b3 b5 z14 z15 z16 z17 aq cq HQk h0 h1
              refine tx_id ?_ cs
              as_aux_lemma => exact id
            by_cases h2 : what = 2
            · rename_i z1 z2 z3 z4 z5 z6 z7 z8 z9 z10 z11 z12 z13 z14 z15 z16 z17
              revert w l cl z1 w1 H1 HM j1 z2 w2 g FD w3 b H w4 ta Ta w5 tb Tb w6 ah ch t z3 z4 gm gw gb wr u2 u12 u13 u14 u15 u16 u17 u18 u19 u20 u21 u22 u23 u24 u25 u26 u27 u56 u57 u58 u59 u60 u61 u62 u63 u64 u65 u66 u67 u68 u69 u70 u71 u72 u73 u74 u75 u76 u77 u78 u79 u80 u81 u82 u83 u84 u85 u86 u87 u88 u89 u90 u91 u92 u93 u94 u95 u96 u97 u98 u99 u100 u101 u102 u103 u104 u105 u106 u107 u108 u109 u110 u111 u112 u113 u114 u115 u116 u117 u118 u119 u120 u121 u122 u123 u124 u125 u126 u127 u128 u129 u130 u131 u132 u133 u134 u135 u136 u137 u138 u139 u140 u141 u142 u143 u144 u145 u146 u147 u148 u149 u150 u151 u152 u153 u154 u155 u156 u157 u158 u159 u160 u161 u162 u163 u164 u165 u166 u167 u168 u169 u170 u171 u172 u173 u174 u175 u176 u177 u178 u179 u180 u181 u182 u183 u184 u185 u186 u187 u188 u189 u190 u191 u192 u193 u194 u195 u196 u197 u198 u199 u200 u201 u202 u203 u204 u205 u206 u207 u208 u209 u210 u211 u212 u213 u214 u215 u216 u217 u218 u219 u220 u221 u222 u223 u224 u225 u226 u227 u228 u229 u230 u231 u232 u233 u234 u235 u236 u237 u238 u239 u240 u241 u242 u243 u244 u245 u246 u247 u248 u249 k a c H' p q h m M hS hI gp op HL HLt what at_ xn text raw Y htI HT HOk HY HYY z5 z6 z7 Z HH HHk HZ HZZ z8 z9 z10 z11 z12 z13 b0 b1 b2 b3 b5 z14 z15 z16 z17 aq cq HQk h0 h1 h2
              refine tx_id ?_ cs
              as_aux_lemma => exact id
            by_cases h3 : what = 3
            · rename_i z1 z2 z3 z4 z5 z6 z7 z8 z9 z10 z11 z12 z13 z14 z15 z16 z17
              revert w l cl z1 w1 H1 HM j1 z2 w2 g FD w3 b H w4 ta Ta w5 tb Tb w6 ah ch t z3 z4 gm gw gb wr u2 u12 u13 u14 u15 u16 u17 u18 u19 u20 u21 u22 u23 u24 u25 u26 u27 u56 u57 u58 u59 u60 u61 u62 u63 u64 u65 u66 u67 u68 u69 u70 u71 u72 u73 u74 u75 u76 u77 u78 u79 u80 u81 u82 u83 u84 u85 u86 u87 u88 u89 u90 u91 u92 u93 u94 u95 u96 u97 u98 u99 u100 u101 u102 u103 u104 u105 u106 u107 u108 u109 u110 u111 u112 u113 u114 u115 u116 u117 u118 u119 u120 u121 u122 u123 u124 u125 u126 u127 u128 u129 u130 u131 u132 u133 u134 u135 u136 u137 u138 u139 u140 u141 u142 u143 u144 u145 u146 u147 u148 u149 u150 u151 u152 u153 u154 u155 u156 u157 u158 u159 u160 u161 u162 u163 u164 u165 u166 u167 u168 u169 u170 u171 u172 u173 u174 u175 u176 u177 u178 u179 u180 u181 u182 u183 u184 u185 u186 u187 u188 u189 u190 u191 u192 u193 u194 u195 u196 u197 u198 u199 u200 u201 u202 u203 u204 u205 u206 u207 u208 u209 u210 u211 u212 u213 u214 u215 u216 u217 u218 u219 u220 u221 u222 u223 u224 u225 u226 u227 u228 u229 u230 u231 u232 u233 u234 u235 u236 u237 u238 u239 u240 u241 u242 u243 u244 u245 u246 u247 u248 u249 k a c H' p q h m M hS hI gp op HL HLt what at_ xn text raw Y htI HT HOk HY HYY z5 z6 z7 Z HH HHk HZ HZZ z8 z9 z10 z11 z12 z13 b0 b1 b2 b3 b5 z14 z15 z16 z17 aq cq HQk h0 h1 h2 h3
              refine tx_id ?_ cs
              as_aux_lemma => exact id
            by_cases h4 : what = 4
            · rename_i z1 z2 z3 z4 z5 z6 z7 z8 z9 z10 z11 z12 z13 z14 z15 z16 z17
              revert w l cl z1 w1 H1 HM j1 z2 w2 g FD w3 b H w4 ta Ta w5 tb Tb w6 ah ch t z3 z4 gm gw gb wr u2 u12 u13 u14 u15 u16 u17 u18 u19 u20 u21 u22 u23 u24 u25 u26 u27 u56 u57 u58 u59 u60 u61 u62 u63 u64 u65 u66 u67 u68 u69 u70 u71 u72 u73 u74 u75 u76 u77 u78 u79 u80 u81 u82 u83 u84 u85 u86 u87 u88 u89 u90 u91 u92 u93 u94 u95 u96 u97 u98 u99 u100 u101 u102 u103 u104 u105 u106 u107 u108 u109 u110 u111 u112 u113 u114 u115 u116 u117 u118 u119 u120 u121 u122 u123 u124 u125 u126 u127 u128 u129 u130 u131 u132 u133 u134 u135 u136 u137 u138 u139 u140 u141 u142 u143 u144 u145 u146 u147 u148 u149 u150 u151 u152 u153 u154 u155 u156 u157 u158 u159 u160 u161 u162 u163 u164 u165 u166 u167 u168 u169 u170 u171 u172 u173 u174 u175 u176 u177 u178 u179 u180 u181 u182 u183 u184 u185 u186 u187 u188 u189 u190 u191 u192 u193 u194 u195 u196 u197 u198 u199 u200 u201 u202 u203 u204 u205 u206 u207 u208 u209 u210 u211 u212 u213 u214 u215 u216 u217 u218 u219 u220 u221 u222 u223 u224 u225 u226 u227 u228 u229 u230 u231 u232 u233 u234 u235 u236 u237 u238 u239 u240 u241 u242 u243 u244 u245 u246 u247 u248 u249 k a c H' p q h m M hS hI gp op HL HLt what at_ xn text raw Y htI HT HOk HY HYY z5 z6 z7 Z HH HHk HZ HZZ z8 z9 z10 z11 z12 z13 b0 b1 b2 b3 b5 z14 z15 z16 z17 aq cq HQk h0 h1 h2 h3 h4
              refine tx_id ?_ cs
              as_aux_lemma => exact id
            by_cases h5 : what = 5
            · rename_i z1 z2 z3 z4 z5 z6 z7 z8 z9 z10 z11 z12 z13 z14 z15 z16 z17
              revert w l cl z1 w1 H1 HM j1 z2 w2 g FD w3 b H w4 ta Ta w5 tb Tb w6 ah ch t z3 z4 gm gw gb wr u2 u12 u13 u14 u15 u16 u17 u18 u19 u20 u21 u22 u23 u24 u25 u26 u27 u56 u57 u58 u59 u60 u61 u62 u63 u64 u65 u66 u67 u68 u69 u70 u71 u72 u73 u74 u75 u76 u77 u78 u79 u80 u81 u82 u83 u84 u85 u86 u87 u88 u89 u90 u91 u92 u93 u94 u95 u96 u97 u98 u99 u100 u101 u102 u103 u104 u105 u106 u107 u108 u109 u110 u111 u112 u113 u114 u115 u116 u117 u118 u119 u120 u121 u122 u123 u124 u125 u126 u127 u128 u129 u130 u131 u132 u133 u134 u135 u136 u137 u138 u139 u140 u141 u142 u143 u144 u145 u146 u147 u148 u149 u150 u151 u152 u153 u154 u155 u156 u157 u158 u159 u160 u161 u162 u163 u164 u165 u166 u167 u168 u169 u170 u171 u172 u173 u174 u175 u176 u177 u178 u179 u180 u181 u182 u183 u184 u185 u186 u187 u188 u189 u190 u191 u192 u193 u194 u195 u196 u197 u198 u199 u200 u201 u202 u203 u204 u205 u206 u207 u208 u209 u210 u211 u212 u213 u214 u215 u216 u217 u218 u219 u220 u221 u222 u223 u224 u225 u226 u227 u228 u229 u230 u231 u232 u233 u234 u235 u236 u237 u238 u239 u240 u241 u242 u243 u244 u245 u246 u247 u248 u249 k a c H' p q h m M hS hI gp op HL HLt what at_ xn text raw Y htI HT HOk HY HYY z5 z6 z7 Z HH HHk HZ HZZ z8 z9 z10 z11 z12 z13 b0 b1 b2 b3 b5 z14 z15 z16 z17 aq cq HQk h0 h1 h2 h3 h4 h5
              refine tx_id ?_ cs
              as_aux_lemma => exact id
            · rename_i z1 z2 z3 z4 z5 z6 z7 z8 z9 z10 z11 z12 z13 z14 z15 z16 z17
              revert w l cl z1 w1 H1 HM j1 z2 w2 g FD w3 b H w4 ta Ta w5 tb Tb w6 ah ch t z3 z4 gm gw gb wr u2 u12 u13 u14 u15 u16 u17 u18 u19 u20 u21 u22 u23 u24 u25 u26 u27 u56 u57 u58 u59 u60 u61 u62 u63 u64 u65 u66 u67 u68 u69 u70 u71 u72 u73 u74 u75 u76 u77 u78 u79 u80 u81 u82 u83 u84 u85 u86 u87 u88 u89 u90 u91 u92 u93 u94 u95 u96 u97 u98 u99 u100 u101 u102 u103 u104 u105 u106 u107 u108 u109 u110 u111 u112 u113 u114 u115 u116 u117 u118 u119 u120 u121 u122 u123 u124 u125 u126 u127 u128 u129 u130 u131 u132 u133 u134 u135 u136 u137 u138 u139 u140 u141 u142 u143 u144 u145 u146 u147 u148 u149 u150 u151 u152 u153 u154 u155 u156 u157 u158 u159 u160 u161 u162 u163 u164 u165 u166 u167 u168 u169 u170 u171 u172 u173 u174 u175 u176 u177 u178 u179 u180 u181 u182 u183 u184 u185 u186 u187 u188 u189 u190 u191 u192 u193 u194 u195 u196 u197 u198 u199 u200 u201 u202 u203 u204 u205 u206 u207 u208 u209 u210 u211 u212 u213 u214 u215 u216 u217 u218 u219 u220 u221 u222 u223 u224 u225 u226 u227 u228 u229 u230 u231 u232 u233 u234 u235 u236 u237 u238 u239 u240 u241 u242 u243 u244 u245 u246 u247 u248 u249 k a c H' p q h m M hS hI gp op HL HLt what at_ xn text raw Y htI HT HOk HY HYY z5 z6 z7 Z HH HHk HZ HZZ z8 z9 z10 z11 z12 z13 b0 b1 b2 b3 b5 z14 z15 z16 z17 aq cq HQk h0 h1 h2 h3 h4 h5
              refine tx_id ?_ cs
              as_aux_lemma => exact id
          case rest =>
            rename_i z1 z2 z3 z4 z5 z6 z7 z8 z9 z10 z11 z12 z13 z14 z15 z16 z17 z18 z19 z20 z21 z22 z23 z24 z25 z26 z27 z28 z29 z30 z31 z32 z33 z34 z35 z36 z37 z38 z39 z40 z41 z42 z43 z44 z45 z46 z47 z48 z49 z50 z51 z52 z53 z54 z55 z56 z57 z58 z59 z60 z61 z62 z63 z64 z65 z66 z67 z68 z69 z70 z71 z72 z73 z74 z75 z76 z77 z78 z79 z80 z81 z82 z83 z84 z85 z86 z87 z88 z89 z90 z91 z92 z93 z94 z95 z96 z97 z98 z99 z100 z101 z102 z103 z104 z105 z106 z107 z108 z109 z110 z111 z112 z113 z114 z115 z116 z117 z118 z119 z120 z121 z122 z123 z124 z125 z126 z127 z128 z129 z130 z131 z132 z133 z134 z135 z136 z137 z138 z139 z140 z141 z142 z143 z144 z145 z146 z147 z148 z149 z150 z151 z152 z153 z154 z155 z156 z157 z158 z159 z160 z161 z162 z163 z164 z165 z166 z167 z168 z169 z170 z171 z172 z173 z174 z175 z176 z177 z178 z179 z180 z181 z182 z183 z184 z185 z186 z187 z188 z189 z190 z191 z192 z193 z194 z195 z196 z197 z198 z199 z200 z201 z202 z203 z204 z205 z206 z207 z208 z209 z210 z211 z212 z213
            revert w l cl z1 w1 H1 HM j1 z2 w2 g FD w3 b H w4 ta Ta w5 tb Tb w6 ah ch t z3 z4 gm gw gb wr z5 u12 u13 u14 z6 z7 z8 z9 z10 z11 z12 z13 z14 u24 u25 u26 u27 z15 z16 z17 z18 z19 z20 z21 z22 z23 z24 z25 z26 z27 z28 z29 z30 z31 u73 z32 z33 z34 z35 z36 z37 z38 z39 z40 z41 z42 z43 z44 z45 z46 z47 z48 z49 z50 z51 z52 z53 z54 z55 z56 z57 z58 z59 z60 z61 z62 z63 z64 z65 z66 z67 z68 z69 z70 z71 z72 z73 z74 z75 z76 z77 z78 z79 z80 z81 z82 z83 z84 z85 z86 z87 z88 z89 z90 z91 z92 z93 z94 z95 z96 z97 z98 z99 z100 z101 z102 z103 z104 z105 z106 z107 z108 z109 z110 z111 z112 z113 z114 z115 z116 z117 z118 z119 z120 z121 z122 z123 z124 z125 z126 z127 z128 z129 z130 z131 z132 z133 z134 z135 z136 z137 z138 z139 z140 z141 z142 z143 z144 z145 z146 z147 z148 z149 z150 z151 z152 z153 z154 z155 z156 z157 z158 z159 z160 z161 z162 z163 z164 z165 z166 z167 z168 z169 z170 z171 z172 z173 z174 z175 z176 z177 z178 z179 z180 z181 z182 z183 z184 z185 u228 u229 u230 z186 z187 z188 z189 z190 z191 z192 z193 z194 z195 z196 z197 z198 z199 z200 z201 z202 z203 z204 k a c H' p q h m M hS hI gp op HL HLt what at_ xn text raw c0 c1 c2 c3 c5 Y htI HT c4 HOk HY HYY z205 z206 z207 Z HH HHk HZ HZZ z208 z209 z210 z211 z212 z213 b0 b1 b2 b3 b5 wc u2 u8 u15 u16 u17 u18 u19 u20 u21 u22 u23 u56 u57 u58 u59 u60 u61 u62 u63 u64 u65 u66 u67 u68 u69 u70 u71 u72 u74 u75 u76 u77 u78 u79 u80 u81 u82 u83 u84 u85 u86 u87 u88 u89 u90 u91 u92 u93 u94 u95 u96 u97 u98 u99 u100 u101 u102 u103 u104 u105 u106 u107 u108 u109 u110 u111 u112 u113 u114 u115 u116 u117 u118 u119 u120 u121 u122 u123 u124 u125 u126 u127 u128 u129 u130 u131 u132 u133 u134 u135 u136 u137 u138 u139 u140 u141 u142 u143 u144 u145 u146 u147 u148 u149 u150 u151 u152 u153 u154 u155 u156 u157 u158 u159 u160 u161 u162 u163 u164 u165 u166 u167 u168 u169 u170 u171 u172 u173 u174 u175 u176 u177 u178 u179 u180 u181 u182 u183 u184 u185 u186 u187 u188 u189 u190 u191 u192 u193 u194 u195 u196 u197 u198 u199 u200 u201 u202 u203 u204 u205 u206 u207 u208 u209 u210 u211 u212 u213 u214 u215 u216 u217 u218 u219 u220 u221 u222 u223 u224 u225 u226 u227 u231 u232 u233 u234 u235 u236 u237 u238 u239 u240 u241 u242 u243 u244 u245 u246 u247 u248 u249 hcut
            refine tx_id ?_ cs
            as_aux_lemma => exact id
      · have htI : (text.size : Int) > 600 := by omega
        clear ht
        cases two
        · have hkk : 0 < 2 := by decide
          clear hkk
          obtain ⟨z0, z1, z2⟩ := HY.out.1.cells (k := 0) (by decide)
          obtain ⟨z3, z4, z5, z6⟩ := HY.out.1.want (k := 0) (by decide)
          unfold ptr at z0
          obtain ⟨_, _, _, hh0⟩ := HY.out.1.home0 (j := 0) (by decide)
          rw [hh0] at z3
          obtain ⟨Z, hZ⟩ : ∃ Z, Z = Y.setCell ⟨gw, 0, none⟩ (.slice a 20 c) := ⟨_, rfl⟩
          obtain ⟨HH, hHH⟩ : ∃ HH, HH = upd h 0 (.slice a 20 c) := ⟨_, rfl⟩
          have HHk := Lib.hid (show HH 0 = .slice a 20 c by rw [hHH]; exact upd_here _ _ _)
          have HZ := Lib.hid (show TS w g b gb gw gm (fun x => x = wr.heap.size) k (.slice a 20 c) H' t p p q HH m M Z ∧ Blk Z wr.heap.size 43 [.int .i64 what, .int .i64 at_, .int .i64 xn, .string text, .bool false, .bool raw] by
            rw [hZ, hHH]
            exact ⟨HY.out.1.home (k := 0) (by decide) ⟨_, _, _, rfl⟩, HY.out.2.but ((But.refl (fun x => x = gw) Y).setCell ⟨gw, 0, none⟩ (.slice a 20 c) (fun _ => rfl)) (fun e => by have := hS.out.boxes.2.1; omega)⟩)
          have HZZ := Lib.hid hZ
          have y3' := HZ.out.2.cell (j := 3) rfl
          have y0' := HZ.out.2.cell (j := 0) rfl
          rw [hZ, HYY.out] at y3' y0'
          rw [HYY.out] at z0 z3
          have z6' := z6 0
          rw [HYY.out] at z6'
          simp only [Nat.mul_zero] at z3 z6' y3' y0'
          clear hZ y0 y1 y2 y3 y4 y5 z1 z2 z4 z5 z6 hHH hh0
          go_wp2
          rw [← HYY.out, ← HZZ.out]
          go_ret
          exact ⟨rfl, HZ.out.1.below⟩
        · have hkk : 1 < 2 := by decide
          clear hkk
          obtain ⟨z0, z1, z2⟩ := HY.out.1.cells (k := 1) (by decide)
          obtain ⟨z3, z4, z5, z6⟩ := HY.out.1.want (k := 1) (by decide)
          unfold ptr at z0
          obtain ⟨_, _, _, hh0⟩ := HY.out.1.home0 (j := 1) (by decide)
          rw [hh0] at z3
          obtain ⟨Z, hZ⟩ : ∃ Z, Z = Y.setCell ⟨gw, 3, none⟩ (.slice a 20 c) := ⟨_, rfl⟩
          obtain ⟨HH, hHH⟩ : ∃ HH, HH = upd h 1 (.slice a 20 c) := ⟨_, rfl⟩
          have HHk := Lib.hid (show HH 1 = .slice a 20 c by rw [hHH]; exact upd_here _ _ _)
          have HZ := Lib.hid (show TS w g b gb gw gm (fun x => x = wr.heap.size) k (.slice a 20 c) H' t p p q HH m M Z ∧ Blk Z wr.heap.size 43 [.int .i64 what, .int .i64 at_, .int .i64 xn, .string text, .bool true, .bool raw] by
            rw [hZ, hHH]
            exact ⟨HY.out.1.home (k := 1) (by decide) ⟨_, _, _, rfl⟩, HY.out.2.but ((But.refl (fun x => x = gw) Y).setCell ⟨gw, 3, none⟩ (.slice a 20 c) (fun _ => rfl)) (fun e => by have := hS.out.boxes.2.1; omega)⟩)
          have HZZ := Lib.hid hZ
          have y3' := HZ.out.2.cell (j := 3) rfl
          have y0' := HZ.out.2.cell (j := 0) rfl
          rw [hZ, HYY.out] at y3' y0'
          rw [HYY.out] at z0 z3
          have z6' := z6 3
          rw [HYY.out] at z6'
          simp only [Nat.mul_one] at z3 z6' y3' y0'
          clear hZ y0 y1 y2 y3 y4 y5 z1 z2 z4 z5 z6 hHH hh0
          go_wp2
          rw [← HYY.out, ← HZZ.out]
          go_ret
          exact ⟨rfl, HZ.out.1.below⟩
    · have hI : ¬ (k : Int) < l.length := by omega
      go_wp2
      go_ret
      exact ⟨rfl, hS.out.below⟩
end Go.Proofs.YtahnhhhhfioibaaGreatDoor
