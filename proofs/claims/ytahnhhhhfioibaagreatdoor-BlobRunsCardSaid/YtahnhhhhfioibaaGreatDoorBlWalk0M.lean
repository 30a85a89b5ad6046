/- A part of the law. -/
import Derived.Test.YtahnhhhhfioibaaGreatDoorG18
import Derived.Deep.CutBlock
import Derived.Deep.DeepCutAuto
namespace Go.Proofs.YtahnhhhhfioibaaGreatDoor
open Go.RowKit Lib


/-- The map M holds just the pages S. -/
def Met8 (M : Wl.Grp) (S : List Nat) : Prop := M.length = S.length ∧ ∀ x, Wl.look x M = if x ∈ S then some [1] else none
theorem Met8.nil : Met8 [] [] := ⟨rfl, fun _ => rfl⟩
theorem Met8.put {M : Wl.Grp} {S : List Nat} (h : Met8 M S) (hr : Wl.Rising M) {x : Nat} (hx : x ∉ S) : Met8 (Wl.ins x [1] M) (S ++ [x]) := by
  have hl := h.2 x
  rw [if_neg hx] at hl
  refine ⟨?_, fun y => ?_⟩
  · rw [Wl.ins_length _ _ hr, hl, List.length_append]
    have := h.1
    simp
    omega
  · rw [Wl.look_ins, h.2 y]
    by_cases e : y = x
    · rw [if_pos e, if_pos (by rw [e]; simp)]
    · rw [if_neg e]
      by_cases hy : y ∈ S
      · rw [if_pos hy, if_pos (List.mem_append_left _ hy)]
      · rw [if_neg hy, if_neg (by simp [hy, e])]
namespace Bl
theorem seen_snoc {B : List (List Nat × Wl.Text)} {j : Nat} (h : j < B.length) : (B.take (j + 1)).flatMap (·.1) = (B.take j).flatMap (·.1) ++ B[j].1 := by
  rw [List.take_succ_eq_append_getElem h, List.flatMap_append]
  simp
theorem Blobs.fresh {pg : List (Option Wl.Text)} {B : List (List Nat × Wl.Text)} (h : Blobs pg B) {j : Nat} (hj : j < B.length) {i : Nat} (hi : i < B[j].1.length) : B[j].1[i] ∉ (B.take j).flatMap (·.1) ++ B[j].1.take i := by
  have ha := h.apart
  rw [split_at hj, List.flatMap_append, List.flatMap_cons, List.nodup_append, List.nodup_append] at ha
  intro hm
  rcases List.mem_append.1 hm with hm | hm
  · exact ha.2.2 _ hm _ (List.mem_append_left _ (List.getElem_mem hi)) rfl
  · have hn := ha.2.1.1
    rw [← List.take_append_drop i B[j].1, List.nodup_append] at hn
    exact hn.2.2 _ hm _ (by rw [drop_cons hi]; exact List.mem_cons_self) rfl
end Bl
theorem bl_id {G : Prop} (_ : G → G) (hf : Hid (∀ G : Prop, G)) : G := hf.out G
def bl_of {A : Prop} (_ : A → A) : Prop := A
set_option maxRecDepth 100000 in
set_option maxHeartbeats 100000000 in
theorem bl_walk0 (cs : Hid (∀ G : Prop, G)) : ∀ (w : World) (n : Int) (_ : -9223372036854775808 ≤ n ∧ n ≤ 9223372036854775807) (v : Value) (l : List Act8) (_ : RdE w v l),
    Calls Tryz.prog 5 #[.int .i64 n, v] w fun e w' => e = .returned (.bool true) ∧ Below w.heap.size w w' := by
  intro w n hn v l hl
  have hmm := @run_makeMap Tryz.prog
  have HL := Lib.hid hl
  obtain ⟨al, cl, rfl⟩ := hl.slice
  clear hl
  go_enter Tryz.func5, Tryz.ntmps5
  go_wp2_with fail
  refine (awake8_any w).mono ?_
  rintro e w1 ⟨rfl, hb1⟩
  have H1 := Lib.hid hb1
  clear hb1
  by_cases hn4 : n < 4
  · go_wp2
    go_ret
    exact ⟨rfl, H1.out⟩
  by_cases hn60 : 60 < n
  · go_wp2
    go_ret
    exact ⟨rfl, H1.out⟩
  by_cases hl40 : 40 < l.length
  · have j1 : (40 : Int) < l.length := by omega
    go_wp2
    go_ret
    exact ⟨rfl, H1.out⟩
  have j1 : ¬ (40 : Int) < l.length := by omega
  obtain ⟨m, rfl⟩ : ∃ m : Nat, n = m := ⟨n.toNat, by omega⟩
  have HM := Lib.hid (show 4 ≤ m ∧ m ≤ 60 ∧ l.length ≤ 40 by omega)
  clear hl40 hn
  go_wp2_with fail
  refine (wide_any w1 m HM.out.1 (by have := HM.out; omega)).mono ?_
  rintro e w2 ⟨g, b, rfl, hk2, hb2⟩
  have H2 := Lib.hid (show Kept (fun x => x < w1.heap.size) 200 w2 b g 1 (Wl.noughts m) ∧ Below w1.heap.size w1 w2 from And.intro hk2 hb2)
  clear hk2 hb2 hn4 hn60 j1
  go_wp2_with fail
  refine (c1_begin H2.out.1).mono ?_
  rintro e w3 ⟨tb, rfl, h3, hb3⟩
  have H3 := Lib.hid (And.intro h3 (H1.out.trans ((H2.out.2.trans (hb3.mono H2.out.2.size)).mono H1.out.size)))
  clear h3 hb3
  go_wp2_with fail
  refine (room_Of w3 tb).mono ?_
  rintro e w4 ⟨rfl, rfl⟩
  obtain ⟨R, hR⟩ : ∃ R : Nat → Prop, R = fun k => k < w1.heap.size ∨ k = w3.heap.size := ⟨_, rfl⟩
  obtain ⟨r, hr⟩ : ∃ r, r = w3.heap.size := ⟨_, rfl⟩
  obtain ⟨P0, hP0⟩ : ∃ P0 : List (Option Wl.Text), P0 = List.replicate (m - 2) none := ⟨_, rfl⟩
  obtain ⟨W, hW⟩ : ∃ W, W = w3.alloc (.cells #[ptr tb] 112) := ⟨_, rfl⟩
  have HU0 := Lib.hid (show Rm.used P0 = 0 by rw [hP0]; exact Bl.used_new _)
  have H4 := Lib.hid (show KT w g b tb r m (List.replicate 16 0) P0 [] 0 (.slice none 0 0) W from by
    refine ⟨R, ?_, ?_, Own.nil _ _ _ _, fun x hx => (by cases hx), Bl.Blobs.nil HU0.out, ?_, fun b hb => (by cases hb)⟩
    · rw [hW, hR, hr, hP0]
      exact st8_begun H3.out.1 H3.out.2 (by have := HM.out; omega) (by have := HM.out; omega)
    · rw [hR]
      exact fun k hk => .inl (Nat.lt_of_lt_of_le hk H1.out.size)
    · rw [hP0, List.length_replicate])
  rw [← hr, ← hW]
  generalize List.replicate 16 0 = rt at H4
  clear hR hr hW H3 H2 hP0
  go_wp2_with fail
  refine (refPages_any W m (by omega)).mono ?_
  rintro e w5 ⟨rfl, rfl⟩
  rw [Rm.pages_few (by have := HM.out; omega) (by have := HM.out; omega)]
  obtain ⟨N, hN⟩ : ∃ N, N = m - 2 := ⟨_, rfl⟩
  have HN := Lib.hid hN
  rw [← hN]
  have hNI : (N : Int) ≤ 58 := by have := HM.out; omega
  clear hN
  go_wp2
  go_loopw [8, 9, 60] (fun v u i wr => ∃ (k : Nat) (pg : List (Option Wl.Text)) (B : List (List Nat × Wl.Text)), k ≤ l.length ∧ i = .int .i64 (k : Nat) ∧ u = .int .i64 (Rm.used pg : Nat) ∧ Hid (KT w g b tb r m rt pg B (1040 * k) v wr)) (fun _ _ i _ => l.length - (Go.RowKit.intOf i).toNat)
  case atStart => exact ⟨0, P0, [], Nat.zero_le _, rfl, by rw [HU0.out]; rfl, H4⟩
  case round =>
    clear H4 HU0
    obtain ⟨k, pg, B, hk, rfl, rfl, hS⟩ := hrel
    by_cases hlt : k < l.length
    · have hI : (k : Int) < l.length := by omega
      obtain ⟨gp, op, rfl, hok, c0, c1, c2, c3⟩ := RdE.at HL.out hS.out.below hlt
      have HOk := Lib.hid hok
      have HLt := Lib.hid (show k < l.length ∧ k ≤ 40 by have := HM.out; omega)
      clear hk hok
      generalize l[k] = x at *
      obtain ⟨what, an, size, c⟩ := x
      simp only at c0 c1 c2 c3 HOk
      obtain ⟨Y, hY⟩ : ∃ Y, Y = wr.alloc (.cells #[.int .i64 what, .int .i64 an, .int .i64 size, .int .u8 c] 66) := ⟨_, rfl⟩
      have HY := Lib.hid (show KT w g b tb r m rt pg B (1040 * k) u8 Y ∧ Blk Y wr.heap.size 66 [.int .i64 what, .int .i64 an, .int .i64 size, .int .u8 c] by
        rw [hY]
        exact ⟨hS.out.still ((Below.refl _ wr).alloc (Nat.le_refl _) _), Blk.new wr #[.int .i64 what, .int .i64 an, .int .i64 size, .int .u8 c] 66⟩)
      have HYY := Lib.hid hY
      clear hY hlt
      obtain ⟨ga, hga⟩ : ∃ ga, ga = wr.heap.size := ⟨_, rfl⟩
      rw [← hga] at HY
      have HGA := Lib.hid hga
      clear hga
      go_upto_block 2 with fail
      rw [← HYY.out, ← HGA.out]
      have y0 := HY.out.2.cell (j := 0) rfl
      have y1 := HY.out.2.cell (j := 1) rfl
      have y2 := HY.out.2.cell (j := 2) rfl
      have y3 := HY.out.2.cell (j := 3) rfl
      clear c0 c1 c2 c3
      go_cut [8, 9] (fun v' u' wx => ∃ (qg : List (Option Wl.Text)) (D : List (List Nat × Wl.Text)), u' = .int .i64 (Rm.used qg : Nat) ∧ Hid (KT w g b tb r m rt qg D (1040 * (k + 1)) v' wx))
      case first =>
        by_cases h0 : what = 0
        · rename_i z1 z2 z3 z4 z5 z6 z7 z8 z9 z10 z11 z12 z13
          revert w l hmm cl z1 w1 H1 m HM z2 w2 g b w3 tb R r P0 rt w5 N HN hNI z3 z4 wr u4 u8 u12 u13 u14 u15 u16 u17 u18 u19 u20 u21 u22 u23 u24 u26 u27 u28 u29 u30 u32 u33 u34 u61 u62 u63 u64 u65 u66 u67 u68 u69 u70 u71 u72 u73 u74 u75 u76 u77 u78 u79 u80 u81 u82 u83 u84 u85 u86 u87 u88 u89 u90 u91 u92 u93 u94 u95 u96 u97 u98 u99 u100 u101 u102 u103 u104 u105 u106 u107 u108 u109 u110 u111 u112 u113 u114 u115 u116 u117 u118 u119 u120 u121 u122 u123 u124 u125 u126 u127 u128 u129 u130 u131 u132 u133 u134 u135 u136 u137 u138 u139 u140 u141 u142 u143 u144 u145 u146 u147 u148 u149 u150 u151 u152 u153 u154 u155 u156 u157 u158 u159 u160 u161 u162 u163 u164 u165 u166 u167 u168 u169 u170 u171 u172 u173 u174 u175 u176 u177 u178 u179 u180 u181 u182 u183 u184 u185 u186 u187 u188 u189 u190 u191 u192 u193 u194 u195 u196 u197 u198 u199 u200 u201 u202 u203 u204 u205 u206 u207 u208 u209 u210 u211 u212 u213 u214 u215 u216 u217 u218 u219 u220 u221 u222 u223 u224 u225 u226 u227 u228 u229 u230 u231 u232 u233 u234 u235 u236 u237 u238 u239 u240 u241 u242 u243 u244 u245 u246 u247 u248 u249 u250 u251 u252 u253 u254 u255 u256 u257 u258 u259 u260 u261 u262 u263 u264 u265 u266 u267 u268 u269 u270 u271 u272 u273 u274 u275 u276 u277 u278 u279 u280 u281 u282 k pg B hS hI gp op HL HLt what an size c HOk Y HYY ga HY HGA z5 z6 z7 z8 z9 y0 y1 y2 y3 z10 z11 z12 z13 h0
          refine bl_id ?_ cs
          as_aux_lemma => exact id
        by_cases h1 : what = 1
        · rename_i z1 z2 z3 z4 z5 z6 z7 z8 z9 z10 z11 z12 z13
          revert w l hmm cl z1 w1 H1 m HM z2 w2 g b w3 tb R r P0 rt w5 N HN hNI z3 z4 wr u4 u8 u12 u13 u14 u15 u16 u17 u18 u19 u20 u21 u22 u23 u24 u26 u27 u28 u29 u30 u32 u33 u34 u61 u62 u63 u64 u65 u66 u67 u68 u69 u70 u71 u72 u73 u74 u75 u76 u77 u78 u79 u80 u81 u82 u83 u84 u85 u86 u87 u88 u89 u90 u91 u92 u93 u94 u95 u96 u97 u98 u99 u100 u101 u102 u103 u104 u105 u106 u107 u108 u109 u110 u111 u112 u113 u114 u115 u116 u117 u118 u119 u120 u121 u122 u123 u124 u125 u126 u127 u128 u129 u130 u131 u132 u133 u134 u135 u136 u137 u138 u139 u140 u141 u142 u143 u144 u145 u146 u147 u148 u149 u150 u151 u152 u153 u154 u155 u156 u157 u158 u159 u160 u161 u162 u163 u164 u165 u166 u167 u168 u169 u170 u171 u172 u173 u174 u175 u176 u177 u178 u179 u180 u181 u182 u183 u184 u185 u186 u187 u188 u189 u190 u191 u192 u193 u194 u195 u196 u197 u198 u199 u200 u201 u202 u203 u204 u205 u206 u207 u208 u209 u210 u211 u212 u213 u214 u215 u216 u217 u218 u219 u220 u221 u222 u223 u224 u225 u226 u227 u228 u229 u230 u231 u232 u233 u234 u235 u236 u237 u238 u239 u240 u241 u242 u243 u244 u245 u246 u247 u248 u249 u250 u251 u252 u253 u254 u255 u256 u257 u258 u259 u260 u261 u262 u263 u264 u265 u266 u267 u268 u269 u270 u271 u272 u273 u274 u275 u276 u277 u278 u279 u280 u281 u282 k pg B hS hI gp op HL HLt what an size c HOk Y HYY ga HY HGA z5 z6 z7 z8 z9 y0 y1 y2 y3 z10 z11 z12 z13 h0 h1
          refine bl_id ?_ cs
          as_aux_lemma => exact id
        by_cases h2 : what = 2
        · rename_i z1 z2 z3 z4 z5 z6 z7 z8 z9 z10 z11 z12 z13
          revert w l hmm cl z1 w1 H1 m HM z2 w2 g b w3 tb R r P0 rt w5 N HN hNI z3 z4 wr u4 u8 u12 u13 u14 u15 u16 u17 u18 u19 u20 u21 u22 u23 u24 u26 u27 u28 u29 u30 u32 u33 u34 u61 u62 u63 u64 u65 u66 u67 u68 u69 u70 u71 u72 u73 u74 u75 u76 u77 u78 u79 u80 u81 u82 u83 u84 u85 u86 u87 u88 u89 u90 u91 u92 u93 u94 u95 u96 u97 u98 u99 u100 u101 u102 u103 u104 u105 u106 u107 u108 u109 u110 u111 u112 u113 u114 u115 u116 u117 u118 u119 u120 u121 u122 u123 u124 u125 u126 u127 u128 u129 u130 u131 u132 u133 u134 u135 u136 u137 u138 u139 u140 u141 u142 u143 u144 u145 u146 u147 u148 u149 u150 u151 u152 u153 u154 u155 u156 u157 u158 u159 u160 u161 u162 u163 u164 u165 u166 u167 u168 u169 u170 u171 u172 u173 u174 u175 u176 u177 u178 u179 u180 u181 u182 u183 u184 u185 u186 u187 u188 u189 u190 u191 u192 u193 u194 u195 u196 u197 u198 u199 u200 u201 u202 u203 u204 u205 u206 u207 u208 u209 u210 u211 u212 u213 u214 u215 u216 u217 u218 u219 u220 u221 u222 u223 u224 u225 u226 u227 u228 u229 u230 u231 u232 u233 u234 u235 u236 u237 u238 u239 u240 u241 u242 u243 u244 u245 u246 u247 u248 u249 u250 u251 u252 u253 u254 u255 u256 u257 u258 u259 u260 u261 u262 u263 u264 u265 u266 u267 u268 u269 u270 u271 u272 u273 u274 u275 u276 u277 u278 u279 u280 u281 u282 k pg B hS hI gp op HL HLt what an size c HOk Y HYY ga HY HGA z5 z6 z7 z8 z9 y0 y1 y2 y3 z10 z11 z12 z13 h0 h1 h2
          refine bl_id ?_ cs
          as_aux_lemma => exact id
        · rename_i z1 z2 z3 z4 z5 z6 z7 z8 z9 z10 z11 z12 z13
          revert w l hmm cl z1 w1 H1 m HM z2 w2 g b w3 tb R r P0 rt w5 N HN hNI z3 z4 wr u4 u8 u12 u13 u14 u15 u16 u17 u18 u19 u20 u21 u22 u23 u24 u26 u27 u28 u29 u30 u32 u33 u34 u61 u62 u63 u64 u65 u66 u67 u68 u69 u70 u71 u72 u73 u74 u75 u76 u77 u78 u79 u80 u81 u82 u83 u84 u85 u86 u87 u88 u89 u90 u91 u92 u93 u94 u95 u96 u97 u98 u99 u100 u101 u102 u103 u104 u105 u106 u107 u108 u109 u110 u111 u112 u113 u114 u115 u116 u117 u118 u119 u120 u121 u122 u123 u124 u125 u126 u127 u128 u129 u130 u131 u132 u133 u134 u135 u136 u137 u138 u139 u140 u141 u142 u143 u144 u145 u146 u147 u148 u149 u150 u151 u152 u153 u154 u155 u156 u157 u158 u159 u160 u161 u162 u163 u164 u165 u166 u167 u168 u169 u170 u171 u172 u173 u174 u175 u176 u177 u178 u179 u180 u181 u182 u183 u184 u185 u186 u187 u188 u189 u190 u191 u192 u193 u194 u195 u196 u197 u198 u199 u200 u201 u202 u203 u204 u205 u206 u207 u208 u209 u210 u211 u212 u213 u214 u215 u216 u217 u218 u219 u220 u221 u222 u223 u224 u225 u226 u227 u228 u229 u230 u231 u232 u233 u234 u235 u236 u237 u238 u239 u240 u241 u242 u243 u244 u245 u246 u247 u248 u249 u250 u251 u252 u253 u254 u255 u256 u257 u258 u259 u260 u261 u262 u263 u264 u265 u266 u267 u268 u269 u270 u271 u272 u273 u274 u275 u276 u277 u278 u279 u280 u281 u282 k pg B hS hI gp op HL HLt what an size c HOk Y HYY ga HY HGA z5 z6 z7 z8 z9 y0 y1 y2 y3 z10 z11 z12 z13 h0 h1 h2
          refine bl_id ?_ cs
          as_aux_lemma => exact id
      case rest =>
        rename_i z1 z2 z3 z4 z5 z6 z7 z8 z9 z10 z11 z12 z13 z14 z15 z16 z17 z18 z19 z20 z21 z22 z23 z24 z25 z26 z27 z28 z29 z30 z31 z32 z33 z34 z35 z36 z37 z38 z39 z40 z41 z42 z43 z44 z45 z46 z47 z48 z49 z50 z51 z52 z53 z54 z55 z56 z57 z58 z59 z60 z61 z62 z63 z64 z65 z66 z67 z68 z69 z70 z71 z72 z73 z74 z75 z76 z77 z78 z79 z80 z81 z82 z83 z84 z85 z86 z87 z88 z89 z90 z91 z92 z93 z94 z95 z96 z97 z98 z99 z100 z101 z102 z103 z104 z105 z106 z107 z108 z109 z110 z111 z112 z113 z114 z115 z116 z117 z118 z119 z120 z121 z122 z123 z124 z125 z126 z127 z128 z129 z130 z131 z132 z133 z134 z135 z136 z137 z138 z139 z140 z141 z142 z143 z144 z145 z146 z147 z148 z149 z150 z151 z152 z153 z154 z155 z156 z157 z158 z159 z160 z161 z162 z163 z164 z165 z166 z167 z168 z169 z170 z171 z172 z173 z174 z175 z176 z177 z178 z179 z180 z181 z182 z183 z184 z185 z186 z187 z188 z189 z190 z191 z192 z193 z194 z195 z196 z197 z198 z199 z200 z201 z202 z203 z204 z205 z206 z207 z208 z209 z210 z211 z212 z213 z214 z215 z216 z217 z218 z219 z220 z221 z222 z223 z224 z225 z226 z227 z228 z229 z230 z231 z232 z233 z234 z235
        revert w l hmm cl z1 w1 H1 m HM z2 w2 g b w3 tb R r P0 rt w5 N HN hNI z3 z4 wr z5 z6 u12 z7 z8 z9 z10 z11 z12 z13 z14 z15 u22 u23 u24 u26 u27 u28 u29 u30 u32 u33 u34 z16 z17 z18 z19 u65 z20 z21 z22 z23 z24 z25 z26 z27 z28 z29 z30 z31 z32 z33 z34 z35 z36 z37 z38 z39 z40 z41 z42 z43 z44 z45 z46 z47 z48 z49 z50 z51 z52 z53 z54 z55 z56 z57 z58 z59 z60 z61 z62 z63 z64 z65 z66 z67 z68 z69 z70 z71 z72 z73 z74 z75 z76 z77 z78 z79 z80 z81 z82 z83 z84 z85 z86 z87 z88 z89 z90 z91 z92 z93 z94 z95 z96 z97 z98 z99 z100 z101 z102 z103 z104 z105 z106 z107 z108 z109 z110 z111 z112 z113 z114 z115 z116 z117 z118 z119 z120 z121 z122 z123 z124 z125 z126 z127 z128 z129 z130 z131 z132 z133 z134 z135 z136 z137 z138 z139 z140 z141 z142 z143 z144 z145 z146 z147 z148 z149 z150 z151 z152 z153 z154 z155 z156 z157 z158 z159 z160 u207 u208 u209 z161 z162 z163 z164 z165 z166 z167 z168 z169 z170 z171 z172 z173 z174 z175 z176 z177 z178 z179 z180 z181 z182 z183 z184 z185 z186 z187 z188 z189 z190 z191 z192 z193 z194 z195 z196 z197 z198 z199 z200 z201 z202 z203 z204 z205 u255 u256 u257 z206 z207 z208 z209 z210 z211 z212 z213 z214 z215 z216 z217 z218 z219 z220 z221 z222 z223 z224 z225 z226 z227 z228 z229 z230 k pg B hS hI gp op HL HLt what an size c HOk Y HYY ga HY HGA z231 z232 z233 z234 z235 y0 y1 y2 y3 wc u4 u8 u9 u13 u14 u15 u16 u17 u18 u19 u20 u21 u61 u62 u63 u64 u66 u67 u68 u69 u70 u71 u72 u73 u74 u75 u76 u77 u78 u79 u80 u81 u82 u83 u84 u85 u86 u87 u88 u89 u90 u91 u92 u93 u94 u95 u96 u97 u98 u99 u100 u101 u102 u103 u104 u105 u106 u107 u108 u109 u110 u111 u112 u113 u114 u115 u116 u117 u118 u119 u120 u121 u122 u123 u124 u125 u126 u127 u128 u129 u130 u131 u132 u133 u134 u135 u136 u137 u138 u139 u140 u141 u142 u143 u144 u145 u146 u147 u148 u149 u150 u151 u152 u153 u154 u155 u156 u157 u158 u159 u160 u161 u162 u163 u164 u165 u166 u167 u168 u169 u170 u171 u172 u173 u174 u175 u176 u177 u178 u179 u180 u181 u182 u183 u184 u185 u186 u187 u188 u189 u190 u191 u192 u193 u194 u195 u196 u197 u198 u199 u200 u201 u202 u203 u204 u205 u206 u210 u211 u212 u213 u214 u215 u216 u217 u218 u219 u220 u221 u222 u223 u224 u225 u226 u227 u228 u229 u230 u231 u232 u233 u234 u235 u236 u237 u238 u239 u240 u241 u242 u243 u244 u245 u246 u247 u248 u249 u250 u251 u252 u253 u254 u258 u259 u260 u261 u262 u263 u264 u265 u266 u267 u268 u269 u270 u271 u272 u273 u274 u275 u276 u277 u278 u279 u280 u281 u282 hcut
        refine bl_id ?_ cs
        as_aux_lemma => exact id
    · have hI : ¬ (k : Int) < l.length := by omega
      go_wp2
      go_ret
      exact ⟨rfl, hS.out.below⟩
end Go.Proofs.YtahnhhhhfioibaaGreatDoor
