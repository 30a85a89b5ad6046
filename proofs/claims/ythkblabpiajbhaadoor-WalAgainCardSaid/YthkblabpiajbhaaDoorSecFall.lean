/- Walk of Fall. -/
import Derived.Test.YthkblabpiajbhaaDoorSecFlush
namespace Go.Proofs.YthkblabpiajbhaaDoor
open Go.RowKit Lib

/-- v reads as the bools l. -/
def RdB (w : World) (v : Value) (l : List Bool) : Prop :=
  ∃ (a : Option Addr) (cap : Nat), v = .slice a l.length cap ∧ l.length ≤ cap ∧ ∀ i (_ : i < l.length), ∃ g o, a = some ⟨g, o, none⟩ ∧ g < w.heap.size ∧ ∀ j (hj : j < l.length), w.cell? ⟨g, o + j, none⟩ = some (.bool l[j])
theorem RdB.but {S : Nat → Prop} {w w' : World} {v : Value} {l : List Bool} (h : RdB w v l) (hb : But S w w') (hn : ∀ b, v.ownBlock = some b → ¬ S b) : RdB w' v l := by
  obtain ⟨a, cap, rfl, hc, hi⟩ := h
  refine ⟨a, cap, rfl, hc, fun i hil => ?_⟩
  obtain ⟨g, o, rfl, e2, e3⟩ := hi i hil
  exact ⟨g, o, rfl, Nat.lt_of_lt_of_le e2 hb.size, fun j hj => hb.cell (e3 j hj) (hn g rfl)⟩
theorem RdB.lt {w : World} {v : Value} {l : List Bool} (h : RdB w v l) (h0 : 0 < l.length) : ∀ b, v.ownBlock = some b → b < w.heap.size := by
  obtain ⟨a, cap, rfl, _, hi⟩ := h
  obtain ⟨g, o, rfl, e2, _⟩ := hi 0 h0
  intro b hb
  simp only [Value.ownBlock, Option.some.injEq] at hb
  omega
theorem RdB.nil (w : World) : RdB w (.slice none 0 0) [] := ⟨none, 0, rfl, Nat.le_refl _, fun i hi => by simp at hi⟩

theorem Sec.fallen {w w3 : World} {F : Nat → Prop} {g f cf l cl : Nat} {vo : Value} {n : Int} {d : Dk.Disk} {keep : List Bool} {pf pl : List Nat} {ws : List (Nat × Nat)} {T : Nat → List UInt8}
    (hs : SecIn w3 g f cf l cl vo n d.off (Dk.puts pf (Dk.kept keep ws)) (Dk.sets (Dk.puts pf (Dk.kept keep ws)) pl ws) ws) (hb : But (fun x => x = f ∨ x = l) w w3)
    (k1 : SecIn w g f cf l cl vo n d.off pf pl ws) (k2 : Txts w F T (pf ++ (pl ++ ws.map (·.2)))) (k3 : d.firm = pf.map T) (k4 : d.loose = ws.map (fun x => (x.1, T x.2))) (kp : d.now = pl.map T)
    (k7 : 1 ≤ pf.length) (k8 : pf.length ≤ 65536) (k10 : F g) (k11 : F f) (k12 : F l) (k14 : ∀ k, F k → k < w.heap.size) :
    Sec (((w3.setCell ⟨g, 2, none⟩ (.slice none 0 0)).setCell ⟨g, 3, none⟩ (.int .i64 (-1))).setCell ⟨g, 4, none⟩ (.bool false)) F g (d.fall keep) ∧
      Moved F w F (((w3.setCell ⟨g, 2, none⟩ (.slice none 0 0)).setCell ⟨g, 3, none⟩ (.int .i64 (-1))).setCell ⟨g, 4, none⟩ (.bool false)) := by
  have hbg : But (fun x => x = f ∨ x = l ∨ x = g) w (((w3.setCell ⟨g, 2, none⟩ (.slice none 0 0)).setCell ⟨g, 3, none⟩ (.int .i64 (-1))).setCell ⟨g, 4, none⟩ (.bool false)) :=
    (((hb.mono (T := fun x => x = f ∨ x = l ∨ x = g) (fun x _ e => by rcases e with e | e; exact .inl e; exact .inr (.inl e))).setCell _ _ (fun _ => .inr (.inr rfl))).setCell _ _ (fun _ => .inr (.inr rfl))).setCell _ _ (fun _ => .inr (.inr rfl))
  have hs' := ((hs.setLoose (.slice none 0 0) [] (Own.nil _ _ _ _)).setLeft (-1)).setDown false
  have hPl : (Dk.puts pf (Dk.kept keep ws)).length = pf.length := Dk.puts_length _ _
  have hPT : (Dk.puts pf (Dk.kept keep ws)).map T = Dk.puts d.firm (Dk.kept keep d.loose) := by rw [Dk.puts_map, k3, k4, Dk.kept_map]
  refine ⟨⟨f, cf, l, cl, _, -1, _, _, [], T, hs', ?_, hPT.symm, rfl, ?_, rfl, by decide, by decide, by omega, by omega, ?_, k10, k11, k12, ?_, fun x hx => Nat.lt_of_lt_of_le (k14 x hx) hbg.size⟩, hbg.mono (fun x _ e => by rcases e with rfl | rfl | rfl; exact k11; exact k12; exact k10), fun x hx => .inl hx⟩
  · intro x hx
    have hP : ∀ x, x ∈ Dk.puts pf (Dk.kept keep ws) → x ∈ pf ++ (pl ++ ws.map (·.2)) := by
      intro x hx
      rcases Dk.puts_mem _ _ _ hx with h | ⟨j, h⟩
      · exact List.mem_append_left _ h
      · exact List.mem_append_right _ (List.mem_append_right _ (List.mem_map.2 ⟨_, Dk.kept_mem _ _ _ h, rfl⟩))
    have hx' : x ∈ pf ++ (pl ++ ws.map (·.2)) := by
      simp only [List.map_nil, List.append_nil] at hx
      rcases List.mem_append.1 hx with hx | hx
      · exact hP x hx
      · rcases Dk.sets_mem _ _ _ _ hx with h | h
        · exact List.mem_append_right _ (List.mem_append_left _ h)
        · exact hP x h
    obtain ⟨h1, h2, h3⟩ := k2 x hx'
    refine ⟨h1.but hbg ?_, h2, h3⟩
    rintro (e | e | e)
    · exact k1.of.ne_blk h1 (by decide) (by rw [e]; rfl)
    · exact k1.ol.ne_blk h1 (by decide) (by rw [e]; rfl)
    · exact h1.ne k1.blk (by decide) e
  · show Dk.puts (Dk.puts d.firm (Dk.kept keep d.loose)) [] = _
    rw [Dk.sets_map, hPT, ← kp, ← k4, show d.now = Dk.puts d.firm d.loose from rfl, Dk.sets_all _ _ _ (fun x hx => Dk.kept_mem _ _ _ hx)]
    rfl
  · intro x hx; cases hx
  · intro x hx; simp [Value.ownBlock] at hx

set_option maxRecDepth 100000 in
set_option maxHeartbeats 2000000 in
theorem fall_any (w : World) (F : Nat → Prop) (g : Nat) (d : Dk.Disk) (vk : Value) (keep : List Bool) (hd : Sec w F g d) (hk : RdB w vk keep) (hv : 0 < keep.length → ∀ b, vk.ownBlock = some b → ¬ F b) :
    Calls Tryd.prog 11 #[ptr g, vk] w fun e w' => e = .returned (.tuple #[]) ∧ Sec w' F g (d.fall keep) ∧ Moved F w F w' := by
  obtain ⟨f, cf, l, cl, vo, n, pf, pl, ws, T, k1, k2, k3, k4, kp, k5, k6, k6', k7, k8, k9, k10, k11, k12, k13, k14⟩ := hd
  have hwl := Own.len_le k1.oo
  have c2 : w.cell? ⟨g, 2, none⟩ = some vo := k1.blk.cell rfl
  obtain ⟨a, co, rfl, hco⟩ := Own.slice k1.oo
  obtain ⟨ak, capk, rfl, hck, hkr⟩ := hk
  have HPL : Hid (pl.length = pf.length) := by
    have := congrArg List.length kp
    rw [List.length_map, Dk.Disk.now, Dk.puts_length, k3, List.length_map] at this
    exact Lib.hid this.symm
  have HKR := Lib.hid hkr
  have HKF := Lib.hid (show 0 < keep.length → ∀ b, (Value.slice ak keep.length capk).ownBlock = some b → b ≠ f ∧ b ≠ l from fun h0 b hb => ⟨fun e => hv h0 b hb (e ▸ k11), fun e => hv h0 b hb (e ▸ k12)⟩)
  have HFIN := Lib.hid (fun w3 hs hb => Sec.fallen (w := w) (w3 := w3) (F := F) (keep := keep) hs hb k1 k2 k3 k4 kp k7 k8 k10 k11 k12 k14)
  have H1 := Lib.hid k1
  have H9 := Lib.hid k9
  clear k1 k2 k3 k4 kp k5 k13 k14 k9 hkr hv k6 k6' k7 k8 k10 k11 k12
  go_enter Tryd.func11, Tryd.ntmps11
  unfold ptr
  go_wp2
  go_loopw [15] (fun i wr => ∃ k : Nat, k ≤ ws.length ∧ i = .int .i64 k ∧ SecIn wr g f cf l cl (.slice a ws.length co) n d.off (Dk.puts pf (Dk.kept keep (ws.take k))) pl ws ∧ But (· = f) w wr) (fun i _ => ws.length - (intOf i).toNat)
  case atStart => exact ⟨0, Nat.zero_le _, rfl, by rw [List.take_zero, Dk.kept_nil]; exact H1.out, But.refl _ _⟩
  case round =>
    obtain ⟨k, hk, rfl, hs, hb⟩ := hrel
    by_cases hlt : k < ws.length
    · have hI : (k : Int) < ws.length := by omega
      obtain ⟨o, co', e1, _, _, _⟩ := Own.form hs.oo (by omega)
      injection e1 with e1 _ e3
      subst e1 e3
      obtain ⟨ca, cb⟩ := Own.wrAt hs.oo k hlt
      have hps : (Dk.puts pf (Dk.kept keep (ws.take k))).length = pf.length := Dk.puts_length _ _
      have hat := H9.out ws[k] (List.getElem_mem hlt)
      have c0 : wr.cell? ⟨g, 0, none⟩ = some (.slice (some ⟨f, 0, none⟩) (Dk.puts pf (Dk.kept keep (ws.take k))).length cf) := hs.blk.cell rfl
      have hfl : (ws[k]).1 < (Dk.puts pf (Dk.kept keep (ws.take k))).length := by omega
      obtain ⟨y, cfi⟩ := hs.of.ptrSome (ws[k]).1 hfl
      have ffi : wr.frozen? ⟨f, (ws[k]).1, none⟩ = false := Own.frozen hs.of _
      rw [hps] at c0
      have HH := Lib.hid (And.intro hs hb)
      have HX := Lib.hid (congrArg (Dk.puts pf) (Dk.kept_take keep ws k hlt))
      clear hs hps hfl
      generalize ws[k] = x at *
      obtain ⟨at', c⟩ := x
      have hatI : (at' : Int) < pf.length := by have := hat; simp only at this; omega
      simp only at ca cb cfi ffi
      unfold ptr at cb
      by_cases hkl : k < keep.length
      · have hkI : (k : Int) < keep.length := by omega
        obtain ⟨gk, ok, rfl, hgk, hxk⟩ := HKR.out k hkl
        have hne := (HKF.out (by omega) gk rfl).1
        have ckk : wr.cell? ⟨gk, ok + k, none⟩ = some (.bool keep[k]) := hb.cell (hxk k hkl) hne
        have ckv : (wr.alloc (.cells #[.int .i64 at', .pointer (some ⟨c, 0, none⟩)] 76)).cell? ⟨gk, ok + k, none⟩ = some (.bool keep[k]) := ((But.refl (fun _ => False) wr).alloc _).cell ckk id
        have HKK := Lib.hid (show keep.getD k false = keep[k] by rw [List.getD_eq_getElem?_getD, List.getElem?_eq_getElem hkl]; rfl)
        clear hxk hgk hb ckk
        cases hkb : keep[k]
        · rw [hkb] at ckv HKK
          go_wp2
          go_roundw
          case rel =>
            refine ⟨k + 1, by omega, by go_num, ?_, HH.out.2.alloc _⟩
            rw [HX.out, HKK.out, if_neg (by decide), List.append_nil]
            exact HH.out.1.alloc _
          case measure => simp [intOf]; omega
        · rw [hkb] at ckv HKK
          go_wp2
          obtain ⟨q, hq⟩ : ∃ q, wr.heap.size = q := ⟨_, rfl⟩
          rw [hq]
          obtain ⟨V, hV⟩ : ∃ V, V = wr.alloc (.cells #[.int .i64 at', .pointer (some ⟨c, 0, none⟩)] 76) := ⟨_, rfl⟩
          rw [← hV]
          have hbV : But (fun _ => False) wr V := by rw [hV]; exact (But.refl _ _).alloc _
          have bq : Blk V q 76 [.int .i64 at', .pointer (some ⟨c, 0, none⟩)] := by rw [hV, ← hq]; exact Blk.new wr _ _
          have c0' : V.cell? ⟨g, 0, none⟩ = some (.slice (some ⟨f, 0, none⟩) pf.length cf) := hbV.cell c0 id
          have cfi' : V.cell? ⟨f, at', none⟩ = some (.pointer (some ⟨y, 0, none⟩)) := hbV.cell cfi id
          have ffi' : V.frozen? ⟨f, at', none⟩ = false := (hbV.frozen (World.block_lt_of_cell? _ _ cfi) id).trans ffi
          have q0 : V.cell? ⟨q, 0, none⟩ = some (.int .i64 at') := bq.cell rfl
          have q1 : V.cell? ⟨q, 1, none⟩ = some (.pointer (some ⟨c, 0, none⟩)) := bq.cell rfl
          have HVB := Lib.hid hbV
          clear hV hbV bq c0 cfi ffi ca cb hq ckv
          go_still_tail 9, (by kernel_rfl)
          change wpList _ _ _ _ _ V.drew
          obtain ⟨U, hU⟩ : ∃ U, U = V.drew := ⟨_, rfl⟩
          rw [← hU]
          have hbU : But (fun _ => False) V U := by rw [hU]; exact (But.refl _ _).drew
          have cfu : U.cell? ⟨f, at', none⟩ = some (.pointer (some ⟨y, 0, none⟩)) := hbU.cell cfi' id
          have ffu : U.frozen? ⟨f, at', none⟩ = false := (hbU.frozen (World.block_lt_of_cell? _ _ cfi') id).trans ffi'
          have HBU := Lib.hid (HVB.out.trans hbU (fun _ _ h => h))
          clear hU hbU c0' cfi' ffi' q0 q1 HVB
          go_wp2
          go_roundw
          case rel =>
            refine ⟨k + 1, by omega, by go_num, ?_, ?_⟩
            · rw [HX.out, HKK.out, if_pos rfl, Dk.puts_append, Dk.puts_one]
              exact (HH.out.1.but HBU.out id id id (fun _ _ => id)).setFirm at' c
            · exact (HH.out.2.trans HBU.out (fun _ _ h => h.elim)).setCell ⟨f, at', none⟩ _ (fun _ => rfl)
          case measure => simp [intOf]; omega
      · have hkI : ¬ (k : Int) < keep.length := by omega
        have HKK := Lib.hid (show keep.getD k false = false by rw [List.getD_eq_getElem?_getD, List.getElem?_eq_none (by omega)]; rfl)
        go_wp2
        go_roundw
        case rel =>
          refine ⟨k + 1, by omega, by go_num, ?_, HH.out.2.alloc _⟩
          rw [HX.out, HKK.out, if_neg (by decide), List.append_nil]
          exact HH.out.1.alloc _
        case measure => simp [intOf]; omega
    · have hke : k = ws.length := by omega
      subst hke
      rw [List.take_length] at hs
      obtain ⟨P, hP⟩ : ∃ P, Dk.puts pf (Dk.kept keep ws) = P := ⟨_, rfl⟩
      have HPf : Hid (P.length = pf.length) := Lib.hid (by rw [← hP]; exact Dk.puts_length _ _)
      rw [hP] at hs HFIN
      have H2 := Lib.hid (And.intro hs hb)
      have c2r : wr.cell? ⟨g, 2, none⟩ = some (.slice a ws.length co) := hs.blk.cell rfl
      clear hs hb hP c2
      go_wp2
      go_loopw [45] (fun i wq => ∃ k : Nat, k ≤ ws.length ∧ i = .int .i64 k ∧ SecIn wq g f cf l cl (.slice a ws.length co) n d.off P (Dk.sets P pl (ws.take k)) ws ∧ But (fun x => x = f ∨ x = l) w wq) (fun i _ => ws.length - (intOf i).toNat)
      case atStart => exact ⟨0, Nat.zero_le _, rfl, H2.out.1, H2.out.2.mono (fun _ _ e => .inl e)⟩
      case round =>
        clear hk hlt
        obtain ⟨k, hk, rfl, hs, hb⟩ := hrel
        by_cases hlt : k < ws.length
        · have hI : (k : Int) < ws.length := by omega
          obtain ⟨o, co', e1, _, _, _⟩ := Own.form hs.oo (by omega)
          injection e1 with e1 _ e3
          subst e1 e3
          obtain ⟨ca, cb⟩ := Own.wrAt hs.oo k hlt
          have hat := H9.out ws[k] (List.getElem_mem hlt)
          have hatP : (ws[k]).1 < P.length := by rw [HPf.out]; exact hat
          have hsl : (Dk.sets P pl (ws.take k)).length = P.length := by rw [Dk.sets_length, HPL.out, HPf.out]
          have HX := Lib.hid (Dk.sets_take P pl ws k hlt hatP)
          have c0 : wr.cell? ⟨g, 0, none⟩ = some (.slice (some ⟨f, 0, none⟩) P.length cf) := hs.blk.cell rfl
          have c1 : wr.cell? ⟨g, 1, none⟩ = some (.slice (some ⟨l, 0, none⟩) (Dk.sets P pl (ws.take k)).length cl) := hs.blk.cell rfl
          rw [hsl] at c1
          have cfi := hs.of.ptrAt (ws[k]).1 hatP
          obtain ⟨y, cli⟩ := hs.ol.ptrSome (ws[k]).1 (by rw [hsl]; exact hatP)
          have fli : wr.frozen? ⟨l, (ws[k]).1, none⟩ = false := Own.frozen hs.ol _
          have HH := Lib.hid (And.intro hs hb)
          clear hs hb hsl
          generalize ws[k] = x at *
          obtain ⟨at', c⟩ := x
          simp only at ca cb cfi cli fli hat hatP HX
          generalize P[at'] = z at *
          have hatI : (at' : Int) < P.length := by omega
          unfold ptr at cb cfi
          clear HKR HKF H1 H2 c2r
          go_wp2
          obtain ⟨q, hq⟩ : ∃ q, wr.heap.size = q := ⟨_, rfl⟩
          rw [hq]
          obtain ⟨V, hV⟩ : ∃ V, V = wr.alloc (.cells #[.int .i64 at', .pointer (some ⟨c, 0, none⟩)] 76) := ⟨_, rfl⟩
          rw [← hV]
          have hbV : But (fun _ => False) wr V := by rw [hV]; exact (But.refl _ _).alloc _
          have bq : Blk V q 76 [.int .i64 at', .pointer (some ⟨c, 0, none⟩)] := by rw [hV, ← hq]; exact Blk.new wr _ _
          have c0' : V.cell? ⟨g, 0, none⟩ = some (.slice (some ⟨f, 0, none⟩) P.length cf) := hbV.cell c0 id
          have c1' : V.cell? ⟨g, 1, none⟩ = some (.slice (some ⟨l, 0, none⟩) P.length cl) := hbV.cell c1 id
          have cfi' : V.cell? ⟨f, at', none⟩ = some (.pointer (some ⟨z, 0, none⟩)) := hbV.cell cfi id
          have cli' : V.cell? ⟨l, at', none⟩ = some (.pointer (some ⟨y, 0, none⟩)) := hbV.cell cli id
          have fli' : V.frozen? ⟨l, at', none⟩ = false := (hbV.frozen (World.block_lt_of_cell? _ _ cli) id).trans fli
          have q0 : V.cell? ⟨q, 0, none⟩ = some (.int .i64 at') := bq.cell rfl
          have HVB := Lib.hid hbV
          clear hV hbV bq c0 c1 cfi cli fli ca cb hq
          go_still_tail 15, (by kernel_rfl)
          change wpList _ _ _ _ _ V.drew
          obtain ⟨U, hU⟩ : ∃ U, U = V.drew := ⟨_, rfl⟩
          rw [← hU]
          have hbU : But (fun _ => False) V U := by rw [hU]; exact (But.refl _ _).drew
          have clu : U.cell? ⟨l, at', none⟩ = some (.pointer (some ⟨y, 0, none⟩)) := hbU.cell cli' id
          have flu : U.frozen? ⟨l, at', none⟩ = false := (hbU.frozen (World.block_lt_of_cell? _ _ cli') id).trans fli'
          have HBU := Lib.hid (HVB.out.trans hbU (fun _ _ h => h))
          clear hU hbU c0' c1' cfi' cli' fli' q0 HVB
          go_wp2
          go_roundw
          case rel =>
            refine ⟨k + 1, by omega, by go_num, ?_, ?_⟩
            · rw [HX.out]
              exact (HH.out.1.but HBU.out id id id (fun _ _ => id)).setLatest at' z
            · exact (HH.out.2.trans HBU.out (fun _ _ h => h.elim)).setCell ⟨l, at', none⟩ _ (fun _ => .inr rfl)
          case measure => simp [intOf]; omega
        · have hke : k = ws.length := by omega
          subst hke
          rw [List.take_length] at hs
          have b2 : wr.cell? ⟨g, 2, none⟩ = some (.slice a ws.length co) := hs.blk.cell rfl
          have f2 : wr.frozen? ⟨g, 2, none⟩ = false := hs.blk.frozen 2
          have hs2 := hs.setLoose (.slice none 0 0) [] (Own.nil _ _ _ _)
          have b3 : (wr.setCell ⟨g, 2, none⟩ (.slice none 0 0)).cell? ⟨g, 3, none⟩ = some (.int .i64 n) := hs2.blk.cell rfl
          have f3 : (wr.setCell ⟨g, 2, none⟩ (.slice none 0 0)).frozen? ⟨g, 3, none⟩ = false := hs2.blk.frozen 3
          have hs3 := hs2.setLeft (-1)
          have b4 : ((wr.setCell ⟨g, 2, none⟩ (.slice none 0 0)).setCell ⟨g, 3, none⟩ (.int .i64 (-1))).cell? ⟨g, 4, none⟩ = some (.bool d.off) := hs3.blk.cell rfl
          have f4 : ((wr.setCell ⟨g, 2, none⟩ (.slice none 0 0)).setCell ⟨g, 3, none⟩ (.int .i64 (-1))).frozen? ⟨g, 4, none⟩ = false := hs3.blk.frozen 4
          have HE := Lib.hid (HFIN.out wr hs hb)
          clear hs hb hs2 hs3 HKR HKF H1 H2 c2r
          go_wp2
          refine bodyPost_end (results_none rfl _ _ _) rfl ?_
          exact ⟨rfl, HE.out⟩
end Go.Proofs.YthkblabpiajbhaaDoor
