/- Walk of Flush. -/
import Derived.Test.YthkblabpiajbhaaDoorSecNew
import Derived.StillTailTactics
namespace Go.Proofs.YthkblabpiajbhaaDoor
open Go.RowKit Lib

theorem Own.wrAt {w : World} {o n co : Nat} {ws : List (Nat × Nat)} (h : Own wrElem 76 0 w (.slice (some ⟨o, 0, none⟩) n co) ws) (k : Nat) (hk : k < ws.length) :
    w.cell? ⟨o, k * 2, none⟩ = some (.int .i64 (ws[k]).1) ∧ w.cell? ⟨o, k * 2 + 1, none⟩ = some (ptr (ws[k]).2) := by
  have h0 := (Own.lies h).at k 0 (by decide) hk _ rfl
  have h1 := (Own.lies h).at k 1 (by decide) hk _ rfl
  rw [Nat.zero_add] at h0 h1
  exact ⟨h0, h1⟩
theorem Own.ptrAt {w : World} {f n cf : Nat} {pf : List Nat} (h : Own ptrElem 74 0 w (.slice (some ⟨f, 0, none⟩) n cf) pf) (j : Nat) (hj : j < pf.length) : w.cell? ⟨f, j, none⟩ = some (ptr pf[j]) := by
  have := Own.lies h j (ptr pf[j]) (by rw [show ptrElem.cells pf = pf.map ptr from oneElem_cells _ _ _, List.getElem?_map, List.getElem?_eq_getElem hj]; rfl)
  rwa [Nat.zero_add] at this
theorem Own.ptrSome {w : World} {f n cf : Nat} {pf : List Nat} (h : Own ptrElem 74 0 w (.slice (some ⟨f, 0, none⟩) n cf) pf) (j : Nat) (hj : j < pf.length) : ∃ y, w.cell? ⟨f, j, none⟩ = some (.pointer (some ⟨y, 0, none⟩)) := ⟨_, h.ptrAt j hj⟩
theorem Own.len_le {α : Type} {K : Elem α} {E : TypeId} {B : Nat} {w : World} {v : Value} {l : List α} (h : Own K E B w v l) : l.length ≤ 9223372036854775807 := by
  rcases h.2 with ⟨_, e⟩ | ⟨_, _, _, _, _, _, hc, hm, _⟩
  · omega
  · unfold maxLen at hm; omega

set_option maxRecDepth 100000 in
set_option maxHeartbeats 1000000 in
theorem flush_any (w : World) (F : Nat → Prop) (g : Nat) (d : Dk.Disk) (hd : Sec w F g d) :
    Calls Tryd.prog 39 #[ptr g] w fun e w' => e = .returned (.int .i64 d.flush.1) ∧ Sec w' F g d.flush.2 ∧ Moved F w F w' := by
  have HD := Lib.hid hd
  by_cases ho : d.off = true
  · have HR : d.flush = (3, d) := by unfold Dk.Disk.flush; rw [if_pos ho]
    rw [HR]
    clear HR hd
    go_enter Tryd.func39, Tryd.ntmps39
    go_wp2_with fail
    refine (down_any _ _ _ _ HD.out).mono ?_
    rintro e w1 ⟨rfl, rfl⟩
    rw [ho]
    go_wp2
    go_ret
    exact ⟨rfl, HD.out, Moved.refl _ _⟩
  · have ho' : d.off = false := by simpa using ho
    by_cases hf : d.fuel = 0
    · have HR : d.flush = (3, d.dead) := by unfold Dk.Disk.flush; rw [if_neg ho, if_pos hf]
      have hst := fun w' (hw : w' = w) => step_any w' F g d (hw ▸ hd)
      rw [if_pos hf, show decide (d.fuel ≠ 0) = false by simp [hf]] at hst
      have HST := Lib.hid (hst w rfl)
      rw [HR]
      clear HR hd hst
      go_enter Tryd.func39, Tryd.ntmps39
      go_wp2_with fail
      refine (down_any _ _ _ _ HD.out).mono ?_
      rintro e w1 ⟨rfl, rfl⟩
      rw [ho']
      go_wp2_with fail
      refine HST.out.mono ?_
      rintro e w1 ⟨rfl, h1, h2⟩
      have H12 := Lib.hid (And.intro h1 h2)
      clear h1 h2
      go_wp2
      go_ret
      exact ⟨rfl, H12.out⟩
    · have HR : d.flush = (0, { d.burnt with firm := d.now, loose := [] }) := by unfold Dk.Disk.flush; rw [if_neg ho, if_neg hf]
      have hst := fun w' (hw : w' = w) => step_any w' F g d (hw ▸ hd)
      rw [if_neg hf, show decide (d.fuel ≠ 0) = true by simp [hf]] at hst
      have HST := Lib.hid (hst w rfl)
      rw [HR]
      clear HR hd hst
      go_enter Tryd.func39, Tryd.ntmps39
      go_wp2_with fail
      refine (down_any _ _ _ _ HD.out).mono ?_
      rintro e w1 ⟨rfl, rfl⟩
      rw [ho']
      go_wp2_with fail
      refine HST.out.mono ?_
      rintro e w1 ⟨rfl, h1, h2⟩
      have HM := Lib.hid h2
      clear h2
      obtain ⟨f, cf, l, cl, vo, n, pf, pl, ws, T, k1, k2, k3, k4, kp, k5, k6, k6', k7, k8, k9, k10, k11, k12, k13, k14⟩ := h1
      have c2 : w1.cell? ⟨g, 2, none⟩ = some vo := k1.blk.cell rfl
      obtain ⟨a, co, rfl, hco⟩ := Own.slice k1.oo
      have hwl := Own.len_le k1.oo
      have HK := Lib.hid (And.intro k2 (And.intro k3 (And.intro k4 (And.intro kp (And.intro k5 (And.intro k13 k14))))))
      have H1 := Lib.hid k1
      have H9 := Lib.hid k9
      clear k1 k2 k3 k4 kp k5 k13 k14 k9
      unfold ptr
      go_wp2
      go_loopw [17] (fun i wr => ∃ k : Nat, k ≤ ws.length ∧ i = .int .i64 k ∧ SecIn wr g f cf l cl (.slice a ws.length co) n d.burnt.off (Dk.puts pf (ws.take k)) pl ws ∧ But (· = f) w1 wr) (fun i _ => ws.length - (intOf i).toNat)
      case atStart => exact ⟨0, Nat.zero_le _, rfl, H1.out, But.refl _ _⟩
      case round =>
        obtain ⟨k, hk, rfl, hs, hb⟩ := hrel
        by_cases hlt : k < ws.length
        · have hI : (k : Int) < ws.length := by omega
          obtain ⟨o, co', e1, _, _, _⟩ := Own.form hs.oo (by omega)
          injection e1 with e1 _ e3
          subst e1 e3
          obtain ⟨ca, cb⟩ := Own.wrAt hs.oo k hlt
          have hps : (Dk.puts pf (ws.take k)).length = pf.length := Dk.puts_length _ _
          have hat := H9.out ws[k] (List.getElem_mem hlt)
          have c0 : wr.cell? ⟨g, 0, none⟩ = some (.slice (some ⟨f, 0, none⟩) (Dk.puts pf (ws.take k)).length cf) := hs.blk.cell rfl
          have hfl : (ws[k]).1 < (Dk.puts pf (ws.take k)).length := by omega
          obtain ⟨y, cfi⟩ := hs.of.ptrSome (ws[k]).1 hfl
          have ffi : wr.frozen? ⟨f, (ws[k]).1, none⟩ = false := Own.frozen hs.of _
          rw [hps] at c0
          have HH := Lib.hid (And.intro hs hb)
          have HX := Lib.hid (Dk.puts_take pf ws k hlt)
          clear hs hb hps hfl
          generalize ws[k] = x at *
          obtain ⟨at', c⟩ := x
          have hatI : (at' : Int) < pf.length := by have := hat; simp only at this; omega
          simp only at ca cb cfi ffi
          unfold ptr at cb
          go_wp2
          obtain ⟨q, hq⟩ : ∃ q, wr.heap.size = q := ⟨_, rfl⟩
          rw [hq]
          obtain ⟨V, hV⟩ : ∃ V, V = wr.alloc (.cells #[.int .i64 at', .pointer (some ⟨c, 0, none⟩)] 76) := ⟨_, rfl⟩
          rw [← hV]
          have hbV : But (fun _ => False) wr V := by rw [hV]; exact (But.refl _ _).alloc _
          have bq : Blk V q 76 [.int .i64 at', .pointer (some ⟨c, 0, none⟩)] := by rw [hV, ← hq]; exact Blk.new wr _ _
          have c0' : V.cell? ⟨g, 0, none⟩ = some (.slice (some ⟨f, 0, none⟩) pf.length cf) := hbV.cell c0 id
          have cfi' : V.cell? ⟨f, at', none⟩ = some (.pointer (some ⟨y, 0, none⟩)) := hbV.cell cfi id
          have ffi' : V.frozen? ⟨f, at', none⟩ = false := (hbV.frozen (World.block_lt_of_cell? _ _ cfi) id).trans ffi
          have q0 : V.cell? ⟨q, 0, none⟩ = some (.int .i64 at') := bq.cell rfl
          have q1 : V.cell? ⟨q, 1, none⟩ = some (.pointer (some ⟨c, 0, none⟩)) := bq.cell rfl
          have HVB := Lib.hid hbV
          clear hV hbV bq c0 cfi ffi ca cb hq
          go_still_tail 9, (by kernel_rfl)
          change wpList _ _ _ _ _ V.drew
          obtain ⟨U, hU⟩ : ∃ U, U = V.drew := ⟨_, rfl⟩
          rw [← hU]
          have hbU : But (fun _ => False) V U := by rw [hU]; exact (But.refl _ _).drew
          have cfu : U.cell? ⟨f, at', none⟩ = some (.pointer (some ⟨y, 0, none⟩)) := hbU.cell cfi' id
          have ffu : U.frozen? ⟨f, at', none⟩ = false := (hbU.frozen (World.block_lt_of_cell? _ _ cfi') id).trans ffi'
          have HBU := Lib.hid (HVB.out.trans hbU (fun _ _ h => h))
          clear hU hbU c0' cfi' ffi' q0 q1 HVB
          go_wp2
          go_roundw
          case rel =>
            refine ⟨k + 1, by omega, by go_num, ?_, ?_⟩
            · rw [HX.out]
              exact (HH.out.1.but HBU.out id id id (fun _ _ => id)).setFirm at' c
            · exact (HH.out.2.trans HBU.out (fun _ _ h => h.elim)).setCell ⟨f, at', none⟩ _ (fun _ => rfl)
          case measure => simp [intOf]; omega
        · have hke : k = ws.length := by omega
          subst hke
          rw [List.take_length] at hs
          have b2 : wr.cell? ⟨g, 2, none⟩ = some (.slice a ws.length co) := hs.blk.cell rfl
          have f2 : wr.frozen? ⟨g, 2, none⟩ = false := hs.blk.frozen 2
          have hps : (Dk.puts pf ws).length = pf.length := Dk.puts_length _ _
          have HH := Lib.hid (show Sec (wr.setCell ⟨g, 2, none⟩ (.slice none 0 0)) F g { d.burnt with firm := d.now, loose := [] } ∧ Moved F w1 F (wr.setCell ⟨g, 2, none⟩ (.slice none 0 0)) by
            obtain ⟨k2, k3, k4, kp, k5, k13, k14⟩ := HK.out
            have hbg : But (fun x => x = f ∨ x = g) w1 (wr.setCell ⟨g, 2, none⟩ (.slice none 0 0)) := (hb.mono (fun x _ e => .inl e)).setCell _ _ (fun _ => .inr rfl)
            have hs' := hs.setLoose (.slice none 0 0) [] (Own.nil _ _ _ _)
            refine ⟨⟨f, cf, l, cl, _, n, Dk.puts pf ws, pl, [], T, hs', ?_, ?_, rfl, ?_, k5, k6, k6', by omega, by omega, ?_, k10, k11, k12, ?_, fun x hx => Nat.lt_of_lt_of_le (k14 x hx) hbg.size⟩, hbg.mono (fun x _ e => by rcases e with rfl | rfl; exact k11; exact k10), fun x hx => .inl hx⟩
            · intro x hx
              have hx' : x ∈ pf ++ (pl ++ ws.map (·.2)) := by
                simp only [List.map_nil, List.append_nil, List.mem_append] at hx ⊢
                rcases hx with hx | hx
                · rcases Dk.puts_mem ws pf _ hx with h | ⟨j, h⟩
                  · exact .inl h
                  · exact .inr (.inr (List.mem_map.2 ⟨_, h, rfl⟩))
                · exact .inr (.inl hx)
              obtain ⟨h1, h2, h3⟩ := k2 x hx'
              refine ⟨h1.but hbg ?_, h2, h3⟩
              rintro (e | e)
              · exact H1.out.of.ne_blk h1 (by decide) (by rw [e]; rfl)
              · exact h1.ne H1.out.blk (by decide) e
            · show d.now = _
              rw [Dk.puts_map, ← k3, ← k4]; rfl
            · show Dk.puts d.now [] = _
              exact kp
            · intro x hx; cases hx
            · intro x hx; simp [Value.ownBlock] at hx)
          clear hs hb HK hps
          go_wp2
          go_ret
          exact ⟨rfl, HH.out.1, HM.out.trans HH.out.2⟩
end Go.Proofs.YthkblabpiajbhaaDoor
