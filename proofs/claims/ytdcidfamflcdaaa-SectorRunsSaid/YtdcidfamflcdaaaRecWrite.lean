/- Walk of the reference's Write. -/
import Derived.Test.YtdcidfamflcdaaaRecRead
namespace Go.Proofs.Ytdcidfamflcdaaa
open Go.RowKit Lib

theorem lies_rw (w : World) (i : Nat) (t : List UInt8) : Lies rwElem (w.alloc (.cells #[.int .i64 i, .string (bs t)] 72)) w.heap.size 0 [(i, t)] :=
  Lies.of_blk (Blk.new w #[.int .i64 i, .string (bs t)] 72) rfl
theorem own_lit0 {α : Type} (K : Elem α) (E : TypeId) (w : World) : Own K E w.heap.size (w.alloc (.cells #[] E)) (.slice (some ⟨w.heap.size, 0, none⟩) 0 0) [] := World.ownsRow_lit w #[] 0 (Nat.le_refl _) (by decide) (by simp)

theorem Rec.wrote {w1 W w5 : World} {F : Nat → Prop} {g k : Nat} {vf vl v' : Value} {d : Dk.Disk} {t : List UInt8}
    (k1 : RecIn w1 g vf vl d) (hbW : Below w1.heap.size w1 W) (hown : Own rwElem 72 w1.heap.size W v' (d.loose ++ [(k, t)])) (h5 : w5 = W.setCell ⟨g, 1, none⟩ v')
    (k2 : -1 ≤ d.fuel) (k3 : d.fuel ≤ 9223372036854775807) (k4 : ∀ x ∈ d.loose, x.1 < d.firm.length) (k5 : F g) (k6 : ∀ k, vf.ownBlock = some k → F k) (k8 : ∀ k, F k → k < w1.heap.size) (hk : k < d.firm.length) :
    ∃ F', Rec w5 F' g { d with loose := d.loose ++ [(k, t)] } ∧ Moved F w1 F' w5 := by
  subst h5
  have hof : OwnS 0 W vf d.firm := OwnS.below' k1.of hbW (Nat.le_refl _)
  have kW : RecIn W g vf vl d := ⟨k1.blk.below hbW (k8 g k5), hof, Own.below k1.ol hbW (Nat.le_refl _)⟩
  have hszW : W.heap.size = (W.setCell ⟨g, 1, none⟩ v').heap.size := by simp [World.setCell]
  have hb : But F w1 (W.setCell ⟨g, 1, none⟩ v') := (But.of_below hbW F).setCell ⟨g, 1, none⟩ v' (fun _ => k5)
  refine ⟨fun x => F x ∨ (w1.heap.size ≤ x ∧ x < W.heap.size), ⟨vf, v', kW.setG (d' := { d with loose := d.loose ++ [(k, t)] }) 1 v' vf v' hof (hown.mono (Nat.zero_le _)) rfl, k2, k3, ?_, .inl k5, fun x hx => .inl (k6 x hx), fun x hx => .inr (hown.block x hx), ?_⟩, hb, ?_⟩
  · intro x hx
    rcases List.mem_append.1 hx with hx | hx
    · exact k4 x hx
    · obtain rfl : x = (k, t) := by simpa using hx
      exact hk
  · rintro x (h | h)
    · rw [← hszW]; exact Nat.lt_of_lt_of_le (k8 x h) hbW.size
    · rw [← hszW]; exact h.2
  · rintro x (h | h)
    · exact .inl h
    · exact .inr h.1

set_option maxRecDepth 100000 in
set_option maxHeartbeats 1000000 in
theorem refWrite_any (w : World) (F : Nat → Prop) (g : Nat) (d : Dk.Disk) (i : Int) (s : ByteArray) (hd : Rec w F g d) (hn : d.loose.length ≤ 900000000) :
    Calls Try.prog 25 #[ptr g, .int .i64 i, .string s] w fun e w' => e = .returned (.int .i64 (d.write i s.data.toList).1) ∧ ∃ F', Rec w' F' g (d.write i s.data.toList).2 ∧ Moved F w F' w' := by
  have HD := Lib.hid hd
  have hsz : s.data.toList.length = s.size := Array.length_toList
  obtain ⟨vf, vl, k1, k2, k3, k4, k5, k6, k7, k8⟩ := hd
  have c0 : w.cell? ⟨g, 0, none⟩ = some vf := k1.blk.cell rfl
  have c3 : w.cell? ⟨g, 3, none⟩ = some (.bool d.off) := k1.blk.cell rfl
  obtain ⟨af, cf, rfl, hcf⟩ := Own.slice k1.of
  rw [List.length_map] at c0 hcf
  clear k1 k2 k3 k4 k5 k6 k7 k8
  by_cases ho : d.off = true
  · have HR : d.write i s.data.toList = (3, d) := by unfold Dk.Disk.write; rw [if_pos ho]
    rw [HR]
    rw [ho] at c3
    clear HR
    go_enter Try.func25, Try.ntmps25
    unfold ptr
    go_wp2
    go_ret
    exact ⟨rfl, _, HD.out, Moved.refl _ _⟩
  · have ho' : d.off = false := by simpa using ho
    rw [ho'] at c3
    by_cases hh : d.has i = true
    · have hi : 0 ≤ i ∧ i < d.firm.length := by simpa [Dk.Disk.has] using hh
      have hi1 : ¬ i < 0 := by omega
      have hi2 : ¬ i ≥ d.firm.length := by omega
      by_cases hs : s.size ≤ 512
      · have hsI : ¬ ((s.size : Int) > 512) := by omega
        by_cases hf : d.fuel = 0
        · have HR : d.write i s.data.toList = (3, d.dead) := by
            unfold Dk.Disk.write; rw [if_neg ho, hh, hsz, if_neg (by decide), if_neg (by omega), if_pos hf]
          have hst := refStep_any w F g d HD.out
          rw [if_pos hf, if_pos hf] at hst
          have HST := Lib.hid hst
          rw [HR]
          clear HR hst
          go_enter Try.func25, Try.ntmps25
          unfold ptr
          go_wp2_with fail
          refine HST.out.mono ?_
          rintro e w1 ⟨rfl, h1, h2⟩
          have H12 := Lib.hid (And.intro h1 h2)
          clear h1 h2
          go_wp2
          go_ret
          exact ⟨rfl, _, H12.out⟩
        · have HR : d.write i s.data.toList = (0, { d.burnt with loose := d.loose ++ [(i.toNat, Dk.full s.data.toList)] }) := by
            unfold Dk.Disk.write; rw [if_neg ho, hh, hsz, if_neg (by decide), if_neg (by omega), if_neg hf]
          have hst := refStep_any w F g d HD.out
          rw [if_neg hf, if_neg hf] at hst
          have HST := Lib.hid hst
          rw [HR]
          obtain ⟨k, rfl⟩ : ∃ k : Nat, i = k := ⟨i.toNat, by omega⟩
          clear HR hst
          go_enter Try.func25, Try.ntmps25
          unfold ptr
          go_wp2_with fail
          refine HST.out.mono ?_
          rintro e w1 ⟨rfl, h1, h2⟩
          have HM := Lib.hid h2
          clear h2 c0 c3
          obtain ⟨vf1, vl1, k1, k2, k3, k4, k5, k6, k7, k8⟩ := h1
          have hll : d.burnt.loose = d.loose := rfl
          have c1 : w1.cell? ⟨g, 1, none⟩ = some vl1 := k1.blk.cell rfl
          have hc1 : (w1.alloc (.cells #[] 72)).cell? ⟨g, 1, none⟩ = some vl1 := ((But.refl (fun _ => False) w1).alloc _).cell c1 id
          have H1 := Lib.hid (And.intro k1 (And.intro k2 (And.intro k3 (And.intro k4 (And.intro k5 (And.intro k6 k8))))))
          clear k1 k2 k3 k4 k5 k6 k7 k8
          go_wp2_with (at_builtin; refine Hid.out ?_)
          refine Lib.hid ?_
          obtain ⟨k1, k2, k3, k4, k5, k6, k8⟩ := H1.out
          clear H1
          refine wpList_app_own rwST rfl _ _ rfl rfl (own_lit0 rwElem 72 w1) (by simp) vl1 0 d.loose rfl (k1.ol.alloc _) (by simp; omega) ?_
          intro v2 w2 hown2 hg2
          rw [List.nil_append] at hown2
          have hb2 := ((Below.refl w1.heap.size w1).alloc (Nat.le_refl _) (.cells #[] 72)).grown hg2 (by simp) (fun x hx => by
            simp [Act.eval, Value.ownBlock] at hx
            omega)
          have hs2 := hb2.size
          clear hg2
          have H2 := Lib.hid (And.intro k1 (And.intro k2 (And.intro k3 (And.intro k4 (And.intro k5 (And.intro k6 (And.intro k8 (And.intro hown2 hb2))))))))
          clear k1 k2 k3 k4 k5 k6 k8 hown2 hb2
          go_wp2_with fail
          refine (full_any s w2 hs).mono ?_
          rintro e w3 ⟨rfl, hb3⟩
          obtain ⟨k1, k2, k3, k4, k5, k6, k8, hown2, hb2⟩ := H2.out
          have hown3 := Own.below hown2 hb3 (Nat.le_refl _)
          have hbb := hb2.trans (hb3.mono hs2)
          have H3 := Lib.hid (And.intro k1 (And.intro k2 (And.intro k3 (And.intro k4 (And.intro k5 (And.intro k6 (And.intro k8 (And.intro hown3 hbb))))))))
          clear k1 k2 k3 k4 k5 k6 k8 hown2 hb2 hb3 hown3 hbb H2
          go_wp2_with (at_builtin; refine Hid.out ?_)
          refine Lib.hid ?_
          obtain ⟨k1, k2, k3, k4, k5, k6, k8, hown3, hbb⟩ := H3.out
          have hs3 := hbb.size
          refine wpList_app rwST rfl _ _ rfl rfl (hown3.alloc _) (by simp; omega) w3.heap.size 0 1 1 [(k, Dk.full s.data.toList)] rfl rfl (lies_rw w3 k (Dk.full s.data.toList)) (by omega) ?_
          intro v4 w4 hown4 hg4
          have hb4 := (hbb.alloc hs3 (.cells #[.int .i64 k, .string (bs (Dk.full s.data.toList))] 72)).grown hg4 (by simp; omega) (fun x hx => by
            have := (hown3.block x hx).1
            exact this)
          have bg : Blk w4 g 66 [vf1, vl1, .int .i64 d.burnt.fuel, .bool d.burnt.off] := k1.blk.below hb4 (k8 g k5)
          have g1 : w4.cell? ⟨g, 1, none⟩ = some vl1 := bg.cell rfl
          have gf : w4.frozen? ⟨g, 1, none⟩ = false := bg.frozen 1
          obtain ⟨a4, c4, hv4, _⟩ := Own.slice hown4
          generalize (d.loose ++ [(k, Dk.full s.data.toList)]).length = N4 at hv4
          subst hv4
          have H5 := Lib.hid (Rec.wrote (d := d.burnt) k1 hb4 hown4 rfl k2 k3 k4 k5 k6 k8 (by show k < d.firm.length; omega))
          clear k1 k2 k3 k4 k5 k6 k8 hown3 hbb hown4 hg4 hb4 bg H3 hs3 hs2 hc1 c1 hll
          go_wp2
          go_ret
          obtain ⟨F', h1, h2⟩ := H5.out
          exact ⟨rfl, F', h1, HM.out.trans h2⟩
      · have hsI : (s.size : Int) > 512 := by omega
        have HR : d.write i s.data.toList = (5, d) := by
          unfold Dk.Disk.write; rw [if_neg ho, hh, hsz, if_neg (by decide), if_pos (by omega)]
        rw [HR]
        clear HR
        go_enter Try.func25, Try.ntmps25
        unfold ptr
        go_wp2
        go_ret
        exact ⟨rfl, _, HD.out, Moved.refl _ _⟩
    · have hh' : d.has i = false := by simpa using hh
      have HR : d.write i s.data.toList = (2, d) := by unfold Dk.Disk.write; rw [if_neg ho, hh', if_pos (by decide)]
      rw [HR]
      by_cases hi : i < 0
      · clear HR
        go_enter Try.func25, Try.ntmps25
        unfold ptr
        go_wp2
        go_ret
        exact ⟨rfl, _, HD.out, Moved.refl _ _⟩
      · have hi2 : i ≥ d.firm.length := by
          unfold Dk.Disk.has at hh'
          simp only [Bool.and_eq_false_iff, decide_eq_false_iff_not] at hh'
          omega
        clear HR
        go_enter Try.func25, Try.ntmps25
        unfold ptr
        go_wp2
        go_ret
        exact ⟨rfl, _, HD.out, Moved.refl _ _⟩
end Go.Proofs.Ytdcidfamflcdaaa
