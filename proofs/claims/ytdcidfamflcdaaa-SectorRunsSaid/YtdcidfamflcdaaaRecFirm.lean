/- Walks of the reference's firm, Flush. -/
import Derived.Test.YtdcidfamflcdaaaRecWrite
namespace Go.Proofs.Ytdcidfamflcdaaa
open Go.RowKit Lib

theorem OwnS.put {B : Nat} {w : World} {f n cf : Nat} {l : List (List UInt8)} (h : OwnS B w (.slice (some ⟨f, 0, none⟩) n cf) l) (j : Nat) (t : List UInt8) : OwnS B (w.setCell ⟨f, j, none⟩ (.string (bs t))) (.slice (some ⟨f, 0, none⟩) n cf) (l.set j t) := by
  have := Own.store (f := fun s => Value.string s) (hf := fun _ => rfl) h j (bs t)
  show Own _ _ _ _ _ _
  rw [List.map_set]
  exact this
theorem OwnS.but' {S : Nat → Prop} {B : Nat} {w w' : World} {v : Value} {l : List (List UInt8)} (h : OwnS B w v l) (hb : But S w w') (hn : ∀ g, v.ownBlock = some g → ¬ S g) : OwnS B w' v l := Own.but h hb hn

theorem Rec.firmed {w W : World} {F : Nat → Prop} {g : Nat} {vo : Value} {d : Dk.Disk} {M : List (List UInt8)}
    (hd : Rec w F g d) (hb : Below w.heap.size w W) (ho : OwnS w.heap.size W vo M) :
    ∃ F', Rec ((W.setCell ⟨g, 0, none⟩ vo).setCell ⟨g, 1, none⟩ (.slice none 0 0)) F' g { d with firm := M, loose := [] } ∧ Moved F w F' ((W.setCell ⟨g, 0, none⟩ vo).setCell ⟨g, 1, none⟩ (.slice none 0 0)) := by
  obtain ⟨vf, vl, k1, k2, k3, k4, k5, k6, k7, k8⟩ := hd
  have bg := k1.blk.below hb (k8 g k5)
  have bg2 := (bg.set 0 vo).set 1 (.slice none 0 0)
  have hsz : ((W.setCell ⟨g, 0, none⟩ vo).setCell ⟨g, 1, none⟩ (.slice none 0 0)).heap.size = W.heap.size := by simp [World.setCell]
  have hb2 : But (· = g) W ((W.setCell ⟨g, 0, none⟩ vo).setCell ⟨g, 1, none⟩ (.slice none 0 0)) := ((But.refl (· = g) W).setCell ⟨g, 0, none⟩ vo (fun _ => rfl)).setCell ⟨g, 1, none⟩ _ (fun _ => rfl)
  have ho2 : OwnS w.heap.size ((W.setCell ⟨g, 0, none⟩ vo).setCell ⟨g, 1, none⟩ (.slice none 0 0)) vo M := OwnS.but' ho hb2 (fun k hk e => by have := (Own.block ho k hk).1; have := k8 g k5; omega)
  refine ⟨fun x => F x ∨ (w.heap.size ≤ x ∧ x < W.heap.size), ⟨vo, .slice none 0 0, ⟨bg2, Own.mono ho2 (Nat.zero_le _), Own.nil _ _ _ _⟩, k2, k3, fun x hx => (by cases hx), .inl k5, fun x hx => .inr (Own.block ho x hx), fun x hx => by simp [Value.ownBlock] at hx, ?_⟩, ((But.of_below hb F).setCell ⟨g, 0, none⟩ vo (fun _ => k5)).setCell ⟨g, 1, none⟩ _ (fun _ => k5), ?_⟩
  · rintro x (h | h)
    · rw [hsz]; exact Nat.lt_of_lt_of_le (k8 x h) hb.size
    · rw [hsz]; exact h.2
  · rintro x (h | h)
    · exact .inl h
    · exact .inr h.1

set_option maxRecDepth 100000 in
set_option maxHeartbeats 1000000 in
theorem firm_any (w : World) (F : Nat → Prop) (g : Nat) (d : Dk.Disk) (vl : Value) (ws : List (Nat × List UInt8)) (hd : Rec w F g d) (hl : Own rwElem 72 0 w vl ws) (hx : ∀ x ∈ ws, x.1 < d.firm.length) (hn : d.firm.length ≤ 1000000) :
    Calls Try.prog 30 #[ptr g, vl] w fun e w' => e = .returned (.tuple #[]) ∧ ∃ F', Rec w' F' g { d with firm := Dk.puts d.firm ws, loose := [] } ∧ Moved F w F' w' := by
  have HD := Lib.hid hd
  obtain ⟨vf, vl0, k1, k2, k3, k4, k5, k6, k7, k8⟩ := hd
  have hc0 : (w.alloc (.cells #[] 9)).cell? ⟨g, 0, none⟩ = some vf := ((But.refl (fun _ => False) w).alloc _).cell (k1.blk.cell rfl) id
  have hgl := k8 g k5
  have HG := Lib.hid k1.blk
  have HOF := Lib.hid k1.of
  clear k1 k2 k3 k4 k5 k6 k7 k8
  obtain ⟨al, cl, rfl, hcl⟩ := Own.slice hl
  have hwl := Own.len_le hl
  have HL := Lib.hid hl
  have HX := Lib.hid hx
  clear hl hx
  go_enter Try.func30, Try.ntmps30
  unfold ptr
  go_wp2_with (at_builtin; refine Hid.out ?_)
  refine Lib.hid ?_
  refine wpList_app_own stringST rfl _ _ rfl rfl (own_lit0 strElem 9 w) (by simp) vf 0 (d.firm.map bs) rfl (Own.alloc HOF.out _) (by simp; omega) ?_
  intro vo w2 hown2 hg2
  rw [List.nil_append] at hown2
  have hb2 := ((Below.refl w.heap.size w).alloc (Nat.le_refl _) (.cells #[] 9)).grown hg2 (by simp) (fun x hx => by
    simp [Act.eval, Value.ownBlock] at hx
    omega)
  have H2 := Lib.hid (show OwnS w.heap.size w2 vo d.firm from hown2)
  have HB2 := Lib.hid hb2
  clear hown2 hg2 hb2 hc0
  go_wp2
  go_loopw [5] (fun i wr => ∃ k : Nat, k ≤ ws.length ∧ i = .int .i64 k ∧ Hid (OwnS w.heap.size wr vo (Dk.puts d.firm (ws.take k))) ∧ Hid (Below w.heap.size w wr)) (fun i _ => ws.length - (intOf i).toNat)
  case atStart => exact ⟨0, Nat.zero_le _, rfl, H2, HB2⟩
  case round =>
    obtain ⟨k, hk, rfl, ho, hb⟩ := hrel
    by_cases hlt : k < ws.length
    · have hI : (k : Int) < ws.length := by omega
      have hat := HX.out ws[k] (List.getElem_mem hlt)
      have hps : (Dk.puts d.firm (ws.take k)).length = d.firm.length := Dk.puts_length _ _
      obtain ⟨o, co', e1, _, ol, _⟩ := Own.form HL.out (by omega)
      injection e1 with e1 e2 e3
      clear e2
      subst e1 e3
      obtain ⟨q, cq, rfl, hq1, hq2, hq3⟩ := Own.form ho.out (by rw [List.length_map]; omega)
      rw [List.length_map, hps] at ho hq3 ⊢
      obtain ⟨ca, cb⟩ := Own.rwAt HL.out k hlt
      have ca' := (hb.out.cell (p := ⟨o, k * 2, none⟩) ol).trans ca
      have cb' := (hb.out.cell (p := ⟨o, k * 2 + 1, none⟩) ol).trans cb
      have cq0 := OwnS.strAt ho.out (ws[k]).1 (by omega)
      have fq0 : wr.frozen? ⟨q, (ws[k]).1, none⟩ = false := Own.frozen ho.out _
      have HT := Lib.hid (Dk.puts_take d.firm ws k hlt)
      clear ca cb
      generalize (Dk.puts d.firm (ws.take k))[(ws[k]).1] = old at *
      generalize ws[k] = x at *
      obtain ⟨at', t⟩ := x
      simp only at ca' cb' cq0 fq0 HT hat
      have hatI : (at' : Int) < d.firm.length := by omega
      clear hps
      go_wp2
      go_still_tail 12, (by kernel_rfl)
      change wpList _ _ _ _ _ wr.drew
      obtain ⟨U, hU⟩ : ∃ U, U = wr.drew := ⟨_, rfl⟩
      rw [← hU]
      have hbU : But (fun _ => False) wr U := by rw [hU]; exact (But.refl _ _).drew
      have cqu : U.cell? ⟨q, at', none⟩ = some (.string (bs old)) := hbU.cell cq0 id
      have fqu : U.frozen? ⟨q, at', none⟩ = false := (hbU.frozen (World.block_lt_of_cell? _ _ cq0) id).trans fq0
      have HOU := Lib.hid (OwnS.but' ho.out hbU (fun _ _ h => h))
      have HBU := Lib.hid (hb.out.trans (hbU.below hb.out.size (fun _ _ h => h)))
      clear hU hbU cq0 fq0 ca' cb' ho hb
      go_wp2
      go_roundw
      case rel =>
        refine ⟨k + 1, by omega, by go_num, ?_, Lib.hid (HBU.out.setCell hq1 _)⟩
        rw [HT.out]
        exact Lib.hid (OwnS.put HOU.out at' t)
      case measure => simp [intOf]; omega
    · have hke : k = ws.length := by omega
      subst hke
      have bg := HG.out.below hb.out hgl
      have g0 : wr.cell? ⟨g, 0, none⟩ = some vf := bg.cell rfl
      have gf : wr.frozen? ⟨g, 0, none⟩ = false := bg.frozen 0
      have ho' := ho.out
      rw [List.take_length] at ho'
      obtain ⟨a0, c0, hv0, _⟩ := Own.slice ho'
      generalize ((Dk.puts d.firm ws).map bs).length = N0 at hv0
      have bg2 := bg.set 0 vo
      have g1 : (wr.setCell ⟨g, 0, none⟩ vo).cell? ⟨g, 1, none⟩ = some vl0 := bg2.cell rfl
      have gf1 : (wr.setCell ⟨g, 0, none⟩ vo).frozen? ⟨g, 1, none⟩ = false := bg2.frozen 1
      have HE := Lib.hid (Rec.firmed HD.out hb.out ho')
      clear ho bg bg2 H2 ho' HB2
      subst hv0
      go_wp2
      refine bodyPost_end (results_none rfl _ _ _) rfl ?_
      exact ⟨rfl, HE.out⟩
end Go.Proofs.Ytdcidfamflcdaaa
