/- The reference's disk in memory, and its small functions. -/
import Derived.Test.YtdcidfamflcdaaaBytesG
import Derived.Test.YtdcidfamflcdaaaAppend
import Derived.Test.YtdcidfamflcdaaaSecFall
namespace Go.Proofs.Ytdcidfamflcdaaa
open Go.RowKit Lib

def lenV : Value → Nat | .slice _ n _ => n | _ => 0

set_option maxRecDepth 100000 in
theorem full_any (s : ByteArray) (w : World) (hs : s.size ≤ 512) :
    Calls Try.prog 24 #[.string s] w fun e w' => e = .returned (.string (bs (Dk.full s.data.toList))) ∧ Below w.heap.size w w' := by
  obtain ⟨v0, o0, hcv, hown⟩ := own_of_string w s (by omega)
  have HO := Lib.hid hown
  have hl : s.data.toList.length = s.size := Array.length_toList
  go_enter Try.func24, Try.ntmps24
  go_wp2
  go_loopw [3] (fun v wr => ∃ n : Nat, s.size + n ≤ 512 ∧ Hid (OwnG w.heap.size wr v (s.data.toList ++ List.replicate n 0)) ∧ Hid (Below w.heap.size w wr)) (fun v _ => 512 - lenV v)
  case atStart =>
    refine ⟨0, by omega, ?_, Lib.hid ?_⟩
    · rw [List.replicate_zero, List.append_nil]
      exact HO
    · exact ((Below.refl _ w).drew).alloc (Nat.le_refl _) _
  case round =>
    obtain ⟨n, hn, ho, hb⟩ := hrel
    obtain ⟨g, cap, rfl, hg⟩ := ho.out.slice
    have hlen : (s.data.toList ++ List.replicate n 0).length = s.size + n := by rw [List.length_append, List.length_replicate, hl]
    rw [hlen] at ho ⊢
    have HL := Lib.hid hlen
    by_cases hlt : s.size + n < 512
    · have hI : ((s.size + n : Nat) : Int) < 512 := by omega
      clear hlen hl
      go_wp2_with (at_builtin; refine Hid.out ?_)
      refine Lib.hid ?_
      have hsz := hb.out.size
      refine wpList_app_byte rfl _ _ rfl rfl (ho.out.alloc _) (by simp; omega) wr.heap.size 0 rfl ((Blk.new wr #[.int .u8 0] 5).cell rfl) (by rw [HL.out]; omega) ?_
      intro v' w4 hown4 hb4
      have hbb := (hb.out.alloc (by have := hb.out.size; exact this) (.cells #[.int .u8 0] 5)).trans hb4
      obtain ⟨g', cap', rfl, _⟩ := hown4.slice
      have hl4 : (s.data.toList ++ List.replicate n 0 ++ [0]).length = s.size + n + 1 := by rw [List.length_append, HL.out]; rfl
      rw [hl4] at hown4 ⊢
      have H4 := Lib.hid (And.intro hown4 hbb)
      clear hown4 hb4 hbb hl4
      go_wp2
      go_roundw
      case rel =>
        refine ⟨n + 1, by omega, ?_, Lib.hid H4.out.2⟩
        rw [List.replicate_succ', ← List.append_assoc]
        exact Lib.hid H4.out.1
      case measure => simp [lenV]; omega
    · have hI : ¬ ((s.size + n : Nat) : Int) < 512 := by omega
      have hback := ho.out.back (by rw [HL.out])
      have HF := Lib.hid (show s.data.toList ++ List.replicate n 0 = Dk.full s.data.toList by
        unfold Dk.full
        rw [hl]
        congr 2; omega)
      rw [HF.out] at hback
      clear hlen hl
      go_wp2
      go_ret
      exact ⟨rfl, hb.out⟩

def rwElem : Elem (Nat × List UInt8) := ⟨fun x => [.int .i64 x.1, .string (bs x.2)], 2, by decide, fun _ => rfl, by
  intro a u hu
  simp only [List.mem_cons, List.not_mem_nil, or_false] at hu
  rcases hu with rfl | rfl <;> rfl⟩
theorem rwST : SliceT Try.prog 64 72 rwElem.size := SliceT.of (size := 2) (bytes := 24) (z := .agg #[.int .i64 0, .string .empty]) Try.underlying64 (by kernel_rfl) rfl (by decide)
theorem Own.rwAt {B : Nat} {w : World} {o n co : Nat} {ws : List (Nat × List UInt8)} (h : Own rwElem 72 B w (.slice (some ⟨o, 0, none⟩) n co) ws) (k : Nat) (hk : k < ws.length) :
    w.cell? ⟨o, k * 2, none⟩ = some (.int .i64 (ws[k]).1) ∧ w.cell? ⟨o, k * 2 + 1, none⟩ = some (.string (bs (ws[k]).2)) := by
  have h0 := (Own.lies h).at k 0 (by decide) hk _ rfl
  have h1 := (Own.lies h).at k 1 (by decide) hk _ rfl
  rw [Nat.zero_add] at h0 h1
  exact ⟨h0, h1⟩
theorem OwnS.strAt {B : Nat} {w : World} {f n cf : Nat} {l : List (List UInt8)} (h : OwnS B w (.slice (some ⟨f, 0, none⟩) n cf) l) (j : Nat) (hj : j < l.length) : w.cell? ⟨f, j, none⟩ = some (.string (bs l[j])) := by
  have := Own.lies (show Own strElem 9 B w (.slice (some ⟨f, 0, none⟩) n cf) (l.map bs) from h) j (.string (bs l[j])) (by rw [show strElem.cells (l.map bs) = (l.map bs).map (fun s => Value.string s) from oneElem_cells _ _ _]; simp [hj])
  rwa [Nat.zero_add] at this

/-- In block g lies the reference's disk d; its blocks are all of F. -/
structure RecIn (w : World) (g : Nat) (vf vl : Value) (d : Dk.Disk) : Prop where
  blk : Blk w g 66 [vf, vl, .int .i64 d.fuel, .bool d.off]
  of : OwnS 0 w vf d.firm
  ol : Own rwElem 72 0 w vl d.loose
def Rec (w : World) (F : Nat → Prop) (g : Nat) (d : Dk.Disk) : Prop :=
  ∃ vf vl, RecIn w g vf vl d ∧ -1 ≤ d.fuel ∧ d.fuel ≤ 9223372036854775807 ∧ (∀ x ∈ d.loose, x.1 < d.firm.length) ∧ F g ∧ (∀ k, vf.ownBlock = some k → F k) ∧ (∀ k, vl.ownBlock = some k → F k) ∧ ∀ k, F k → k < w.heap.size
theorem RecIn.but {S : Nat → Prop} {w w' : World} {g : Nat} {vf vl : Value} {d : Dk.Disk} (h : RecIn w g vf vl d) (hb : But S w w') (h1 : ¬ S g) (h2 : ∀ k, vf.ownBlock = some k → ¬ S k) (h3 : ∀ k, vl.ownBlock = some k → ¬ S k) : RecIn w' g vf vl d :=
  ⟨h.blk.but hb h1, Own.but h.of hb h2, h.ol.but hb h3⟩
theorem Rec.but {S : Nat → Prop} {w w' : World} {F : Nat → Prop} {g : Nat} {d : Dk.Disk} (h : Rec w F g d) (hb : But S w w') (hn : ∀ k, F k → ¬ S k) : Rec w' F g d := by
  obtain ⟨vf, vl, h1, h2, h3, h4, h5, h6, h7, h8⟩ := h
  exact ⟨vf, vl, h1.but hb (hn _ h5) (fun k hk => hn _ (h6 k hk)) (fun k hk => hn _ (h7 k hk)), h2, h3, h4, h5, h6, h7, fun k hk => Nat.lt_of_lt_of_le (h8 k hk) hb.size⟩
theorem Rec.lt {w : World} {F : Nat → Prop} {g : Nat} {d : Dk.Disk} (h : Rec w F g d) : ∀ k, F k → k < w.heap.size := by
  obtain ⟨_, _, _, _, _, _, _, _, _, h⟩ := h
  exact h
theorem Rec.drewN {w : World} {F : Nat → Prop} {g : Nat} {d : Dk.Disk} (h : Rec w F g d) (n : Nat) : Rec (w.drewN n) F g d := h.but ((But.refl (fun _ => False) w).drewN n) (fun _ _ h => h)
/-- A store into block g. -/
theorem RecIn.setG {w : World} {g : Nat} {vf vl : Value} {d d' : Dk.Disk} (h : RecIn w g vf vl d) (j : Nat) (u vf' vl' : Value) (ho1 : OwnS 0 w vf' d'.firm) (ho2 : Own rwElem 72 0 w vl' d'.loose)
    (hs : [vf, vl, .int .i64 d.fuel, .bool d.off].set j u = [vf', vl', .int .i64 d'.fuel, .bool d'.off]) : RecIn (w.setCell ⟨g, j, none⟩ u) g vf' vl' d' := by
  have hb : But (· = g) w (w.setCell ⟨g, j, none⟩ u) := (But.refl _ w).setCell _ _ (fun _ => rfl)
  refine ⟨?_, Own.but ho1 hb (fun k hk e => Own.ne_blk ho1 h.blk (by decide) (by rw [hk, e])), ho2.but hb (fun k hk e => ho2.ne_blk h.blk (by decide) (by rw [hk, e]))⟩
  rw [← hs]; exact h.blk.set j u
theorem Rec.fueled {w : World} {F : Nat → Prop} {g : Nat} {d : Dk.Disk} (n : Int) (hd : Rec w F g d) (h1 : -1 ≤ n) (h2 : n ≤ 9223372036854775807) : Rec (w.setCell ⟨g, 2, none⟩ (.int .i64 n)) F g { d with fuel := n } ∧ Moved F w F (w.setCell ⟨g, 2, none⟩ (.int .i64 n)) := by
  obtain ⟨vf, vl, k1, k2, k3, k4, k5, k6, k7, k8⟩ := hd
  refine ⟨⟨vf, vl, k1.setG 2 _ vf vl k1.of k1.ol rfl, h1, h2, k4, k5, k6, k7, fun k hk => ?_⟩, (But.refl _ w).setCell _ _ (fun _ => k5), fun _ h => .inl h⟩
  have := k8 k hk; simpa [World.setCell] using this
theorem Rec.offed {w : World} {F : Nat → Prop} {g : Nat} {d : Dk.Disk} (b : Bool) (hd : Rec w F g d) : Rec (w.setCell ⟨g, 3, none⟩ (.bool b)) F g { d with off := b } ∧ Moved F w F (w.setCell ⟨g, 3, none⟩ (.bool b)) := by
  obtain ⟨vf, vl, k1, k2, k3, k4, k5, k6, k7, k8⟩ := hd
  refine ⟨⟨vf, vl, k1.setG 3 _ vf vl k1.of k1.ol rfl, k2, k3, k4, k5, k6, k7, fun k hk => ?_⟩, (But.refl _ w).setCell _ _ (fun _ => k5), fun _ h => .inl h⟩
  have := k8 k hk; simpa [World.setCell] using this

theorem refStep_any (w : World) (F : Nat → Prop) (g : Nat) (d : Dk.Disk) (hd : Rec w F g d) :
    Calls Try.prog 29 #[ptr g] w fun e w' => e = .returned (.int .i64 (if d.fuel = 0 then 3 else 0)) ∧ Rec w' F g (if d.fuel = 0 then d.dead else d.burnt) ∧ Moved F w F w' := by
  have HD := Lib.hid hd
  obtain ⟨vf, vl, k1, k2, k3, k4, k5, k6, k7, k8⟩ := hd
  have c2 : w.cell? ⟨g, 2, none⟩ = some (.int .i64 d.fuel) := k1.blk.cell rfl
  have f2 : w.frozen? ⟨g, 2, none⟩ = false := k1.blk.frozen 2
  have c3 : w.cell? ⟨g, 3, none⟩ = some (.bool d.off) := k1.blk.cell rfl
  have f3 : w.frozen? ⟨g, 3, none⟩ = false := k1.blk.frozen 3
  clear k1 k4 k6 k7 k8
  by_cases h0 : d.fuel = 0
  · rw [if_pos h0, if_pos h0]
    have HE := Lib.hid (HD.out.offed true)
    rw [h0] at c2
    go_enter Try.func29, Try.ntmps29
    unfold ptr
    go_wp2
    go_ret
    exact ⟨rfl, HE.out⟩
  · rw [if_neg h0, if_neg h0]
    obtain ⟨n, hn⟩ : ∃ n, d.fuel = n := ⟨_, rfl⟩
    have HN := Lib.hid hn
    rw [hn] at c2 h0 k2 k3
    clear hn
    by_cases hp : 0 < n
    · have hp' : n > 0 := hp
      have HE := Lib.hid (HD.out.fueled (n - 1) (by omega) (by omega))
      have e : ({ d with fuel := n - 1 } : Dk.Disk) = d.burnt := by
        unfold Dk.Disk.burnt
        rw [HN.out, if_pos hp]
      rw [e] at HE
      go_enter Try.func29, Try.ntmps29
      unfold ptr
      go_wp2
      go_ret
      exact ⟨rfl, HE.out⟩
    · have hp' : ¬ n > 0 := hp
      have e : d.burnt = d := by
        unfold Dk.Disk.burnt
        rw [HN.out, if_neg hp, ← HN.out]
      rw [e]
      go_enter Try.func29, Try.ntmps29
      unfold ptr
      go_wp2
      go_ret
      exact ⟨rfl, HD.out, Moved.refl _ _⟩
end Go.Proofs.Ytdcidfamflcdaaa
