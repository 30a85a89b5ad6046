/- Walk of agree. -/
import Derived.Test.YtdcidfamflcdaaaSecDo
namespace Go.Proofs.Ytdcidfamflcdaaa
open Go.RowKit Lib

theorem Own.intAt {B : Nat} {w : World} {f n cf : Nat} {l : List Int} (h : Own (intElem .i64) 3 B w (.slice (some ⟨f, 0, none⟩) n cf) l) (j : Nat) (hj : j < l.length) : w.cell? ⟨f, j, none⟩ = some (.int .i64 l[j]) := by
  have := Own.lies h j (.int .i64 l[j]) (by rw [show (intElem .i64).cells l = l.map (fun n => Value.int .i64 n) from oneElem_cells _ _ _]; simp [hj])
  rwa [Nat.zero_add] at this
theorem drewN_zero (w : World) : w.drewN 0 = w := rfl

set_option maxRecDepth 100000 in
set_option maxHeartbeats 2000000 in
theorem agree_any (w : World) (F G : Nat → Prop) (g h : Nat) (d : Dk.Disk) (hp : Pair w F G g h d d) (hn : d.loose.length ≤ 900000000) :
    Calls Try.prog 14 #[ptr g, ptr h] w fun e w' => e = .returned (.bool true) ∧ Below w.heap.size w w' := by
  have HP := Lib.hid hp
  have hfl := hp.sec.len
  clear hp
  go_enter Try.func14, Try.ntmps14
  go_wp2_with fail
  refine (loose_any w F g d HP.out.sec hn).mono ?_
  rintro e w1 ⟨v, rfl, hv, hb⟩
  have hbut : But (fun k => w.heap.size ≤ k) w w1 := ⟨hb.os, hb.tape, hb.output, hb.size, fun k _ hk => hb.block k (by omega)⟩
  have p1 := HP.out.but hbut (fun k hk => ⟨fun hf => by have := HP.out.sec.lt k hf; omega, fun hf => by have := HP.out.oth.lt k hf; omega⟩)
  obtain ⟨vf, vl, c0, c1, _, c3, _, _, hof, hol⟩ := p1.oth.cells
  obtain ⟨av, cv, rfl, hcv⟩ := Own.slice hv
  obtain ⟨af, cf, rfl, hcf⟩ := Own.slice hof
  obtain ⟨al, cl, rfl, hcl⟩ := Own.slice hol
  rw [List.length_map] at c0 hcf hcv hv hof ⊢
  have HV := Lib.hid hv
  have HOL := Lib.hid hol
  have HB := Lib.hid hb
  have HP1 := Lib.hid p1
  have HDOWN := Lib.hid (show ∀ q, Calls Try.prog 9 #[ptr g] (w1.drewN q) fun e w' => e = .returned (.bool d.off) ∧ ∃ m, w' = (w1.drewN q).drewN m from fun q => (down_any (w1.drewN q) F g d (p1.sec.drewN q)).mono fun _ _ ⟨h1, h2⟩ => ⟨h1, 0, h2⟩)
  have HSIZE := Lib.hid (show ∀ q, Calls Try.prog 11 #[ptr g] (w1.drewN q) fun e w' => e = .returned (.int .i64 d.firm.length) ∧ ∃ m, w' = (w1.drewN q).drewN m from fun q => (size_any (w1.drewN q) F g d (p1.sec.drewN q)).mono fun _ _ ⟨h1, h2⟩ => ⟨h1, 0, h2⟩)
  clear hv hof hol hb hbut p1
  have hwl : d.loose.length ≤ 900000000 := hn
  have HOF : ∃ b, d.off = b := ⟨_, rfl⟩
  obtain ⟨b, hb⟩ := HOF
  rw [hb] at c3 HDOWN
  clear hb
  unfold ptr
  unfold ptr at HDOWN HSIZE
  cases b
  · go_wp2_with fail
    go_quiet ((first | (go_at_call 9; exact Calls.quiet_of (HDOWN.out _)) | (go_at_call 11; exact Calls.quiet_of (HSIZE.out _))))
    go_wp2
    obtain ⟨W, hW⟩ : ∃ W, W = w1.drewN nq := ⟨_, rfl⟩
    rw [← hW]
    have PW := Lib.hid (show Sec W F g d ∧ Rec W G h d by rw [hW]; exact ⟨HP1.out.sec.drewN nq, HP1.out.oth.drewN nq⟩)
    have BW := Lib.hid (show Below w.heap.size w W by rw [hW]; exact HB.out.trans ((below_drawn w1 nq).mono HB.out.size))
    have CW := Lib.hid (show ∀ a, W.cell? a = w1.cell? a by intro a; rw [hW]; rfl)
    have w0 : W.cell? ⟨h, 0, none⟩ = some (.slice af d.firm.length cf) := (CW.out _).trans c0
    have wc1 : W.cell? ⟨h, 1, none⟩ = some (.slice al d.loose.length cl) := (CW.out _).trans c1
    clear hW c0 c1 c3 HDOWN HSIZE
    go_loopw [44] (fun i wr => ∃ k : Nat, k ≤ d.loose.length ∧ i = .int .i64 k ∧ wr = W) (fun i _ => d.loose.length - (intOf i).toNat)
    case atStart => exact ⟨0, Nat.zero_le _, rfl, rfl⟩
    case round =>
      obtain ⟨k, hk, rfl, rfl⟩ := hrel
      by_cases hlt : k < d.loose.length
      · have hI : (k : Int) < d.loose.length := by omega
        obtain ⟨lv, cv', e1, _, _, _⟩ := Own.form HV.out (by rw [List.length_map]; omega)
        injection e1 with e1 e2 e3
        clear e2
        subst e1 e3
        obtain ⟨ll, cl', e1, _, _, _⟩ := Own.form HOL.out (by omega)
        injection e1 with e1 e2 e3
        clear e2
        subst e1 e3
        have ci := (CW.out _).trans (Own.intAt HV.out k (by rw [List.length_map]; omega))
        rw [List.getElem_map] at ci
        have ca := (CW.out _).trans (Own.rwAt HOL.out k hlt).1
        generalize d.loose[k] = x at *
        obtain ⟨at', t⟩ := x
        simp only at ca ci
        go_wp2
        go_roundw
        case rel => exact ⟨k + 1, by omega, by go_num, by trivial⟩
        case measure => simp [intOf]; omega
      · have hke : k = d.loose.length := by omega
        subst hke
        go_wp2
        go_loopw [65] (fun i wq => ∃ k : Nat, k ≤ d.firm.length ∧ i = .int .i64 k ∧ wq = wr) (fun i _ => d.firm.length - (intOf i).toNat)
        case atStart => exact ⟨0, Nat.zero_le _, rfl, rfl⟩
        case round =>
          obtain ⟨r, hr, rfl, rfl⟩ := hrel
          by_cases hrl : r < d.firm.length
          · have hrI : (r : Int) < d.firm.length := by omega
            go_wp2_with fail
            refine (read_any _ F g d r PW.out.1).mono ?_
            rintro e wE ⟨rfl, rfl⟩
            go_wp2_with fail
            refine (refRead_any _ G h d r PW.out.2).mono ?_
            rintro e wE ⟨rfl, rfl⟩
            generalize bs (d.read r).1 = S
            generalize (d.read r).2 = N
            go_wp2
            go_roundw
            case rel => exact ⟨r + 1, by omega, by go_num, by trivial⟩
            case measure => simp [intOf]; omega
          · go_wp2
            go_ret
            exact ⟨rfl, BW.out⟩
  · go_wp2_with fail
    go_quiet ((first | (go_at_call 9; exact Calls.quiet_of (HDOWN.out _)) | (go_at_call 11; exact Calls.quiet_of (HSIZE.out _))))
    go_wp2
    obtain ⟨W, hW⟩ : ∃ W, W = w1.drewN nq := ⟨_, rfl⟩
    rw [← hW]
    have PW := Lib.hid (show Sec W F g d ∧ Rec W G h d by rw [hW]; exact ⟨HP1.out.sec.drewN nq, HP1.out.oth.drewN nq⟩)
    have BW := Lib.hid (show Below w.heap.size w W by rw [hW]; exact HB.out.trans ((below_drawn w1 nq).mono HB.out.size))
    have CW := Lib.hid (show ∀ a, W.cell? a = w1.cell? a by intro a; rw [hW]; rfl)
    have w0 : W.cell? ⟨h, 0, none⟩ = some (.slice af d.firm.length cf) := (CW.out _).trans c0
    have wc1 : W.cell? ⟨h, 1, none⟩ = some (.slice al d.loose.length cl) := (CW.out _).trans c1
    clear hW c0 c1 c3 HDOWN HSIZE
    go_loopw [44] (fun i wr => ∃ k : Nat, k ≤ d.loose.length ∧ i = .int .i64 k ∧ wr = W) (fun i _ => d.loose.length - (intOf i).toNat)
    case atStart => exact ⟨0, Nat.zero_le _, rfl, rfl⟩
    case round =>
      obtain ⟨k, hk, rfl, rfl⟩ := hrel
      by_cases hlt : k < d.loose.length
      · have hI : (k : Int) < d.loose.length := by omega
        obtain ⟨lv, cv', e1, _, _, _⟩ := Own.form HV.out (by rw [List.length_map]; omega)
        injection e1 with e1 e2 e3
        clear e2
        subst e1 e3
        obtain ⟨ll, cl', e1, _, _, _⟩ := Own.form HOL.out (by omega)
        injection e1 with e1 e2 e3
        clear e2
        subst e1 e3
        have ci := (CW.out _).trans (Own.intAt HV.out k (by rw [List.length_map]; omega))
        rw [List.getElem_map] at ci
        have ca := (CW.out _).trans (Own.rwAt HOL.out k hlt).1
        generalize d.loose[k] = x at *
        obtain ⟨at', t⟩ := x
        simp only at ca ci
        go_wp2
        go_roundw
        case rel => exact ⟨k + 1, by omega, by go_num, by trivial⟩
        case measure => simp [intOf]; omega
      · have hke : k = d.loose.length := by omega
        subst hke
        go_wp2
        go_loopw [65] (fun i wq => ∃ k : Nat, k ≤ d.firm.length ∧ i = .int .i64 k ∧ wq = wr) (fun i _ => d.firm.length - (intOf i).toNat)
        case atStart => exact ⟨0, Nat.zero_le _, rfl, rfl⟩
        case round =>
          obtain ⟨r, hr, rfl, rfl⟩ := hrel
          by_cases hrl : r < d.firm.length
          · have hrI : (r : Int) < d.firm.length := by omega
            go_wp2_with fail
            refine (read_any _ F g d r PW.out.1).mono ?_
            rintro e wE ⟨rfl, rfl⟩
            go_wp2_with fail
            refine (refRead_any _ G h d r PW.out.2).mono ?_
            rintro e wE ⟨rfl, rfl⟩
            generalize bs (d.read r).1 = S
            generalize (d.read r).2 = N
            go_wp2
            go_roundw
            case rel => exact ⟨r + 1, by omega, by go_num, by trivial⟩
            case measure => simp [intOf]; omega
          · go_wp2
            go_ret
            exact ⟨rfl, BW.out⟩
end Go.Proofs.Ytdcidfamflcdaaa
