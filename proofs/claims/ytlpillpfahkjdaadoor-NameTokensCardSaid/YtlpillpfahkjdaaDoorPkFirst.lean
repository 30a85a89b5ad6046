/- Walk of pack's firstField. -/
import Derived.Test.YtlpillpfahkjdaaDoorPkField
import Derived.Laws.ResultCell
namespace Go.Proofs.YtlpillpfahkjdaaDoor
open Go.RowKit Lib

theorem results_cell_tmp2 {fn : Func} {p u v : Tmp} {ty : TypeId} (h : fn.results = #[.cell p ty, .tmp u, .tmp v]) (tmps : Array Value) (P : Program) (w : World) :
    (results fn tmps).run P w =
      ((asAddr (tmps.getD p undef)).run P w).andThen fun a w₁ => ((loadVar ty a).run P w₁).andThen fun x w₂ => .ok (.tuple #[x, tmps.getD u undef, tmps.getD v undef]) w₂ := by
  simp only [results, h]
  simp [Sem.run_bind, Result.andThen]
theorem ret_fd3 {fn : Func} {p u v : Tmp} (h : fn.results = #[.cell p 36, .tmp u, .tmp v]) (tmps : Array Value) (w : World) (g : Nat) (x y : Value) (fr : Nat × Nat)
    (hp : tmps.getD p undef = .pointer (some ⟨g, 0, none⟩)) (hg : w.heap[g]? = some (.cells #[x, y] 36 fr)) :
    (results fn tmps).run Tryd.prog w = .ok (.tuple #[.agg #[x, y], tmps.getD u undef, tmps.getD v undef]) w := by
  rw [results_cell_tmp2 h, hp]
  simp [asAddr, run_loadVar_row w g _ 36 _ fr _ hg Tryd.underlying36 rfl (by kernel_rfl), Result.andThen]
/-- What firstField answers. -/
def fres (o : Option (Pk.Fd × Pk.Text)) : Value := match o with
  | some (f, t) => .tuple #[fdV f, .string (bs t), .bool true]
  | none => .tuple #[fdV ⟨0, []⟩, .string (bs []), .bool false]
theorem below_set {B g j : Nat} {w w' : World} (h : Below B w w') (hg : B ≤ g) (u : Value) : Below B w (w'.setCell ⟨g, j, none⟩ u) :=
  h.trans ⟨rfl, rfl, rfl, by simp, fun k hk => Below.heap_setCell _ _ _ _ (by simp; omega)⟩
theorem bs_empty : (⟨#[]⟩ : ByteArray) = bs [] := rfl
theorem fieldOf_num {c : UInt8} {s : Pk.Text} (h1 : ((c.toNat : Int) == 116) = false) (h2 : ((c.toNat : Int) == 114) = false) : Pk.fieldOf c s = if s.length < Pk.width c then none else some (⟨Wl.dec (s.take (Pk.width c)), []⟩, s.drop (Pk.width c)) := by
  unfold Pk.fieldOf
  rw [if_neg (by rintro rfl; cases h2), if_neg (by rintro rfl; cases h1)]

set_option maxHeartbeats 2000000 in
theorem firstField_any (c : UInt8) (s : List UInt8) (w : World) (hc : Pk.letter c true = true) (hs : s.length ≤ 1000000) :
    Calls Tryd.prog 33 #[.int .u8 c.toNat, .string (bs s)] w fun e w' => e = .returned (fres (Pk.fieldOf c s)) ∧ Below w.heap.size w w' := by
  have hsz := bs_size s
  obtain ⟨W0, hW0⟩ : ∃ W0, W0 = w.alloc (.cells #[.int .u64 0, .string ⟨#[]⟩] 36) := ⟨_, rfl⟩
  have hB0 : Below w.heap.size w W0 := by rw [hW0]; exact (Below.refl _ _).alloc (Nat.le_refl _) _
  have hk0 : Blk W0 w.heap.size 36 [.int .u64 0, .string ⟨#[]⟩] := by rw [hW0]; exact Blk.new w #[.int .u64 0, .string ⟨#[]⟩] 36
  rcases Pk.letter_what hc with ⟨h0, h1, h2⟩ | ⟨rfl, h1⟩ | ⟨rfl, h1⟩
  · rw [fieldOf_num h1 h2]
    have hw8 := Pk.width_le c
    have HSZ := Lib.hid (fun W => sizeOf_any c W)
    generalize (c.toNat : Int) = x at *
    generalize Pk.width c = wd at *
    have HSP := Lib.hid (fun W => split_any (bs s) wd W (by omega) (by omega))
    rw [hsz, bs_list] at HSP
    have HNO := Lib.hid (fun W => pnumberOf_any (bs (s.take wd)) W (by rw [bs_size, List.length_take]; omega))
    rw [bs_list] at HNO
    have HNE := Lib.hid (fun W => pnumberOf_any (bs []) W (by decide))
    have HH := Lib.hid (And.intro hB0 hk0)
    clear hc h0 hB0 hk0
    by_cases hlt : s.length < wd
    · rw [if_pos hlt]
      go_enter Tryd.func33, Tryd.ntmps33
      go_wp2_with fail
      rw [← hW0]
      clear hW0
      refine (HSZ.out _).mono ?_
      rintro e w1 ⟨rfl, rfl⟩
      go_wp2_with fail
      refine (HSP.out _).mono ?_
      rintro e w2 ⟨rfl, hb2⟩
      have hblk := HH.out.2.below hb2 HH.out.2.lt
      have hB2 := Lib.hid (HH.out.1.trans (hb2.mono HH.out.1.size))
      have c0 := hblk.cell (j := 0) rfl
      have c1 := hblk.cell (j := 1) rfl
      have f0 := hblk.frozen 0
      have f1 := hblk.frozen 1
      have HBL := Lib.hid hblk
      clear hblk hb2
      rw [if_pos hlt]
      rw [bs_empty]
      go_wp2_with fail
      refine (HNE.out _).mono ?_
      rintro e w3 ⟨rfl, rfl⟩
      have hblk := HBL.out
      go_wp2
      refine bodyPost_ret (ret_fd3 rfl _ _ w.heap.size _ _ _ rfl ((hblk.set 0 _).set 1 _)) rfl ?_
      exact ⟨rfl, below_set (below_set hB2.out (Nat.le_refl _) _) (Nat.le_refl _) _⟩
    · rw [if_neg hlt]
      go_enter Tryd.func33, Tryd.ntmps33
      go_wp2_with fail
      rw [← hW0]
      clear hW0
      refine (HSZ.out _).mono ?_
      rintro e w1 ⟨rfl, rfl⟩
      go_wp2_with fail
      refine (HSP.out _).mono ?_
      rintro e w2 ⟨rfl, hb2⟩
      have hblk := HH.out.2.below hb2 HH.out.2.lt
      have hB2 := Lib.hid (HH.out.1.trans (hb2.mono HH.out.1.size))
      have c0 := hblk.cell (j := 0) rfl
      have c1 := hblk.cell (j := 1) rfl
      have f0 := hblk.frozen 0
      have f1 := hblk.frozen 1
      have HBL := Lib.hid hblk
      clear hblk hb2
      rw [if_neg hlt]
      obtain ⟨N, hN⟩ : ∃ N, N = Wl.dec (s.take wd) := ⟨_, rfl⟩
      rw [← hN] at HNO
      have HNN := Lib.hid hN
      clear hN
      go_wp2_with fail
      refine (HNO.out _).mono ?_
      rintro e w3 ⟨rfl, rfl⟩
      have hblk := HBL.out
      go_wp2
      refine bodyPost_ret (ret_fd3 rfl _ _ w.heap.size _ _ _ rfl ((hblk.set 0 _).set 1 _)) rfl ?_
      exact ⟨by rw [HNN.out]; rfl, below_set (below_set hB2.out (Nat.le_refl _) _) (Nat.le_refl _) _⟩
  · generalize ((116 : UInt8).toNat : Int) = x at *
    subst h1
    have hLT := Lib.hid (show ∀ (a : Pk.Text), a.length = 2 → Wl.dec a < 65536 from fun a ha => by have := Wl.dec_snoc_lt a; rw [ha] at this; exact this)
    have HSP := Lib.hid (fun W => split_any (bs s) 2 W (by omega) (by omega))
    rw [hsz, bs_list] at HSP
    have HNO := Lib.hid (fun W => pnumberOf_any (bs (s.take 2)) W (by rw [bs_size, List.length_take]; omega))
    rw [bs_list] at HNO
    have HS2 := Lib.hid (fun W n (hn : n ≤ 1000000) => split_any (bs (s.drop 2)) n W (by rw [bs_size, List.length_drop]; omega) hn)
    rw [bs_size, bs_list] at HS2
    have HCL := Lib.hid (fun W (a : Pk.Text) (ha : a.length ≤ s.length) => clone_any (bs a) W (by rw [bs_size]; omega))
    have HH := Lib.hid (And.intro hB0 hk0)
    clear hc hB0 hk0
    by_cases hlt : s.length < 2
    · have HV : Pk.fieldOf 116 s = none := by unfold Pk.fieldOf; rw [if_neg (by decide), if_pos rfl, if_pos hlt]
      rw [HV]
      clear HV
      go_enter Tryd.func33, Tryd.ntmps33
      go_wp2_with fail
      rw [← hW0]
      clear hW0
      refine (HSP.out _).mono ?_
      rintro e w2 ⟨rfl, hb2⟩
      have hblk := HH.out.2.below hb2 HH.out.2.lt
      have hB2 := Lib.hid (HH.out.1.trans (hb2.mono HH.out.1.size))
      have c0 := hblk.cell (j := 0) rfl
      have c1 := hblk.cell (j := 1) rfl
      have f0 := hblk.frozen 0
      have f1 := hblk.frozen 1
      have HBL := Lib.hid hblk
      clear hblk hb2
      rw [if_pos hlt]
      have hblk := HBL.out
      go_wp2
      refine bodyPost_ret (ret_fd3 rfl _ _ w.heap.size _ _ _ rfl ((hblk.set 0 _).set 1 _)) rfl ?_
      exact ⟨rfl, below_set (below_set hB2.out (Nat.le_refl _) _) (Nat.le_refl _) _⟩
    · have hl2 : (s.take 2).length = 2 := by rw [List.length_take]; omega
      have hd := hLT.out _ hl2
      by_cases hlt2 : (s.drop 2).length < Wl.dec (s.take 2)
      · have HV : Pk.fieldOf 116 s = none := by unfold Pk.fieldOf; rw [if_neg (by decide), if_pos rfl, if_neg hlt, if_pos hlt2]
        rw [HV]
        clear HV hl2
        generalize Wl.dec (s.take 2) = N at *
        go_enter Tryd.func33, Tryd.ntmps33
        go_wp2_with fail
        rw [← hW0]
        clear hW0
        refine (HSP.out _).mono ?_
        rintro e w2 ⟨rfl, hb2⟩
        have hblk := HH.out.2.below hb2 HH.out.2.lt
        have hB2 := Lib.hid (HH.out.1.trans (hb2.mono HH.out.1.size))
        have c0 := hblk.cell (j := 0) rfl
        have c1 := hblk.cell (j := 1) rfl
        have f0 := hblk.frozen 0
        have f1 := hblk.frozen 1
        have HBL := Lib.hid hblk
        clear hblk hb2
        rw [if_neg hlt]
        have hNI : (N : Int) < 65536 := by omega
        have HN := Lib.hid hd
        clear hd c0 c1 f0 f1
        go_wp2_with fail
        refine (HNO.out _).mono ?_
        rintro e w3 ⟨rfl, rfl⟩
        go_wp2_with fail
        refine (HS2.out _ N (by have := HN.out; omega)).mono ?_
        rintro e w3 ⟨rfl, hb3⟩
        have hblk3 := HBL.out.below hb3 HBL.out.lt
        have hB3 := Lib.hid (hB2.out.trans (hb3.mono hB2.out.size))
        have HBL3 := Lib.hid hblk3
        clear hblk3 hb3
        rw [if_pos hlt2]
        go_wp2_with fail
        refine (HCL.out _ [] (Nat.zero_le _)).mono ?_
        rintro e w4 ⟨rfl, hb4⟩
        have hblk := HBL3.out.below hb4 HBL3.out.lt
        have hB4 := Lib.hid (hB3.out.trans (hb4.mono hB3.out.size))
        have c0 := hblk.cell (j := 0) rfl
        have c1 := hblk.cell (j := 1) rfl
        have f0 := hblk.frozen 0
        have f1 := hblk.frozen 1
        clear hb4
        go_wp2
        refine bodyPost_ret (ret_fd3 rfl _ _ w.heap.size _ _ _ rfl ((hblk.set 0 _).set 1 _)) rfl ?_
        exact ⟨rfl, below_set (below_set hB4.out (Nat.le_refl _) _) (Nat.le_refl _) _⟩
      · have HV : Pk.fieldOf 116 s = some (⟨0, (s.drop 2).take (Wl.dec (s.take 2))⟩, (s.drop 2).drop (Wl.dec (s.take 2))) := by unfold Pk.fieldOf; rw [if_neg (by decide), if_pos rfl, if_neg hlt, if_neg hlt2]
        rw [HV]
        clear HV hl2
        generalize Wl.dec (s.take 2) = N at *
        go_enter Tryd.func33, Tryd.ntmps33
        go_wp2_with fail
        rw [← hW0]
        clear hW0
        refine (HSP.out _).mono ?_
        rintro e w2 ⟨rfl, hb2⟩
        have hblk := HH.out.2.below hb2 HH.out.2.lt
        have hB2 := Lib.hid (HH.out.1.trans (hb2.mono HH.out.1.size))
        have c0 := hblk.cell (j := 0) rfl
        have c1 := hblk.cell (j := 1) rfl
        have f0 := hblk.frozen 0
        have f1 := hblk.frozen 1
        have HBL := Lib.hid hblk
        clear hblk hb2
        rw [if_neg hlt]
        have hNI : (N : Int) < 65536 := by omega
        have HN := Lib.hid hd
        clear hd c0 c1 f0 f1
        go_wp2_with fail
        refine (HNO.out _).mono ?_
        rintro e w3 ⟨rfl, rfl⟩
        go_wp2_with fail
        refine (HS2.out _ N (by have := HN.out; omega)).mono ?_
        rintro e w3 ⟨rfl, hb3⟩
        have hblk3 := HBL.out.below hb3 HBL.out.lt
        have hB3 := Lib.hid (hB2.out.trans (hb3.mono hB2.out.size))
        have HBL3 := Lib.hid hblk3
        clear hblk3 hb3
        rw [if_neg hlt2]
        go_wp2_with fail
        refine (HCL.out _ ((s.drop 2).take N) (by rw [List.length_take, List.length_drop]; omega)).mono ?_
        rintro e w4 ⟨rfl, hb4⟩
        have hblk := HBL3.out.below hb4 HBL3.out.lt
        have hB4 := Lib.hid (hB3.out.trans (hb4.mono hB3.out.size))
        have c0 := hblk.cell (j := 0) rfl
        have c1 := hblk.cell (j := 1) rfl
        have f0 := hblk.frozen 0
        have f1 := hblk.frozen 1
        clear hb4
        go_wp2
        refine bodyPost_ret (ret_fd3 rfl _ _ w.heap.size _ _ _ rfl ((hblk.set 0 _).set 1 _)) rfl ?_
        exact ⟨by rw [List.drop_drop]; rfl, below_set (below_set hB4.out (Nat.le_refl _) _) (Nat.le_refl _) _⟩
  · have HV : Pk.fieldOf 114 s = some (⟨0, s⟩, []) := by unfold Pk.fieldOf; rw [if_pos rfl]
    rw [HV]
    generalize ((114 : UInt8).toNat : Int) = x at *
    subst h1
    have HCL := Lib.hid (fun W => clone_any (bs s) W (by omega))
    have HH := Lib.hid (And.intro hB0 hk0)
    clear hc hB0 hk0 HV
    go_enter Tryd.func33, Tryd.ntmps33
    go_wp2_with fail
    rw [← hW0]
    clear hW0
    refine (HCL.out _).mono ?_
    rintro e w2 ⟨rfl, hb2⟩
    have hblk := HH.out.2.below hb2 HH.out.2.lt
    have hB2 := Lib.hid (HH.out.1.trans (hb2.mono HH.out.1.size))
    have c0 := hblk.cell (j := 0) rfl
    have c1 := hblk.cell (j := 1) rfl
    have f0 := hblk.frozen 0
    have f1 := hblk.frozen 1
    clear hb2
    go_wp2
    refine bodyPost_ret (ret_fd3 rfl _ _ w.heap.size _ _ _ rfl ((hblk.set 0 _).set 1 _)) rfl ?_
    exact ⟨rfl, below_set (below_set hB2.out (Nat.le_refl _) _) (Nat.le_refl _) _⟩
end Go.Proofs.YtlpillpfahkjdaaDoor
