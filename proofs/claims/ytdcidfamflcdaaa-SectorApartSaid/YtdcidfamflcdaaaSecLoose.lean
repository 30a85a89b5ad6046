/- Walk of Loose. -/
import Derived.Test.YtdcidfamflcdaaaSecFlush
namespace Go.Proofs.Ytdcidfamflcdaaa
open Go.RowKit Lib

theorem intST : SliceT Try.prog 45 3 (intElem .i64).size := SliceT.of (size := 1) (bytes := 8) (z := .int .i64 0) Try.underlying45 (by kernel_rfl) rfl (by decide)
theorem lies_int (w : World) (x : Int) : Lies (intElem .i64) (w.alloc (.cells #[.int .i64 x] 3)) w.heap.size 0 [x] :=
  Lies.of_blk (Blk.new w #[.int .i64 x] 3) rfl

set_option maxRecDepth 100000 in
set_option maxHeartbeats 1000000 in
theorem loose_any (w : World) (F : Nat → Prop) (g : Nat) (d : Dk.Disk) (hd : Sec w F g d) (hn : d.loose.length ≤ 900000000) :
    Calls Try.prog 18 #[ptr g] w fun e w' => ∃ v, e = .returned v ∧ Own (intElem .i64) 3 w.heap.size w' v (d.loose.map fun x => (x.1 : Int)) ∧ Below w.heap.size w w' := by
  obtain ⟨f, cf, l, cl, vo, n, pf, pl, ws, T, k1, k2, k3, k4, kp, k5, k6, k6', k7, k8, k9, k10, k11, k12, k13, k14⟩ := hd
  have c2 : w.cell? ⟨g, 2, none⟩ = some vo := k1.blk.cell rfl
  obtain ⟨a, co, rfl, hco⟩ := Own.slice k1.oo
  have hR : (d.loose.map fun x => (x.1 : Int)) = ws.map fun x => (x.1 : Int) := by rw [k4, List.map_map]; rfl
  rw [hR]
  have hwl : ws.length ≤ 900000000 := by rw [k4, List.length_map] at hn; exact hn
  have H1 := Lib.hid k1
  clear hR k1 k2 k3 k4 kp k5 k13 k14 k9 k6 k6' k7 k8 k10 k11 k12 hn
  go_enter Try.func18, Try.ntmps18
  unfold ptr
  go_wp2
  go_loopw [3, 13] (fun t i wr => ∃ k : Nat, k ≤ ws.length ∧ i = .int .i64 k ∧ Own (intElem .i64) 3 w.heap.size wr t ((ws.take k).map fun x => (x.1 : Int)) ∧ Below w.heap.size w wr) (fun _ i _ => ws.length - (intOf i).toNat)
  case atStart => exact ⟨0, Nat.zero_le _, rfl, Own.nil _ _ _ _, Below.refl _ _⟩
  case round =>
    obtain ⟨k, hk, rfl, ht, hb⟩ := hrel
    by_cases hlt : k < ws.length
    · have hI : (k : Int) < ws.length := by omega
      have ho := H1.out.oo
      obtain ⟨o, co', e1, _, hol, _⟩ := Own.form ho (by omega)
      injection e1 with e1 _ e3
      subst e1 e3
      obtain ⟨ca, cb⟩ := Own.wrAt ho k hlt
      have ca' := (hb.cell (p := ⟨o, k * 2, none⟩) hol).trans ca
      have cb' := (hb.cell (p := ⟨o, k * 2 + 1, none⟩) hol).trans cb
      have hsz := hb.size
      have HX := Lib.hid (List.take_succ_eq_append_getElem hlt)
      have HH := Lib.hid (And.intro ht hb)
      clear ca cb ho ht hb
      generalize ws[k] = x at *
      obtain ⟨at', c⟩ := x
      simp only at ca' cb'
      unfold ptr at cb'
      go_wp2_with (at_builtin; refine Hid.out ?_)
      refine Lib.hid ?_
      obtain ⟨ht, hb⟩ := HH.out
      have hA := hb.alloc hsz (.cells #[.int .i64 at', .pointer (some ⟨c, 0, none⟩)] 62)
      have hB := hA.alloc (by have := hA.size; exact this) (.cells #[.int .i64 at'] 3)
      have hS : (wr.alloc (.cells #[.int .i64 at', .pointer (some ⟨c, 0, none⟩)] 62)).heap.size = wr.heap.size + 1 := by simp
      refine wpList_app intST rfl _ _ rfl rfl ((ht.alloc _).alloc _) (by have := hB.size; exact this) (wr.heap.size + 1) 0 1 1 [(at' : Int)] rfl rfl (by rw [← hS]; exact lies_int _ _) (by rw [List.length_map, List.length_take]; omega) ?_
      intro v' w4 hown4 hg4
      have hC := hB.grown hg4 (by have := hB.size; exact this) (fun x hx => (ht.block x hx).1)
      have H4 := Lib.hid (And.intro hown4 hC)
      clear ht hb hA hB hS hown4 hg4 hC HH
      go_wp2
      go_roundw
      case rel =>
        refine ⟨k + 1, by omega, by go_num, ?_, H4.out.2⟩
        rw [HX.out, List.map_append]
        exact H4.out.1
      case measure => simp [intOf]; omega
    · have hke : k = ws.length := by omega
      subst hke
      rw [List.take_length] at ht
      go_wp2
      go_ret
      exact ⟨_, rfl, ht, hb⟩
end Go.Proofs.Ytdcidfamflcdaaa
