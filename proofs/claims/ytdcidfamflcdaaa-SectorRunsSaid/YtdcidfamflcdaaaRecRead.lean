/- Walk of the reference's Read. -/
import Derived.Test.YtdcidfamflcdaaaRec
namespace Go.Proofs.Ytdcidfamflcdaaa
open Go.RowKit Lib

theorem Dk.puts_getD (L : List (List UInt8)) (ws : List (Nat × List UInt8)) (k j : Nat) (hk : k < ws.length) (hj : j < L.length) :
    (Dk.puts L (ws.take (k + 1))).getD j [] = if (ws[k]).1 = j then (ws[k]).2 else (Dk.puts L (ws.take k)).getD j [] := by
  rw [Dk.puts_take L ws k hk, List.getD_eq_getElem?_getD, List.getD_eq_getElem?_getD]
  by_cases e : (ws[k]).1 = j
  · rw [if_pos e, ← e, List.getElem?_set_self (by rw [Dk.puts_length, e]; exact hj)]; rfl
  · rw [if_neg e, List.getElem?_set_ne e]

set_option maxRecDepth 100000 in
set_option maxHeartbeats 1000000 in
theorem refRead_any (w : World) (F : Nat → Prop) (g : Nat) (d : Dk.Disk) (i : Int) (hd : Rec w F g d) :
    Calls Try.prog 27 #[ptr g, .int .i64 i] w fun e w' => e = .returned (.tuple #[.string (bs (d.read i).1), .int .i64 (d.read i).2]) ∧ w' = w := by
  obtain ⟨vf, vl, k1, k2, k3, k4, k5, k6, k7, k8⟩ := hd
  have c0 : w.cell? ⟨g, 0, none⟩ = some vf := k1.blk.cell rfl
  have c1 : w.cell? ⟨g, 1, none⟩ = some vl := k1.blk.cell rfl
  have c3 : w.cell? ⟨g, 3, none⟩ = some (.bool d.off) := k1.blk.cell rfl
  obtain ⟨af, cf, rfl, hcf⟩ := Own.slice k1.of
  obtain ⟨al, cl, rfl, hcl⟩ := Own.slice k1.ol
  have hwl := Own.len_le k1.ol
  rw [List.length_map] at c0 hcf k1 k6
  have H1 := Lib.hid k1
  clear k1 k2 k3 k4 k5 k6 k7 k8
  by_cases ho : d.off = true
  · have HR : d.read i = ([], 3) := by unfold Dk.Disk.read; rw [if_pos ho]
    rw [HR]
    rw [ho] at c3
    clear HR H1
    go_enter Try.func27, Try.ntmps27
    unfold ptr
    go_wp2
    go_ret2
    exact ⟨rfl, rfl⟩
  · have ho' : d.off = false := by simpa using ho
    rw [ho'] at c3
    by_cases hh : d.has i = true
    · have hi : 0 ≤ i ∧ i < d.firm.length := by simpa [Dk.Disk.has] using hh
      obtain ⟨j, rfl⟩ : ∃ k : Nat, i = k := ⟨i.toNat, by omega⟩
      have hj : j < d.firm.length := by omega
      have hjI : ¬ (j : Int) ≥ d.firm.length := by omega
      have hjI2 : (j : Int) < d.firm.length := by omega
      have hj0 : ¬ (j : Int) < 0 := by omega
      have HR : d.read j = (d.now.getD j [], 0) := by
        unfold Dk.Disk.read
        rw [if_neg ho, if_pos hh, Int.toNat_natCast]
      rw [HR]
      obtain ⟨f, cf', e1, _, _, _⟩ := Own.form H1.out.of (by rw [List.length_map]; omega)
      injection e1 with e1 e2 e3
      clear e2
      subst e1 e3
      have cfj := OwnS.strAt H1.out.of j hj
      clear HR hh ho
      go_enter Try.func27, Try.ntmps27
      unfold ptr
      go_wp2
      go_loopw [6, 7] (fun s i wr => ∃ k : Nat, k ≤ d.loose.length ∧ i = .int .i64 k ∧ s = .string (bs ((Dk.puts d.firm (d.loose.take k)).getD j [])) ∧ wr = w) (fun _ i _ => d.loose.length - (intOf i).toNat)
      case atStart =>
        refine ⟨0, Nat.zero_le _, rfl, ?_, rfl⟩
        rw [List.take_zero, Dk.puts_nil, List.getD_eq_getElem?_getD, List.getElem?_eq_getElem hj]; rfl
      case round =>
        obtain ⟨k, hk, rfl, rfl, rfl⟩ := hrel
        by_cases hlt : k < d.loose.length
        · have hI : (k : Int) < d.loose.length := by omega
          obtain ⟨o, co', e1, _, _, _⟩ := Own.form H1.out.ol (by omega)
          injection e1 with e1 _ e3
          subst e1 e3
          obtain ⟨ca, cb⟩ := Own.rwAt H1.out.ol k hlt
          have HX := Lib.hid (Dk.puts_getD d.firm d.loose k j hlt hj)
          generalize d.loose[k] = x at *
          obtain ⟨at', t⟩ := x
          simp only at ca cb HX
          by_cases he : at' = j
          · have heI : (at' : Int) = j := by omega
            go_wp2
            go_roundw
            case rel =>
              refine ⟨k + 1, by omega, by go_num, ?_, by trivial⟩
              rw [HX.out, if_pos he]
            case measure => simp [intOf]; omega
          · have heI : ¬ (at' : Int) = j := by omega
            go_wp2
            go_roundw
            case rel =>
              refine ⟨k + 1, by omega, by go_num, ?_, by trivial⟩
              rw [HX.out, if_neg he]
            case measure => simp [intOf]; omega
        · have hke : k = d.loose.length := by omega
          subst hke
          have HE := Lib.hid (show (Dk.puts d.firm (d.loose.take d.loose.length)).getD j [] = d.now.getD j [] by rw [List.take_length]; rfl)
          rw [HE.out]
          go_wp2
          go_ret2
          exact ⟨rfl, rfl⟩
    · have hh' : d.has i = false := by simpa using hh
      have HR : d.read i = ([], 2) := by unfold Dk.Disk.read; rw [if_neg ho, if_neg hh]
      rw [HR]
      by_cases hi : i < 0
      · clear HR H1
        go_enter Try.func27, Try.ntmps27
        unfold ptr
        go_wp2
        go_ret2
        exact ⟨rfl, rfl⟩
      · have hi2 : i ≥ d.firm.length := by
          unfold Dk.Disk.has at hh'
          simp only [Bool.and_eq_false_iff, decide_eq_false_iff_not] at hh'
          omega
        clear HR H1
        go_enter Try.func27, Try.ntmps27
        unfold ptr
        go_wp2
        go_ret2
        exact ⟨rfl, rfl⟩
end Go.Proofs.Ytdcidfamflcdaaa
