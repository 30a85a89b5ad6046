/- Walks of Read. -/
import Derived.Test.YthkblabpiajbhaaDoorSecSmall
namespace Go.Proofs.YthkblabpiajbhaaDoor
open Go.RowKit

theorem addr_add0 (g i : Nat) : (⟨g, 0, none⟩ : Addr).add i = ⟨g, i, none⟩ := by unfold Addr.add; split <;> simp_all
theorem slice_content (w : World) (c : Nat) : (Instr.sliceAt 77 (.pointer (some ⟨c, 0, none⟩)) none none none).run Tryd.prog w = .ok (.slice (some ⟨c, 0, none⟩) 512 512) w := by
  have e1 : Tryd.prog.arrayLen 77 = 512 := by kernel_rfl
  have e2 : Tryd.prog.elem 77 = 5 := by kernel_rfl
  have e3 := run_sliceAt_array_all (P := Tryd.prog) w 77 ⟨c, 0, none⟩ (by rw [e1, e2]; kernel_rfl)
  rw [e3, e1, e2]
  show ((sizeOf 5).run Tryd.prog w).andThen _ = _
  rw [Tryd.sizeOf5]
  simp [go_sem, Addr.add]
theorem content_back (w : World) (c : Nat) (t : List UInt8) (hb : Blk w c 77 (t.map bcell)) (hl : t.length = 512) : (convert 22 9 (.slice (some ⟨c, 0, none⟩) 512 512)).run Tryd.prog w = .ok (.string (bs t)) w := by
  have := run_convert_bytes_back (P := Tryd.prog) w 22 9 5 ⟨c, 0, none⟩ 512 t (by kernel_rfl) (by kernel_rfl) (by kernel_rfl) (by
    intro i hi
    rw [addr_add0]
    refine hb.cell ?_
    rw [List.getElem?_map, List.getElem?_eq_getElem hi]
    rfl)
  rw [hl] at this
  exact this

set_option maxRecDepth 100000 in
theorem read_any (w : World) (F : Nat → Prop) (g : Nat) (d : Dk.Disk) (i : Int) (hd : Sec w F g d) :
    Calls Tryd.prog 26 #[ptr g, .int .i64 i] w fun e w' => e = .returned (.tuple #[.string (bs (d.read i).1), .int .i64 (d.read i).2]) ∧ w' = w := by
  have HD := Lib.hid hd
  by_cases ho : d.off = true
  · have HR : d.read i = ([], 3) := by unfold Dk.Disk.read; rw [if_pos ho]
    rw [HR]
    clear HR hd
    go_enter Tryd.func26, Tryd.ntmps26
    go_wp2_with fail
    refine (down_any _ _ _ _ HD.out).mono ?_
    rintro e w1 ⟨rfl, rfl⟩
    rw [ho]
    go_wp2
    go_ret2
    exact ⟨rfl, rfl⟩
  · have ho' : d.off = false := by simpa using ho
    by_cases hh : d.has i = true
    · have hi : 0 ≤ i ∧ i < d.firm.length := by simpa [Dk.Disk.has] using hh
      obtain ⟨f, cf, l, cl, vo, n, pf, pl, ws, T, k1, k2, k3, k4, kp, k5, k6, k6', k7, k8, k9, k10, k11, k12, k13, k14⟩ := hd
      have hlen : d.firm.length = pf.length := by rw [k3, List.length_map]
      obtain ⟨k, rfl⟩ : ∃ k : Nat, i = k := ⟨i.toNat, by omega⟩
      have hpl : pl.length = pf.length := by
        have := congrArg List.length kp
        rw [List.length_map, Dk.Disk.now, Dk.puts_length, k3, List.length_map] at this
        exact this.symm
      have hk : k < pl.length := by omega
      have HR : d.read k = (T pl[k], 0) := by
        unfold Dk.Disk.read
        rw [if_neg ho, if_pos hh, kp, Int.toNat_natCast, List.getD_eq_getElem?_getD, List.getElem?_map, List.getElem?_eq_getElem hk]
        rfl
      have hmem : pl[k] ∈ pf ++ (pl ++ ws.map (·.2)) := List.mem_append_right _ (List.mem_append_left _ (List.getElem_mem hk))
      have c1 : w.cell? ⟨g, 1, none⟩ = some (.slice (some ⟨l, 0, none⟩) pl.length cl) := k1.blk.cell rfl
      have cl' : w.cell? ⟨l, k, none⟩ = some (ptr pl[k]) := by
        have := Own.lies k1.ol k (ptr pl[k]) (by rw [show ptrElem.cells pl = pl.map ptr from oneElem_cells _ _ _, List.getElem?_map, List.getElem?_eq_getElem hk]; rfl)
        rwa [Nat.zero_add] at this
      have hcb := fun w' (hw : w' = w) => content_back w' _ _ (hw ▸ (k2 _ hmem).1) (k2 _ hmem).2.2
      have hcb := hcb w rfl
      have hsl := slice_content w pl[k]
      have hcap := (Own.slot k1.ol).2.2
      have hkI : (k : Int) < pl.length := by omega
      rw [HR]
      generalize pl[k] = c at *
      generalize pl.length = N at *
      generalize T c = t at *
      unfold ptr at cl'
      clear HR k1 k2 k3 k4 kp k5 k9 k13 k14 hmem hlen hpl
      go_enter Tryd.func26, Tryd.ntmps26
      go_wp2_with fail
      refine (down_any _ _ _ _ HD.out).mono ?_
      rintro e w1 ⟨rfl, rfl⟩
      rw [ho']
      go_wp2_with fail
      refine (has_any _ _ _ _ _ HD.out).mono ?_
      rintro e w1 ⟨rfl, rfl⟩
      rw [hh]
      unfold ptr
      go_wp2
      go_ret2
      exact ⟨rfl, rfl⟩
    · have hh' : d.has i = false := by simpa using hh
      have HR : d.read i = ([], 2) := by unfold Dk.Disk.read; rw [if_neg ho, if_neg hh]
      rw [HR]
      clear HR hd
      go_enter Tryd.func26, Tryd.ntmps26
      go_wp2_with fail
      refine (down_any _ _ _ _ HD.out).mono ?_
      rintro e w1 ⟨rfl, rfl⟩
      rw [ho']
      go_wp2_with fail
      refine (has_any _ _ _ _ _ HD.out).mono ?_
      rintro e w1 ⟨rfl, rfl⟩
      rw [hh']
      go_wp2
      go_ret2
      exact ⟨rfl, rfl⟩
end Go.Proofs.YthkblabpiajbhaaDoor
