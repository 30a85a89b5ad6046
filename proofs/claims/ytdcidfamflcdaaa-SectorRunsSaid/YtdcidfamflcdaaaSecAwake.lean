/- Walk of awake. -/
import Derived.Test.YtdcidfamflcdaaaSecFall
namespace Go.Proofs.Ytdcidfamflcdaaa
open Go.RowKit Lib

namespace Dk
def aw1 : Disk := ⟨List.replicate 4 (full []), [(1, full [97])], -1, false⟩
def aw2 : Disk := ⟨(List.replicate 4 (full [])).set 1 (full [97]), [], -1, false⟩
def aw3 : Disk := ⟨(List.replicate 4 (full [])).set 1 (full [97]), [(1, full [98])], -1, false⟩
theorem aw_1 : (fresh 4).write 1 [97] = (0, aw1) := by rfl
theorem aw_2 : aw1.flush = (0, aw2) := by rfl
theorem aw_3 : aw2.write 1 [98] = (0, aw3) := by rfl
theorem aw_4 : aw3.fall [] = aw2 := by rfl
theorem aw_5 : aw2.read 1 = (full [97], 0) := by rfl
theorem aw_6 : aw2.read 4 = ([], 2) := by rfl
theorem aw_7 : (bs (full [97])).extract 0 2 = ⟨#[97, 0]⟩ := by
  rw [ext_take]; rfl
end Dk

set_option maxRecDepth 100000 in
set_option maxHeartbeats 1000000 in
theorem awake_any (w : World) : Calls Try.prog 7 #[] w fun e w' => e = .returned (.bool true) ∧ Below w.heap.size w w' := by
  go_enter Try.func7, Try.ntmps7
  go_wp2_with fail
  refine (new_any 4 w (by decide) (by decide)).mono ?_
  rintro e w1 ⟨g, F, rfl, hd1, hF, hb1⟩
  go_wp2_with fail
  refine (write_any w1 F g _ 1 ⟨#[97]⟩ hd1 (by decide)).mono ?_
  rintro e w2 ⟨rfl, F2, hd2, hm2⟩
  rw [show (⟨#[97]⟩ : ByteArray).data.toList = [97] from rfl, Dk.aw_1] at hd2 ⊢
  go_wp2_with fail
  refine (flush_any w2 F2 g _ hd2).mono ?_
  rintro e w3 ⟨rfl, hd3, hm3⟩
  rw [Dk.aw_2] at hd3 ⊢
  go_wp2_with fail
  refine (write_any w3 F2 g _ 1 ⟨#[98]⟩ hd3 (by decide)).mono ?_
  rintro e w4 ⟨rfl, F4, hd4, hm4⟩
  rw [show (⟨#[98]⟩ : ByteArray).data.toList = [98] from rfl, Dk.aw_3] at hd4 ⊢
  go_wp2_with fail
  refine (fall_any w4 F4 g _ _ [] hd4 (RdB.nil _) (fun h => by cases h)).mono ?_
  rintro e w5 ⟨rfl, hd5, hm5⟩
  rw [Dk.aw_4] at hd5
  go_wp2_with fail
  refine (read_any w5 F4 g _ 1 hd5).mono ?_
  rintro e w6 ⟨rfl, rfl⟩
  rw [Dk.aw_5]
  go_wp2_with fail
  refine (read_any w6 F4 g _ 4 hd5).mono ?_
  rintro e w7 ⟨rfl, rfl⟩
  rw [Dk.aw_6]
  have hx := Dk.aw_7
  have hs : (bs (Dk.full [97])).size = 512 := by rw [bs_size]; exact Dk.full_length _ (by decide)
  generalize bs (Dk.full [97]) = S at *
  have HB := Lib.hid ((((hm2.trans hm3).trans hm4).trans hm5).below hF hb1.size).1
  have HB1 := Lib.hid hb1
  clear hd1 hd2 hd3 hd4 hd5 hm2 hm3 hm4 hm5 hb1
  have hsI : (2 : Int) ≤ S.size := by omega
  go_wp2
  go_ret
  exact ⟨rfl, HB1.out.trans HB.out⟩
end Go.Proofs.Ytdcidfamflcdaaa
