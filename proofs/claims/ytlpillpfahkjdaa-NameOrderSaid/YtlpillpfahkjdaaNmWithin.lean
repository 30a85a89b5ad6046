/- Walk of NameOrder's within; what it answers of keys. -/
import Derived.Test.YtlpillpfahkjdaaNmLawReads
import Derived.Test.YtlpillpfahkjdaaPkLawParts
namespace Go.Proofs.Ytlpillpfahkjdaa
open Go.RowKit Lib

theorem within_any (s u : ByteArray) (w : World) (hu : u.size ≤ 1000000) : Calls Try.prog 23 #[.string s, .string u] w fun e w' => e = .returned (.bool ((!Pk.lt s.data.toList u.data.toList) && Pk.lt s.data.toList (Nm.behind u.data.toList))) ∧ Below w.heap.size w w' := by
  have HBH := Lib.hid (fun W => behind_any u W hu)
  have e1 : Op.bytesLess s.toList u.toList = Pk.lt s.data.toList u.data.toList := by rw [ByteArray.toList_eq, ByteArray.toList_eq, Pk.lt_eq']
  have e2 : Op.bytesLess s.toList (bs (Nm.behind u.data.toList)).toList = Pk.lt s.data.toList (Nm.behind u.data.toList) := by rw [bs_toList, ByteArray.toList_eq, Pk.lt_eq']
  generalize bs (Nm.behind u.data.toList) = Y at *
  generalize Pk.lt s.data.toList (Nm.behind u.data.toList) = r2 at *
  cases h1 : Pk.lt s.data.toList u.data.toList with
  | true =>
    rw [h1] at e1
    clear h1
    go_enter Try.func23, Try.ntmps23
    go_wp2
    go_ret
    exact ⟨rfl, Below.refl _ _⟩
  | false =>
    rw [h1] at e1
    clear h1
    go_enter Try.func23, Try.ntmps23
    go_wp2_with fail
    refine (HBH.out _).mono ?_
    rintro e w1 ⟨rfl, hb1⟩
    have HB1 := Lib.hid hb1
    clear hb1
    cases r2 <;>
    · go_wp2
      go_ret
      exact ⟨rfl, HB1.out⟩
namespace Nm
theorem within_bucket {b b' i' t' : Pk.Text} (hb : bucket b = true) (hb' : bucket b' = true) (hi' : item i' = true) :
    ((!Pk.lt (key 118 b' i' t') (under 118 [b])) && Pk.lt (key 118 b' i' t') (behind (under 118 [b]))) = decide (b' = b) := by
  obtain ⟨p, h1, h2⟩ := under_last (kind := 118) (parts := [b]) (by intro p hp; rw [List.mem_singleton.1 hp]; exact bucket_zero hb) (by simp)
  rw [h2, h1, within_iff, ← h1, under_bucket hb hb' hi']
theorem within_item {b i b' i' t' : Pk.Text} (hb : bucket b = true) (hi : item i = true) (hb' : bucket b' = true) (hi' : item i' = true) :
    ((!Pk.lt (key 118 b' i' t') (under 118 [b, i])) && Pk.lt (key 118 b' i' t') (behind (under 118 [b, i]))) = (decide (b' = b) && decide (i' = i)) := by
  obtain ⟨p, h1, h2⟩ := under_last (kind := 118) (parts := [b, i]) (by
    intro p hp
    rcases List.mem_cons.1 hp with rfl | hp
    · exact bucket_zero hb
    · rw [List.mem_singleton.1 hp]; exact item_zero hi) (by simp)
  rw [h2, h1, within_iff, ← h1, under_item hb hi hb' hi']
end Nm
end Go.Proofs.Ytlpillpfahkjdaa
