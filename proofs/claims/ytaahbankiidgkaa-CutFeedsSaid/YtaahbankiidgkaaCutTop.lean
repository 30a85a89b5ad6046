/- Walks of Cut, of the reference's Same and Cut. -/
import Derived.Test.YtaahbankiidgkaaCutFeed
import Derived.Test.YtaahbankiidgkaaTurnRef
namespace Go.Proofs.Ytaahbankiidgkaa
open Go.RowKit Fx

theorem OwnS.butOwn {B : Nat} {w w' : World} {v : Value} {l : List (List UInt8)} {g : Nat} (h : OwnS B w v l) (hb : But (· = g) w w') (hg : g < B) : OwnS B w' v l :=
  h.but hb (fun g' hg' e => by have := (h.block g' hg').1; omega)

set_option maxRecDepth 100000 in
theorem cut_any (s : ByteArray) (w : World) (hs : s.size ≤ 1000000) :
    Calls Try.prog 9 #[.string s] w fun e w' => ∃ v, e = .returned v ∧ OwnS w.heap.size w' v (Ct.chunks s.data.toList) ∧ Below w.heap.size w w' := by
  go_enter Try.func9, Try.ntmps9
  go_wp2_with fail
  refine (new_any _).mono ?_
  rintro e w1 ⟨rfl, hc1, hb1, hl1⟩
  obtain ⟨g, hg⟩ : ∃ g, w.heap.size = g := ⟨_, rfl⟩
  rw [hg] at hc1 hb1 hl1 ⊢
  go_wp2_with fail
  refine (feed_any _ _ _ s hc1 Ct.Held.nil hs).mono ?_
  rintro e w2 ⟨v2, rfl, ho2, hc2, hb2⟩
  have hh := Ct.feed_held s.data.toList [] Ct.Held.nil
  have hcnt := feed_count s.data.toList []
  rw [show s.data.toList.length = s.size from Array.length_toList] at hcnt
  have HCH : Hid (Ct.chunks s.data.toList = (Ct.feed [] s.data.toList).1 ++ Ct.rest (Ct.feed [] s.data.toList).2) := Lib.hid rfl
  generalize Ct.feed [] s.data.toList = F at *
  obtain ⟨O, H⟩ := F
  simp only at hcnt ho2 hc2 hh HCH
  go_wp2_with fail
  refine (end_any _ _ _ hc2).mono ?_
  rintro e w3 ⟨rfl, hc3, hb3⟩
  have ho3 : OwnS w1.heap.size w3 v2 O := OwnS.butOwn ho2 hb3 hl1
  have hbA : Below g w w3 := by
    have h2 : But (· = g) w1 w3 := hb2.trans hb3 (fun i _ hi => hi)
    exact hb1.trans (h2.below (Nat.le_of_lt hl1) (fun k hk e => by omega))
  have hb12 : w1.heap.size ≤ w3.heap.size := Nat.le_trans hb2.size hb3.size
  by_cases he : H = []
  · subst he
    go_wp2
    go_ret
    rw [hg]
    refine ⟨v2, rfl, ?_, hbA⟩
    rw [HCH.out, show Ct.rest [] = [] from rfl, List.append_nil]
    exact ho3.mono (Nat.le_of_lt hl1)
  · have hem : H.isEmpty = false := by simpa using he
    go_wp2_with (at_builtin; refine Hid.out ?_)
    refine Lib.hid ?_
    refine wpList_app stringST rfl _ _ rfl rfl (ho3.alloc _) (by simp; omega) w3.heap.size 0 1 1 [bs H] rfl rfl (lies_new _ _) (by rw [List.length_map]; omega) ?_
    intro v' w4 hown4 hg4
    go_wp2
    go_ret
    rw [hg]
    refine ⟨v', rfl, ?_, ?_⟩
    · rw [HCH.out]
      unfold Ct.rest
      rw [if_neg he]
      show Own _ _ _ _ _ _
      rw [List.map_append]
      exact hown4.mono (Nat.le_of_lt hl1)
    · exact (hbA.alloc (by omega) _).grown hg4 (by simp; omega) (fun k hk => by have := (ho3.block k hk).1; omega)
end Go.Proofs.Ytaahbankiidgkaa
