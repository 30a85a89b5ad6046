/- What is written to a sector changes no other one: the mathematics of SectorApart. -/
import Derived.Test.YtdcidfamflcdaaaDiskMath
namespace Go.Proofs.Ytdcidfamflcdaaa
namespace Dk

def ownT : List UInt8 := full [111, 119, 110]
structure Apart (one m : Nat) (d : Disk) : Prop where
  ten : d.firm.length = 10
  few : d.loose.length ≤ m
  up : d.off = false
  fuel : d.fuel = -1
  own : d.firm[one]? = some ownT
  none : ∀ x ∈ d.loose, x.1 ≠ one

theorem Apart.mono {one m m' : Nat} {d : Disk} (h : Apart one m d) (hm : m ≤ m') : Apart one m' d := ⟨h.ten, Nat.le_trans h.few hm, h.up, h.fuel, h.own, h.none⟩
theorem Disk.has_nat (d : Disk) (j : Nat) (h : j < d.firm.length) : d.has j = true := by unfold Disk.has; simp; omega
theorem write_ok (d : Disk) (j : Nat) (s : List UInt8) (ho : d.off = false) (hj : j < d.firm.length) (hs : s.length ≤ 512) (hf : d.fuel = -1) :
    d.write j s = (0, { d with loose := d.loose ++ [(j, full s)] }) := by
  unfold Disk.write
  rw [if_neg (by rw [ho]; decide), d.has_nat j hj, if_neg (by decide), if_neg (by omega), if_neg (by rw [hf]; decide)]
  unfold Disk.burnt
  rw [hf, if_neg (by decide), Int.toNat_natCast]
theorem flush_ok (d : Disk) (ho : d.off = false) (hf : d.fuel = -1) : d.flush = (0, { d with firm := d.now, loose := [] }) := by
  unfold Disk.flush
  rw [if_neg (by rw [ho]; decide), if_neg (by rw [hf]; decide)]
  unfold Disk.burnt
  rw [hf, if_neg (by decide)]
theorem now_length' (d : Disk) : d.now.length = d.firm.length := puts_length _ _
theorem read_ok (d : Disk) (j : Nat) (ho : d.off = false) (hj : j < d.firm.length) : d.read j = (d.now.getD j [], 0) := by
  unfold Disk.read
  rw [if_neg (by rw [ho]; decide), d.has_nat j hj, if_pos rfl, Int.toNat_natCast]
theorem Apart.write {one m : Nat} {d : Disk} (h : Apart one m d) (j : Nat) (s : List UInt8) (hj : j < 10) (hne : j ≠ one) (hs : s.length ≤ 512) : (d.write j s).1 = 0 ∧ Apart one (m + 1) (d.write j s).2 := by
  rw [write_ok d j s h.up (by rw [h.ten]; exact hj) hs h.fuel]
  refine ⟨rfl, h.ten, ?_, h.up, h.fuel, h.own, ?_⟩
  · show (d.loose ++ _).length ≤ _
    rw [List.length_append]; simpa using h.few
  · intro x hx
    rcases List.mem_append.1 hx with hx | hx
    · exact h.none x hx
    · obtain rfl : x = (j, full s) := by simpa using hx
      exact hne
theorem Apart.now {one m : Nat} {d : Disk} (h : Apart one m d) : d.now[one]? = some ownT := by
  unfold Disk.now
  rw [puts_other _ _ _ h.none]; exact h.own
theorem Apart.flush {one m : Nat} {d : Disk} (h : Apart one m d) : d.flush.1 = 0 ∧ Apart one m d.flush.2 := by
  rw [flush_ok d h.up h.fuel]
  exact ⟨rfl, (now_length' d).trans h.ten, Nat.zero_le _, h.up, h.fuel, h.now, fun x hx => by cases hx⟩
theorem Apart.read {one m : Nat} {d : Disk} (h : Apart one m d) : d.read one = (ownT, 0) := by
  have hlt : one < d.firm.length := (List.getElem?_eq_some_iff.1 h.own).1
  rw [read_ok d one h.up hlt, List.getD_eq_getElem?_getD, h.now]
  rfl
theorem Apart.fall {one m : Nat} {d : Disk} (h : Apart one m d) (keep : List Bool) : Apart one 0 (d.fall keep) :=
  ⟨(puts_length _ _).trans h.ten, Nat.le_refl _, rfl, rfl, by
    show (puts d.firm (kept keep d.loose))[one]? = _
    rw [puts_other _ _ _ (fun x hx => h.none x (kept_mem _ _ _ hx))]; exact h.own, fun x hx => by cases hx⟩
theorem apart_begin (one : Nat) (h : one < 10) : ((fresh 10).write one [111, 119, 110]).1 = 0 ∧ ((fresh 10).write one [111, 119, 110]).2.flush.1 = 0 ∧ Apart one 0 ((fresh 10).write one [111, 119, 110]).2.flush.2 := by
  rw [write_ok (fresh 10) one _ rfl (by show one < (List.replicate 10 _).length; simpa using h) (by decide) rfl]
  refine ⟨rfl, ?_⟩
  rw [flush_ok _ rfl rfl]
  refine ⟨rfl, (now_length' _).trans (by simp [fresh]), Nat.le_refl _, rfl, rfl, ?_, fun x hx => by cases hx⟩
  show (puts (fresh 10).firm ((fresh 10).loose ++ [(one, ownT)]))[one]? = _
  simp [fresh, puts, h]
theorem ownT_size : ownT.length = 512 := full_length _ (by decide)
end Dk
end Go.Proofs.Ytdcidfamflcdaaa
