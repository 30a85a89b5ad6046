/- Walks of name's ReadVersion and ReadUpload, and of the reference's. -/
import Derived.Test.YtlpillpfahkjdaaDoorNmKey
namespace Go.Proofs.YtlpillpfahkjdaaDoor
open Go.RowKit Lib

theorem results_tmp4 {fn : Func} {t u v x : Tmp} (h : fn.results = #[.tmp t, .tmp u, .tmp v, .tmp x]) (tmps : Array Value) (P : Program) (w : World) :
    (results fn tmps).run P w = .ok (.tuple #[tmps.getD t undef, tmps.getD u undef, tmps.getD v undef, tmps.getD x undef]) w := by
  simp [results, h]
namespace Nm
def cuts (s : Pk.Text) : Pk.Text × Pk.Text := (Pk.cut s).getD ([], [])
theorem cutv_cuts (s : Pk.Text) : cutv (Pk.cut s) = .tuple #[.string (bs (cuts s).1), .string (bs (cuts s).2), .bool (Pk.cut s).isSome] := by
  unfold cuts
  cases Pk.cut s with
  | none => rfl
  | some p => rfl
theorem cuts_len (s : Pk.Text) : (cuts s).1.length ≤ s.length ∧ (cuts s).2.length ≤ s.length := by
  unfold cuts
  cases h : Pk.cut s with
  | none => exact ⟨Nat.zero_le _, Nat.zero_le _⟩
  | some p =>
    obtain ⟨x, y⟩ := p
    have e := (cut_some h).1
    have := congrArg List.length e
    rw [List.length_append, List.length_append, List.length_singleton] at this
    exact ⟨show x.length ≤ _ by omega, show y.length ≤ _ by omega⟩
theorem read_flat (kind c : UInt8) (r : Pk.Text) (h : c = kind) : read kind (c :: r) = if (bucket (cuts r).1 && item (cuts (cuts r).2).1 && decide ((cuts (cuts r).2).2.length = 8)) = true then some ((cuts r).1, (cuts (cuts r).2).1, (cuts (cuts r).2).2) else none := by
  subst h
  show (if c ≠ c then none else _) = _
  rw [if_neg (by simp)]
  unfold cuts
  cases h1 : Pk.cut r with
  | none => rfl
  | some p =>
    obtain ⟨x, y⟩ := p
    simp only [Option.getD_some]
    rcases Option.eq_none_or_eq_some (Pk.cut y) with h2 | ⟨q, h2⟩
    · simp [h2]
    · obtain ⟨i, t⟩ := q
      simp [h2]
end Nm
/-- What a key tells. -/
def rdV (o : Option (Pk.Text × Pk.Text × Pk.Text)) (num : Pk.Text → Nat) : Value := match o with
  | some (b, i, t) => .tuple #[.string (bs b), .string (bs i), .int .u64 (num t), .bool true]
  | none => .tuple #[.string ⟨#[]⟩, .string ⟨#[]⟩, .int .u64 0, .bool false]
set_option maxRecDepth 100000 in
set_option maxHeartbeats 2000000 in
theorem nread_any (kind : UInt8) (s : ByteArray) (fn : Nat) (caps : Array Value) (hcaps : caps = #[]) (num : Pk.Text → Nat) (w : World) (hs : s.size ≤ 1000000)
    (hE : ∀ (W : World) (args : Array Value), Sem.run Tryd.prog (callFunc fn args) W = .ok (.enter fn args) W)
    (hF : ∀ (t : Pk.Text) (W : World), t.length ≤ 1000000 → Calls Tryd.prog fn #[.string (bs t)] W fun e w' => e = .returned (.tuple (if t.length = 8 then #[.int .u64 (num t), .bool true] else #[.int .u64 0, .bool false])) ∧ Below W.heap.size W w') :
    Calls Tryd.prog 23 #[.int .u8 kind.toNat, .string s, .func (.func fn) #[] caps] w fun e w' => e = .returned (rdV (Nm.read kind s.data.toList) num) ∧ Below w.heap.size w w' := by
  have HE := Lib.hid hE
  subst hcaps
  clear hE
  cases hl : s.data.toList with
  | nil =>
    have hse : s = ⟨#[]⟩ := by
      apply ByteArray.ext; apply Array.ext'; exact hl
    subst hse
    clear hl hF hs
    generalize (kind.toNat : Int) = K at *
    go_enter Tryd.func23, Tryd.ntmps23
    go_wp2
    refine bodyPost_ret (results_tmp4 rfl _ _ _) rfl ?_
    exact ⟨rfl, Below.refl _ _⟩
  | cons c r =>
    have h0 : 0 < s.size := by
                              have h := congrArg List.length hl
                              rw [Array.length_toList] at h
                              have : s.data.size = s.size := rfl
                              rw [List.length_cons] at h; omega
    have h0I : (0 : Int) < s.size := by omega
    have hc0 : s[0] = c := by
      have : s.data.toList[0]? = some c := by rw [hl]; rfl
      rw [List.getElem?_eq_getElem (show 0 < s.data.toList.length from h0)] at this
      injection this
    have hem : s.toList.isEmpty = false := by rw [ByteArray.toList_eq, hl]; rfl
    have hr : (s.extract 1 s.size) = bs r := by
      apply ByteArray.ext; apply Array.ext'; rw [ext_drop, hl]; rfl
    have hrl : r.length ≤ 1000000 := by
      have h := congrArg List.length hl
      rw [Array.length_toList, List.length_cons] at h
      have : s.data.size = s.size := rfl
      omega
    by_cases hk : c = kind
    · have hkI : ((s[0].toNat : Int) != kind.toNat) = false := by rw [hc0, hk]; simp
      rw [Nm.read_flat kind c r hk]
      have l1 := Nm.cuts_len r
      have l2 := Nm.cuts_len (Nm.cuts r).2
      have HC1 := Lib.hid (fun W => pcut_any (bs r) W (by rw [bs_size]; omega))
      have HC2 := Lib.hid (fun W => pcut_any (bs (Nm.cuts r).2) W (by rw [bs_size]; omega))
      have HF := Lib.hid (fun W => hF (Nm.cuts (Nm.cuts r).2).2 W (by omega))
      have HBK := Lib.hid (fun W => bucket_any (bs (Nm.cuts r).1) W)
      have HIT := Lib.hid (fun W => item_any (bs (Nm.cuts (Nm.cuts r).2).1) W)
      rw [bs_list, Nm.cutv_cuts] at HC1 HC2
      rw [bs_list] at HBK HIT
      obtain ⟨X1, hX1⟩ : ∃ X1, X1 = bs (Nm.cuts r).1 := ⟨_, rfl⟩
      obtain ⟨X2, hX2⟩ : ∃ X2, X2 = bs (Nm.cuts r).2 := ⟨_, rfl⟩
      obtain ⟨Y1, hY1⟩ : ∃ Y1, Y1 = bs (Nm.cuts (Nm.cuts r).2).1 := ⟨_, rfl⟩
      obtain ⟨Y2, hY2⟩ : ∃ Y2, Y2 = bs (Nm.cuts (Nm.cuts r).2).2 := ⟨_, rfl⟩
      rw [← hX1, ← hX2] at HC1
      rw [← hX2, ← hY1, ← hY2] at HC2
      rw [← hX1] at HBK
      rw [← hY1] at HIT
      rw [← hY2] at HF
      rw [← hr] at HC1
      generalize (Pk.cut r).isSome = z1 at *
      generalize (Pk.cut (Nm.cuts r).2).isSome = z2 at *
      have HV := Lib.hid (show rdV (some ((Nm.cuts r).1, (Nm.cuts (Nm.cuts r).2).1, (Nm.cuts (Nm.cuts r).2).2)) num = .tuple #[.string X1, .string Y1, .int .u64 (num (Nm.cuts (Nm.cuts r).2).2), .bool true] by rw [hX1, hY1]; rfl)
      generalize (kind.toNat : Int) = K at *
      generalize num (Nm.cuts (Nm.cuts r).2).2 = N at *
      clear hk hl hc0 hr hrl hs hX1 hX2 hY1 hY2 l1 l2
      by_cases h8 : (Nm.cuts (Nm.cuts r).2).2.length = 8
      · rw [if_pos h8] at HF
        rw [decide_eq_true h8]
        cases hb : Nm.bucket (Nm.cuts r).1 with
        | true =>
          cases hi : Nm.item (Nm.cuts (Nm.cuts r).2).1 with
          | true =>
            rw [hb] at HBK
            rw [hi] at HIT
            rw [if_pos (show (true && true && true) = true from rfl)]
            clear hb hi h8
            go_enter Tryd.func23, Tryd.ntmps23
            go_wp2_with fail
            refine (HC1.out _).mono ?_
            rintro e w1 ⟨rfl, hb1⟩
            have HB1 := Lib.hid hb1
            clear hb1
            go_wp2_with fail
            refine (HC2.out _).mono ?_
            rintro e w2 ⟨rfl, hb2⟩
            have HB2 := Lib.hid (HB1.out.trans (hb2.mono HB1.out.size))
            clear hb2
            go_wp2_with fail
            rw [HE.out, Oper.upon_enter]
            refine (HF.out _).mono ?_
            rintro e w3 ⟨rfl, hb3⟩
            have HB3 := Lib.hid (HB2.out.trans (hb3.mono HB2.out.size))
            clear hb3
            go_wp2_with fail
            refine (HBK.out _).mono ?_
            rintro e w4 ⟨rfl, rfl⟩
            go_wp2_with fail
            refine (HIT.out _).mono ?_
            rintro e w5 ⟨rfl, rfl⟩
            go_wp2
            refine bodyPost_ret (results_tmp4 rfl _ _ _) rfl ?_
            exact ⟨congrArg Ending.returned HV.out.symm, HB3.out⟩
          | false =>
            rw [hb] at HBK
            rw [hi] at HIT
            rw [if_neg (by decide)]
            clear hb hi h8
            go_enter Tryd.func23, Tryd.ntmps23
            go_wp2_with fail
            refine (HC1.out _).mono ?_
            rintro e w1 ⟨rfl, hb1⟩
            have HB1 := Lib.hid hb1
            clear hb1
            go_wp2_with fail
            refine (HC2.out _).mono ?_
            rintro e w2 ⟨rfl, hb2⟩
            have HB2 := Lib.hid (HB1.out.trans (hb2.mono HB1.out.size))
            clear hb2
            go_wp2_with fail
            rw [HE.out, Oper.upon_enter]
            refine (HF.out _).mono ?_
            rintro e w3 ⟨rfl, hb3⟩
            have HB3 := Lib.hid (HB2.out.trans (hb3.mono HB2.out.size))
            clear hb3
            go_wp2_with fail
            refine (HBK.out _).mono ?_
            rintro e w4 ⟨rfl, rfl⟩
            go_wp2_with fail
            refine (HIT.out _).mono ?_
            rintro e w5 ⟨rfl, rfl⟩
            go_wp2
            refine bodyPost_ret (results_tmp4 rfl _ _ _) rfl ?_
            exact ⟨rfl, HB3.out⟩
        | false =>
          rw [hb] at HBK
          rw [if_neg (by simp)]
          clear hb h8
          go_enter Tryd.func23, Tryd.ntmps23
          go_wp2_with fail
          refine (HC1.out _).mono ?_
          rintro e w1 ⟨rfl, hb1⟩
          have HB1 := Lib.hid hb1
          clear hb1
          go_wp2_with fail
          refine (HC2.out _).mono ?_
          rintro e w2 ⟨rfl, hb2⟩
          have HB2 := Lib.hid (HB1.out.trans (hb2.mono HB1.out.size))
          clear hb2
          go_wp2_with fail
          rw [HE.out, Oper.upon_enter]
          refine (HF.out _).mono ?_
          rintro e w3 ⟨rfl, hb3⟩
          have HB3 := Lib.hid (HB2.out.trans (hb3.mono HB2.out.size))
          clear hb3
          go_wp2_with fail
          refine (HBK.out _).mono ?_
          rintro e w4 ⟨rfl, rfl⟩
          go_wp2
          refine bodyPost_ret (results_tmp4 rfl _ _ _) rfl ?_
          exact ⟨rfl, HB3.out⟩
      · rw [if_neg h8] at HF
        rw [decide_eq_false h8, if_neg (by simp)]
        clear h8
        go_enter Tryd.func23, Tryd.ntmps23
        go_wp2_with fail
        refine (HC1.out _).mono ?_
        rintro e w1 ⟨rfl, hb1⟩
        have HB1 := Lib.hid hb1
        clear hb1
        go_wp2_with fail
        refine (HC2.out _).mono ?_
        rintro e w2 ⟨rfl, hb2⟩
        have HB2 := Lib.hid (HB1.out.trans (hb2.mono HB1.out.size))
        clear hb2
        go_wp2_with fail
        rw [HE.out, Oper.upon_enter]
        refine (HF.out _).mono ?_
        rintro e w3 ⟨rfl, hb3⟩
        have HB3 := Lib.hid (HB2.out.trans (hb3.mono HB2.out.size))
        clear hb3
        go_wp2
        refine bodyPost_ret (results_tmp4 rfl _ _ _) rfl ?_
        exact ⟨rfl, HB3.out⟩
    · have hkI : ((s[0].toNat : Int) != kind.toNat) = true := by
        rw [hc0, bne_iff_ne]; exact fun e => hk (UInt8.toNat.inj (by omega))
      have HV := Lib.hid (show Nm.read kind (c :: r) = none by show (if c ≠ kind then none else _) = _; rw [if_pos hk])
      generalize (kind.toNat : Int) = K at *
      clear hk hF hl hc0 hr hrl hs
      go_enter Tryd.func23, Tryd.ntmps23
      go_wp2
      refine bodyPost_ret (results_tmp4 rfl _ _ _) rfl ?_
      exact ⟨by rw [HV.out]; rfl, Below.refl _ _⟩
theorem rdV_form (o : Option (Pk.Text × Pk.Text × Pk.Text)) (num : Pk.Text → Nat) : ∃ a b c d, rdV o num = .tuple #[a, b, c, d] := by
  cases o with
  | none => exact ⟨_, _, _, _, rfl⟩
  | some p => obtain ⟨x, y, z⟩ := p; exact ⟨_, _, _, _, rfl⟩
theorem fell_enter (W : World) (args : Array Value) : Sem.run Tryd.prog (callFunc 24 args) W = .ok (.enter 24 args) W := by
  simp [callFunc, go_sem, Tryd.f24]
theorem readVersion_any (s : ByteArray) (w : World) (hs : s.size ≤ 1000000) : Calls Tryd.prog 9 #[.string s] w fun e w' => e = .returned (rdV (Nm.read 118 s.data.toList) (fun t => Pk.neg (Wl.dec t))) ∧ Below w.heap.size w w' := by
  have HR := Lib.hid (fun W => nread_any 118 s 24 #[] rfl (fun t => Pk.neg (Wl.dec t)) W hs fell_enter (fun t W ht => by
    have := (fell_any (bs t) W).mono (R' := fun e w' => e = .returned (.tuple (if (bs t).size = 8 then #[.int .u64 (Pk.neg (Wl.dec (bs t).data.toList) : Nat), .bool true] else #[.int .u64 0, .bool false])) ∧ Below W.heap.size W w') (fun e w' h => ⟨h.1, by rw [h.2]; exact Below.refl _ _⟩)
    rw [bs_list, bs_size] at this
    exact this))
  rw [show (((118 : UInt8).toNat : Nat) : Int) = 118 from rfl] at HR
  obtain ⟨a, b, c, d, hV⟩ := rdV_form (Nm.read 118 s.data.toList) (fun t => Pk.neg (Wl.dec t))
  rw [hV] at HR ⊢
  clear hV
  go_enter Tryd.func9, Tryd.ntmps9
  go_wp2_with fail
  refine (HR.out _).mono ?_
  rintro e w1 ⟨rfl, hb1⟩
  have HB1 := Lib.hid hb1
  clear hb1
  go_wp2
  refine bodyPost_ret (results_tmp4 rfl _ _ _) rfl ?_
  exact ⟨rfl, HB1.out⟩
end Go.Proofs.YtlpillpfahkjdaaDoor
