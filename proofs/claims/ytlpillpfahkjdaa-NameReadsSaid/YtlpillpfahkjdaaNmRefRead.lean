/- Walks of the reference's ReadVersion and ReadUpload. -/
import Derived.Test.YtlpillpfahkjdaaNmRead
namespace Go.Proofs.Ytlpillpfahkjdaa
open Go.RowKit Lib

/-- What the reference's read tells. -/
def rdR (o : Option (Pk.Text × Pk.Text × Pk.Text)) : Value := match o with
  | some (b, i, t) => .tuple #[.string (bs b), .string (bs i), .string (bs t), .bool true]
  | none => .tuple #[.string ⟨#[]⟩, .string ⟨#[]⟩, .string ⟨#[]⟩, .bool false]
namespace Nm
theorem cuts_some {s : Pk.Text} (h : (Pk.cut s).isSome = false) : cuts s = ([], []) := by
  unfold cuts
  cases hc : Pk.cut s with
  | none => rfl
  | some p => rw [hc] at h; cases h
end Nm
set_option maxRecDepth 100000 in
set_option maxHeartbeats 2000000 in
theorem refRead13_any (kind : UInt8) (s : ByteArray) (w : World) (hs : s.size ≤ 1000000) :
    Calls Try.prog 39 #[.int .u8 kind.toNat, .string s] w fun e w' => e = .returned (rdR (Nm.read kind s.data.toList)) ∧ Below w.heap.size w w' := by
  cases hl : s.data.toList with
  | nil =>
    have hse : s = ⟨#[]⟩ := by
      apply ByteArray.ext; apply Array.ext'; exact hl
    subst hse
    clear hl hs
    generalize (kind.toNat : Int) = K at *
    go_enter Try.func39, Try.ntmps39
    go_wp2
    refine bodyPost_ret (results_tmp4 rfl _ _ _) rfl ?_
    exact ⟨rfl, Below.refl _ _⟩
  | cons c r =>
    have h0 : 0 < s.size := by
                              have h := congrArg List.length hl
                              rw [Array.length_toList] at h
                              have : s.data.size = s.size := rfl
                              rw [List.length_cons] at h; omega
    have h0I : (0 : Int) < s.size := by omega
    have h1I : ¬ (s.size : Int) < 1 := by omega
    have hc0 : s[0] = c := by
      have : s.data.toList[0]? = some c := by rw [hl]; rfl
      rw [List.getElem?_eq_getElem (show 0 < s.data.toList.length from h0)] at this
      injection this
    have hr : (s.extract 1 s.size) = bs r := by
      apply ByteArray.ext; apply Array.ext'; rw [ext_drop, hl]; rfl
    have hrl : r.length ≤ 1000000 := by
      have h := congrArg List.length hl
      rw [Array.length_toList, List.length_cons] at h
      have : s.data.size = s.size := rfl
      omega
    by_cases hk : c = kind
    · have hkI : ((s[0].toNat : Int) != kind.toNat) = false := by rw [hc0, hk]; simp
      rw [Nm.read_flat kind c r hk]
      have l1 := Nm.cuts_len r
      have l2 := Nm.cuts_len (Nm.cuts r).2
      have HC1 := Lib.hid (fun W => refCut_any (bs r) W (by rw [bs_size]; omega))
      have HC2 := Lib.hid (fun W => refCut_any (bs (Nm.cuts r).2) W (by rw [bs_size]; omega))
      have HBK := Lib.hid (fun W => refBucket_any (bs (Nm.cuts r).1) W)
      have HIT := Lib.hid (fun W => refItem_any (bs (Nm.cuts (Nm.cuts r).2).1) W (by rw [bs_size]; omega))
      rw [bs_list, Nm.cutv_cuts] at HC1 HC2
      rw [bs_list] at HBK HIT
      obtain ⟨X1, hX1⟩ : ∃ X1, X1 = bs (Nm.cuts r).1 := ⟨_, rfl⟩
      obtain ⟨X2, hX2⟩ : ∃ X2, X2 = bs (Nm.cuts r).2 := ⟨_, rfl⟩
      obtain ⟨Y1, hY1⟩ : ∃ Y1, Y1 = bs (Nm.cuts (Nm.cuts r).2).1 := ⟨_, rfl⟩
      obtain ⟨Y2, hY2⟩ : ∃ Y2, Y2 = bs (Nm.cuts (Nm.cuts r).2).2 := ⟨_, rfl⟩
      have hY2s : Y2.size = (Nm.cuts (Nm.cuts r).2).2.length := by rw [hY2, bs_size]
      rw [← hX1, ← hX2] at HC1
      rw [← hX2, ← hY1, ← hY2] at HC2
      rw [← hX1] at HBK
      rw [← hY1] at HIT
      rw [← hr] at HC1
      have HV := Lib.hid (show rdR (some ((Nm.cuts r).1, (Nm.cuts (Nm.cuts r).2).1, (Nm.cuts (Nm.cuts r).2).2)) = .tuple #[.string X1, .string Y1, .string Y2, .bool true] by rw [hX1, hY1, hY2]; rfl)
      generalize (kind.toNat : Int) = K at *
      clear hk hl hc0 hr hrl hs hX1 hX2 hY1 hY2 l1 l2
      cases hz1 : (Pk.cut r).isSome with
      | false =>
        rw [hz1] at HC1
        rw [Nm.cuts_some hz1, if_neg (by decide)]
        clear hz1 hY2s
        generalize (Pk.cut (Nm.cuts r).2).isSome = z2 at *
        go_enter Try.func39, Try.ntmps39
        go_wp2_with fail
        refine (HC1.out _).mono ?_
        rintro e w1 ⟨rfl, hb1⟩
        have HB1 := Lib.hid hb1
        clear hb1
        go_wp2_with fail
        refine (HC2.out _).mono ?_
        rintro e w2 ⟨rfl, hb2⟩
        have HB2 := Lib.hid (HB1.out.trans (hb2.mono HB1.out.size))
        clear hb2
        go_wp2
        refine bodyPost_ret (results_tmp4 rfl _ _ _) rfl ?_
        exact ⟨rfl, HB2.out⟩
      | true =>
        rw [hz1] at HC1
        cases hz2 : (Pk.cut (Nm.cuts r).2).isSome with
        | false =>
          rw [hz2] at HC2
          rw [Nm.cuts_some hz2, if_neg (by simp)]
          clear hz1 hz2 hY2s
          go_enter Try.func39, Try.ntmps39
          go_wp2_with fail
          refine (HC1.out _).mono ?_
          rintro e w1 ⟨rfl, hb1⟩
          have HB1 := Lib.hid hb1
          clear hb1
          go_wp2_with fail
          refine (HC2.out _).mono ?_
          rintro e w2 ⟨rfl, hb2⟩
          have HB2 := Lib.hid (HB1.out.trans (hb2.mono HB1.out.size))
          clear hb2
          go_wp2
          refine bodyPost_ret (results_tmp4 rfl _ _ _) rfl ?_
          exact ⟨rfl, HB2.out⟩
        | true =>
          rw [hz2] at HC2
          clear hz1 hz2
          cases hb : Nm.bucket (Nm.cuts r).1 with
          | false =>
            rw [hb] at HBK
            rw [if_neg (by simp)]
            clear hb hY2s
            go_enter Try.func39, Try.ntmps39
            go_wp2_with fail
            refine (HC1.out _).mono ?_
            rintro e w1 ⟨rfl, hb1⟩
            have HB1 := Lib.hid hb1
            clear hb1
            go_wp2_with fail
            refine (HC2.out _).mono ?_
            rintro e w2 ⟨rfl, hb2⟩
            have HB2 := Lib.hid (HB1.out.trans (hb2.mono HB1.out.size))
            clear hb2
            go_wp2_with fail
            refine (HBK.out _).mono ?_
            rintro e w4 ⟨rfl, rfl⟩
            go_wp2
            refine bodyPost_ret (results_tmp4 rfl _ _ _) rfl ?_
            exact ⟨rfl, HB2.out⟩
          | true =>
            rw [hb] at HBK
            cases hi : Nm.item (Nm.cuts (Nm.cuts r).2).1 with
            | false =>
              rw [hi] at HIT
              rw [if_neg (by simp)]
              clear hb hi hY2s
              go_enter Try.func39, Try.ntmps39
              go_wp2_with fail
              refine (HC1.out _).mono ?_
              rintro e w1 ⟨rfl, hb1⟩
              have HB1 := Lib.hid hb1
              clear hb1
              go_wp2_with fail
              refine (HC2.out _).mono ?_
              rintro e w2 ⟨rfl, hb2⟩
              have HB2 := Lib.hid (HB1.out.trans (hb2.mono HB1.out.size))
              clear hb2
              go_wp2_with fail
              refine (HBK.out _).mono ?_
              rintro e w4 ⟨rfl, rfl⟩
              go_wp2_with fail
              refine (HIT.out _).mono ?_
              rintro e w5 ⟨rfl, hb5⟩
              have HB2 := Lib.hid (HB2.out.trans (hb5.mono HB2.out.size))
              clear hb5
              go_wp2
              refine bodyPost_ret (results_tmp4 rfl _ _ _) rfl ?_
              exact ⟨rfl, HB2.out⟩
            | true =>
              rw [hi] at HIT
              clear hb hi
              by_cases h8 : (Nm.cuts (Nm.cuts r).2).2.length = 8
              · rw [h8] at hY2s
                have hI : ((Y2.size : Int) != 8) = false := by rw [bne_eq_false_iff_eq]; omega
                rw [decide_eq_true h8, if_pos (show (true && true && true) = true from rfl)]
                clear h8 hY2s
                go_enter Try.func39, Try.ntmps39
                go_wp2_with fail
                refine (HC1.out _).mono ?_
                rintro e w1 ⟨rfl, hb1⟩
                have HB1 := Lib.hid hb1
                clear hb1
                go_wp2_with fail
                refine (HC2.out _).mono ?_
                rintro e w2 ⟨rfl, hb2⟩
                have HB2 := Lib.hid (HB1.out.trans (hb2.mono HB1.out.size))
                clear hb2
                go_wp2_with fail
                refine (HBK.out _).mono ?_
                rintro e w4 ⟨rfl, rfl⟩
                go_wp2_with fail
                refine (HIT.out _).mono ?_
                rintro e w5 ⟨rfl, hb5⟩
                have HB2 := Lib.hid (HB2.out.trans (hb5.mono HB2.out.size))
                clear hb5
                go_wp2
                refine bodyPost_ret (results_tmp4 rfl _ _ _) rfl ?_
                exact ⟨congrArg Ending.returned HV.out.symm, HB2.out⟩
              · have hI : ((Y2.size : Int) != 8) = true := by rw [bne_iff_ne]; omega
                rw [decide_eq_false h8, if_neg (by simp)]
                clear h8 hY2s
                go_enter Try.func39, Try.ntmps39
                go_wp2_with fail
                refine (HC1.out _).mono ?_
                rintro e w1 ⟨rfl, hb1⟩
                have HB1 := Lib.hid hb1
                clear hb1
                go_wp2_with fail
                refine (HC2.out _).mono ?_
                rintro e w2 ⟨rfl, hb2⟩
                have HB2 := Lib.hid (HB1.out.trans (hb2.mono HB1.out.size))
                clear hb2
                go_wp2_with fail
                refine (HBK.out _).mono ?_
                rintro e w4 ⟨rfl, rfl⟩
                go_wp2_with fail
                refine (HIT.out _).mono ?_
                rintro e w5 ⟨rfl, hb5⟩
                have HB2 := Lib.hid (HB2.out.trans (hb5.mono HB2.out.size))
                clear hb5
                go_wp2
                refine bodyPost_ret (results_tmp4 rfl _ _ _) rfl ?_
                exact ⟨rfl, HB2.out⟩
    · have hkI : ((s[0].toNat : Int) != kind.toNat) = true := by
        rw [hc0, bne_iff_ne]; exact fun e => hk (UInt8.toNat.inj (by omega))
      have HV := Lib.hid (show Nm.read kind (c :: r) = none by show (if c ≠ kind then none else _) = _; rw [if_pos hk])
      generalize (kind.toNat : Int) = K at *
      clear hk hl hc0 hr hrl hs
      go_enter Try.func39, Try.ntmps39
      go_wp2
      refine bodyPost_ret (results_tmp4 rfl _ _ _) rfl ?_
      exact ⟨by rw [HV.out]; rfl, Below.refl _ _⟩
set_option maxHeartbeats 1000000 in
theorem refReadVersion_any (s : ByteArray) (w : World) (hs : s.size ≤ 1000000) : Calls Try.prog 20 #[.string s] w fun e w' => e = .returned (rdV (Nm.read 118 s.data.toList) (fun t => Pk.neg (Wl.dec t))) ∧ Below w.heap.size w w' := by
  have HR := Lib.hid (fun W => refRead13_any 118 s W hs)
  rw [show (((118 : UInt8).toNat : Nat) : Int) = 118 from rfl] at HR
  cases hrd : Nm.read 118 s.data.toList with
  | none =>
    rw [hrd] at HR
    unfold rdR at HR
    simp only at HR
    clear hrd
    go_enter Try.func20, Try.ntmps20
    go_wp2_with fail
    refine (HR.out _).mono ?_
    rintro e w1 ⟨rfl, hb1⟩
    have HB1 := Lib.hid hb1
    clear hb1
    go_wp2
    refine bodyPost_ret (results_tmp4 rfl _ _ _) rfl ?_
    exact ⟨rfl, HB1.out⟩
  | some p =>
    obtain ⟨b, i, t⟩ := p
    rw [hrd] at HR
    have h8 := (Nm.read_some hrd).2.2.1
    have HT := Lib.hid (fun W => told_any (bs t) W (by rw [bs_size]; omega))
    rw [bs_list] at HT
    have hd : Wl.dec t < 2 ^ 64 := by
      have := Wl.dec_snoc_lt t
      rw [h8] at this
      exact this
    have hneg := Nm.neg_sub (Wl.dec t) hd
    unfold rdR at HR
    simp only at HR
    have HV := Lib.hid (show rdV (some (b, i, t)) (fun t => Pk.neg (Wl.dec t)) = .tuple #[.string (bs b), .string (bs i), .int .u64 (((fun t => Pk.neg (Wl.dec t)) t : Nat) : Int), .bool true] from rfl)
    try simp only at HV
    generalize Wl.dec t = d at *
    generalize bs t = T at *
    generalize bs b = X at *
    generalize bs i = Y at *
    clear hrd h8 hd
    go_enter Try.func20, Try.ntmps20
    go_wp2_with fail
    refine (HR.out _).mono ?_
    rintro e w1 ⟨rfl, hb1⟩
    have HB1 := Lib.hid hb1
    clear hb1
    go_wp2_with fail
    refine (HT.out _).mono ?_
    rintro e w2 ⟨rfl, rfl⟩
    go_wp2
    refine bodyPost_ret (results_tmp4 rfl _ _ _) rfl ?_
    exact ⟨congrArg Ending.returned HV.out.symm, HB1.out⟩
set_option maxHeartbeats 1000000 in
theorem refReadUpload_any (s : ByteArray) (w : World) (hs : s.size ≤ 1000000) : Calls Try.prog 21 #[.string s] w fun e w' => e = .returned (rdV (Nm.read 117 s.data.toList) Wl.dec) ∧ Below w.heap.size w w' := by
  have HR := Lib.hid (fun W => refRead13_any 117 s W hs)
  rw [show (((117 : UInt8).toNat : Nat) : Int) = 117 from rfl] at HR
  cases hrd : Nm.read 117 s.data.toList with
  | none =>
    rw [hrd] at HR
    unfold rdR at HR
    simp only at HR
    clear hrd
    go_enter Try.func21, Try.ntmps21
    go_wp2_with fail
    refine (HR.out _).mono ?_
    rintro e w1 ⟨rfl, hb1⟩
    have HB1 := Lib.hid hb1
    clear hb1
    go_wp2
    refine bodyPost_ret (results_tmp4 rfl _ _ _) rfl ?_
    exact ⟨rfl, HB1.out⟩
  | some p =>
    obtain ⟨b, i, t⟩ := p
    rw [hrd] at HR
    have h8 := (Nm.read_some hrd).2.2.1
    have HT := Lib.hid (fun W => told_any (bs t) W (by rw [bs_size]; omega))
    rw [bs_list] at HT
    have hd : Wl.dec t < 2 ^ 64 := by
      have := Wl.dec_snoc_lt t
      rw [h8] at this
      exact this
    skip
    unfold rdR at HR
    simp only at HR
    have HV := Lib.hid (show rdV (some (b, i, t)) Wl.dec = .tuple #[.string (bs b), .string (bs i), .int .u64 ((Wl.dec t : Nat) : Int), .bool true] from rfl)
    try simp only at HV
    generalize Wl.dec t = d at *
    generalize bs t = T at *
    generalize bs b = X at *
    generalize bs i = Y at *
    clear hrd h8 hd
    go_enter Try.func21, Try.ntmps21
    go_wp2_with fail
    refine (HR.out _).mono ?_
    rintro e w1 ⟨rfl, hb1⟩
    have HB1 := Lib.hid hb1
    clear hb1
    go_wp2_with fail
    refine (HT.out _).mono ?_
    rintro e w2 ⟨rfl, rfl⟩
    go_wp2
    refine bodyPost_ret (results_tmp4 rfl _ _ _) rfl ?_
    exact ⟨congrArg Ending.returned HV.out.symm, HB1.out⟩
end Go.Proofs.Ytlpillpfahkjdaa
