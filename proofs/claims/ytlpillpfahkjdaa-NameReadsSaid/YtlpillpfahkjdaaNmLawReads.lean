/- Walk of the statement NameReads. -/
import Derived.Test.YtlpillpfahkjdaaNmAwake
import Derived.Test.YtlpillpfahkjdaaNmRefRead
namespace Go.Proofs.Ytlpillpfahkjdaa
open Go.RowKit Lib

namespace Nm
theorem neg_neg {n : Nat} (h : n < 2 ^ 64) : Pk.neg (Pk.neg n) = n := by unfold Pk.neg; omega
theorem dec8_lt {t : Pk.Text} (h : t.length = 8) : Wl.dec t < 2 ^ 64 := by
  have := Wl.dec_snoc_lt t
  rw [h] at this
  exact this
theorem read_kind {kind : UInt8} {s b i t : Pk.Text} (h : read kind s = some (b, i, t)) : s.head? = some kind := by
  have h1 := read_some h
  rw [← h1.2.2.2, key_some h1.1 h1.2.1]; rfl
theorem read_one {kind k2 : UInt8} {s b i t : Pk.Text} (h : read kind s = some (b, i, t)) (hk : kind ≠ k2) : read k2 s = none := by
  cases h2 : read k2 s with
  | none => rfl
  | some p =>
    obtain ⟨x, y, z⟩ := p
    have h3 := read_kind h2
    rw [read_kind h] at h3
    injection h3 with h3
    exact absurd h3 hk
end Nm
set_option maxRecDepth 100000 in
set_option maxHeartbeats 4000000 in
theorem nameReads_any (s : ByteArray) (w : World) : Calls Try.prog 4 #[.string s] w fun e w' => e = .returned (.bool true) ∧ Below w.heap.size w w' := by
  have HAW := Lib.hid (fun W => nmawake_any W)
  by_cases hs : s.size ≤ 300
  · have hsI : ¬ (s.size : Int) > 300 := by omega
    have HRV := Lib.hid (fun W => readVersion_any s W (by omega))
    have HFV := Lib.hid (fun W => refReadVersion_any s W (by omega))
    have HRU := Lib.hid (fun W => readUpload_any s W (by omega))
    have HFU := Lib.hid (fun W => refReadUpload_any s W (by omega))
    cases hv : Nm.read 118 s.data.toList with
    | some p =>
      obtain ⟨b, i, t⟩ := p
      have h := Nm.read_some hv
      rw [hv] at HRV HFV
      rw [Nm.read_one hv (by decide)] at HRU HFU
      unfold rdV at HRV HFV HRU HFU
      simp only at HRV HFV HRU HFU
      have hd := Nm.dec8_lt h.2.2.1
      have HVK := Lib.hid (fun W => versionKey_any (bs b) (bs i) (Pk.neg (Wl.dec t)) W (neg_lt _))
      rw [bs_list, bs_list, Nm.neg_neg hd, Pk.enc_dec 8 t h.2.2.1, h.2.2.2, bs_data] at HVK
      generalize Pk.neg (Wl.dec t) = N at *
      generalize bs b = X at *
      generalize bs i = Y at *
      clear hv h hd hs
      go_enter Try.func4, Try.ntmps4
      go_wp2_with fail
      refine (HAW.out _).mono ?_
      rintro e w0 ⟨rfl, hb0⟩
      have HB0 := Lib.hid hb0
      clear hb0
      go_wp2_with fail
      refine (HRV.out _).mono ?_
      rintro e w1 ⟨rfl, hb1⟩
      have HB1 := Lib.hid (HB0.out.trans (hb1.mono HB0.out.size))
      clear hb1
      go_wp2_with fail
      refine (HFV.out _).mono ?_
      rintro e w2 ⟨rfl, hb2⟩
      have HB2 := Lib.hid (HB1.out.trans (hb2.mono HB1.out.size))
      clear hb2
      go_wp2_with fail
      refine (HRU.out _).mono ?_
      rintro e w3 ⟨rfl, hb3⟩
      have HB3 := Lib.hid (HB2.out.trans (hb3.mono HB2.out.size))
      clear hb3
      go_wp2_with fail
      refine (HFU.out _).mono ?_
      rintro e w4 ⟨rfl, hb4⟩
      have HB4 := Lib.hid (HB3.out.trans (hb4.mono HB3.out.size))
      clear hb4
      go_wp2_with fail
      refine (HVK.out _).mono ?_
      rintro e w5 ⟨rfl, hb5⟩
      have HB5 := Lib.hid (HB4.out.trans (hb5.mono HB4.out.size))
      clear hb5
      go_wp2
      go_ret
      exact ⟨rfl, HB5.out⟩
    | none =>
      rw [hv] at HRV HFV
      unfold rdV at HRV HFV
      simp only at HRV HFV
      cases hu : Nm.read 117 s.data.toList with
      | none =>
        rw [hu] at HRU HFU
        unfold rdV at HRU HFU
        simp only at HRU HFU
        clear hv hu hs
        go_enter Try.func4, Try.ntmps4
        go_wp2_with fail
        refine (HAW.out _).mono ?_
        rintro e w0 ⟨rfl, hb0⟩
        have HB0 := Lib.hid hb0
        clear hb0
        go_wp2_with fail
        refine (HRV.out _).mono ?_
        rintro e w1 ⟨rfl, hb1⟩
        have HB1 := Lib.hid (HB0.out.trans (hb1.mono HB0.out.size))
        clear hb1
        go_wp2_with fail
        refine (HFV.out _).mono ?_
        rintro e w2 ⟨rfl, hb2⟩
        have HB2 := Lib.hid (HB1.out.trans (hb2.mono HB1.out.size))
        clear hb2
        go_wp2_with fail
        refine (HRU.out _).mono ?_
        rintro e w3 ⟨rfl, hb3⟩
        have HB3 := Lib.hid (HB2.out.trans (hb3.mono HB2.out.size))
        clear hb3
        go_wp2_with fail
        refine (HFU.out _).mono ?_
        rintro e w4 ⟨rfl, hb4⟩
        have HB4 := Lib.hid (HB3.out.trans (hb4.mono HB3.out.size))
        clear hb4
        go_wp2
        go_ret
        exact ⟨rfl, HB4.out⟩
      | some p =>
        obtain ⟨b, i, t⟩ := p
        have h := Nm.read_some hu
        rw [hu] at HRU HFU
        unfold rdV at HRU HFU
        simp only at HRU HFU
        have hd := Nm.dec8_lt h.2.2.1
        have HVK := Lib.hid (fun W => uploadKey_any (bs b) (bs i) (Wl.dec t) W hd)
        rw [bs_list, bs_list, Pk.enc_dec 8 t h.2.2.1, h.2.2.2, bs_data] at HVK
        generalize Wl.dec t = N at *
        generalize bs b = X at *
        generalize bs i = Y at *
        clear hv hu h hd hs
        go_enter Try.func4, Try.ntmps4
        go_wp2_with fail
        refine (HAW.out _).mono ?_
        rintro e w0 ⟨rfl, hb0⟩
        have HB0 := Lib.hid hb0
        clear hb0
        go_wp2_with fail
        refine (HRV.out _).mono ?_
        rintro e w1 ⟨rfl, hb1⟩
        have HB1 := Lib.hid (HB0.out.trans (hb1.mono HB0.out.size))
        clear hb1
        go_wp2_with fail
        refine (HFV.out _).mono ?_
        rintro e w2 ⟨rfl, hb2⟩
        have HB2 := Lib.hid (HB1.out.trans (hb2.mono HB1.out.size))
        clear hb2
        go_wp2_with fail
        refine (HRU.out _).mono ?_
        rintro e w3 ⟨rfl, hb3⟩
        have HB3 := Lib.hid (HB2.out.trans (hb3.mono HB2.out.size))
        clear hb3
        go_wp2_with fail
        refine (HFU.out _).mono ?_
        rintro e w4 ⟨rfl, hb4⟩
        have HB4 := Lib.hid (HB3.out.trans (hb4.mono HB3.out.size))
        clear hb4
        go_wp2_with fail
        refine (HVK.out _).mono ?_
        rintro e w5 ⟨rfl, hb5⟩
        have HB5 := Lib.hid (HB4.out.trans (hb5.mono HB4.out.size))
        clear hb5
        go_wp2
        go_ret
        exact ⟨rfl, HB5.out⟩
  · have hsI : (s.size : Int) > 300 := by omega
    go_enter Try.func4, Try.ntmps4
    go_wp2_with fail
    refine (HAW.out _).mono ?_
    rintro e w0 ⟨rfl, hb0⟩
    have HB0 := Lib.hid hb0
    clear hb0
    go_wp2
    go_ret
    exact ⟨rfl, HB0.out⟩
end Go.Proofs.Ytlpillpfahkjdaa
