/- Walk of the statement NameKeys. -/
import Derived.Test.YtlpillpfahkjdaaNmLawReads
import Derived.Test.YtlpillpfahkjdaaPkIn
namespace Go.Proofs.Ytlpillpfahkjdaa
open Go.RowKit Lib

set_option maxRecDepth 100000 in
set_option maxHeartbeats 4000000 in
theorem nameKeys_any (b i : ByteArray) (a : Int) (w : World) (ha : (Lit.int .u64 a).wf = true) : Calls Try.prog 3 #[.string b, .string i, .int .u64 a] w fun e w' => e = .returned (.bool true) ∧ Below w.heap.size w w' := by
  obtain ⟨n, rfl, hn⟩ := u64_wf ha
  clear ha
  have HAW := Lib.hid (fun W => nmawake_any W)
  by_cases hbs : b.size ≤ 300
  · have hbsI : ¬ (b.size : Int) > 300 := by omega
    by_cases his : i.size ≤ 300
    · have hisI : ¬ (i.size : Int) > 300 := by omega
      have HBK := Lib.hid (fun W => bucket_any b W)
      have HFB := Lib.hid (fun W => refBucket_any b W)
      have HIT := Lib.hid (fun W => item_any i W)
      have HFI := Lib.hid (fun W => refItem_any i W (by omega))
      have HVK := Lib.hid (fun W => versionKey_any b i n W hn)
      have HUK := Lib.hid (fun W => uploadKey_any b i n W hn)
      have HFV := Lib.hid (fun W => refVersionKey_any b i n W hn (by omega) (by omega))
      have HFU := Lib.hid (fun W => refUploadKey_any b i n W hn (by omega) (by omega))
      have HKK := Lib.hid (fun W => bucketKey_any b W)
      have HFK := Lib.hid (fun W => refBucketKey_any b W)
      generalize bs (Nm.bkey b.data.toList) = KB at *
      by_cases hg : Nm.bucket b.data.toList = true ∧ Nm.item i.data.toList = true
      · have l1 := Nm.key_len (kind := 118) (b := b.data.toList) (i := i.data.toList) (t := Wl.enc 8 (Pk.neg n)) (Wl.enc_length _ _)
        have l2 := Nm.key_len (kind := 117) (b := b.data.toList) (i := i.data.toList) (t := Wl.enc 8 n) (Wl.enc_length _ _)
        have e1 := Nm.read_key (kind := 118) (t := Wl.enc 8 (Pk.neg n)) hg.1 hg.2 (Wl.enc_length _ _)
        have e2 := Nm.read_key (kind := 117) (t := Wl.enc 8 n) hg.1 hg.2 (Wl.enc_length _ _)
        have HRV := Lib.hid (fun W => readVersion_any (bs (Nm.key 118 b.data.toList i.data.toList (Wl.enc 8 (Pk.neg n)))) W (by rw [bs_size]; omega))
        have HRU := Lib.hid (fun W => readUpload_any (bs (Nm.key 117 b.data.toList i.data.toList (Wl.enc 8 n))) W (by rw [bs_size]; omega))
        have HRN := Lib.hid (fun W => readVersion_any (bs (Nm.key 117 b.data.toList i.data.toList (Wl.enc 8 n))) W (by rw [bs_size]; omega))
        rw [bs_list, e1] at HRV
        rw [bs_list, e2] at HRU
        rw [bs_list, Nm.read_one e2 (by decide)] at HRN
        unfold rdV at HRV HRU HRN
        simp only at HRV HRU HRN
        rw [Wl.dec_enc 8 _ (neg_lt n), Nm.neg_neg hn, bs_data, bs_data] at HRV
        rw [Wl.dec_enc 8 _ hn, bs_data, bs_data] at HRU
        have hne : (bs (Nm.key 118 b.data.toList i.data.toList (Wl.enc 8 (Pk.neg n)))).toList.isEmpty = false := by
          rw [bs_toList, Nm.key_some hg.1 hg.2]; rfl
        have hVL : ¬ ((bs (Nm.key 118 b.data.toList i.data.toList (Wl.enc 8 (Pk.neg n)))).size : Int) > 96 := by rw [bs_size]; omega
        have hVL2 : ((bs (Nm.key 118 b.data.toList i.data.toList (Wl.enc 8 (Pk.neg n)))).size : Int) ≤ 96 := by rw [bs_size]; omega
        rw [hg.1] at HBK HFB
        rw [hg.2] at HIT HFI
        generalize bs (Nm.key 118 b.data.toList i.data.toList (Wl.enc 8 (Pk.neg n))) = V at *
        generalize bs (Nm.key 117 b.data.toList i.data.toList (Wl.enc 8 n)) = U at *
        clear hg e1 e2 l1 l2 hn hbs his
        go_enter Try.func3, Try.ntmps3
        go_wp2_with fail
        refine (HAW.out _).mono ?_
        rintro e w0 ⟨rfl, hb0⟩
        have HB0 := Lib.hid hb0
        clear hb0
        go_wp2_with fail
        refine (HBK.out _).mono ?_
        rintro e w1 ⟨rfl, rfl⟩
        go_wp2_with fail
        refine (HFB.out _).mono ?_
        rintro e w2 ⟨rfl, rfl⟩
        go_wp2_with fail
        refine (HIT.out _).mono ?_
        rintro e w3 ⟨rfl, rfl⟩
        go_wp2_with fail
        refine (HFI.out _).mono ?_
        rintro e w4 ⟨rfl, hb4⟩
        have HB4 := Lib.hid (HB0.out.trans (hb4.mono HB0.out.size))
        clear hb4
        go_wp2_with fail
        refine (HVK.out _).mono ?_
        rintro e w5 ⟨rfl, hb5⟩
        have HB5 := Lib.hid (HB4.out.trans (hb5.mono HB4.out.size))
        clear hb5
        go_wp2_with fail
        refine (HUK.out _).mono ?_
        rintro e w6 ⟨rfl, hb6⟩
        have HB6 := Lib.hid (HB5.out.trans (hb6.mono HB5.out.size))
        clear hb6
        go_wp2_with fail
        refine (HFV.out _).mono ?_
        rintro e w7 ⟨rfl, hb7⟩
        have HB7 := Lib.hid (HB6.out.trans (hb7.mono HB6.out.size))
        clear hb7
        go_wp2_with fail
        refine (HFU.out _).mono ?_
        rintro e w8 ⟨rfl, hb8⟩
        have HB8 := Lib.hid (HB7.out.trans (hb8.mono HB7.out.size))
        clear hb8
        go_wp2_with fail
        refine (HKK.out _).mono ?_
        rintro e w9 ⟨rfl, hb9⟩
        have HB9 := Lib.hid (HB8.out.trans (hb9.mono HB8.out.size))
        clear hb9
        go_wp2_with fail
        refine (HFK.out _).mono ?_
        rintro e w10 ⟨rfl, hb10⟩
        have HB10 := Lib.hid (HB9.out.trans (hb10.mono HB9.out.size))
        clear hb10
        go_wp2_with fail
        refine (HRV.out _).mono ?_
        rintro e w11 ⟨rfl, hb11⟩
        have HB11 := Lib.hid (HB10.out.trans (hb11.mono HB10.out.size))
        clear hb11
        go_wp2_with fail
        refine (HRU.out _).mono ?_
        rintro e w12 ⟨rfl, hb12⟩
        have HB12 := Lib.hid (HB11.out.trans (hb12.mono HB11.out.size))
        clear hb12
        go_wp2_with fail
        refine (HRN.out _).mono ?_
        rintro e w13 ⟨rfl, hb13⟩
        have HB13 := Lib.hid (HB12.out.trans (hb13.mono HB12.out.size))
        clear hb13
        go_wp2
        go_ret
        exact ⟨rfl, HB13.out⟩
      · rw [Nm.key_none hg] at HVK HFV
        rw [Nm.key_none hg] at HUK HFU
        clear hg hn hbs his
        generalize Nm.bucket b.data.toList = y1 at *
        generalize Nm.item i.data.toList = y2 at *
        have q1 := bs_toList []
        generalize bs [] = E at *
        go_enter Try.func3, Try.ntmps3
        go_wp2_with fail
        refine (HAW.out _).mono ?_
        rintro e w0 ⟨rfl, hb0⟩
        have HB0 := Lib.hid hb0
        clear hb0
        go_wp2_with fail
        refine (HBK.out _).mono ?_
        rintro e w1 ⟨rfl, rfl⟩
        go_wp2_with fail
        refine (HFB.out _).mono ?_
        rintro e w2 ⟨rfl, rfl⟩
        go_wp2_with fail
        refine (HIT.out _).mono ?_
        rintro e w3 ⟨rfl, rfl⟩
        go_wp2_with fail
        refine (HFI.out _).mono ?_
        rintro e w4 ⟨rfl, hb4⟩
        have HB4 := Lib.hid (HB0.out.trans (hb4.mono HB0.out.size))
        clear hb4
        go_wp2_with fail
        refine (HVK.out _).mono ?_
        rintro e w5 ⟨rfl, hb5⟩
        have HB5 := Lib.hid (HB4.out.trans (hb5.mono HB4.out.size))
        clear hb5
        go_wp2_with fail
        refine (HUK.out _).mono ?_
        rintro e w6 ⟨rfl, hb6⟩
        have HB6 := Lib.hid (HB5.out.trans (hb6.mono HB5.out.size))
        clear hb6
        go_wp2_with fail
        refine (HFV.out _).mono ?_
        rintro e w7 ⟨rfl, hb7⟩
        have HB7 := Lib.hid (HB6.out.trans (hb7.mono HB6.out.size))
        clear hb7
        go_wp2_with fail
        refine (HFU.out _).mono ?_
        rintro e w8 ⟨rfl, hb8⟩
        have HB8 := Lib.hid (HB7.out.trans (hb8.mono HB7.out.size))
        clear hb8
        go_wp2_with fail
        refine (HKK.out _).mono ?_
        rintro e w9 ⟨rfl, hb9⟩
        have HB9 := Lib.hid (HB8.out.trans (hb9.mono HB8.out.size))
        clear hb9
        go_wp2_with fail
        refine (HFK.out _).mono ?_
        rintro e w10 ⟨rfl, hb10⟩
        have HB10 := Lib.hid (HB9.out.trans (hb10.mono HB9.out.size))
        clear hb10
        go_wp2
        go_ret
        exact ⟨rfl, HB10.out⟩
    · have hisI : (i.size : Int) > 300 := by omega
      go_enter Try.func3, Try.ntmps3
      go_wp2_with fail
      refine (HAW.out _).mono ?_
      rintro e w0 ⟨rfl, hb0⟩
      have HB0 := Lib.hid hb0
      clear hb0
      go_wp2
      go_ret
      exact ⟨rfl, HB0.out⟩
  · have hbsI : (b.size : Int) > 300 := by omega
    go_enter Try.func3, Try.ntmps3
    go_wp2_with fail
    refine (HAW.out _).mono ?_
    rintro e w0 ⟨rfl, hb0⟩
    have HB0 := Lib.hid hb0
    clear hb0
    go_wp2
    go_ret
    exact ⟨rfl, HB0.out⟩
end Go.Proofs.Ytlpillpfahkjdaa
