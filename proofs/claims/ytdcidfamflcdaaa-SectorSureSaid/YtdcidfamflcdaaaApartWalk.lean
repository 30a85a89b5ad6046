/- Walk of the statement SectorApart. -/
import Derived.Test.YtdcidfamflcdaaaSecAwake
import Derived.Test.YtdcidfamflcdaaaApartMath
import Derived.Test.YtdcidfamflcdaaaReads4
namespace Go.Proofs.Ytdcidfamflcdaaa
open Go.RowKit Lib

/-- string([]byte{c}). -/
theorem one_back (w : World) (c : UInt8) : (convert 38 9 (.slice (some ⟨w.heap.size, 0, none⟩) 1 1)).run Try.prog (w.alloc (.cells #[.int .u8 c.toNat] 5)) = .ok (.string (bs [c])) (w.alloc (.cells #[.int .u8 c.toNat] 5)) := by
  have hblk := Blk.new w #[.int .u8 c.toNat] 5
  exact run_convert_bytes_back (P := Try.prog) (w.alloc (.cells #[.int .u8 c.toNat] 5)) 38 9 5 ⟨w.heap.size, 0, none⟩ 1 [c] (by kernel_rfl) (by kernel_rfl) (by kernel_rfl) (by
    intro j hj
    rw [addr_add0]
    obtain rfl : j = 0 := by simp at hj; omega
    exact hblk.cell rfl)

set_option maxRecDepth 100000 in
set_option maxHeartbeats 2000000 in
theorem sectorApart_any (va vk : Value) (l : List UInt8) (b : UInt8) (keep : List Bool) (w : World) (ha : RdY w va l) (hk : RdB w vk keep) :
    Calls Try.prog 6 #[va, .int .u8 b.toNat, vk] w fun e w' => e = .returned (.bool true) ∧ Below w.heap.size w w' := by
  obtain ⟨a, cap, rfl, hc, hr⟩ := ha
  have HK := Lib.hid hk
  obtain ⟨ak, capk, rfl, hck, _⟩ := hk
  have HR := Lib.hid hr
  clear hr
  by_cases hg : l.length ≤ 30 ∧ keep.length ≤ 60
  · obtain ⟨g1, g2⟩ := hg
    have e1 : ¬ (l.length : Int) > 30 := by omega
    have e2 : ¬ (keep.length : Int) > 60 := by omega
    go_enter Try.func6, Try.ntmps6
    go_wp2_with fail
    refine (awake_any _).mono ?_
    rintro e w1 ⟨rfl, hb1⟩
    go_wp2_with fail
    refine (new_any 10 w1 (by decide) (by decide)).mono ?_
    rintro e w2 ⟨g, F, rfl, hd2, hF, hb2⟩
    have hbt := b.toNat_lt
    obtain ⟨one, hone⟩ : ∃ one : Nat, (b.toNat : Int) % 10 = one ∧ one < 10 := ⟨b.toNat % 10, by omega, Nat.mod_lt _ (by decide)⟩
    obtain ⟨ho1, ho2⟩ := hone
    go_wp2_with fail
    refine (write_any w2 F g _ one ⟨#[111, 119, 110]⟩ hd2 (by decide)).mono ?_
    rintro e w3 ⟨rfl, F3, hd3, hm3⟩
    obtain ⟨ab1, ab2, ab3⟩ := Dk.apart_begin one ho2
    rw [show (⟨#[111, 119, 110]⟩ : ByteArray).data.toList = [111, 119, 110] from rfl, ab1]
    rw [show (⟨#[111, 119, 110]⟩ : ByteArray).data.toList = [111, 119, 110] from rfl] at hd3
    go_wp2_with fail
    refine (flush_any w3 F3 g _ hd3).mono ?_
    rintro e w4 ⟨rfl, hd4, hm4⟩
    rw [ab2]
    have HA := Lib.hid ab3
    generalize ((Dk.fresh 10).write one [111, 119, 110]).2.flush.2 = d at *
    clear ab1 ab2 ab3 hd3
    go_wp2_with fail
    refine (read_any w4 F3 g d one hd4).mono ?_
    rintro e w5 ⟨rfl, rfl⟩
    rw [HA.out.read]
    have HD := Lib.hid hd4
    have HM := Lib.hid (hm3.trans hm4)
    have HF := Lib.hid hF
    have HB := Lib.hid (hb1.trans (hb2.mono hb1.size))
    have HS := Lib.hid hb1.size
    have HS2 := Lib.hid hb2.size
    have HO : (bs Dk.ownT).size = 512 := by rw [bs_size]; exact Dk.ownT_size
    have hx : (bs Dk.ownT).extract 0 3 = ⟨#[111, 119, 110]⟩ := by rw [ext_take]; rfl
    obtain ⟨S, hS⟩ : ∃ S, S = bs Dk.ownT := ⟨_, rfl⟩
    rw [← hS] at HO hx ⊢
    have HSS := Lib.hid hS
    clear hd2 hd4 hm3 hm4 hF hb1 hb2 e1 e2 hS
    go_wp2
    go_loopw [13, 50] (fun _ i wr => ∃ (k : Nat) (d : Dk.Disk) (F' : Nat → Prop), k ≤ l.length ∧ i = .int .i64 k ∧ Hid (Dk.Apart one k d) ∧ Hid (Sec wr F' g d) ∧ Hid (Moved F w2 F' wr)) (fun _ i _ => l.length - (intOf i).toNat)
    case atStart => exact ⟨0, d, F3, Nat.zero_le _, rfl, HA, HD, HM⟩
    case round =>
      obtain ⟨k, d', F', hk, rfl, hA, hd, hm⟩ := hrel
      have hbw : Below w.heap.size w wr := HB.out.trans (hm.out.below (fun x hx => Nat.le_trans HS.out (HF.out x hx)) HB.out.size).1
      by_cases hlt : k < l.length
      · have hI : (k : Int) < l.length := by omega
        obtain ⟨ga, oa, rfl, hga, hxa⟩ := HR.out k hlt
        have ca : wr.cell? ⟨ga, oa + k, none⟩ = some (.int .u8 l[k].toNat) := (hbw.cell (p := ⟨ga, oa + k, none⟩) hga).trans (hxa k hlt)
        clear hxa
        generalize l[k] = c at *
        have hct := c.toNat_lt
        by_cases h1 : c.toNat % 10 = one
        · have h1I : (c.toNat : Int) % 10 = one := by omega
          by_cases h2 : c.toNat % 2 = 1
          · have h2I : (c.toNat : Int) % 2 = 1 := by omega
            go_wp2_with fail
            refine (flush_any wr F' g _ hd.out).mono ?_
            rintro e wB ⟨rfl, hdB, hmB⟩
            rw [hA.out.flush.1]
            have HD2 := Lib.hid hdB
            have HM2 := Lib.hid (hm.out.trans hmB)
            have HA2 := Lib.hid hA.out.flush.2
            clear hdB hmB
            go_wp2
            go_roundw
            case rel => exact ⟨k + 1, _, _, by omega, by go_num, Lib.hid (HA2.out.mono (Nat.le_succ k)), HD2, HM2⟩
            case measure => simp [intOf]; omega
          · have h2I : ¬ (c.toNat : Int) % 2 = 1 := by omega
            go_wp2
            go_roundw
            case rel => exact ⟨k + 1, _, _, by omega, by go_num, Lib.hid (hA.out.mono (Nat.le_succ k)), Lib.hid hd.out, Lib.hid (hm.out)⟩
            case measure => simp [intOf]; omega
        · have h1I : ¬ (c.toNat : Int) % 10 = one := by omega
          have hob := one_back wr c
          have hs0 := hd.out.but ((But.refl (fun _ => False) wr).alloc (.cells #[.int .u8 c.toNat] 5)) (fun _ _ h => h)
          go_wp2_with fail
          refine (write_any _ F' g d' ((c.toNat : Int) % 10) (bs [c]) hs0 (by have := hA.out.few; omega)).mono ?_
          rintro e wA ⟨rfl, F2, hdA, hmA⟩
          have hw := hA.out.write (c.toNat % 10) [c] (Nat.mod_lt _ (by decide)) h1 (by simp)
          rw [bs_list, show (c.toNat : Int) % 10 = ((c.toNat % 10 : Nat) : Int) from by omega, hw.1]
          rw [bs_list, show (c.toNat : Int) % 10 = ((c.toNat % 10 : Nat) : Int) from by omega] at hdA
          have HDA := Lib.hid hdA
          have HMA := Lib.hid ((hm.out.trans (show Moved F' wr F' (wr.alloc (.cells #[.int .u8 c.toNat] 5)) from ⟨(But.refl _ wr).alloc _, fun _ h => .inl h⟩)).trans hmA)
          have HAA := Lib.hid hw.2
          clear hdA hmA hs0 hob hw ca
          generalize (d'.write ((c.toNat % 10 : Nat) : Int) [c]).2 = dA at *
          by_cases h2 : c.toNat % 2 = 1
          · have h2I : (c.toNat : Int) % 2 = 1 := by omega
            go_wp2_with fail
            refine (flush_any wA F2 g _ HDA.out).mono ?_
            rintro e wB ⟨rfl, hdB, hmB⟩
            rw [HAA.out.flush.1]
            have HD2 := Lib.hid hdB
            have HM2 := Lib.hid (HMA.out.trans hmB)
            have HA2 := Lib.hid HAA.out.flush.2
            clear hdB hmB
            go_wp2
            go_roundw
            case rel => exact ⟨k + 1, _, _, by omega, by go_num, HA2, HD2, HM2⟩
            case measure => simp [intOf]; omega
          · have h2I : ¬ (c.toNat : Int) % 2 = 1 := by omega
            go_wp2
            go_roundw
            case rel => exact ⟨k + 1, _, _, by omega, by go_num, HAA, Lib.hid HDA.out, Lib.hid (HMA.out)⟩
            case measure => simp [intOf]; omega
      · have hke : k = l.length := by omega
        subst hke
        have hkr := HK.out.below hbw
        have hF' := (hm.out.below (fun x hx => Nat.le_trans HS.out (HF.out x hx)) HB.out.size).2
        go_wp2_with fail
        refine (fall_any wr F' g d' _ keep hd.out hkr (fun h0 x hx hf => by have := HK.out.lt h0 x hx; have := hF' x hf; omega)).mono ?_
        rintro e wC ⟨rfl, hdC, hmC⟩
        go_wp2_with fail
        refine (read_any wC F' g _ one hdC).mono ?_
        rintro e wD ⟨rfl, rfl⟩
        rw [(hA.out.fall keep).read, ← HSS.out]
        have HE := Lib.hid ((hm.out.trans hmC).below (fun x hx => Nat.le_trans HS.out (HF.out x hx)) HB.out.size).1
        clear hdC hmC hkr hF' hbw
        have h3 : (3 : Int) ≤ S.size := by omega
        go_wp2
        go_ret
        exact ⟨rfl, HB.out.trans HE.out⟩
  · go_enter Try.func6, Try.ntmps6
    go_wp2_with fail
    refine (awake_any _).mono ?_
    rintro e w1 ⟨rfl, hb1⟩
    go_wp2
    all_goals first
      | exfalso; omega
      | (go_ret; exact ⟨rfl, hb1⟩)
end Go.Proofs.Ytdcidfamflcdaaa
