/- Walks of maps.Copy, take. -/
import Derived.Test.YthkblabpiajbhaaDoorContent
import Derived.Test.YthkblabpiajbhaaDoorLogWrite
import Derived.Lib.SlMapMerge
namespace Go.Proofs.YthkblabpiajbhaaDoor
open Go.RowKit Go.Maps Lib

theorem merge_dat : ∀ (g m : Wl.Grp), Wl.Rising m → Lib.mergeD (dat m) (dat g) = dat (Wl.merge m g)
  | [], m, _ => rfl
  | x :: g, m, h => by
    have ih := merge_dat g (Wl.ins x.1 x.2 m) (Wl.ins_rising x.1 x.2 h)
    rw [← dat_ins x.1 x.2 m h] at ih
    exact ih
set_option maxRecDepth 100000 in
set_option maxHeartbeats 2000000 in
theorem copy_any (bd bs : Nat) (m g : Wl.Grp) (w : World) (hd : CMap w bd m) (hs : CMap w bs g) (hne : bd ≠ bs) (hl1 : m.length ≤ 100000) (hl2 : g.length ≤ 100000) :
    Calls Tryd.prog 43 #[.map (some bd), .map (some bs)] w fun e w' => e = .returned (.tuple #[]) ∧ CMap w' bd (Wl.merge m g) ∧ But (fun k => k = bd) w w' := by
  obtain ⟨Z, hZ⟩ : ∃ Z, Z = (zeros.map bcell).toArray := ⟨_, rfl⟩
  have hz : ∀ w, (zeroValue CT).run Tryd.prog w = .ok (.agg Z) w := fun w => by rw [hZ]; exact zero_CT w
  have hzs : Z.size = 512 := by rw [hZ]; simp [zeros_len]
  have hzn : ¬ Z = #[] := by intro e; rw [e] at hzs; cases hzs
  have HZ := Lib.hid hZ
  clear hZ
  have K : Keyed Tryd.prog KInt := int_keyed underInt
  have HD := Lib.hid hd
  have HS := Lib.hid hs
  have hbd := hd.lt
  have hbs := hs.lt
  have hs1 := hs.1
  clear hd hs
  go_enter Tryd.func43, Tryd.ntmps43
  go_wp2_with (first
    | (at_range; refine wpList_range_own _ rfl _ 52 rfl KInt CT K underMap readC bs g.length _ rfl hs1 ?_; intro w0 hrg0 hg0 hs0)
    | go_in)
  go_frame
  obtain ⟨q, hq⟩ : ∃ q, w.heap.size = q := ⟨_, rfl⟩
  rw [hq] at hrg0 ⊢
  have HQ := Lib.hid (And.intro hq hs0)
  have H0 := Lib.hid (And.intro hrg0 hg0)
  have HL := Lib.hid (And.intro hl1 hl2)
  have HB := Lib.hid (And.intro hbd (And.intro hbs hne))
  clear hs1 hrg0 hg0 hs0 hl1 hl2 hq hbd hbs hne
  go_loopw [8] (fun _ wr => ∃ (left : Lit → Bool) (cnt : Nat) (Dout : DataW Unit), Hid (wr.ranges Tryd.prog KInt readC bs q g.length (dat g) left cnt) ∧ Hid (cnt ≤ g.length) ∧
      Hid (wr.ownsMap Tryd.prog KInt readC bd (m.length + (g.length - cnt)) Dout) ∧ Hid (Merged Dout (dat m) (dat g) left) ∧ Hid (w.grownBy wr (some bd)) ∧ Hid (q < wr.heap.size))
    (fun _ wr => wr.rangeLeft bs q)
  case atStart =>
    refine ⟨_, _, dat m, Lib.hid H0.out.1, Lib.hid (by rw [dat_size]; exact Nat.le_refl _), Lib.hid ?_, Lib.hid (merged_start _ _), Lib.hid (H0.out.2.but _), Lib.hid (by have := HQ.out; omega)⟩
    exact (HD.out.1.kept H0.out.2 (by simp)).mono (by omega)
  case round =>
    obtain ⟨left, cnt, Dout, hrg, hcs, hout, hM, hgw, hqs⟩ := hrel
    have hrg' := hrg.out
    go_wp2_with (first
      | (at_next; refine wpList_next_ranges _ rfl _ rfl KInt K readC id id (fun key _ _ => ⟨key, rfl⟩) (fun v _ _ => ⟨v, rfl⟩) bs q g.length _ _ _ rfl hrg' ?_ ?_)
      | go_in)
    · intro hc0 hl0
      go_wp2
      go_end0
      have e := merged_eq K.one hM.out hl0 (hout.out.canon K) (HD.out.1.canonK K) (HS.out.1.canonK K)
      rw [merge_dat g m HD.out.2.1] at e
      have ho := hout.out
      rw [e] at ho
      refine ⟨rfl, ⟨ownsMap_len contentE ho, Wl.merge_rising g HD.out.2.1, fun x hx => ?_⟩, ⟨hgw.out.os, hgw.out.tape, hgw.out.output, hgw.out.size, fun k hk hn => hgw.out.block k hk (fun e => hn (Option.some.inj e))⟩⟩
      have hkx := Wl.look_of_mem (Wl.merge_rising g HD.out.2.1) (show (x.1, x.2) ∈ Wl.merge m g from hx)
      rw [Wl.look_merge g m x.1 HS.out.2.1] at hkx
      cases hg : Wl.look x.1 g with
      | some t => exact HS.out.2.2 (x.1, t) (Wl.look_mem hg)
      | none => rw [hg, Option.none_or] at hkx; exact HD.out.2.2 (x.1, x.2) (Wl.look_mem hkx)
    · intro x c kl yd yp w1 cnt1 hkey hlx hv hat hrg1 hlt hg1 hs1 hen
      obtain ⟨l, rfl, hl5, hyd⟩ := readC_inv hv
      have hout1 := hout.out.kept hg1 (fun e => by have := Option.some.inj e; have := HB.out; have := HQ.out; omega)
      have HX := Lib.hid (And.intro hkey (And.intro hlx (And.intro hv (And.intro hat (And.intro hrg1 (And.intro hlt (And.intro hg1 (And.intro hs1 (And.intro hout1 hl5)))))))))
      clear hkey hlx hv hat hrg1 hlt hg1 hs1 hout1 hl5 hyd hrg'
      have hcb := CBlk.new w1 Z HZ.out
      have HCB := Lib.hid hcb
      clear hcb
      go_wp2_with (refine wpList_storeC rfl _ _ rfl w1.heap.size l zeros rfl rfl HX.out.2.2.2.2.2.2.2.2.2 HCB.out ?_; intro w2 hb2 hbt2; have H2 := Lib.hid (And.intro hb2 hbt2); clear hb2 hbt2; refine Hid.out ?_)
      refine Lib.hid ?_
      have hg2 : (w1.alloc (.cells Z CT)).grownBy w2 (some w1.heap.size) := World.grownBy_but H2.out.2
      have hne1 : bd ≠ w1.heap.size := by have := HX.out.2.2.2.2.2.2.2.2.1.lt; omega
      have hout2 := (HX.out.2.2.2.2.2.2.2.2.1.alloc (.cells Z CT)).kept hg2 (fun e => hne1 (Option.some.inj e))
      have HR2 := Lib.hid ((HX.out.2.2.2.2.1.kept (World.grownBy_alloc w1 (.cells Z CT) none) (by simp) (by simp)).kept hg2 (fun e => by have := Option.some.inj e; have := HX.out.2.2.2.2.1.owns.lt; omega) (fun e => by have := Option.some.inj e; have := HX.out.2.2.2.2.1.lt; omega))
      have HG2 := Lib.hid (((hgw.out.andThen HX.out.2.2.2.2.2.2.1 (fun j hj => .inl (by cases hj; have := HQ.out; omega))).andThen (World.grownBy_alloc w1 (.cells Z CT) none) (fun j hj => by cases hj)).andThen hg2 (fun j hj => .inl (by cases hj; have := hgw.out.size; have := HX.out.2.2.2.2.2.2.2.1; omega)))
      have hkey := HX.out.1
      have hv := HX.out.2.2.1
      have hroom : m.length + (g.length - cnt) < maxLen := by have := HL.out; unfold maxLen; omega
      clear hen hg2 hne1
      go_wp2_with (first
        | (refine wpList_loadC rfl _ rfl w1.heap.size l rfl H2.out.1 ?_)
        | (at_mapUpdate; refine wpList_mapUpdate_own _ rfl _ _ _ 52 rfl KInt CT K underMap readC bd _ _ rfl hout2 hroom _ _ _ rfl rfl hkey yd yp hv ?_; intro w3 hout3 hg3; go_frame))
      have hrg3 := HR2.out.kept hg3 (fun e => HB.out.2.2 (Option.some.inj e).symm) (fun e => by have := Option.some.inj e; have := HB.out; have := HQ.out; omega)
      have H3 := Lib.hid (And.intro hrg3 (And.intro hout3 hg3))
      clear hrg3 hout3 hg3 hout2 hkey hv
      go_roundw
      case rel =>
        refine ⟨_, cnt1, _, Lib.hid H3.out.1, Lib.hid (by have := hcs.out; have := HX.out.2.2.2.2.2.1; omega), Lib.hid (H3.out.2.1.mono (by have := hcs.out; have := HX.out.2.2.2.2.2.1; omega)), Lib.hid (merged_step hM.out hout.out.isMap (K.key HX.out.1) HX.out.2.2.2.1), Lib.hid (HG2.out.andThen H3.out.2.2 (fun j hj => .inr hj)), Lib.hid H3.out.1.lt⟩
      case measure => rw [H3.out.1.left_eq, hrg.out.left_eq]; exact HX.out.2.2.2.2.2.1
end Go.Proofs.YthkblabpiajbhaaDoor
