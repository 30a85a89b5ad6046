/- Walk of do: an act, by both disks. -/
import Derived.Test.YtdcidfamflcdaaaRecNew
namespace Go.Proofs.Ytdcidfamflcdaaa
open Go.RowKit Lib

def un (F G : Nat → Prop) : Nat → Prop := fun k => F k ∨ G k
/-- Both disks, apart. -/
structure Pair (w : World) (F G : Nat → Prop) (g h : Nat) (d e : Dk.Disk) : Prop where
  sec : Sec w F g d
  oth : Rec w G h e
  apart : ∀ k, F k → ¬ G k
theorem Pair.left {w w' : World} {F F' G : Nat → Prop} {g h : Nat} {d d' e : Dk.Disk} (hp : Pair w F G g h d e) (hs : Sec w' F' g d') (hm : Moved F w F' w') : Pair w' F' G g h d' e ∧ Moved (un F G) w (un F' G) w' :=
  ⟨⟨hs, hp.oth.but hm.1 (fun k hk hf => hp.apart k hf hk), fun k hk hg => by
    rcases hm.2 k hk with h1 | h1
    · exact hp.apart k h1 hg
    · have := hp.oth.lt k hg; omega⟩, hm.1.mono (fun _ _ h => .inl h), fun k hk => by
    rcases hk with hk | hk
    · rcases hm.2 k hk with h1 | h1
      · exact .inl (.inl h1)
      · exact .inr h1
    · exact .inl (.inr hk)⟩
theorem Pair.right {w w' : World} {F G G' : Nat → Prop} {g h : Nat} {d e e' : Dk.Disk} (hp : Pair w F G g h d e) (hs : Rec w' G' h e') (hm : Moved G w G' w') : Pair w' F G' g h d e' ∧ Moved (un F G) w (un F G') w' :=
  ⟨⟨hp.sec.but hm.1 (fun k hk hg => hp.apart k hk hg), hs, fun k hk hg => by
    rcases hm.2 k hg with h1 | h1
    · exact hp.apart k hk h1
    · have := hp.sec.lt k hk; omega⟩, hm.1.mono (fun _ _ h => .inr h), fun k hk => by
    rcases hk with hk | hk
    · exact .inl (.inl hk)
    · rcases hm.2 k hk with h1 | h1
      · exact .inl (.inr h1)
      · exact .inr h1⟩
theorem Pair.but {S : Nat → Prop} {w w' : World} {F G : Nat → Prop} {g h : Nat} {d e : Dk.Disk} (hp : Pair w F G g h d e) (hb : But S w w') (hS : ∀ k, S k → ¬ F k ∧ ¬ G k) : Pair w' F G g h d e :=
  ⟨hp.sec.but hb (fun k hk hs => (hS k hs).1 hk), hp.oth.but hb (fun k hk hs => (hS k hs).2 hk), hp.apart⟩
theorem Moved.still {H : Nat → Prop} {w w' : World} (hb : But (fun _ => False) w w') : Moved H w H w' := ⟨hb.mono (fun _ _ h => h.elim), fun _ h => .inl h⟩
theorem Sec.len {w : World} {F : Nat → Prop} {g : Nat} {d : Dk.Disk} (h : Sec w F g d) : d.firm.length ≤ 65536 := by
  obtain ⟨_, _, _, _, _, _, _, _, _, _, _, _, h3, _, _, _, _, _, _, h, _⟩ := h
  rw [h3, List.length_map]; exact h

theorem RdB.but' {S : Nat → Prop} {w w' : World} {v : Value} {l : List Bool} (h : RdB w v l) (hb : But S w w') (hn : 0 < l.length → ∀ b, v.ownBlock = some b → ¬ S b) : RdB w' v l := by
  obtain ⟨a, cap, rfl, hc, hi⟩ := h
  refine ⟨a, cap, rfl, hc, fun i hil => ?_⟩
  obtain ⟨g, o, rfl, e2, e3⟩ := hi i hil
  exact ⟨g, o, rfl, Nat.lt_of_lt_of_le e2 hb.size, fun j hj => hb.cell (e3 j hj) (hn (by omega) g rfl)⟩

namespace Dk
theorem write_size (d : Disk) (i : Int) (s : List UInt8) : (d.write i s).2.loose.length ≤ d.loose.length + 1 ∧ (d.write i s).2.firm.length = d.firm.length := by
  unfold Disk.write
  by_cases h1 : d.off = true
  · rw [if_pos h1]; exact ⟨Nat.le_succ _, rfl⟩
  · rw [if_neg h1]
    by_cases h2 : (!d.has i) = true
    · rw [if_pos h2]; exact ⟨Nat.le_succ _, rfl⟩
    · rw [if_neg h2]
      by_cases h3 : 512 < s.length
      · rw [if_pos h3]; exact ⟨Nat.le_succ _, rfl⟩
      · rw [if_neg h3]
        by_cases h4 : d.fuel = 0
        · rw [if_pos h4]; exact ⟨Nat.le_succ _, rfl⟩
        · rw [if_neg h4]
          refine ⟨?_, rfl⟩
          show (d.loose ++ _).length ≤ _
          rw [List.length_append]; exact Nat.le_refl _
theorem flush_size (d : Disk) : d.flush.2.loose.length ≤ d.loose.length + 1 ∧ d.flush.2.firm.length = d.firm.length := by
  unfold Disk.flush
  by_cases h1 : d.off = true
  · rw [if_pos h1]; exact ⟨Nat.le_succ _, rfl⟩
  · rw [if_neg h1]
    by_cases h4 : d.fuel = 0
    · rw [if_pos h4]; exact ⟨Nat.le_succ _, rfl⟩
    · rw [if_neg h4]; exact ⟨Nat.zero_le _, puts_length _ _⟩
theorem fall_size (d : Disk) (keep : List Bool) : (d.fall keep).loose.length ≤ d.loose.length + 1 ∧ (d.fall keep).firm.length = d.firm.length := ⟨Nat.zero_le _, puts_length _ _⟩
end Dk

set_option maxRecDepth 100000 in
set_option maxHeartbeats 2000000 in
theorem do_any (w : World) (F G : Nat → Prop) (g h : Nat) (d : Dk.Disk) (what a : Int) (t : ByteArray) (vk : Value) (keep : List Bool) (hp : Pair w F G g h d d) (hn : d.loose.length ≤ 900000000)
    (ha1 : -9223372036854775808 ≤ a) (ha2 : a ≤ 9223372036854775807) (hk : RdB w vk keep) (hv : 0 < keep.length → ∀ b, vk.ownBlock = some b → ¬ un F G b) :
    Calls Try.prog 13 #[ptr g, ptr h, .agg #[.int .i64 what, .int .i64 a, .string t, vk]] w fun e w' => e = .returned (.bool true) ∧ ∃ F' G' d', Pair w' F' G' g h d' d' ∧ Moved (un F G) w (un F' G') w' ∧ d'.loose.length ≤ d.loose.length + 1 ∧ d'.firm.length = d.firm.length := by
  obtain ⟨q, hq⟩ : ∃ q, w.heap.size = q := ⟨_, rfl⟩
  obtain ⟨ak, capk, rfl, hck, hkr⟩ := hk
  have HK := Lib.hid (show RdB w (.slice ak keep.length capk) keep from ⟨ak, capk, rfl, hck, hkr⟩)
  have hkl := HK.out.lt
  obtain ⟨V, hV⟩ : ∃ V, V = w.alloc (.cells #[.int .i64 what, .int .i64 a, .string t, .slice ak keep.length capk] 34) := ⟨_, rfl⟩
  have hbV : But (fun _ => False) w V := by rw [hV]; exact (But.refl _ _).alloc _
  have HP := Lib.hid (hp.but hbV (fun _ h => h.elim))
  have HM := Lib.hid (Moved.still (H := un F G) hbV)
  have bq : Blk V q 34 [.int .i64 what, .int .i64 a, .string t, .slice ak keep.length capk] := by
    have := Blk.new w #[.int .i64 what, .int .i64 a, .string t, .slice ak keep.length capk] 34
    rw [hq, ← hV] at this
    exact this
  have HKV := Lib.hid (HK.out.but hbV (fun _ _ h => h))
  have HQ := Lib.hid (show ¬ un F G q from fun hu => by rcases hu with hu | hu; (have := hp.sec.lt q hu; omega); (have := hp.oth.lt q hu; omega))
  have HV := Lib.hid hv
  have HLEN := Lib.hid (show d.firm.length ≤ 1000000 by have := hp.sec.len; omega)
  have q0 : V.cell? ⟨q, 0, none⟩ = some (.int .i64 what) := bq.cell rfl
  have q1 : V.cell? ⟨q, 1, none⟩ = some (.int .i64 a) := bq.cell rfl
  have q2 : V.cell? ⟨q, 2, none⟩ = some (.string t) := bq.cell rfl
  have q3 : V.cell? ⟨q, 3, none⟩ = some (.slice ak keep.length capk) := bq.cell rfl
  have HBQ := Lib.hid bq
  have HVW := Lib.hid hV
  clear hp hbV bq hkr hV hv hkl HK
  by_cases h4 : what = 4
  · subst h4
    go_enter Try.func13, Try.ntmps13
    go_wp2_with fail
    rw [← HVW.out]
    refine (fall_any V F g d _ keep HP.out.sec HKV.out (fun h0 b hb hf => HV.out h0 b hb (.inl hf))).mono ?_
    rintro e w1 ⟨rfl, h1, m1⟩
    obtain ⟨p1, mm1⟩ := HP.out.left h1 m1
    have q31 : w1.cell? ⟨q, 3, none⟩ = some (.slice ak keep.length capk) := m1.1.cell q3 (fun hf => HQ.out (.inl hf))
    have hk1 := HKV.out.but' m1.1 (fun h0 b hb hf => HV.out h0 b hb (.inl hf))
    have HP1 := Lib.hid p1
    have HM1 := Lib.hid (HM.out.trans mm1)
    have HK1 := Lib.hid hk1
    clear q0 q1 q2 q3 h1 m1 p1 mm1 hk1
    go_wp2_with fail
    refine (refFall_any w1 G h d _ keep HP1.out.oth HK1.out HLEN.out hn).mono ?_
    rintro e w2 ⟨rfl, G', h2, m2⟩
    obtain ⟨p2, mm2⟩ := HP1.out.right h2 m2
    have HE := Lib.hid (And.intro p2 (HM1.out.trans mm2))
    clear h2 m2 p2 mm2 q31
    go_wp2
    go_ret
    exact ⟨rfl, F, G', _, HE.out.1, HE.out.2, Dk.fall_size d keep⟩
  · by_cases h3 : what = 3
    · subst h3
      go_enter Try.func13, Try.ntmps13
      go_wp2_with fail
      rw [← HVW.out]
      refine (fuel_any V F g d a HP.out.sec ha1 ha2).mono ?_
      rintro e w1 ⟨rfl, h1, m1⟩
      obtain ⟨p1, mm1⟩ := HP.out.left h1 m1
      have q11 : w1.cell? ⟨q, 1, none⟩ = some (.int .i64 a) := m1.1.cell q1 (fun hf => HQ.out (.inl hf))
      obtain ⟨_, _, _, _, c2, _, f2, _⟩ := p1.oth.cells
      obtain ⟨r1, m2⟩ := p1.oth.fueled (max a (-1)) (by omega) (by omega)
      obtain ⟨p2, mm2⟩ := p1.right r1 m2
      have HE := Lib.hid (show Pair (w1.setCell ⟨h, 2, none⟩ (.int .i64 (max a (-1)))) F G g h (d.fueled a) (d.fueled a) ∧ Moved (un F G) w (un F G) (w1.setCell ⟨h, 2, none⟩ (.int .i64 (max a (-1)))) from ⟨p2, HM.out.trans (mm1.trans mm2)⟩)
      clear q0 q1 q2 q3 h1 m1 p1 mm1 r1 m2 p2 mm2
      unfold ptr
      go_wp2
      all_goals
        go_ret
        first
          | (have e : max a (-1) = a := by omega
             rw [e] at HE
             exact ⟨rfl, F, G, _, HE.out.1, HE.out.2, Nat.le_succ _, rfl⟩)
          | (have e : max a (-1) = -1 := by omega
             rw [e] at HE
             exact ⟨rfl, F, G, _, HE.out.1, HE.out.2, Nat.le_succ _, rfl⟩)
    · by_cases h2 : what = 2
      · subst h2
        go_enter Try.func13, Try.ntmps13
        go_wp2_with fail
        rw [← HVW.out]
        refine (read_any V F g d a HP.out.sec).mono ?_
        rintro e w1 ⟨rfl, rfl⟩
        go_wp2_with fail
        refine (refRead_any w1 G h d a HP.out.oth).mono ?_
        rintro e w2 ⟨rfl, rfl⟩
        generalize bs (d.read a).1 = S
        generalize (d.read a).2 = N
        go_wp2
        go_ret
        exact ⟨rfl, F, G, d, HP.out, HM.out, Nat.le_succ _, rfl⟩
      · by_cases h1 : what = 1
        · subst h1
          go_enter Try.func13, Try.ntmps13
          go_wp2_with fail
          rw [← HVW.out]
          refine (flush_any V F g d HP.out.sec).mono ?_
          rintro e w1 ⟨rfl, h1, m1⟩
          obtain ⟨p1, mm1⟩ := HP.out.left h1 m1
          have HP1 := Lib.hid p1
          have HM1 := Lib.hid (HM.out.trans mm1)
          clear q0 q1 q2 q3 h1 m1 p1 mm1
          go_wp2_with fail
          refine (refFlush_any w1 G h d HP1.out.oth HLEN.out).mono ?_
          rintro e w2 ⟨rfl, G', h2, m2⟩
          obtain ⟨p2, mm2⟩ := HP1.out.right h2 m2
          have HE := Lib.hid (And.intro p2 (HM1.out.trans mm2))
          clear h2 m2 p2 mm2
          go_wp2
          go_ret
          exact ⟨rfl, F, G', _, HE.out.1, HE.out.2, Dk.flush_size d⟩
        · by_cases h0 : what = 0
          · subst h0
            go_enter Try.func13, Try.ntmps13
            have HPd := Lib.hid (show Pair V.drew F G g h d d from HP.out.but ((But.refl (fun _ => False) V).drew) (fun _ h => h.elim))
            have HMd := Lib.hid (show Moved (un F G) w (un F G) V.drew from HM.out.trans (Moved.still ((But.refl (fun _ => False) V).drew)))
            have HKEEP := Lib.hid (show ∀ (F1 G1 : Nat → Prop) (wx wy : World), But F1 wx wy → ¬ F1 q → (wx.cell? ⟨q, 1, none⟩ = some (.int .i64 a) ∧ wx.cell? ⟨q, 2, none⟩ = some (.string t)) → wy.cell? ⟨q, 1, none⟩ = some (.int .i64 a) ∧ wy.cell? ⟨q, 2, none⟩ = some (.string t) from fun F1 G1 wx wy hb hf hc => ⟨hb.cell hc.1 hf, hb.cell hc.2 hf⟩)
            have HVd := Lib.hid (show V.drew.cell? ⟨q, 1, none⟩ = some (.int .i64 a) ∧ V.drew.cell? ⟨q, 2, none⟩ = some (.string t) from ⟨q1, q2⟩)
            go_wp2
            rw [← HVW.out]
            clear q0 q3 h1 h2 h3 h4
            go_region_held3 (fun w' => w'.cell? ⟨q, 1, none⟩ = some (.int .i64 a) ∧ w'.cell? ⟨q, 2, none⟩ = some (.string t))
              (first
                | (exact ⟨by assumption, by assumption⟩)
                | (exact HVd.out)
                | go_keep)
              (first
                | (go_at_call 10; refine (write_any _ F g d a t HPd.out.sec hn).mono ?_; rintro e w1 ⟨rfl, F1, h1, m1⟩; have p1 := HPd.out.left h1 m1; obtain ⟨c11, c12⟩ := HKEEP.out F F V.drew w1 m1.1 (fun hf => HQ.out (.inl hf)) HVd.out)
                | (go_at_call 25; refine (refWrite_any _ G h d a t p1.1.oth hn).mono ?_; rintro e w2 ⟨rfl, G2, h2, m2⟩; have p2 := p1.1.right h2 m2; obtain ⟨c21, c22⟩ := HKEEP.out G G w1 w2 m2.1 (fun hf => HQ.out (.inr hf)) ⟨c11, c12⟩))
            have HE := Lib.hid (And.intro p2.1 (HMd.out.trans (p1.2.trans p2.2)))
            clear h1 m1 p1 h2 m2 p2
            generalize (d.write a t.data.toList).1 = N at *
            go_wp2
            go_ret
            exact ⟨rfl, F1, G2, _, HE.out.1, HE.out.2, Dk.write_size d a t.data.toList⟩
          · go_enter Try.func13, Try.ntmps13
            go_wp2
            go_ret
            rw [← HVW.out]
            exact ⟨rfl, F, G, d, HP.out, HM.out, Nat.le_succ _, rfl⟩
end Go.Proofs.Ytdcidfamflcdaaa
