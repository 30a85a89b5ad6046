/- Walk of the document's fingerprint. -/
import Derived.Test.YtlllcdjcihnkdaaDoorRefWords
import Derived.Deep.RegionHeld3
namespace Go.Proofs.YtlllcdjcihnkdaaDoor
open Go.RowKit

theorem Sha.part_words (l : List Nat) (o i : Nat) (m : List UInt8) (h : ∀ j, j < 16 → o + j < l.length ∧ l.getD (o + j) 0 = wordL m (16 * i + j)) : ∀ n, n ≤ 16 → (l.drop o).take n = wordsL n m i := by
  intro n
  induction n with
  | zero => intro _; rfl
  | succ n ih =>
    intro hn
    obtain ⟨h1, h2⟩ := h n (by omega)
    rw [List.take_add_one, ih (by omega), wordsL, List.getElem?_drop]
    rw [List.getD_eq_getElem?_getD, List.getElem?_eq_getElem h1] at h2
    rw [List.getElem?_eq_getElem h1, ← h2]
    rfl
theorem Sha.block_words (l : List UInt8) (b : Nat) (h : 16 * b + 16 ≤ (wordsA l).length) : ((wordsA l).drop (16 * b)).take 16 = wordsL 16 (message l) b := by
  have hl : (wordsA l).length = (message l).length / 4 := wordsN_length _ _
  refine part_words _ _ _ _ (fun j hj => ⟨by omega, ?_⟩) 16 (Nat.le_refl _)
  exact wordsN_get _ _ _ (by omega)
theorem add4u (a b c d : Nat) (ha : a < 4294967296) (hb : b < 4294967296) (hc : c < 4294967296) (hd : d < 4294967296) : IntKind.u64.wrap (IntKind.u64.wrap (IntKind.u64.wrap ((a : Int) + b) + c) + d) = ((a + b + c + d : Nat) : Int) := by
  simp only [IntKind.wrap_u64]
  omega
theorem ch_u64 (e f g : Nat) (he : e < 4294967296) (hf : f < 4294967296) (hg : g < 4294967296) :
    bits BinOp.and IntKind.u64 (e : Int) (f : Int) + bits BinOp.and IntKind.u64 (4294967295 - (e : Int)) (g : Int) = ((Sha.ch e f g : Nat) : Int) := by
  rw [show (4294967295 - (e : Int)) = ((4294967295 - e : Nat) : Int) by omega, u64_and_nat _ _ (by omega) (by omega), u64_and_nat _ _ (by omega) (by omega)]
  simp [Sha.ch]
theorem maj_u64 (a b c : Nat) (ha : a < 4294967296) (hb : b < 4294967296) (hc : c < 4294967296) :
    bits BinOp.or IntKind.u64 (bits BinOp.or IntKind.u64 (bits BinOp.and IntKind.u64 (a : Int) (b : Int)) (bits BinOp.and IntKind.u64 (a : Int) (c : Int))) (bits BinOp.and IntKind.u64 (b : Int) (c : Int)) = ((Sha.maj a b c : Nat) : Int) := by
  have h1 := Sha.and_lt (b := b) ha
  have h2 := Sha.and_lt (b := c) ha
  have h3 := Sha.and_lt (b := c) hb
  have h4 : (a &&& b) ||| (a &&& c) < 4294967296 := Nat.or_lt_two_pow (n := 32) h1 h2
  rw [u64_and_nat _ _ (by omega) (by omega), u64_and_nat _ _ (by omega) (by omega), u64_and_nat _ _ (by omega) (by omega), u64_or_nat _ _ (by omega) (by omega), u64_or_nat _ _ (by omega) (by omega)]
  rfl
/-- What a round reads. -/
def Facts (gv gw gk n : Nat) (V : Sha.V8) (x kk : Nat) (W : World) : Prop :=
  W.cell? ⟨gv, 0, none⟩ = some (.int .u64 V.a) ∧ W.cell? ⟨gv, 1, none⟩ = some (.int .u64 V.b) ∧ W.cell? ⟨gv, 2, none⟩ = some (.int .u64 V.c) ∧ W.cell? ⟨gv, 3, none⟩ = some (.int .u64 V.d) ∧
  W.cell? ⟨gv, 4, none⟩ = some (.int .u64 V.e) ∧ W.cell? ⟨gv, 5, none⟩ = some (.int .u64 V.f) ∧ W.cell? ⟨gv, 6, none⟩ = some (.int .u64 V.g) ∧ W.cell? ⟨gv, 7, none⟩ = some (.int .u64 V.h) ∧
  W.cell? ⟨gw, n, none⟩ = some (.int .u64 x) ∧ W.cell? ⟨gk, n, none⟩ = some (.int .u64 kk)
theorem Facts.drewN {gv gw gk n : Nat} {V : Sha.V8} {x kk : Nat} {W : World} (h : Facts gv gw gk n V x kk W) (m : Nat) : Facts gv gw gk n V x kk (W.drewN m) := h
theorem rw_new (w : World) (cs : Array Value) (t : TypeId) (l : List Nat) (h : cs.toList = u64s l) : Rw (w.alloc (.cells cs t)) w.heap.size l := by
  intro j hj
  exact (Blk.new w t cs).cell (by rw [h]; exact u64s_get l j hj)
theorem Rw.other {w : World} {g : Nat} {l : List Nat} (h : Rw w g l) (a : Addr) (v : Value) (hne : g ≠ a.block) : Rw (w.setCell a v) g l := fun j hj =>
  (World.cell?_setCell_other w _ _ v (fun e => hne (by rw [e]))).trans (h j hj)
theorem Rw.set {w : World} {g : Nat} {l : List Nat} (h : Rw w g l) (j x : Nat) (hj : j < l.length) : Rw (w.setCell ⟨g, j, none⟩ (.int .u64 ((x : Nat) : Int))) g (l.set j x) := by
  intro i hi
  rw [List.length_set] at hi
  by_cases e : j = i
  · subst e
    rw [World.cell?_setCell_same (h := h j hj)]
    simp [List.getD, hj]
  · rw [World.cell?_setCell_other w _ _ _ (fun e2 => e (by injection e2)), h i hi]
    simp [List.getD, e]
/-- The first j numbers of the sum, then the old ones. -/
def Sha.upTo (S V : Sha.V8) (j : Nat) : List Nat := (Sha.addV S V).list.take j ++ S.list.drop j
theorem Sha.upTo_length (S V : Sha.V8) (j : Nat) (h : j ≤ 8) : (Sha.upTo S V j).length = 8 := by
  unfold Sha.upTo
  rw [List.length_append, List.length_take, List.length_drop]
  show min j 8 + (8 - j) = 8
  omega
theorem Sha.upTo_get (S V : Sha.V8) : ∀ j : Nat, j < 8 → (Sha.upTo S V j).getD j 0 = S.list.getD j 0 := by
  intro j hj
  match j, hj with
  | 0, _ | 1, _ | 2, _ | 3, _ | 4, _ | 5, _ | 6, _ | 7, _ => rfl
theorem Sha.upTo_set (S V : Sha.V8) : ∀ j : Nat, j < 8 → (Sha.upTo S V j).set j ((S.list.getD j 0 + V.list.getD j 0) % 4294967296) = Sha.upTo S V (j + 1) := by
  intro j hj
  match j, hj with
  | 0, _ | 1, _ | 2, _ | 3, _ | 4, _ | 5, _ | 6, _ | 7, _ => rfl
theorem Sha.bytes4_take (x : Nat) : ∀ t : Nat, t < 4 → (bytes4 x).take (t + 1) = (bytes4 x).take t ++ [UInt8.ofNat (x / 2 ^ (24 - 8 * t))] := by
  intro t ht
  match t, ht with
  | 0, _ => rfl
  | 1, _ => rfl
  | 2, _ => rfl
  | 3, _ => simp [bytes4]
theorem Rw.alloc {w : World} {g : Nat} {l : List Nat} (h : Rw w g l) (o : Obj) (hg : g < w.heap.size) : Rw (w.alloc o) g l := fun j hj => (World.cell?_alloc_old w o ⟨g, j, none⟩ (Nat.ne_of_lt hg)).trans (h j hj)
theorem OwnU.cap {B : Nat} {w : World} {g n cap : Nat} {l : List Nat} (h : OwnU B w (.slice (some ⟨g, 0, none⟩) n cap) l) : l.length ≤ cap := by
  rcases h.2 with ⟨h', _⟩ | ⟨g', cap', cur, h', _, _, hnc, _⟩
  · simp at h'
  · simp only [Value.slice.injEq] at h'
    rw [h'.2.2]
    exact hnc
theorem words_hid (s : ByteArray) (w : World) (hs : s.size ≤ 1000000000) :
    Calls Tryd.prog 26 #[.string s] w fun e w' => ∃ (A : List Nat) (g n cap : Nat), e = .returned (.slice (some ⟨g, 0, none⟩) n cap) ∧ Hid (A = Sha.wordsA s.data.toList) ∧ Hid (A.length = n) ∧ n ≤ cap ∧ Rw w' g A ∧ w.heap.size ≤ g ∧ g < w'.heap.size ∧ Below w.heap.size w w' := by
  refine (words_any s w hs).mono ?_
  rintro e w' ⟨v, rfl, hown, hb⟩
  have hpos : 0 < (Sha.wordsA s.data.toList).length := by
    rw [Sha.wordsA, Sha.wordsN_length, Sha.message, Sha.pad_length]
    have := Sha.zs_yes s.data.toList.length
    omega
  obtain ⟨g, cap, rfl, h1, h2⟩ := hown.form hpos
  exact ⟨_, g, _, cap, rfl, rfl, rfl, hown.cap, hown.rw rfl, h1, h2, hb⟩

set_option maxRecDepth 100000 in
set_option maxHeartbeats 4000000 in
theorem by_any (s : ByteArray) (w : World) (hs : s.size ≤ 1000000000) (h : Sha.V8) (hok : h.ok) (Kl : List Nat) (hKl : Kl.length = 64) (hK : ∀ x ∈ Kl, x < 4294967296)
    (gf gk cf ck : Nat) (hf : Rw w gf h.list) (_hfl : gf < w.heap.size) (hk : Rw w gk Kl) (hkl : gk < w.heap.size) :
    Calls Tryd.prog 12 #[.string s, .slice (some ⟨gf, 0, none⟩) 8 cf, .slice (some ⟨gk, 0, none⟩) 64 ck] w fun e w' =>
      e = .returned (.string ⟨(Sha.by_ (fun i => Kl.getD i 0) h s.data.toList).toArray⟩) ∧ Below w.heap.size w w' := by
  go_enter Tryd.func12, Tryd.ntmps12
  go_wp2_with (at_builtin; refine wpList_appU rfl _ _ rfl w.heap.size w _ [] rfl (OwnU.nil _ _) (Below.refl _ _) (Nat.le_refl _) ⟨gf, 0, none⟩ 8 cf h.list rfl rfl hf.news (by simp) ?_; intro v0 w0 hown0 hb0)
  have h8 : h.list.length = 8 := rfl
  obtain ⟨gs, cs, rfl, hgs1, hgs2⟩ := hown0.form (by rw [List.nil_append, h8]; decide)
  rw [List.nil_append] at hown0
  have hS0 := hown0.rw rfl
  have hfr0 : ∀ j, w0.frozen? ⟨gs, j, none⟩ = false := World.ownsRow.frozenAt hown0
  have hk0 := hk.below hb0 hkl
  refine (words_hid s _ hs).mono ?_
  rintro e w1 ⟨A, ga, na, ca, rfl, hA, hAl, hca, hRA, hga1, hga2, hb1⟩
  have HK := Lib.hid hk
  have HGS := Lib.hid hgs1
  have hS1 := hS0.below hb1 hgs2
  have hfr1 : ∀ j, w1.frozen? ⟨gs, j, none⟩ = false := fun j => by rw [hb1.frozen hgs2]; exact hfr0 j
  have hbw : Below w.heap.size w w1 := hb0.trans (hb1.mono (Nat.le_trans hgs1 (Nat.le_of_lt hgs2)))
  have hne : gs ≠ ga := by omega
  obtain ⟨B1, hB1⟩ : ∃ B1, B1 = w1.heap.size := ⟨_, rfl⟩
  have hgsB : gs < B1 := by have := hb1.size; omega
  have hgaB : ga < B1 := by omega
  obtain ⟨nb, hnb⟩ : ∃ nb, nb = (Sha.message s.data.toList).length / 64 := ⟨_, rfl⟩
  have hna : na = 16 * nb := by
    rw [← hAl.out, hA.out, Sha.wordsA, Sha.wordsN_length, hnb]
    have := Sha.pad_mod s.data.toList (8 * s.data.toList.length)
    unfold Sha.message
    omega
  have hnal : na ≤ 1000000000 := by
    rw [← hAl.out, hA.out, Sha.wordsA, Sha.wordsN_length, Sha.message, Sha.pad_length, Array.length_toList]
    have := Sha.zs_le s.data.size
    show (s.size + 1 + Sha.zs s.data.size + 8) / 4 ≤ _
    omega
  have HNB := Lib.hid hnb
  have HNA := Lib.hid hna
  have HOK := Lib.hid hok
  have HKL := Lib.hid hKl
  have HKK := Lib.hid hK
  have HS1 := Lib.hid hS1
  have HF1 := Lib.hid hfr1
  clear hnb hna hS0 hfr0 hS1 hfr1 hk0 hk hf hown0 hb0 hb1 hok hKl hK hga1 hgs1 hgs2 hga2
  go_wp2_with fail
  go_loopw [9, 10, 11, 12, 13, 14, 15, 16, 17, 18] (fun at_ _ _ _ _ _ _ _ _ _ wr => ∃ (b p : Nat) (S : Sha.V8), b ≤ nb ∧ Hid (p = 16 * b) ∧ at_ = .int .i64 p ∧ Hid (S = Sha.state (fun i => Kl.getD i 0) h (Sha.message s.data.toList) b) ∧ S.ok ∧
      Hid (Rw wr gs S.list) ∧ Hid (∀ j, wr.frozen? ⟨gs, j, none⟩ = false) ∧ Hid (Rw wr ga A) ∧ Hid (Below w.heap.size w wr) ∧ B1 ≤ wr.heap.size) (fun at_ _ _ _ _ _ _ _ _ _ _ => na - (intOf at_).toNat)
  case atStart => exact ⟨0, 0, h, Nat.zero_le _, rfl, rfl, rfl, HOK.out, HS1.out, HF1.out, hRA, hbw, by omega⟩
  case round =>
    obtain ⟨b, p, S, hbn, hp, rfl, hSt, ok, hS, hfr, hRA, hbw, hB⟩ := hrel
    by_cases hlt : b < nb
    · have HBN := Lib.hid hlt
      have hpl : p + 16 ≤ na := by have := hp.out; have := HNA.out; omega
      obtain ⟨p2, hp2⟩ : ∃ p2, p2 = p + 16 := ⟨_, rfl⟩
      have w16 : IntKind.i64.wrap ((p : Int) + 16) = (p2 : Int) := by rw [IntWalk.i64_in _ (by omega)]; omega
      have ca0 : ¬ ca = p := by omega
      have pca : (p : Int) + 16 ≤ ca := by omega
      have pA : p + 16 ≤ A.length := by rw [hAl.out]; exact hpl
      go_wp2_with (at_builtin; refine Hid.out ?_)
      refine Lib.hid ?_
      refine wpList_appU rfl _ _ rfl wr.heap.size wr _ [] rfl (OwnU.nil _ _) (Below.refl _ _) (Nat.le_refl _) ⟨ga, p, none⟩ (p + 16 - p) (ca - p) ((A.drop p).take 16) rfl (by rw [List.length_take, List.length_drop]; omega) (hRA.out.part p 16 pA) (by simp) ?_
      intro v2 w2 hown2 hb2
      obtain ⟨W, hW⟩ : ∃ W, W = Sha.wordsL 16 (Sha.message s.data.toList) b := ⟨_, rfl⟩
      have hW2 : [] ++ (A.drop p).take 16 = W := by
        rw [List.nil_append, hW, hp.out, hA.out]
        exact Sha.block_words _ _ (by rw [← hA.out, ← hp.out]; exact pA)
      have hWl : W.length = 16 := by rw [← hW2, List.nil_append, List.length_take, List.length_drop]; omega
      have hW32 : ∀ x ∈ W, x < 4294967296 := by
        rw [hW]
        exact Sha.wordsL_lt _ _ _
      rw [hW2] at hown2
      have HW := Lib.hid hW
      have HWL := Lib.hid hWl
      have HW32 := Lib.hid hW32
      clear hW hW2 hWl hW32 ca0 pca pA hlt hbn
      obtain ⟨wb, hwb⟩ : ∃ wb, wb = wr := ⟨_, rfl⟩
      rw [← hwb] at hown2 hb2 hS hfr hRA hbw hB
      clear hwb
      go_wp2_with fail
      go_loopw [10, 11] (fun v i wq => ∃ n k : Nat, n ≤ 48 ∧ Hid (k = n + 16) ∧ i = .int .i64 k ∧ OwnU wb.heap.size wq v (Sha.ext n W) ∧ Below wb.heap.size wb wq) (fun _ i _ => 64 - (intOf i).toNat)
      case atStart => exact ⟨0, 16, Nat.zero_le _, rfl, rfl, hown2, hb2⟩
      case round =>
        obtain ⟨n, k, hn, hk, rfl, hown, hb⟩ := hrel
        by_cases hlt : n < 48
        · have hlen : (Sha.ext n W).length = k := by rw [Sha.ext_length, HWL.out, hk.out]; exact Nat.add_comm _ _
          obtain ⟨gw, cw, rfl, hgw1, hgw2⟩ := hown.form (by rw [hlen, hk.out]; omega)
          rw [hlen] at hown ⊢
          have hk64 : (k : Int) < 64 := by have := hk.out; omega
          have hk16 : 16 ≤ k := by have := hk.out; omega
          have hRw := hown.rw hlen.symm
          obtain ⟨l, hl⟩ : ∃ l, l = Sha.ext n W := ⟨_, rfl⟩
          rw [← hl] at hown hRw hlen
          have hl32 : ∀ x ∈ l, x < 4294967296 := by rw [hl]; exact Sha.ext_lt _ _ HW32.out
          obtain ⟨p16, q16⟩ : ∃ p, p = k - 16 := ⟨_, rfl⟩
          obtain ⟨p15, q15⟩ : ∃ p, p = k - 15 := ⟨_, rfl⟩
          obtain ⟨p7, q7⟩ : ∃ p, p = k - 7 := ⟨_, rfl⟩
          obtain ⟨p2, q2⟩ : ∃ p, p = k - 2 := ⟨_, rfl⟩
          have c16 := hRw p16 (by omega)
          have c15 := hRw p15 (by omega)
          have c7 := hRw p7 (by omega)
          have c2 := hRw p2 (by omega)
          have HC := Lib.hid (fun (w' : World) (h : Rw w' gw l) => (⟨h p16 (by omega), h p15 (by omega), h p7 (by omega), h p2 (by omega)⟩ : _ ∧ _ ∧ _ ∧ _))
          obtain ⟨a, ha⟩ : ∃ a, a = l.getD p16 0 := ⟨_, rfl⟩
          obtain ⟨bb, hbb⟩ : ∃ a, a = l.getD p15 0 := ⟨_, rfl⟩
          obtain ⟨c, hc⟩ : ∃ a, a = l.getD p7 0 := ⟨_, rfl⟩
          obtain ⟨d, hd⟩ : ∃ a, a = l.getD p2 0 := ⟨_, rfl⟩
          have ha32 : a < 4294967296 := by rw [ha]; exact Sha.getD_lt l hl32 _
          have hb32 : bb < 4294967296 := by rw [hbb]; exact Sha.getD_lt l hl32 _
          have hc32 : c < 4294967296 := by rw [hc]; exact Sha.getD_lt l hl32 _
          have hd32 : d < 4294967296 := by rw [hd]; exact Sha.getD_lt l hl32 _
          rw [← ha] at c16 HC
          rw [← hbb] at c15 HC
          rw [← hc] at c7 HC
          rw [← hd] at c2 HC
          have HX := Lib.hid (show Sha.ext (n + 1) W = l ++ [(a + Sha.small bb 7 18 3 + c + Sha.small d 17 19 10) % 4294967296] by
            rw [Sha.ext_succ, ← hl, Sha.next_of l k a bb c d hlen (by rw [ha, q16]) (by rw [hbb, q15]) (by rw [hc, q7]) (by rw [hd, q2])])
          have HSUM := Lib.hid (add4u a (Sha.small bb 7 18 3) c (Sha.small d 17 19 10) ha32 (Sha.small_lt _ _ _ _ hb32 (by decide) (by decide)) hc32 (Sha.small_lt _ _ _ _ hd32 (by decide) (by decide)))
          have l16 : (p16 : Int) < k := by omega
          have l15 : (p15 : Int) < k := by omega
          have l7 : (p7 : Int) < k := by omega
          have l2 : (p2 : Int) < k := by omega
          have s16 : IntKind.i64.wrap ((k : Int) - 16) = p16 := by rw [IntWalk.i64_in _ (by omega)]; omega
          have s15 : IntKind.i64.wrap ((k : Int) - 15) = p15 := by rw [IntWalk.i64_in _ (by omega)]; omega
          have s7 : IntKind.i64.wrap ((k : Int) - 7) = p7 := by rw [IntWalk.i64_in _ (by omega)]; omega
          have s2 : IntKind.i64.wrap ((k : Int) - 2) = p2 := by rw [IntWalk.i64_in _ (by omega)]; omega
          have hll : l.length ≤ 100 := by omega
          have HLL := Lib.hid hlen
          clear hl32 q16 q15 q7 q2 ha hbb hc hd hl hRw hlen
          go_wp2
          go_region_held3 (fun w' => w'.cell? ⟨gw, p16, none⟩ = some (.int .u64 a) ∧ w'.cell? ⟨gw, p15, none⟩ = some (.int .u64 bb) ∧ w'.cell? ⟨gw, p7, none⟩ = some (.int .u64 c) ∧ w'.cell? ⟨gw, p2, none⟩ = some (.int .u64 d))
            (first
              | go_keep
              | (refine HC.out _ ?_; assumption))
            (first
              | (go_at_call 28; refine (refSmall_gen _ _ _ _ (by assumption) (by decide) _).mono ?_; rintro e w' ⟨rfl, rfl⟩)
              | (go_at_call 27; refine (low_any _ _ HSUM.out _).mono ?_; rintro e w' ⟨rfl, rfl⟩)
              | (refine step_appK rfl _ _ rfl wb.heap.size wb gw k cw l rfl HLL.out.symm (hown.alloc _).drew ((hb.alloc hb.size _).drew) (by have := hb.size; simp; omega) ⟨wr.heap.size, 0, none⟩ 1 1 [(a + Sha.small bb 7 18 3 + c + Sha.small d 17 19 10) % 4294967296] rfl rfl (by decide) (news_u64d _ _ _ _ (u64s_one_eq _ _ (by simp))) (by simp; omega) ?_; intro v' wz hown' hb' hkk))
          go_wp2
          go_roundw
          case rel => exact ⟨n + 1, k + 1, by omega, (by have := hk.out; show k + 1 = n + 1 + 16; omega), by go_num, by rw [HX.out]; exact hown', hb'⟩
          case measure => simp [intOf]; omega
        · have hn48 : n = 48 := by omega
          have hlen : (Sha.ext n W).length = 64 := by rw [Sha.ext_length, HWL.out, hn48]
          obtain ⟨gw, cw, rfl, hgw1, hgw2⟩ := hown.form (by rw [hlen]; decide)
          have hk64 := Lib.hid (show k = 64 by have := hk.out; omega)
          rw [hlen] at hown ⊢
          have hRw := hown.rw hlen.symm
          obtain ⟨SL, hSL⟩ : ∃ l, l = Sha.ext n W := ⟨_, rfl⟩
          rw [← hSL] at hRw hlen
          have hSL2 := Lib.hid (show SL = Sha.schedL (Sha.message s.data.toList) b by rw [hSL, hn48, HW.out]; rfl)
          have hSL32 := Lib.hid (show ∀ x ∈ SL, x < 4294967296 by rw [hSL]; exact Sha.ext_lt _ _ HW32.out)
          have HSLL := Lib.hid hlen
          have hgsb : gs < wb.heap.size := by omega
          have hgab : ga < wb.heap.size := by omega
          have hgkb : gk < wb.heap.size := by have := hbw.out.size; omega
          have hS3 := Lib.hid (hS.out.below hb hgsb)
          have hfr3 := Lib.hid (fun j => (show wr.frozen? ⟨gs, j, none⟩ = false by rw [hb.frozen hgsb]; exact hfr.out j))
          have hRA3 := Lib.hid (hRA.out.below hb hgab)
          have hbw3 := Lib.hid (hbw.out.trans (hb.mono hbw.out.size))
          have hB3 : B1 ≤ wr.heap.size := by have := hb.size; omega
          clear hSL hlen hown hb hS hfr hRA hbw hB hn48 hn hlt
          obtain ⟨w3, hw3⟩ : ∃ w3, w3 = wr := ⟨_, rfl⟩
          rw [← hw3] at hRw hgw2 hS3 hfr3 hRA3 hbw3 hB3 ⊢
          clear hw3
          rw [hk64.out]
          have HRw := Lib.hid hRw
          clear hRw
          go_wp2_with (at_builtin; refine wpList_appU rfl _ _ rfl w3.heap.size w3 _ [] rfl (OwnU.nil _ _) (Below.refl _ _) (Nat.le_refl _) ⟨gs, 0, none⟩ 8 cs S.list rfl rfl hS3.out.news (by simp) ?_; intro v4 w4 hown4 hb4)
          rw [List.nil_append] at hown4
          obtain ⟨gv, cv, rfl, hgv1, hgv2⟩ := hown4.form (by show 0 < 8; decide)
          have hRv := Lib.hid (hown4.rw rfl)
          clear hown4
          go_wp2_with fail
          go_loopw [12, 13, 14, 15, 16, 17] (fun v i _ _ _ _ wr => ∃ (n gv cv : Nat) (V : Sha.V8), n ≤ 64 ∧ i = .int .i64 n ∧ v = .slice (some ⟨gv, 0, none⟩) 8 cv ∧ Hid (V = Sha.rounds (fun i => Kl.getD i 0) SL S n) ∧ V.ok ∧ Hid (Rw wr gv V.list) ∧ w3.heap.size ≤ gv ∧ gv < wr.heap.size ∧ Hid (Below w3.heap.size w3 wr)) (fun _ i _ _ _ _ _ => 64 - (intOf i).toNat)
          case atStart => exact ⟨0, gv, cv, S, Nat.zero_le _, rfl, rfl, (Sha.rounds_zero _ _ _).symm, ok, hRv, hgv1, hgv2, hb4⟩
          case round =>
            clear hRv hgv1 hgv2 hb4
            obtain ⟨n, gv, cv, V, hn, rfl, rfl, hV, okV, hRv, hgv1, hgv2, hb⟩ := hrel
            by_cases hlt : n < 64
            · obtain ⟨x, hx⟩ : ∃ x, x = SL.getD n 0 := ⟨_, rfl⟩
              obtain ⟨kk, hkk⟩ : ∃ k, k = Kl.getD n 0 := ⟨_, rfl⟩
              have hx32 : x < 4294967296 := by rw [hx]; exact Sha.getD_lt _ hSL32.out _
              have hk32 : kk < 4294967296 := by rw [hkk]; exact Sha.getD_lt _ HKK.out _
              have cw' : wr.cell? ⟨gw, n, none⟩ = some (.int .u64 x) := by rw [hx]; exact HRw.out.below hb.out hgw2 n (by rw [HSLL.out]; exact hlt)
              have ck' : wr.cell? ⟨gk, n, none⟩ = some (.int .u64 kk) := by
                rw [hkk]
                exact (HK.out.below hbw3.out hkl).below hb.out (by have := hbw3.out.size; omega) n (by rw [HKL.out]; exact hlt)
              have HN := Lib.hid (show Sha.rounds (fun i => Kl.getD i 0) SL S (n + 1) = Sha.rnd kk x V by rw [Sha.rounds_succ, ← hV.out, ← hkk, ← hx])
              obtain ⟨va, vb, vc, vd, ve, vf, vg, vh⟩ := V
              obtain ⟨oa, ob, oc, od, oe, of', og, oh⟩ := okV
              simp only at oa ob oc od oe of' og oh
              have HF := Lib.hid (show Facts gv gw gk n ⟨va, vb, vc, vd, ve, vf, vg, vh⟩ x kk wr from ⟨hRv.out 0 (by show 0 < 8; decide), hRv.out 1 (by show 1 < 8; decide), hRv.out 2 (by show 2 < 8; decide), hRv.out 3 (by show 3 < 8; decide), hRv.out 4 (by show 4 < 8; decide), hRv.out 5 (by show 5 < 8; decide), hRv.out 6 (by show 6 < 8; decide), hRv.out 7 (by show 7 < 8; decide), cw', ck'⟩)
              clear cw' ck'
              obtain ⟨c0, c1, c2, c3, c4, c5, c6, c7, cw', ck'⟩ := HF.out
              simp only at c0 c1 c2 c3 c4 c5 c6 c7
              have n64 : (n : Int) < 64 := by omega
              clear hx hkk
              obtain ⟨C, hC⟩ : ∃ C, C = Sha.ch ve vf vg := ⟨_, rfl⟩
              obtain ⟨M, hM⟩ : ∃ M, M = Sha.maj va vb vc := ⟨_, rfl⟩
              obtain ⟨E1, hE1⟩ : ∃ M, M = Sha.great ve 6 11 25 := ⟨_, rfl⟩
              obtain ⟨E2, hE2⟩ : ∃ M, M = Sha.great va 2 13 22 := ⟨_, rfl⟩
              have hC32 : C < 8589934592 := by rw [hC]; unfold Sha.ch; have := Sha.and_lt (b := vf) oe; have := Sha.and_lt (a := 4294967295 - ve) (b := vg) (by omega); omega
              have hM32 : M < 4294967296 := by rw [hM]; exact Nat.or_lt_two_pow (n := 32) (Nat.or_lt_two_pow (n := 32) (Sha.and_lt oa) (Sha.and_lt oa)) (Sha.and_lt ob)
              have hE132 : E1 < 4294967296 := by rw [hE1]; exact Sha.great_lt _ _ _ _ oe (by decide) (by decide) (by decide)
              have hE232 : E2 < 4294967296 := by rw [hE2]; exact Sha.great_lt _ _ _ _ oa (by decide) (by decide) (by decide)
              have HRND := Lib.hid (show Sha.rnd kk x ⟨va, vb, vc, vd, ve, vf, vg, vh⟩ = ⟨(vh + E1 + C + kk + x + (E2 + M)) % 4294967296, va, vb, vc, (vd + (vh + E1 + C + kk + x)) % 4294967296, ve, vf, vg⟩ by rw [hC, hM, hE1, hE2]; rfl)
              have bC := ch_u64 ve vf vg oe of' og
              have bM := maj_u64 va vb vc oa ob oc
              rw [← hC] at bC
              rw [← hM] at bM
              have HE1 := Lib.hid hE1
              have HE2 := Lib.hid hE2
              have bC2 : IntKind.u64.wrap (bits BinOp.and IntKind.u64 (ve : Int) (vf : Int) + bits BinOp.and IntKind.u64 (4294967295 - (ve : Int)) (vg : Int)) = (C : Int) := by rw [bC]; exact wrap_u64_in _ (by omega) (by omega)
              clear hC hM hE1 hE2
              go_wp2_with fail
              go_quiet (fail)
              obtain ⟨w5, hw5⟩ : ∃ w', w' = wr.drewN nq := ⟨_, rfl⟩
              rw [← hw5]
              have HF5 := Lib.hid (show Facts gv gw gk n ⟨va, vb, vc, vd, ve, vf, vg, vh⟩ x kk w5 by rw [hw5]; exact HF.out.drewN nq)
              have hb5 := Lib.hid (show Below w3.heap.size w3 w5 by rw [hw5]; exact below_drewN hb.out _)
              clear hw5 c0 c1 c2 c3 c4 c5 c6 c7 cw' ck'
              obtain ⟨c0, c1, c2, c3, c4, c5, c6, c7, cw', ck'⟩ := HF5.out
              simp only at c0 c1 c2 c3 c4 c5 c6 c7
              go_wp2_with fail
              go_quiet (fail)
              obtain ⟨w6, hw6⟩ : ∃ w', w' = w5.drewN nq := ⟨_, rfl⟩
              rw [← hw6]
              have HF6 := Lib.hid (show Facts gv gw gk n ⟨va, vb, vc, vd, ve, vf, vg, vh⟩ x kk w6 by rw [hw6]; exact HF5.out.drewN nq)
              have hb6 := Lib.hid (show Below w3.heap.size w3 w6 by rw [hw6]; exact below_drewN hb5.out _)
              clear hw6 c0 c1 c2 c3 c4 c5 c6 c7 cw' ck'
              obtain ⟨c0, c1, c2, c3, c4, c5, c6, c7, cw', ck'⟩ := HF6.out
              simp only at c0 c1 c2 c3 c4 c5 c6 c7
              go_wp2_with fail
              go_quiet ((go_at_call 29; exact Calls.quiet_of_same (refGreat_gen _ _ _ _ oe (by decide) _)))
              obtain ⟨w7, hw7⟩ : ∃ w', w' = w6.drewN nq := ⟨_, rfl⟩
              rw [← hw7]
              have HF7 := Lib.hid (show Facts gv gw gk n ⟨va, vb, vc, vd, ve, vf, vg, vh⟩ x kk w7 by rw [hw7]; exact HF6.out.drewN nq)
              have hb7 := Lib.hid (show Below w3.heap.size w3 w7 by rw [hw7]; exact below_drewN hb6.out _)
              clear hw7 c0 c1 c2 c3 c4 c5 c6 c7 cw' ck'
              obtain ⟨c0, c1, c2, c3, c4, c5, c6, c7, cw', ck'⟩ := HF7.out
              simp only at c0 c1 c2 c3 c4 c5 c6 c7
              go_wp2_with (go_at_call 29; refine (refGreat_gen _ _ _ _ oa (by decide) _).mono ?_; rintro e w8 ⟨rfl, rfl⟩)
              obtain ⟨O, hO⟩ : ∃ O, O = vh + E1 + C + kk + x := ⟨_, rfl⟩
              obtain ⟨T, hT⟩ : ∃ T, T = E2 + M := ⟨_, rfl⟩
              have hO36 : O < 68719476736 := by omega
              have hT36 : T < 68719476736 := by omega
              have eO : IntKind.u64.wrap (IntKind.u64.wrap (IntKind.u64.wrap (IntKind.u64.wrap ((vh : Int) + (Sha.great ve 6 11 25 : Nat)) + C) + kk) + x) = (O : Int) := by
                rw [← HE1.out]
                simp only [IntKind.wrap_u64]
                omega
              have eT : IntKind.u64.wrap (((Sha.great va 2 13 22 : Nat) : Int) + M) = (T : Int) := by
                rw [← HE2.out]
                simp only [IntKind.wrap_u64]
                omega
              rw [eO, eT]
              have HRN := Lib.hid (show Sha.rnd kk x ⟨va, vb, vc, vd, ve, vf, vg, vh⟩ = ⟨(O + T) % 4294967296, va, vb, vc, (vd + O) % 4294967296, ve, vf, vg⟩ by rw [HRND.out, hO, hT])
              have HOKN := Lib.hid (Sha.rnd_ok kk x (v := ⟨va, vb, vc, vd, ve, vf, vg, vh⟩) ⟨oa, ob, oc, od, oe, of', og, oh⟩)
              have eOT : IntKind.u64.wrap ((O : Int) + T) = ((O + T : Nat) : Int) := by rw [IntKind.wrap_u64]; omega
              have eDO : IntKind.u64.wrap ((vd : Int) + O) = ((vd + O : Nat) : Int) := by rw [IntKind.wrap_u64]; omega
              have HOT := Lib.hid eOT
              have HDO := Lib.hid eDO
              clear eO eT eOT eDO hO hT hC32 hM32 hE132 hE232 bC bC2 bM cw' ck'
              go_region_held3 (fun w' => w'.cell? ⟨gv, 0, none⟩ = some (.int .u64 va) ∧ w'.cell? ⟨gv, 1, none⟩ = some (.int .u64 vb) ∧ w'.cell? ⟨gv, 2, none⟩ = some (.int .u64 vc) ∧ w'.cell? ⟨gv, 3, none⟩ = some (.int .u64 vd) ∧ w'.cell? ⟨gv, 4, none⟩ = some (.int .u64 ve) ∧ w'.cell? ⟨gv, 5, none⟩ = some (.int .u64 vf) ∧ w'.cell? ⟨gv, 6, none⟩ = some (.int .u64 vg))
                (first
                  | go_keep)
                (first
                  | (go_at_call 27; refine (low_any _ _ HOT.out _).mono ?_; rintro e w' ⟨rfl, rfl⟩)
                  | (go_at_call 27; refine (low_any _ _ HDO.out _).mono ?_; rintro e w' ⟨rfl, rfl⟩))
              go_wp2_with fail
              refine ⟨⟨n + 1, w8.heap.size, 8, ⟨(O + T) % 4294967296, va, vb, vc, (vd + O) % 4294967296, ve, vf, vg⟩, by omega, by go_num, rfl, (HN.out.trans HRN.out).symm, by rw [← HRN.out]; exact HOKN.out, rw_new _ _ _ _ (by simp [u64s, Sha.V8.list]), hb7.out.size, by simp, (hb7.out.alloc hb7.out.size _).drew⟩, by simp [intOf]; omega⟩
            · have HN64 := Lib.hid (show n = 64 by omega)
              have n64' : ¬ (n : Int) < 64 := by omega
              clear hlt hn
              have HWF := Lib.hid (show V = Sha.rounds (fun i => Kl.getD i 0) SL S 64 by rw [hV.out, HN64.out])
              have hgs3 : gs < w3.heap.size := by omega
              have hga3 : ga < w3.heap.size := by omega
              have hS9 := Lib.hid (hS3.out.below hb.out hgs3)
              have hfr9 := Lib.hid (fun j => (show wr.frozen? ⟨gs, j, none⟩ = false by rw [hb.out.frozen hgs3]; exact hfr3.out j))
              have hRA9 := Lib.hid (hRA3.out.below hb.out hga3)
              have hbw9 := Lib.hid (hbw3.out.trans (hb.out.mono hbw3.out.size))
              have hB9 : B1 ≤ wr.heap.size := by have := hb.out.size; omega
              have hgsv : gs ≠ gv := by omega
              clear hV hb hgv2
              obtain ⟨w9, hw9⟩ : ∃ w9, w9 = wr := ⟨_, rfl⟩
              rw [← hw9] at hRv hS9 hfr9 hRA9 hbw9 hB9 ⊢
              clear hw9
              go_wp2_with fail
              go_loopw [18] (fun i wr => ∃ j : Nat, j ≤ 8 ∧ i = .int .i64 j ∧ Hid (Rw wr gs (Sha.upTo S V j)) ∧ Hid (∀ j, wr.frozen? ⟨gs, j, none⟩ = false) ∧ Hid (Rw wr gv V.list) ∧ Hid (Rw wr ga A) ∧ Hid (Below w.heap.size w wr) ∧ B1 ≤ wr.heap.size) (fun i _ => 8 - (intOf i).toNat)
              case atStart => exact ⟨0, Nat.zero_le _, rfl, hS9, hfr9, hRv, hRA9, hbw9, hB9⟩
              case round =>
                clear hRv hS9 hfr9 hRA9 hbw9 hB9
                obtain ⟨j, hj, rfl, hS9, hfr9, hRv, hRA9, hbw9, hB9⟩ := hrel
                by_cases hlt : j < 8
                · obtain ⟨sj, hsj⟩ : ∃ x, x = S.list.getD j 0 := ⟨_, rfl⟩
                  obtain ⟨vj, hvj⟩ : ∃ x, x = V.list.getD j 0 := ⟨_, rfl⟩
                  have hs32 : sj < 4294967296 := by rw [hsj]; exact Sha.getD_lt _ ok.list _
                  have hv32 : vj < 4294967296 := by rw [hvj]; exact Sha.getD_lt _ okV.list _
                  have cs' : wr.cell? ⟨gs, j, none⟩ = some (.int .u64 sj) := by
                    rw [hsj, ← Sha.upTo_get S V j hlt]
                    exact hS9.out j (by rw [Sha.upTo_length _ _ _ hj]; exact hlt)
                  have cv' : wr.cell? ⟨gv, j, none⟩ = some (.int .u64 vj) := by rw [hvj]; exact hRv.out j hlt
                  have hfree := hfr9.out j
                  have HS := Lib.hid (show (Sha.upTo S V j).set j ((sj + vj) % 4294967296) = Sha.upTo S V (j + 1) by rw [hsj, hvj]; exact Sha.upTo_set S V j hlt)
                  have j8 : (j : Int) < 8 := by omega
                  have HSV := Lib.hid (show IntKind.u64.wrap ((sj : Int) + vj) = ((sj + vj : Nat) : Int) by rw [IntKind.wrap_u64]; omega)
                  clear hsj hvj
                  go_wp2_with fail
                  refine wp_region_any (by kernel_rfl) ?_
                  try (change wpAny _ _ _ _ _ _ _ (World.drew _))
                  refine wpAny_take (i := 0) (v := ?_) rfl (by kernel_rfl) (by kernel_rfl) (by kernel_rfl) (fun _ _ _ h => h) (Or.inl ⟨by rfl, ?_⟩) ?_
                  rotate_left
                  · intro w; go_simp; try with_reducible rfl
                  refine wpAny_take (i := 1) (v := ?_) rfl (by kernel_rfl) (by kernel_rfl) (by kernel_rfl) (fun _ _ _ h => h) (Or.inl ⟨by rfl, ?_⟩) ?_
                  rotate_left
                  · intro w; go_simp; try with_reducible rfl
                  refine wpAny_take (i := 2) (v := ?_) rfl (by kernel_rfl) (by kernel_rfl) (by kernel_rfl) (fun _ _ _ h => h) (Or.inl ⟨by rfl, ?_⟩) ?_
                  rotate_left
                  · intro w; go_simp; try with_reducible rfl
                  refine wpAny_take (i := 3) (v := ?_) rfl (by kernel_rfl) (by kernel_rfl) (by kernel_rfl) (fun _ _ _ h => h) (Or.inl ⟨by rfl, ?_⟩) ?_
                  rotate_left
                  · intro w; go_simp; try with_reducible rfl
                  refine wpAny_take (i := 4) (v := ?_) rfl (by kernel_rfl) (by kernel_rfl) (by kernel_rfl) (fun _ _ _ h => h) (Or.inl ⟨by rfl, ?_⟩) ?_
                  rotate_left
                  · intro w; go_simp; try with_reducible rfl
                  refine wpAny_take (i := 6) (v := ?_) rfl (by kernel_rfl) (by kernel_rfl) (by kernel_rfl) (fun _ _ _ h => h) (Or.inl ⟨by rfl, ?_⟩) ?_
                  rotate_left
                  · intro w; go_simp; try with_reducible rfl
                  refine wpAny_take (i := 7) (v := ?_) rfl (by kernel_rfl) (by kernel_rfl) (by kernel_rfl) (fun _ _ _ h => h) (Or.inl ⟨by rfl, ?_⟩) ?_
                  rotate_left
                  · intro w; go_simp; try with_reducible rfl
                  refine wpAny_take (i := 8) (v := ?_) rfl (by kernel_rfl) (by kernel_rfl) (by kernel_rfl) (fun _ _ _ h => h) (Or.inl ⟨by rfl, ?_⟩) ?_
                  rotate_left
                  · intro w; go_simp; try with_reducible rfl
                  refine wpAny_ready (rs := [5, 9]) (by kernel_rfl) (by simp) ?_
                  refine AllReady.cons rfl (fun K hK => ?_) (AllReady.cons rfl (fun K hK => ?_) AllReady.nil)
                  · go_simp
                    refine hK _ _ ?_; clear hK K
                    refine wpAny_ready (rs := [9]) (by kernel_rfl) (by simp) ?_
                    refine AllReady.cons rfl (fun K hK => ?_) AllReady.nil
                    go_simp
                    refine hK _ _ ?_; clear hK K
                    refine wpAny_take (i := 10) (v := ?_) rfl (by kernel_rfl) (by kernel_rfl) (by kernel_rfl) (fun _ _ _ h => h) (Or.inl ⟨by rfl, ?_⟩) ?_
                    rotate_left
                    · intro w; go_simp; try with_reducible rfl
                    refine wpAny_ready (rs := [11]) (by kernel_rfl) (by simp) ?_
                    refine AllReady.cons rfl (fun K hK => ?_) AllReady.nil
                    go_simp
                    refine (low_any _ _ HSV.out _).mono ?_; rintro e w' ⟨rfl, rfl⟩
                    refine hK _ _ ?_; clear hK K
                    refine wpAny_take (i := 12) (v := ?_) rfl (by kernel_rfl) (by kernel_rfl) (by kernel_rfl) (fun _ _ _ h => h) (Or.inl ⟨by rfl, ?_⟩) ?_
                    rotate_left
                    · intro w; go_simp; try with_reducible rfl
                    refine wpAny_ready (rs := [13]) (by kernel_rfl) (by simp) ?_
                    refine AllReady.cons rfl (fun K hK => ?_) AllReady.nil
                    go_simp
                    refine hK _ _ ?_; clear hK K
                    refine wpAny_done (by kernel_rfl) ?_ _
                    go_wp2
                    go_roundw
                    case rel => exact ⟨j + 1, by omega, by go_num, by have h := hS9.out.set j ((sj + vj) % 4294967296) (by rw [Sha.upTo_length _ _ _ hj]; exact hlt); rw [HS.out] at h; exact h, fun i => by have h := hfr9.out i; simpa using h, hRv.out.other _ _ (Ne.symm hgsv), hRA9.out.other _ _ (Ne.symm hne), by refine (hbw9.out.setCell ?_ _).drew; exact HGS.out, by simpa using hB9⟩
                    case measure => simp [intOf]; omega
                  · go_simp
                    refine hK _ _ ?_; clear hK K
                    refine wpAny_ready (rs := [5]) (by kernel_rfl) (by simp) ?_
                    refine AllReady.cons rfl (fun K hK => ?_) AllReady.nil
                    go_simp
                    refine hK _ _ ?_; clear hK K
                    refine wpAny_take (i := 10) (v := ?_) rfl (by kernel_rfl) (by kernel_rfl) (by kernel_rfl) (fun _ _ _ h => h) (Or.inl ⟨by rfl, ?_⟩) ?_
                    rotate_left
                    · intro w; go_simp; try with_reducible rfl
                    refine wpAny_ready (rs := [11]) (by kernel_rfl) (by simp) ?_
                    refine AllReady.cons rfl (fun K hK => ?_) AllReady.nil
                    go_simp
                    refine (low_any _ _ HSV.out _).mono ?_; rintro e w' ⟨rfl, rfl⟩
                    refine hK _ _ ?_; clear hK K
                    refine wpAny_take (i := 12) (v := ?_) rfl (by kernel_rfl) (by kernel_rfl) (by kernel_rfl) (fun _ _ _ h => h) (Or.inl ⟨by rfl, ?_⟩) ?_
                    rotate_left
                    · intro w; go_simp; try with_reducible rfl
                    refine wpAny_ready (rs := [13]) (by kernel_rfl) (by simp) ?_
                    refine AllReady.cons rfl (fun K hK => ?_) AllReady.nil
                    go_simp
                    refine hK _ _ ?_; clear hK K
                    refine wpAny_done (by kernel_rfl) ?_ _
                    go_wp2
                    go_roundw
                    case rel => exact ⟨j + 1, by omega, by go_num, by have h := hS9.out.set j ((sj + vj) % 4294967296) (by rw [Sha.upTo_length _ _ _ hj]; exact hlt); rw [HS.out] at h; exact h, fun i => by have h := hfr9.out i; simpa using h, hRv.out.other _ _ (Ne.symm hgsv), hRA9.out.other _ _ (Ne.symm hne), by refine (hbw9.out.setCell ?_ _).drew; exact HGS.out, by simpa using hB9⟩
                    case measure => simp [intOf]; omega
                · have hj8 := Lib.hid (show j = 8 by omega)
                  have j8' : ¬ (j : Int) < 8 := by omega
                  clear hlt hj
                  go_wp2_with fail
                  have HU : Sha.upTo S V 8 = (Sha.addV S V).list := rfl
                  have HM : Sha.addV S V = Sha.state (fun i => Kl.getD i 0) h (Sha.message s.data.toList) (b + 1) := by
                    rw [Sha.state_succ, ← hSt.out, ← hSL2.out, Sha.mix_eq, ← HWF.out]
                  refine ⟨⟨b + 1, p + 16, Sha.addV S V, HBN.out, (by have := hp.out; show p + 16 = 16 * (b + 1); omega), by go_num, HM, Sha.addV_ok _ _, by rw [← HU, ← hj8.out]; exact hS9.out, hfr9, hRA9, hbw9, hB9⟩, by simp [intOf]; omega⟩
    · have hbn2 := Lib.hid (show b = nb by omega)
      have hpn := Lib.hid (show p = na by have := hp.out; have := HNA.out; have := hbn2.out; omega)
      have hpn2 : ¬ (p : Int) < na := by have := hpn.out; omega
      have HFIN := Lib.hid (show Sha.by_ (fun i => Kl.getD i 0) h s.data.toList = Sha.spellTo S.list 8 by rw [Sha.by_, hSt.out, hbn2.out, HNB.out])
      clear hlt hbn
      obtain ⟨w10, hw10⟩ : ∃ w10, w10 = wr := ⟨_, rfl⟩
      rw [← hw10] at hS hfr hRA hbw hB ⊢
      clear hw10
      have hgs10 : gs < w10.heap.size := by omega
      clear hfr hRA hB
      go_wp2_with fail
      go_loopw [19, 20, 21] (fun o i _ wr => ∃ k : Nat, k ≤ 8 ∧ i = .int .i64 k ∧ o = .string ⟨(Sha.spellTo S.list k).toArray⟩ ∧ Hid (Rw wr gs S.list) ∧ Hid (Below w.heap.size w wr) ∧ gs < wr.heap.size) (fun _ i _ _ => 8 - (intOf i).toNat)
      case atStart => exact ⟨0, Nat.zero_le _, rfl, rfl, hS, hbw, hgs10⟩
      case round =>
        clear hS hbw hgs10
        obtain ⟨k, hk, rfl, rfl, hS, hbw, hgs10⟩ := hrel
        by_cases hlt : k < 8
        · obtain ⟨x, hx⟩ : ∃ x, x = S.list.getD k 0 := ⟨_, rfl⟩
          have hx32 : x < 4294967296 := by rw [hx]; exact Sha.getD_lt _ ok.list _
          have HX := Lib.hid (show Sha.spellTo S.list (k + 1) = Sha.spellTo S.list k ++ (Sha.bytes4 x).take 4 by rw [hx]; rfl)
          have HCX := Lib.hid (fun (W : World) (h : Rw W gs S.list) => (show W.cell? ⟨gs, k, none⟩ = some (.int .u64 x) by rw [hx]; exact h k hlt))
          have k8 : (k : Int) < 8 := by omega
          clear hx
          obtain ⟨w11, hw11⟩ : ∃ w11, w11 = wr := ⟨_, rfl⟩
          rw [← hw11] at hS hbw hgs10 ⊢
          clear hw11
          go_wp2_with fail
          go_loopw [19, 21] (fun o i wr => ∃ t : Nat, t ≤ 4 ∧ i = .int .i64 (24 - 8 * (t : Int)) ∧ o = .string ⟨(Sha.spellTo S.list k ++ (Sha.bytes4 x).take t).toArray⟩ ∧ Hid (Rw wr gs S.list) ∧ Hid (Below w.heap.size w wr) ∧ gs < wr.heap.size) (fun _ i _ => (intOf i + 8).toNat)
          case atStart => exact ⟨0, Nat.zero_le _, rfl, by rw [List.take_zero, List.append_nil], hS, hbw, hgs10⟩
          case round =>
            clear hS hbw hgs10
            obtain ⟨t, ht, rfl, rfl, hS, hbw, hgs10⟩ := hrel
            by_cases hlt4 : t < 4
            · obtain ⟨q, hq⟩ : ∃ q : Nat, q = 24 - 8 * t := ⟨_, rfl⟩
              have hq' : (24 - 8 * (t : Int)) = (q : Int) := by omega
              have HT := Lib.hid (Sha.bytes4_take x t hlt4)
              rw [← hq] at HT
              have hl : (Sha.spellTo S.list k ++ (Sha.bytes4 x).take t).length ≤ 100 := by
                rw [List.length_append, Sha.spellTo_length, List.length_take]
                omega
              obtain ⟨L, hL⟩ : ∃ L, L = Sha.spellTo S.list k ++ (Sha.bytes4 x).take t := ⟨_, rfl⟩
              have HL := Lib.hid (show Sha.spellTo S.list k ++ (Sha.bytes4 x).take (t + 1) = L ++ [UInt8.ofNat (x / 2 ^ q)] by rw [HT.out, hL, List.append_assoc])
              rw [← hL] at hl ⊢
              rw [hq']
              have HQ := Lib.hid hq
              have ht3 : t ≤ 3 := by omega
              have hqle : q ≤ 24 := by omega
              clear hq hq' hL hlt4
              have hcell := HCX.out wr hS.out
              have hcv := fun w' => run_str_one w' (UInt8.ofNat (x / 2 ^ q)) _ (Sha.shr8 x q)
              go_wp2
              go_roundw
              case rel => exact ⟨t + 1, by omega, by have := HQ.out; go_num, by rw [HL.out, Hx.str_snoc], hS.out.alloc _ hgs10, hbw.out.alloc hbw.out.size _, by simp; omega⟩
              case measure => have := HQ.out; simp [intOf]; omega
            · have ht4 := Lib.hid (show t = 4 by omega)
              have hnp : (24 - 8 * (t : Int)) = -8 := by omega
              rw [hnp]
              clear hnp hlt4 ht
              go_wp2_with fail
              refine ⟨⟨k + 1, by omega, by go_num, by rw [HX.out, ht4.out], hS, hbw, hgs10⟩, by simp [intOf]; omega⟩
        · have hk8 := Lib.hid (show k = 8 by omega)
          go_wp2
          go_ret
          exact ⟨ret_str (by rw [HFIN.out, hk8.out]), hbw.out⟩
end Go.Proofs.YtlllcdjcihnkdaaDoor
