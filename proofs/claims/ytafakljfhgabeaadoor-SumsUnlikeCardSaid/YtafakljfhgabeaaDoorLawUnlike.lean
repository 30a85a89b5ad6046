/- Walk of the statement on unlike check sums. -/
import Derived.Test.YtafakljfhgabeaaDoorLawAdds
import Derived.Test.YtafakljfhgabeaaDoorCrcUnlike
import Derived.BigRegion
namespace Go.Proofs.YtafakljfhgabeaaDoor
open Go.RowKit

/-- The four bytes as a value. -/
def by4 (b0 b1 b2 b3 : UInt8) : Value := .agg #[.int .u8 b0.toNat, .int .u8 b1.toNat, .int .u8 b2.toNat, .int .u8 b3.toNat]

theorem unlike_out (s : ByteArray) (x : Int) (b0 b1 b2 b3 : UInt8) (w : World) (hT : Tabs w) (h : (5000 : Int) < s.size ∨ x < 0 ∨ (s.size : Int) ≤ x) :
    Calls Tryd.prog 6 #[.string s, .int .i64 x, by4 b0 b1 b2 b3] w fun e w' => e = .returned (.bool true) ∧ Below w.heap.size w w' := by
  have HT := Lib.hid hT
  clear hT
  unfold by4
  have hA := fun (o : Obj) => ((Below.refl w.heap.size w).alloc (Nat.le_refl _) o)
  have HA := Lib.hid hA
  clear hA
  rcases h with h | h | h
  · go_enter Tryd.func6, Tryd.ntmps6
    go_wp2_with fail
    refine (adds_any _ (HT.out.below (HA.out _) (Nat.le_refl _))).mono ?_
    rintro e w1 ⟨rfl, hb1⟩
    have hb := (HA.out _).trans (hb1.mono (by simp))
    clear hb1
    go_wp2
    go_ret
    exact ⟨rfl, hb⟩
  · by_cases h0 : (5000 : Int) < s.size
    all_goals
      go_enter Tryd.func6, Tryd.ntmps6
      go_wp2_with fail
      refine (adds_any _ (HT.out.below (HA.out _) (Nat.le_refl _))).mono ?_
      rintro e w1 ⟨rfl, hb1⟩
      have hb := (HA.out _).trans (hb1.mono (by simp))
      clear hb1
      go_wp2
      go_ret
      exact ⟨rfl, hb⟩
  · by_cases h0 : (5000 : Int) < s.size
    all_goals
      have h1 : (0 : Int) ≤ x := by omega
      go_enter Tryd.func6, Tryd.ntmps6
      go_wp2_with fail
      refine (adds_any _ (HT.out.below (HA.out _) (Nat.le_refl _))).mono ?_
      rintro e w1 ⟨rfl, hb1⟩
      have hb := (HA.out _).trans (hb1.mono (by simp))
      clear hb1
      go_wp2
      go_ret
      exact ⟨rfl, hb⟩

theorem frozen_marked {w : World} {b j k l : Nat} {C : Array Value} {t : TypeId} (h : w.heap[b]? = some (.cells C t (k, l))) (hj : j < k) : w.frozen? ⟨b, j, none⟩ = false := by
  simp [World.frozen?, h]
  omega
theorem heap_marked {w : World} {b : Nat} {C : Array Value} {t : TypeId} {fr : Nat × Nat} (h : w.heap[b]? = some (.cells C t fr)) (j : Nat) (v : Value) : (w.setCell ⟨b, j, none⟩ v).drew.heap[b]? = some (.cells (C.setIfInBounds j v) t fr) := by
  show (w.setCell ⟨b, j, none⟩ v).heap[b]? = _
  simp [World.setCell, Array.getElem?_modify, h]
/-- The bytes of the piece behind all rounds. -/
def pieceOf (l by_ : List UInt8) (n : Nat) : List UInt8 := (List.range n).map fun j => l.getD j 0 ^^^ by_.getD j 0
theorem pieceOf_length (l by_ : List UInt8) (n : Nat) : (pieceOf l by_ n).length = n := by simp [pieceOf]
/-- What []byte(P) lays. -/
theorem conv_any (w : World) (P : ByteArray) : ∃ (C : Array Value) (cap : Nat), (convert 9 31 (.string P)).run Tryd.prog w = .ok (.slice (some ⟨w.heap.size, 0, none⟩) P.size cap) (w.drew.alloc (.cells C 5 (C.size, C.size + 1))) ∧
    (∀ j, j < P.size → C[j]? = some (.int .u8 ((P.data.toList.getD j 0).toNat : Int))) ∧ P.size ≤ C.size := by
  refine ⟨_, _, run_bytes_of_string (P := Tryd.prog) w 9 31 5 P Tryd.underlying9 Tryd.underlying31 Tryd.underlying5, fun j hj => ?_, ?_⟩
  · have hl : j < P.data.toList.length := by rw [Array.length_toList]; exact hj
    have hd : j < P.data.size := hj
    rw [bytesRow, Array.getElem?_append_left (by simpa using hj), Array.getElem?_map, List.getD_eq_getElem?_getD, List.getElem?_eq_getElem hl, Array.getElem?_eq_getElem hd]
    simp
  · have hd : P.data.size = P.size := rfl
    simp [bytesRow, hd]

/-- The bytes of the piece behind i rounds. -/
def turnAt (l by_ : List UInt8) (i j : Nat) : UInt8 := if j < i then l.getD j 0 ^^^ by_.getD j 0 else l.getD j 0

theorem turn_next {l by_ : List UInt8} {C : Array Value} {n k : Nat} {u y : UInt8} (h : ∀ j, j < n → C[j]? = some (.int .u8 ((turnAt l by_ k j).toNat : Int))) (hu : u = l.getD k 0) (hy : y = by_.getD k 0) (hk : k < C.size) :
    ∀ j, j < n → (C.setIfInBounds k (.int .u8 ((u.toNat ^^^ y.toNat : Nat) : Int)))[j]? = some (.int .u8 ((turnAt l by_ (k + 1) j).toNat : Int)) := by
  intro j hj
  by_cases e : k = j
  · subst e
    rw [Array.getElem?_setIfInBounds_self_of_lt hk]
    have e2 : turnAt l by_ (k + 1) k = u ^^^ y := by rw [hu, hy]; simp [turnAt]
    rw [e2, UInt8.toNat_xor]
  · rw [Array.getElem?_setIfInBounds_ne e, h j hj]
    have e2 : turnAt l by_ (k + 1) j = turnAt l by_ k j := by
      unfold turnAt
      by_cases h1 : j < k
      · rw [if_pos (by omega), if_pos h1]
      · rw [if_neg (by omega), if_neg h1]
    rw [e2]
theorem pieceOf_get (l by_ : List UInt8) (n j : Nat) (hj : j < n) (U : List UInt8) (hU : U = pieceOf l by_ n) (hj' : j < U.length) : U[j] = turnAt l by_ n j := by
  subst hU
  simp [pieceOf, turnAt, hj]
theorem unlike_split (s : ByteArray) (x m : Nat) (O P : ByteArray) (U : List UInt8) (hxm : x ≤ m) (_hm : m ≤ s.size) (hP : P = s.extract x m) (hU : U.length = P.size) (h4 : P.size ≤ 4) (hO : O = s.extract 0 x ++ (⟨U.toArray⟩ : ByteArray) ++ s.extract m s.size) :
    O.size = s.size ∧ (¬ O = s → ¬ Crc.crc O.data.toList = Crc.crc s.data.toList) := by
  have hsl : s.data.toList.length = s.size := Array.length_toList
  have hPl : P.data.toList = (s.data.toList.drop x).take (m - x) := by
    rw [hP, ByteArray.data_extract, Array.toList_extract]
  have hp : (s.extract 0 x).data.toList = s.data.toList.take x := by
    rw [ByteArray.data_extract, Array.toList_extract]
    rfl
  have hq := Sha.end_drop s m
  have hs : s.data.toList = s.data.toList.take x ++ P.data.toList ++ s.data.toList.drop m := by
    rw [hPl]
    conv => lhs; rw [← List.take_append_drop x s.data.toList, ← List.take_append_drop (m - x) (s.data.toList.drop x)]
    rw [List.drop_drop, ← List.append_assoc, show x + (m - x) = m by omega]
  have hOl : O.data.toList = s.data.toList.take x ++ U ++ s.data.toList.drop m := by
    rw [hO, ByteArray.data_append, ByteArray.data_append, Array.toList_append, Array.toList_append, hp, hq]
  have hPs : P.data.toList.length = P.size := Array.length_toList
  have hOs : O.data.toList.length = O.size := Array.length_toList
  refine ⟨?_, fun hne hcr => hne ?_⟩
  · have h1 := congrArg List.length hs
    have h2 := congrArg List.length hOl
    simp only [List.length_append] at h1 h2
    omega
  · have e := Crc.crc_unlike (s.data.toList.take x) U P.data.toList (s.data.toList.drop m) (by omega) (by omega) (by rw [← hOl, ← hs]; exact hcr)
    apply ByteArray.ext
    apply Array.ext'
    rw [hOl, e]
    exact hs.symm
theorem unlike_in (s : ByteArray) (x : Nat) (b0 b1 b2 b3 : UInt8) (w : World) (hT : Tabs w) (h : s.size ≤ 5000) (hx : x < s.size) :
    Calls Tryd.prog 6 #[.string s, .int .i64 x, by4 b0 b1 b2 b3] w fun e w' => e = .returned (.bool true) ∧ Below w.heap.size w w' := by
  have HT := Lib.hid hT
  clear hT
  unfold by4
  have hA := fun (o : Obj) => ((Below.refl w.heap.size w).alloc (Nat.le_refl _) o)
  have HA := Lib.hid hA
  clear hA
  have hblk := Blk.new w 30 #[.int .u8 b0.toNat, .int .u8 b1.toNat, .int .u8 b2.toNat, .int .u8 b3.toNat]
  have HB := Lib.hid hblk
  clear hblk
  by_cases hc : x + 4 ≤ s.size
  all_goals
    go_enter Tryd.func6, Tryd.ntmps6
    go_wp2_with fail
    refine (adds_any _ (HT.out.below (HA.out _) (Nat.le_refl _))).mono ?_
    rintro e w1 ⟨rfl, hb1⟩
    have hb := (HA.out _).trans (hb1.mono (by simp))
    have hblk1 := HB.out.below hb1 (by simp)
    have hz1 : w.heap.size < w1.heap.size := by have := hb1.size; simp at this; omega
    clear hb1
    go_wp2_with fail
  · obtain ⟨m, hm⟩ : ∃ m, m = x + 4 := ⟨_, rfl⟩
    have hm' : (x : Int) + 4 = (m : Int) := by omega
    rw [hm', ← hm]
    have hmle : m ≤ s.size := by omega
    have hxm : x < m := by omega
    have hm4 : m ≤ x + 4 := by omega
    clear hm hm'
    obtain ⟨P, hP⟩ : ∃ P, P = s.extract x m := ⟨_, rfl⟩
    rw [← hP]
    have hPs : P.size = m - x := by rw [hP, ByteArray.size_extract]; omega
    have hn4 : P.size ≤ 4 := by omega
    obtain ⟨C, cap, hcv, hC, hCs⟩ := conv_any w1 P
    have HP := Lib.hid hP
    have HPs := Lib.hid hPs
    have HC := Lib.hid hC
    clear hP hPs hC
    rw [hcv]
    simp only [Result.andThen]
    rw [Oper.upon_value]
    clear hcv
    go_wp2_with fail
    go_loopw [9, 38] (fun _ i wr => ∃ (k : Nat) (C' : Array Value), k ≤ P.size ∧ i = .int .i64 k ∧ wr.heap[w1.heap.size]? = some (.cells C' 5 (C.size, C.size + 1)) ∧ C'.size = C.size ∧
        Hid (∀ j, j < P.size → C'[j]? = some (.int .u8 ((turnAt P.data.toList [b0, b1, b2, b3] k j).toNat : Int))) ∧
        Blk wr w.heap.size 30 [.int .u8 b0.toNat, .int .u8 b1.toNat, .int .u8 b2.toNat, .int .u8 b3.toNat] ∧ Below w.heap.size w wr ∧ w1.heap.size < wr.heap.size) (fun _ i _ => P.size - (intOf i).toNat)
    case atStart => exact ⟨0, C, Nat.zero_le _, rfl, heap_alloc_new w1.drew _, rfl, HC.out, hblk1.alloc _, hb.drew.alloc (Nat.le_of_lt hz1) _, by simp⟩
    case round =>
      obtain ⟨k, C', hk, rfl, hblk, hsz, hT', hby, hb, hz⟩ := hrel
      by_cases hlt : k < P.size
      · have hk4 : k < 4 := by omega
        have hk4' : (k : Int) < 4 := by omega
        have hkc : k < C.size := by omega
        have cp : wr.cell? ⟨w1.heap.size, k, none⟩ = some (.int .u8 ((P.data.toList.getD k 0).toNat : Int)) := by
          rw [cell_of_row wr w1.heap.size k _ _ _ hblk, hT'.out k hlt]
          simp [turnAt]
        have cf : wr.frozen? ⟨w1.heap.size, k, none⟩ = false := frozen_marked hblk hkc
        have cb : wr.cell? ⟨w.heap.size, k, none⟩ = some (.int .u8 (([b0, b1, b2, b3].getD k 0).toNat : Int)) := hby.cell (by
          match k, hk4 with
          | 0, _ => rfl
          | 1, _ => rfl
          | 2, _ => rfl
          | 3, _ => rfl)
        obtain ⟨u, hu⟩ : ∃ u : UInt8, u = P.data.toList.getD k 0 := ⟨_, rfl⟩
        obtain ⟨y, hy⟩ : ∃ y : UInt8, y = [b0, b1, b2, b3].getD k 0 := ⟨_, rfl⟩
        rw [← hu] at cp
        rw [← hy] at cb
        have hx : bits BinOp.xor IntKind.u8 (u.toNat : Int) (y.toNat : Int) = ((u ^^^ y).toNat : Int) := by
          rw [u8_xor_nat _ _ u.toNat_lt y.toNat_lt, UInt8.toNat_xor]
        have HU := Lib.hid hu
        have HY := Lib.hid hy
        have hne : ¬ w1.heap.size = w.heap.size := by omega
        clear hu hy
        go_wp2
        go_region
        all_goals
          go_wp2
          refine ⟨⟨k + 1, C'.setIfInBounds k (.int .u8 ((u.toNat ^^^ y.toNat : Nat) : Int)), by omega, by go_num, heap_marked hblk k _, by rw [Array.size_setIfInBounds]; exact hsz, turn_next hT'.out HU.out HY.out (by omega), hby.setOther _ _ (by simp; omega), (hb.setCell (by simp; omega) _).drew, by simp [World.setCell]; exact hz⟩, by simp [intOf]; omega⟩
      · have hkP := Lib.hid (show k = P.size by omega)
        obtain ⟨U, hU⟩ : ∃ U, U = pieceOf P.data.toList [b0, b1, b2, b3] P.size := ⟨_, rfl⟩
        have hUl : U.length = P.size := by rw [hU, pieceOf_length]
        have hst : ∀ n, (convert 31 9 (.slice (some ⟨w1.heap.size, 0, none⟩) P.size cap)).run Tryd.prog (wr.drewN n) = .ok (.string ⟨U.toArray⟩) (wr.drewN n) := fun n => by
          rw [← hUl]
          refine run_convert_bytes_back (wr.drewN n) _ _ 5 _ cap U Tryd.underlying31 Tryd.underlying5 Tryd.underlying9 fun j hj => ?_
          have hadd : (⟨w1.heap.size, 0, none⟩ : Addr).add j = ⟨w1.heap.size, j, none⟩ := by unfold Addr.add; split <;> simp_all
          rw [hadd, World.cell?_drewN, cell_of_row wr w1.heap.size j _ _ _ hblk, hT'.out j (by omega), hkP.out]
          congr 4
          exact (pieceOf_get _ _ _ j (by omega) U hU hj).symm
        obtain ⟨O, hO⟩ : ∃ O, O = s.extract 0 x ++ (⟨U.toArray⟩ : ByteArray) ++ s.extract m s.size := ⟨_, rfl⟩
        have hsplit := unlike_split s x m O P U (by omega) hmle HP.out hUl hn4 hO
        have hOs : O.size ≤ 5000 := by omega
        have HO := Lib.hid hO
        have hsz1 : (s.extract 0 x).size ≤ 5000 := by rw [ByteArray.size_extract]; omega
        have hsz2 : (s.extract m s.size).size ≤ 5000 := by rw [ByteArray.size_extract]; omega
        have hUl' : U.length ≤ 4 := by omega
        have HUl := Lib.hid hUl
        obtain ⟨hOsz, hun⟩ := hsplit
        have HUN := Lib.hid hun
        clear hO hU hUl hun hOsz
        have i0 : (x : Int) ≤ s.size := by omega
        have i1 : (m : Int) ≤ s.size := by omega
        go_wp2_with fail
        go_quiet (fail)
        rw [← HO.out]
        by_cases he : O = s
        · have he' : (O.toList == s.toList) = true := by rw [he]; simp
          clear hst
          go_wp2
          go_ret
          exact ⟨rfl, below_drewN hb _⟩
        · have he' : (O.toList == s.toList) = false := by
            rw [beq_eq_false_iff_ne]
            intro h2
            apply he
            rw [ByteArray.toList_eq, ByteArray.toList_eq] at h2
            exact ByteArray.ext (Array.ext' h2)
          have hc := HUN.out he
          have hc' : (((Crc.crc O.data.toList : Nat) : Int) != ((Crc.crc s.data.toList : Nat) : Int)) = true := by
            rw [bne_iff_ne]
            omega
          have HTW := Lib.hid (HT.out.below (below_drewN hb nq) (Nat.le_refl _))
          clear hst hc he
          go_wp2_with fail
          refine (check_any O _ HTW.out (by omega)).mono ?_
          rintro e w3 ⟨rfl, rfl⟩
          go_wp2_with fail
          refine (check_any s _ HTW.out (by omega)).mono ?_
          rintro e w3 ⟨rfl, rfl⟩
          go_wp2
          go_ret
          exact ⟨rfl, below_drewN hb _⟩
  · obtain ⟨m, hm⟩ : ∃ m, m = s.size := ⟨_, rfl⟩
    rw [← hm]
    have hmle : m ≤ s.size := by omega
    have hxm : x < m := by omega
    have hm4 : m ≤ x + 4 := by omega
    have HM := Lib.hid hm
    clear hm
    obtain ⟨P, hP⟩ : ∃ P, P = s.extract x m := ⟨_, rfl⟩
    rw [← hP]
    have hPs : P.size = m - x := by rw [hP, ByteArray.size_extract]; omega
    have hn4 : P.size ≤ 4 := by omega
    obtain ⟨C, cap, hcv, hC, hCs⟩ := conv_any w1 P
    have HP := Lib.hid hP
    have HPs := Lib.hid hPs
    have HC := Lib.hid hC
    clear hP hPs hC
    rw [hcv]
    simp only [Result.andThen]
    rw [Oper.upon_value]
    clear hcv
    go_wp2_with fail
    go_loopw [9, 38] (fun _ i wr => ∃ (k : Nat) (C' : Array Value), k ≤ P.size ∧ i = .int .i64 k ∧ wr.heap[w1.heap.size]? = some (.cells C' 5 (C.size, C.size + 1)) ∧ C'.size = C.size ∧
        Hid (∀ j, j < P.size → C'[j]? = some (.int .u8 ((turnAt P.data.toList [b0, b1, b2, b3] k j).toNat : Int))) ∧
        Blk wr w.heap.size 30 [.int .u8 b0.toNat, .int .u8 b1.toNat, .int .u8 b2.toNat, .int .u8 b3.toNat] ∧ Below w.heap.size w wr ∧ w1.heap.size < wr.heap.size) (fun _ i _ => P.size - (intOf i).toNat)
    case atStart => exact ⟨0, C, Nat.zero_le _, rfl, heap_alloc_new w1.drew _, rfl, HC.out, hblk1.alloc _, hb.drew.alloc (Nat.le_of_lt hz1) _, by simp⟩
    case round =>
      obtain ⟨k, C', hk, rfl, hblk, hsz, hT', hby, hb, hz⟩ := hrel
      by_cases hlt : k < P.size
      · have hk4 : k < 4 := by omega
        have hk4' : (k : Int) < 4 := by omega
        have hkc : k < C.size := by omega
        have cp : wr.cell? ⟨w1.heap.size, k, none⟩ = some (.int .u8 ((P.data.toList.getD k 0).toNat : Int)) := by
          rw [cell_of_row wr w1.heap.size k _ _ _ hblk, hT'.out k hlt]
          simp [turnAt]
        have cf : wr.frozen? ⟨w1.heap.size, k, none⟩ = false := frozen_marked hblk hkc
        have cb : wr.cell? ⟨w.heap.size, k, none⟩ = some (.int .u8 (([b0, b1, b2, b3].getD k 0).toNat : Int)) := hby.cell (by
          match k, hk4 with
          | 0, _ => rfl
          | 1, _ => rfl
          | 2, _ => rfl
          | 3, _ => rfl)
        obtain ⟨u, hu⟩ : ∃ u : UInt8, u = P.data.toList.getD k 0 := ⟨_, rfl⟩
        obtain ⟨y, hy⟩ : ∃ y : UInt8, y = [b0, b1, b2, b3].getD k 0 := ⟨_, rfl⟩
        rw [← hu] at cp
        rw [← hy] at cb
        have hx : bits BinOp.xor IntKind.u8 (u.toNat : Int) (y.toNat : Int) = ((u ^^^ y).toNat : Int) := by
          rw [u8_xor_nat _ _ u.toNat_lt y.toNat_lt, UInt8.toNat_xor]
        have HU := Lib.hid hu
        have HY := Lib.hid hy
        have hne : ¬ w1.heap.size = w.heap.size := by omega
        clear hu hy
        go_wp2
        go_region
        all_goals
          go_wp2
          refine ⟨⟨k + 1, C'.setIfInBounds k (.int .u8 ((u.toNat ^^^ y.toNat : Nat) : Int)), by omega, by go_num, heap_marked hblk k _, by rw [Array.size_setIfInBounds]; exact hsz, turn_next hT'.out HU.out HY.out (by omega), hby.setOther _ _ (by simp; omega), (hb.setCell (by simp; omega) _).drew, by simp [World.setCell]; exact hz⟩, by simp [intOf]; omega⟩
      · have hkP := Lib.hid (show k = P.size by omega)
        obtain ⟨U, hU⟩ : ∃ U, U = pieceOf P.data.toList [b0, b1, b2, b3] P.size := ⟨_, rfl⟩
        have hUl : U.length = P.size := by rw [hU, pieceOf_length]
        have hst : ∀ n, (convert 31 9 (.slice (some ⟨w1.heap.size, 0, none⟩) P.size cap)).run Tryd.prog (wr.drewN n) = .ok (.string ⟨U.toArray⟩) (wr.drewN n) := fun n => by
          rw [← hUl]
          refine run_convert_bytes_back (wr.drewN n) _ _ 5 _ cap U Tryd.underlying31 Tryd.underlying5 Tryd.underlying9 fun j hj => ?_
          have hadd : (⟨w1.heap.size, 0, none⟩ : Addr).add j = ⟨w1.heap.size, j, none⟩ := by unfold Addr.add; split <;> simp_all
          rw [hadd, World.cell?_drewN, cell_of_row wr w1.heap.size j _ _ _ hblk, hT'.out j (by omega), hkP.out]
          congr 4
          exact (pieceOf_get _ _ _ j (by omega) U hU hj).symm
        obtain ⟨O, hO⟩ : ∃ O, O = s.extract 0 x ++ (⟨U.toArray⟩ : ByteArray) ++ s.extract m s.size := ⟨_, rfl⟩
        have hsplit := unlike_split s x m O P U (by omega) hmle HP.out hUl hn4 hO
        have hOs : O.size ≤ 5000 := by omega
        have HO := Lib.hid hO
        have hsz1 : (s.extract 0 x).size ≤ 5000 := by rw [ByteArray.size_extract]; omega
        have hsz2 : (s.extract m s.size).size ≤ 5000 := by rw [ByteArray.size_extract]; omega
        have hUl' : U.length ≤ 4 := by omega
        have HUl := Lib.hid hUl
        obtain ⟨hOsz, hun⟩ := hsplit
        have HUN := Lib.hid hun
        clear hO hU hUl hun hOsz
        have i0 : (x : Int) ≤ s.size := by omega
        have i1 : (m : Int) ≤ s.size := by omega
        go_wp2_with fail
        go_quiet (fail)
        rw [← HO.out]
        by_cases he : O = s
        · have he' : (O.toList == s.toList) = true := by rw [he]; simp
          clear hst
          go_wp2
          go_ret
          exact ⟨rfl, below_drewN hb _⟩
        · have he' : (O.toList == s.toList) = false := by
            rw [beq_eq_false_iff_ne]
            intro h2
            apply he
            rw [ByteArray.toList_eq, ByteArray.toList_eq] at h2
            exact ByteArray.ext (Array.ext' h2)
          have hc := HUN.out he
          have hc' : (((Crc.crc O.data.toList : Nat) : Int) != ((Crc.crc s.data.toList : Nat) : Int)) = true := by
            rw [bne_iff_ne]
            omega
          have HTW := Lib.hid (HT.out.below (below_drewN hb nq) (Nat.le_refl _))
          clear hst hc he
          go_wp2_with fail
          refine (check_any O _ HTW.out (by omega)).mono ?_
          rintro e w3 ⟨rfl, rfl⟩
          go_wp2_with fail
          refine (check_any s _ HTW.out (by omega)).mono ?_
          rintro e w3 ⟨rfl, rfl⟩
          go_wp2
          go_ret
          exact ⟨rfl, below_drewN hb _⟩
end Go.Proofs.YtafakljfhgabeaaDoor
