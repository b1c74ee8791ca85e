/-
  The order of texts by their elements: slices.Compare over lists of texts, paths.Compare and the document's own.
-/
import Derived.Test.YtmdlmjcejeejfaaGreatDoorM3
namespace Go.Proofs.YtmdlmjcejeejfaaGreatDoor
open Go.RowKit Go.Shelf

theorem cmp1_1 {a b : ByteArray} (h : Op.bytesLess a.toList b.toList = true) : cmp1 a b = -1 := by simp [cmp1, h]
theorem cmp1_2 {a b : ByteArray} (h : Op.bytesLess a.toList b.toList = false) (k : (a.toList == b.toList) = false) : cmp1 a b = 1 := by simp only [cmp1, h, k]; rfl
theorem cmp1_3 {a b : ByteArray} (h : Op.bytesLess a.toList b.toList = false) (k : (a.toList == b.toList) = true) : cmp1 a b = 0 := by simp only [cmp1, h, k]; rfl

set_option maxHeartbeats 400000 in
theorem cmpstr_any (a b : ByteArray) (w : World) :
    Calls Tryz.prog 68 #[.string a, .string b] w fun e w' => e = .returned (.int .i64 (cmp1 a b)) ∧ w = w' := by
  cases h : Op.bytesLess a.toList b.toList
  · cases k : (a.toList == b.toList)
    · have H := Lib.hid (cmp1_2 h k)
      go_enter Tryz.func68, Tryz.ntmps68
      go_wp2
      go_ret
      exact ⟨ret_int H.out.symm, rfl⟩
    · have H := Lib.hid (cmp1_3 h k)
      go_enter Tryz.func68, Tryz.ntmps68
      go_wp2
      go_ret
      exact ⟨ret_int H.out.symm, rfl⟩
  · have H := Lib.hid (cmp1_1 h)
    go_enter Tryz.func68, Tryz.ntmps68
    go_wp2
    go_ret
    exact ⟨ret_int H.out.symm, rfl⟩

def cmpAt (xs ys : List ByteArray) (k : Nat) : Prop := k ≤ ys.length ∧ cmpE xs ys = cmpE (xs.drop k) (ys.drop k)
theorem cmpAt.start (xs ys : List ByteArray) : cmpAt xs ys 0 := ⟨Nat.zero_le _, rfl⟩
theorem cmpAt.on {xs ys : List ByteArray} {k : Nat} (h : cmpAt xs ys k) (hx : k < xs.length) (hy : k < ys.length) (e : cmp1 xs[k] ys[k] = 0) : cmpAt xs ys (k + 1) := by
  refine ⟨hy, ?_⟩
  rw [h.2, List.drop_eq_getElem_cons hx, List.drop_eq_getElem_cons hy, cmpE, if_pos e]
theorem cmpAt.stop {xs ys : List ByteArray} {k : Nat} (h : cmpAt xs ys k) (hx : k < xs.length) (hy : k < ys.length) (e : ¬ cmp1 xs[k] ys[k] = 0) : cmpE xs ys = cmp1 xs[k] ys[k] := by
  rw [h.2, List.drop_eq_getElem_cons hx, List.drop_eq_getElem_cons hy, cmpE, if_neg e]
theorem cmpAt.gt {xs ys : List ByteArray} {k : Nat} (h : cmpAt xs ys k) (hx : k < xs.length) (hy : ys.length ≤ k) : cmpE xs ys = 1 := by
  rw [h.2, List.drop_eq_getElem_cons hx, List.drop_of_length_le hy, cmpE]
theorem cmpAt.lt {xs ys : List ByteArray} {k : Nat} (h : cmpAt xs ys k) (hx : xs.length ≤ k) (hy : k < ys.length) : cmpE xs ys = -1 := by
  rw [h.2, List.drop_eq_getElem_cons hy, List.drop_of_length_le hx, cmpE]
theorem cmpAt.eq {xs ys : List ByteArray} {k : Nat} (h : cmpAt xs ys k) (hx : xs.length ≤ k) (hy : ys.length ≤ k) : cmpE xs ys = 0 := by
  rw [h.2, List.drop_of_length_le hx, List.drop_of_length_le hy, cmpE]

set_option maxHeartbeats 1000000 in
theorem scompare_any (xs ys : List ByteArray) (v u : Value) (w : World) (hv : Row w v xs) (hu : Row w u ys) (hx : xs.length ≤ 20500) :
    Calls Tryz.prog 65 #[v, u] w fun e w' => e = .returned (.int .i64 (cmpE xs ys)) ∧ w = w' := by
  obtain ⟨a, c, rfl, hc⟩ := hv
  obtain ⟨b, d, rfl, hd⟩ := hu
  have HC := Lib.hid hc
  have HD := Lib.hid hd
  clear hc hd
  go_enter Tryz.func65, Tryz.ntmps65
  go_wp2
  go_loop [11] (fun i => ∃ k : Nat, k ≤ xs.length ∧ i = .int .i64 k ∧ cmpAt xs ys k) (fun i => xs.length - (intOf i).toNat)
  case atStart => exact ⟨0, Nat.zero_le _, rfl, cmpAt.start xs ys⟩
  case round =>
    obtain ⟨k, hk, rfl, ht⟩ := hrel
    have HT := Lib.hid ht
    have hky := ht.1
    clear ht
    by_cases hlt : k < xs.length
    · obtain ⟨g, rfl, hg, hcell⟩ := HC.out (by intro e; rw [e] at hlt; simp at hlt)
      have q1 := hcell k hlt
      clear hcell
      by_cases hlt2 : k < ys.length
      · obtain ⟨g2, rfl, hg2, hcell2⟩ := HD.out (by intro e; rw [e] at hlt2; simp at hlt2)
        have q2 := hcell2 k hlt2
        clear hcell2
        go_wp2_with fail
        refine (cmpstr_any _ _ _).mono ?_
        rintro _ w' ⟨rfl, rfl⟩
        by_cases e : cmp1 xs[k] ys[k] = 0
        · have HE := Lib.hid (HT.out.on hlt hlt2 e)
          have hb : ((cmp1 xs[k] ys[k]) == 0) = true := by simp [e]
          clear e
          go_wp2
          go_round
          case rel => exact ⟨k + 1, by omega, by go_num, HE.out⟩
          case measure => simp [intOf]; omega
        · have HE := Lib.hid (HT.out.stop hlt hlt2 e)
          have hb : ((cmp1 xs[k] ys[k]) == 0) = false := by simp [e]
          clear e
          go_wp2
          go_ret
          exact ⟨ret_int HE.out.symm, rfl⟩
      · go_wp2
        go_ret
        exact ⟨ret_int (HT.out.gt hlt (by omega)).symm, rfl⟩
    · by_cases hlt2 : xs.length < ys.length
      · go_wp2
        go_ret
        exact ⟨ret_int (HT.out.lt (by omega) (by omega)).symm, rfl⟩
      · go_wp2
        go_ret
        exact ⟨ret_int (HT.out.eq (by omega) (by omega)).symm, rfl⟩

set_option maxHeartbeats 1000000 in
theorem compare_any (a b : ByteArray) (ha : a.size ≤ 20400) (hb : b.size ≤ 20400) (w : World) :
    Calls Tryz.prog 23 #[.string a, .string b] w fun e w' => e = .returned (.int .i64 (compareN a b)) ∧ Below w.heap.size w w' := by
  have hcount := elemsB_count a
  go_enter Tryz.func23, Tryz.ntmps23
  go_wp2_with fail
  refine (elems_any a ha _).mono ?_
  rintro _ w1 ⟨v, rfl, hrow, hb1⟩
  go_wp2_with fail
  refine (elems_any b hb _).mono ?_
  rintro _ w2 ⟨u, rfl, hrow2, hb2⟩
  go_wp2_with fail
  refine (scompare_any _ _ _ _ _ (hrow.below hb2) hrow2 (by omega)).mono ?_
  rintro _ w3 ⟨rfl, rfl⟩
  go_wp2
  go_ret
  exact ⟨rfl, hb1.trans (hb2.mono hb1.size)⟩

set_option maxRecDepth 100000 in
set_option maxHeartbeats 1000000 in
theorem prcompare_any (a b : ByteArray) (ha : a.size ≤ 20400) (hb : b.size ≤ 20400) (w : World) :
    Calls Tryz.prog 125 #[.string a, .string b] w fun e w' => e = .returned (.int .i64 (compareN a b)) ∧ Below w.heap.size w w' := by
  have hcount := elemsB_count a
  unfold compareN
  go_enter Tryz.func125, Tryz.ntmps125
  go_wp2_with fail
  refine (relems_any a ha _).mono ?_
  rintro _ w1 ⟨v, rfl, hrow, hb1⟩
  go_wp2_with fail
  refine (relems_any b hb _).mono ?_
  rintro _ w2 ⟨u, rfl, hrow2, hb2⟩
  have hB := hb1.trans (hb2.mono hb1.size)
  obtain ⟨p, c, rfl, hc⟩ := hrow.below hb2
  obtain ⟨q, d, rfl, hd⟩ := hrow2
  have HC := Lib.hid hc
  have HD := Lib.hid hd
  clear hc hd hrow hb1 hb2
  generalize hxs : elemsB a = xs at *
  generalize hys : elemsB b = ys at *
  have HX := Lib.hid hxs
  have HY := Lib.hid hys
  clear hxs hys
  go_wp2
  go_loopw [7] (fun i wr => ∃ k n : Nat, k ≤ xs.length ∧ i = .int .i64 k ∧ cmpAt xs ys k ∧ wr = w2.drewN n) (fun i _ => xs.length - (intOf i).toNat)
  case atStart => exact ⟨0, 0, Nat.zero_le _, rfl, cmpAt.start xs ys, rfl⟩
  case round =>
    obtain ⟨k, n, hk, rfl, ht, rfl⟩ := hrel
    have HT := Lib.hid ht
    have hky := ht.1
    clear ht
    replace hB := below_drewN hB n
    by_cases hlt : k < xs.length
    · obtain ⟨g, rfl, hg, hcell⟩ := HC.out (by intro e; rw [e] at hlt; simp at hlt)
      have q1 := hcell k hlt
      clear hcell
      by_cases hlt2 : k < ys.length
      · obtain ⟨g2, rfl, hg2, hcell2⟩ := HD.out (by intro e; rw [e] at hlt2; simp at hlt2)
        have q2 := hcell2 k hlt2
        clear hcell2
        cases h1 : Op.bytesLess xs[k].toList ys[k].toList
        · cases h2 : (xs[k].toList == ys[k].toList)
          · have HE := Lib.hid (HT.out.stop hlt hlt2 (by rw [cmp1_2 h1 h2]; decide))
            rw [cmp1_2 h1 h2] at HE
            go_wp2
            go_quiet (fail)
            go_wp2
            go_quiet (fail)
            go_wp2
            go_ret
            exact ⟨ret_int (by rw [HX.out, HY.out]; exact HE.out.symm), below_drewN (below_drewN hB _) _⟩
          · have HE := Lib.hid (HT.out.on hlt hlt2 (cmp1_3 h1 h2))
            go_wp2
            go_quiet (fail)
            go_wp2
            go_quiet (fail)
            go_wp2
            go_roundw
            case rel => exact ⟨k + 1, _, by omega, by go_num, HE.out, rfl⟩
            case measure => simp [intOf]; omega
        · have HE := Lib.hid (HT.out.stop hlt hlt2 (by rw [cmp1_1 h1]; decide))
          rw [cmp1_1 h1] at HE
          go_wp2
          go_quiet (fail)
          go_wp2
          go_ret
          exact ⟨ret_int (by rw [HX.out, HY.out]; exact HE.out.symm), below_drewN hB _⟩
      · go_wp2
        go_ret
        exact ⟨ret_int (by rw [HX.out, HY.out]; exact (HT.out.gt hlt (by omega)).symm), hB⟩
    · by_cases hlt2 : xs.length < ys.length
      · go_wp2
        go_ret
        exact ⟨ret_int (by rw [HX.out, HY.out]; exact (HT.out.lt (by omega) (by omega)).symm), hB⟩
      · go_wp2
        go_ret
        exact ⟨ret_int (by rw [HX.out, HY.out]; exact (HT.out.eq (by omega) (by omega)).symm), hB⟩
end Go.Proofs.YtmdlmjcejeejfaaGreatDoor
