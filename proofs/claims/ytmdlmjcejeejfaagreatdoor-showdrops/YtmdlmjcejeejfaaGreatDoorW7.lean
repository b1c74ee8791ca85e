/-
  The document's own Valid: its byte test, its two loops.
-/
import Derived.Test.YtmdlmjcejeejfaaGreatDoorW6
import Derived.Lib.IndexAny
namespace Go.Proofs.YtmdlmjcejeejfaaGreatDoor
open Go.RowKit Go.Shelf

def oddB : ByteArray := ⟨#[34, 42, 58, 60, 62, 63, 92, 124, 96]⟩
theorem vByte_odd (c : UInt8) : vByte c = (decide (33 ≤ c.toNat) && decide (c.toNat ≤ 126) && !(oddB.data.toList.contains c)) := by
  have h : oddB.data.toList.contains c = decide (0 ≤ Lib.indexByte [34, 42, 58, 60, 62, 63, 92, 124, 96] c) := Lib.contains_iff_indexByte _ _
  rw [h]
  unfold vByte
  congr 1
  rw [Bool.eq_iff_iff]; simp
theorem odd_on {k : Nat} {c : UInt8} (hk : k < oddB.size) (h : (oddB.data.toList.take k).contains c = false) (e : (((oddB[k]).toNat : Int) == (c.toNat : Int)) = false) : (oddB.data.toList.take (k + 1)).contains c = false := by
  rw [take_snoc oddB k hk]
  have : c ≠ oddB[k] := by rintro rfl; simp at e
  simp only [List.contains_eq_mem, List.mem_append, decide_eq_false_iff_not] at h ⊢
  intro h'
  rcases h' with h' | h'
  · exact h h'
  · exact this (by simpa using h')
theorem odd_hit {k : Nat} {c : UInt8} (hk : k < oddB.size) (e : (((oddB[k]).toNat : Int) == (c.toNat : Int)) = true) : vByte c = false := by
  have : oddB[k] = c := by
    have := eq_of_beq e
    apply UInt8.toNat.inj
    omega
  rw [vByte_odd, ← this, List.contains_iff_mem.2 (mem_data oddB k hk)]
  simp
theorem odd_end {k : Nat} {c : UInt8} (hk : 9 ≤ k) (h1 : 33 ≤ c.toNat) (h2 : c.toNat ≤ 126) (h : (oddB.data.toList.take k).contains c = false) : vByte c = true := by
  rw [List.take_of_length_le (by show 9 ≤ k; exact hk)] at h
  rw [vByte_odd, h]; simp [h1, h2]

set_option maxHeartbeats 400000 in
theorem fine_any (c : UInt8) (w : World) :
    Calls Tryz.prog 174 #[.int .u8 (c.toNat : Int)] w fun e w' => e = .returned (.bool (vByte c)) ∧ w = w' := by
  by_cases h1 : 33 ≤ c.toNat
  · by_cases h2 : c.toNat ≤ 126
    · go_enter Tryz.func174, Tryz.ntmps174
      go_wp2
      go_loop [4] (fun i => ∃ k : Nat, k ≤ 9 ∧ i = .int .i64 k ∧ (oddB.data.toList.take k).contains c = false) (fun i => 9 - (intOf i).toNat)
      case atStart => exact ⟨0, Nat.zero_le _, rfl, rfl⟩
      case round =>
        obtain ⟨k, hk, rfl, ht⟩ := hrel
        have HT := Lib.hid ht
        clear ht
        by_cases hlt : k < 9
        · go_wp2
          · go_ret
            exact ⟨ret_bool (odd_hit hlt ‹_›).symm, rfl⟩
          · go_round
            case rel => exact ⟨k + 1, by omega, by go_num, odd_on hlt HT.out ‹_›⟩
            case measure => simp [intOf]; omega
        · go_wp2
          go_ret
          exact ⟨ret_bool (odd_end (by omega) h1 h2 HT.out).symm, rfl⟩
    · have HJ := Lib.hid (show vByte c = false by simp [vByte, h2])
      go_enter Tryz.func174, Tryz.ntmps174
      go_wp2
      go_ret
      exact ⟨ret_bool HJ.out.symm, rfl⟩
  · have HJ := Lib.hid (show vByte c = false by simp [vByte, h1])
    go_enter Tryz.func174, Tryz.ntmps174
    go_wp2
    go_ret
    exact ⟨ret_bool HJ.out.symm, rfl⟩

theorem elems_on {xs : List ByteArray} {p : ByteArray → Bool} {k : Nat} (h : (xs.take k).all p = true) (hk : k < xs.length) (e : p xs[k] = true) : (xs.take (k + 1)).all p = true := by
  rw [take_succ_of hk, List.all_append, h]; simp [e]
theorem elems_no {xs : List ByteArray} {p : ByteArray → Bool} {k : Nat} (hk : k < xs.length) (e : p xs[k] = false) : xs.all p = false := by
  rw [List.all_eq_false]; exact ⟨xs[k], List.getElem_mem hk, by simp [e]⟩
theorem elems_end {xs : List ByteArray} {p : ByteArray → Bool} {k : Nat} (h : (xs.take k).all p = true) (hk : xs.length ≤ k) : xs.all p = true := by
  rwa [List.take_of_length_le hk] at h

theorem velem_6 {s : ByteArray} (h1 : 1 ≤ s.size) (h2 : s.size ≤ 30) (h3 : ¬ s.toList = [46]) (h4 : ¬ s.toList = [46, 46]) : vElem s = allB s vByte := by
  simp [vElem, h1, h2, h3, h4]
theorem velem_7 {s : ByteArray} (h : s.toList = [46, 46]) : vElem s = false := by simp [vElem, h]
theorem size_of_list {s : ByteArray} {l : List UInt8} (h : s.toList = l) : s.size = l.length := by rw [← h, Lib.toList_data, size_data]

set_option maxRecDepth 100000 in
set_option maxHeartbeats 1000000 in
theorem rvalid_any (s : ByteArray) (hs : s.size ≤ 20400) (w : World) :
    Calls Tryz.prog 127 #[.string s] w fun e w' => e = .returned (.bool (validB s)) ∧ Below w.heap.size w w' := by
  by_cases h1 : 1 ≤ s.size
  · by_cases h2 : s.size ≤ 60
    · have HV := Lib.hid (show validB s = everyB s vElem by simp [validB, h1, h2])
      have hcount := elemsB_count s
      have hsz := Lib.hid (fun e (h : e ∈ elemsB s) => elemsB_size h)
      go_enter Tryz.func127, Tryz.ntmps127
      go_wp2_with fail
      refine (relems_any s hs _).mono ?_
      rintro _ w1 ⟨v, rfl, ⟨a, cap, rfl, hc⟩, hb⟩
      have HC := Lib.hid hc
      clear hc
      go_wp2
      go_loop [4] (fun i => ∃ k : Nat, k ≤ (elemsB s).length ∧ i = .int .i64 k ∧ ((elemsB s).take k).all vElem = true) (fun i => (elemsB s).length - (intOf i).toNat)
      case atStart => exact ⟨0, Nat.zero_le _, rfl, rfl⟩
      case round =>
        obtain ⟨k, hk, rfl, ht⟩ := hrel
        have HT := Lib.hid ht
        clear ht
        by_cases hlt : k < (elemsB s).length
        · obtain ⟨g, rfl, hg, hcell⟩ := HC.out (by intro e; rw [e] at hlt; simp at hlt)
          have q1 := hcell k hlt
          have hes : (elemsB s)[k].size ≤ 20400 := Nat.le_trans (hsz.out _ (List.getElem_mem hlt)) hs
          have HN := Lib.hid (fun h => elems_no (p := vElem) hlt h)
          have HY := Lib.hid (fun h => elems_on HT.out hlt h)
          clear hcell
          generalize (elemsB s)[k] = x at *
          by_cases t1 : 1 ≤ x.size
          · by_cases t2 : x.size ≤ 30
            · by_cases t3 : x.toList = [46]
              · have HX := Lib.hid (HN.out (velem_1 t3))
                go_wp2
                go_ret
                exact ⟨ret_bool (by rw [HV.out]; exact HX.out.symm), hb⟩
              · by_cases t4 : x.toList = [46, 46]
                · have HX := Lib.hid (HN.out (velem_7 t4))
                  go_wp2
                  go_ret
                  exact ⟨ret_bool (by rw [HV.out]; exact HX.out.symm), hb⟩
                · have HX := Lib.hid (velem_6 t1 t2 t3 t4)
                  have t3' : (x.toList == [46]) = false := by simp [t3]
                  have t4' : (x.toList == [46, 46]) = false := by simp [t4]
                  clear t3 t4
                  go_wp2
                  go_loop [5] (fun i => ∃ m : Nat, m ≤ x.size ∧ i = .int .i64 m ∧ allTo x vByte m = true) (fun i => x.size - (intOf i).toNat)
                  case atStart => exact ⟨0, Nat.zero_le _, rfl, rfl⟩
                  case round =>
                    obtain ⟨m, hm, rfl, hl⟩ := hrel
                    have H := Lib.hid hl
                    clear hl
                    by_cases hmt : m < x.size
                    · go_wp2_with fail
                      refine (fine_any _ _).mono ?_
                      rintro _ w' ⟨rfl, rfl⟩
                      cases hp : vByte x[m]
                      · have HP := Lib.hid (all_no hmt hp)
                        go_wp2
                        go_ret
                        exact ⟨ret_bool (by rw [HV.out]; exact (HN.out (HX.out.trans HP.out)).symm), hb⟩
                      · have HP := Lib.hid (all_yes hmt H.out hp)
                        go_wp2
                        go_round
                        case rel => exact ⟨m + 1, by omega, by go_num, HP.out⟩
                        case measure => simp [intOf]; omega
                    · have HP := Lib.hid (HY.out (HX.out.trans (all_end (by omega) H.out)))
                      go_wp2
                      go_round
                      case rel => exact ⟨k + 1, by omega, by go_num, HP.out⟩
                      case measure => simp [intOf]; omega
            · have HX := Lib.hid (HN.out (velem_4 (by omega)))
              go_wp2
              go_ret
              exact ⟨ret_bool (by rw [HV.out]; exact HX.out.symm), hb⟩
          · have HX := Lib.hid (HN.out (velem_5 (by omega)))
            go_wp2
            go_ret
            exact ⟨ret_bool (by rw [HV.out]; exact HX.out.symm), hb⟩
        · go_wp2
          go_ret
          exact ⟨ret_bool (by rw [HV.out]; exact (elems_end HT.out (by omega)).symm), hb⟩
    · have HJ := Lib.hid (show validB s = false by simp [validB, h2])
      go_enter Tryz.func127, Tryz.ntmps127
      go_wp2
      go_ret
      exact ⟨ret_bool HJ.out.symm, Below.refl _ _⟩
  · have HJ := Lib.hid (show validB s = false by simp [validB, h1])
    go_enter Tryz.func127, Tryz.ntmps127
    go_wp2
    go_ret
    exact ⟨ret_bool HJ.out.symm, Below.refl _ _⟩
end Go.Proofs.YtmdlmjcejeejfaaGreatDoor
