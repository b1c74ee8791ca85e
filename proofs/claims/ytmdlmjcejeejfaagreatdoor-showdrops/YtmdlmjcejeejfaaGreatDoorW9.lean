/-
  The document's own Module and Import: their byte test ('made'), the first element, the elements' edges.
-/
import Derived.Test.YtmdlmjcejeejfaaGreatDoorM2
import Derived.Deep.DeepCutAuto
namespace Go.Proofs.YtmdlmjcejeejfaaGreatDoor
open Go.RowKit Go.Shelf

def baseC (u : Bool) (c : UInt8) : Bool := decide (97 ≤ c.toNat) && decide (c.toNat ≤ 122) || decide (48 ≤ c.toNat) && decide (c.toNat ≤ 57) || u && decide (65 ≤ c.toNat) && decide (c.toNat ≤ 90)
def madeC (u : Bool) (m : ByteArray) (c : UInt8) : Bool := baseC u c || m.data.toList.contains c
def madeTo (u : Bool) (m : ByteArray) (c : UInt8) (k : Nat) : Bool := baseC u c || (m.data.toList.take k).contains c
theorem madeTo_snoc {u : Bool} {m : ByteArray} {c : UInt8} {k : Nat} (h : k < m.size) : madeTo u m c (k + 1) = (madeTo u m c k || ((m[k].toNat : Int) == (c.toNat : Int))) := by
  unfold madeTo
  rw [take_snoc m k h, Bool.or_assoc]
  congr 1
  rw [Bool.eq_iff_iff]
  simp only [List.contains_eq_mem, List.mem_append, List.mem_singleton, decide_eq_true_eq, Bool.or_eq_true, beq_iff_eq]
  constructor
  · rintro (h | h)
    · exact .inl h
    · exact .inr (by rw [h])
  · rintro (h | h)
    · exact .inl h
    · exact .inr (by apply UInt8.toNat.inj; omega)
theorem madeTo_end {u : Bool} {m : ByteArray} {c : UInt8} {k : Nat} (h : m.size ≤ k) : madeTo u m c k = madeC u m c := by
  unfold madeTo madeC
  rw [List.take_of_length_le (by rw [size_data]; exact h)]
theorem madeTo_zero (u : Bool) (m : ByteArray) (c : UInt8) : madeTo u m c 0 = baseC u c := by simp [madeTo]

theorem val_bool {a b : Bool} (h : a = b) : Value.bool a = Value.bool b := by rw [h]
theorem byte_bd (c : UInt8) : c.toNat ≤ 255 := by have := c.toNat_lt; omega

set_option maxRecDepth 100000 in
set_option maxHeartbeats 1000000 in
theorem made_f (s : ByteArray) (m : ByteArray) (hs : s.size ≤ 20400) (hm : m.size ≤ 20400) (w : World) :
    Calls Tryz.prog 128 #[.string s, .bool false, .string m] w fun e w' => e = .returned (.bool (allB s (madeC false m))) ∧ w = w' := by
  go_enter Tryz.func128, Tryz.ntmps128
  go_wp2
  go_loop [7] (fun i => ∃ k : Nat, k ≤ s.size ∧ i = .int .i64 k ∧ allTo s (madeC false m) k = true) (fun i => s.size - (intOf i).toNat)
  case atStart => exact ⟨0, Nat.zero_le _, rfl, rfl⟩
  case round =>
    obtain ⟨k, hk, rfl, hl⟩ := hrel
    have H := Lib.hid hl
    clear hl
    by_cases hlt : k < s.size
    · have HN := Lib.hid (fun h => all_no (p := madeC false m) hlt h)
      have HY := Lib.hid (fun h => all_yes hlt H.out h)
      go_upto_region 5 with fail
      go_cut [9] (fun s9 wx => s9 = .bool (baseC false s[k]) ∧ wx = w)
      case first =>
        go_wp2_with fail
        all_goals
          go_meet
          refine ⟨val_bool ?_, rfl⟩
          rw [Bool.eq_iff_iff]
          simp [baseC]
          try omega
      case rest =>
        obtain ⟨rfl, rfl⟩ := hcut
        go_wp2
        go_loop [9, 10] (fun b i => ∃ j : Nat, j ≤ m.size ∧ i = .int .i64 j ∧ b = .bool (madeTo false m s[k] j)) (fun _ i => m.size - (intOf i).toNat)
        case atStart => exact ⟨0, Nat.zero_le _, rfl, val_bool (madeTo_zero _ _ _).symm⟩
        case round =>
          obtain ⟨j, hj, rfl, rfl⟩ := hrel
          by_cases hjt : j < m.size
          · have HS := Lib.hid (madeTo_snoc (u := false) (c := s[k]) hjt)
            cases hb : madeTo false m s[k] j
            · go_wp2
              go_round
              case rel => exact ⟨j + 1, by omega, by go_num, val_bool (by rw [HS.out, hb]; rfl)⟩
              case measure => simp [intOf]; omega
            · go_wp2
              go_round
              case rel => exact ⟨j + 1, by omega, by go_num, val_bool (by rw [HS.out, hb]; rfl)⟩
              case measure => simp [intOf]; omega
          · have HE := Lib.hid (madeTo_end (u := false) (m := m) (c := s[k]) (k := j) (by omega))
            cases hb : madeTo false m s[k] j
            · go_wp2
              go_ret
              exact ⟨ret_bool (HN.out (HE.out.symm.trans hb)).symm, rfl⟩
            · go_wp2
              go_round
              case rel => exact ⟨k + 1, by omega, by go_num, HY.out (HE.out.symm.trans hb)⟩
              case measure => simp [intOf]; omega
    · go_wp2
      go_ret
      exact ⟨ret_bool (all_end (by omega) H.out).symm, rfl⟩
set_option maxRecDepth 100000 in
set_option maxHeartbeats 1000000 in
theorem made_t (s : ByteArray) (m : ByteArray) (hs : s.size ≤ 20400) (hm : m.size ≤ 20400) (w : World) :
    Calls Tryz.prog 128 #[.string s, .bool true, .string m] w fun e w' => e = .returned (.bool (allB s (madeC true m))) ∧ w = w' := by
  go_enter Tryz.func128, Tryz.ntmps128
  go_wp2
  go_loop [7] (fun i => ∃ k : Nat, k ≤ s.size ∧ i = .int .i64 k ∧ allTo s (madeC true m) k = true) (fun i => s.size - (intOf i).toNat)
  case atStart => exact ⟨0, Nat.zero_le _, rfl, rfl⟩
  case round =>
    obtain ⟨k, hk, rfl, hl⟩ := hrel
    have H := Lib.hid hl
    clear hl
    by_cases hlt : k < s.size
    · have HN := Lib.hid (fun h => all_no (p := madeC true m) hlt h)
      have HY := Lib.hid (fun h => all_yes hlt H.out h)
      go_upto_region 5 with fail
      go_cut [9] (fun s9 wx => s9 = .bool (baseC true s[k]) ∧ wx = w)
      case first =>
        go_wp2_with fail
        all_goals
          go_meet
          refine ⟨val_bool ?_, rfl⟩
          rw [Bool.eq_iff_iff]
          simp [baseC]
          try omega
      case rest =>
        obtain ⟨rfl, rfl⟩ := hcut
        go_wp2
        go_loop [9, 10] (fun b i => ∃ j : Nat, j ≤ m.size ∧ i = .int .i64 j ∧ b = .bool (madeTo true m s[k] j)) (fun _ i => m.size - (intOf i).toNat)
        case atStart => exact ⟨0, Nat.zero_le _, rfl, val_bool (madeTo_zero _ _ _).symm⟩
        case round =>
          obtain ⟨j, hj, rfl, rfl⟩ := hrel
          by_cases hjt : j < m.size
          · have HS := Lib.hid (madeTo_snoc (u := true) (c := s[k]) hjt)
            cases hb : madeTo true m s[k] j
            · go_wp2
              go_round
              case rel => exact ⟨j + 1, by omega, by go_num, val_bool (by rw [HS.out, hb]; rfl)⟩
              case measure => simp [intOf]; omega
            · go_wp2
              go_round
              case rel => exact ⟨j + 1, by omega, by go_num, val_bool (by rw [HS.out, hb]; rfl)⟩
              case measure => simp [intOf]; omega
          · have HE := Lib.hid (madeTo_end (u := true) (m := m) (c := s[k]) (k := j) (by omega))
            cases hb : madeTo true m s[k] j
            · go_wp2
              go_ret
              exact ⟨ret_bool (HN.out (HE.out.symm.trans hb)).symm, rfl⟩
            · go_wp2
              go_round
              case rel => exact ⟨k + 1, by omega, by go_num, HY.out (HE.out.symm.trans hb)⟩
              case measure => simp [intOf]; omega
    · go_wp2
      go_ret
      exact ⟨ret_bool (all_end (by omega) H.out).symm, rfl⟩
end Go.Proofs.YtmdlmjcejeejfaaGreatDoor
