/-
  The program's scanner: a byte, a rune that is told by its number.
-/
import Derived.Test.YtinaeegijmkbhaaGreatDoorA7
import Derived.Test.YtinaeegijmkbhaaGreatDoorQ4
set_option linter.unusedVariables false
namespace Go.Proofs.YtinaeegijmkbhaaGreatDoor
open Go.RowKit Go.Shelf

set_option maxHeartbeats 1600000 in
set_option maxRecDepth 100000 in
theorem byte_any (b : Int) (hb : 0 < b) (hp : ParseAt b) (s : ByteArray) (hs : s.size ≤ 20400) (k : Nat) (hk : 1 ≤ k) (hk8 : k ≤ 8) (w : World) (hE : Env w) :
    Calls Tryz.prog 72 #[.string s, .int .i64 (k : Int), .int .i64 b] w fun e w' => (∃ x : ByteArray, e = .returned (.tuple #[.string x, .bool (decide (0 ≤ numL k b s.data.toList ∧ numL k b s.data.toList < 256))]) ∧ (0 ≤ numL k b s.data.toList → numL k b s.data.toList < 256 → x = mkB [oct8 (numL k b s.data.toList)])) ∧ Below w.heap.size w w' := by
  have hN := number_any b hp s hs k hk hk8 w hE
  have hge := numL_ge k b hb s.data.toList
  generalize numL k b s.data.toList = n at *
  have HN := Lib.hid hN
  clear hN
  go_enter Tryz.func72, Tryz.ntmps72
  by_cases h0 : 0 ≤ n
  · have e1 : max n 0 = n := by omega
    have e2 : decide (0 ≤ n) = true := by simp [h0]
    rw [e1, e2] at HN
    clear e1 e2
    by_cases h1 : n ≤ 255
    · have hm : n % 256 = n := by omega
      go_wp2_with (go_at_call 77; refine HN.out.mono ?_; rintro _ w1 ⟨rfl, hB⟩)
      rw [conv_new w1 _ 1 [n] rfl (fun i hi => by obtain rfl : i = 0 := by omega
                                                  rfl)]
      go_wp2
      go_ret2
      refine ⟨⟨mkB [oct8 n], ?_, fun _ _ => rfl⟩, hB.alloc hB.size _⟩
      rw [decide_eq_true (show 0 ≤ n ∧ n < 256 by omega)]
      rfl
    · go_wp2_with (go_at_call 77; refine HN.out.mono ?_; rintro _ w1 ⟨rfl, hB⟩)
      rw [conv_new w1 _ 1 [n % 256] rfl (fun i hi => by obtain rfl : i = 0 := by omega
                                                        rfl)]
      go_wp2
      go_ret2
      refine ⟨⟨mkB [oct8 (n % 256)], ?_, fun _ h => absurd h (by omega)⟩, hB.alloc hB.size _⟩
      rw [decide_eq_false (show ¬ (0 ≤ n ∧ n < 256) by omega)]
      show Ending.returned (.tuple #[.string (mkB [oct8 (n % 256)]), .bool (decide (n ≤ 255))]) = _
      rw [decide_eq_false (show ¬ n ≤ 255 by omega)]
  · have e1 : max n 0 = 0 := by omega
    have e2 : decide (0 ≤ n) = false := by simp; omega
    rw [e1, e2] at HN
    clear e1 e2
    go_wp2_with (go_at_call 77; refine HN.out.mono ?_; rintro _ w1 ⟨rfl, hB⟩)
    rw [conv_new w1 _ 1 [0] rfl (fun i hi => by obtain rfl : i = 0 := by omega
                                                rfl)]
    go_wp2
    go_ret2
    refine ⟨⟨mkB [oct8 0], ?_, fun h _ => absurd h (by omega)⟩, hB.alloc hB.size _⟩
    rw [decide_eq_false (show ¬ (0 ≤ n ∧ n < 256) by omega)]
    rfl
theorem valid_rune (n : Int) : Lib.validRune n = Utf8.valid n := by
  rw [Bool.eq_iff_iff]
  simp [Lib.validRune, Utf8.valid]
  omega
theorem utf_some {n : Int} (h : Utf8.valid n = true) : utfL n ≠ [] := by
  have h1 := valid_in h
  unfold utfL
  rw [if_neg h1]
  repeat' split
  all_goals simp
set_option maxHeartbeats 1600000 in
set_option maxRecDepth 100000 in
theorem rune_any (s : ByteArray) (hs : s.size ≤ 20400) (k : Nat) (hk : 1 ≤ k) (hk8 : k ≤ 8) (w : World) (hE : Env w) :
    Calls Tryz.prog 73 #[.string s, .int .i64 (k : Int)] w fun e w' => (∃ x : ByteArray, e = .returned (.tuple #[.string x, .bool (decide (utfL (numL k 16 s.data.toList) ≠ []))]) ∧ (utfL (numL k 16 s.data.toList) ≠ [] → x = mkB (utfL (numL k 16 s.data.toList)))) ∧ Below w.heap.size w w' := by
  have hN := number_any 16 parseAt_16 s hs k hk hk8 w hE
  have hge := numL_ge k 16 (by omega) s.data.toList
  generalize numL k 16 s.data.toList = n at *
  have HN := Lib.hid hN
  clear hN
  go_enter Tryz.func73, Tryz.ntmps73
  by_cases h0 : 0 ≤ n
  · have e1 : max n 0 = n := by omega
    have e2 : decide (0 ≤ n) = true := by simp [h0]
    rw [e1, e2] at HN
    clear e1 e2
    by_cases h1 : n ≤ 1114111
    · cases hv : Lib.validRune n
      · have hu := utf_no (r := n) (by rw [← valid_rune]; exact hv)
        go_wp2_with (first | (go_at_call 77; refine HN.out.mono ?_; rintro _ w1 ⟨rfl, hB⟩) | (go_at_call 70; refine (Tryz.utf8_ValidRune _ _).mono ?_; rintro _ _ ⟨rfl, rfl⟩; rw [hv]))
        go_ret2
        rw [decide_eq_false (show ¬ (utfL n ≠ []) from not_not_intro hu)]
        exact ⟨⟨Utf8.encode n, rfl, fun h => absurd hu h⟩, hB⟩
      · have hu := utf_some (n := n) (by rw [← valid_rune]; exact hv)
        have hx := utf_encode (r := n) (by rw [← valid_rune]; exact hv)
        go_wp2_with (first | (go_at_call 77; refine HN.out.mono ?_; rintro _ w1 ⟨rfl, hB⟩) | (go_at_call 70; refine (Tryz.utf8_ValidRune _ _).mono ?_; rintro _ _ ⟨rfl, rfl⟩; rw [hv]))
        go_ret2
        rw [decide_eq_true hu, ← hx]
        exact ⟨⟨Utf8.encode n, rfl, fun _ => rfl⟩, hB⟩
    · have hu : utfL n = [] := by unfold utfL; rw [if_pos (by omega)]
      have HU := Lib.hid hu
      rw [decide_eq_false (show ¬ (utfL n ≠ []) from not_not_intro hu)]
      clear hu
      go_wp2_with (go_at_call 77; refine HN.out.mono ?_; rintro _ w1 ⟨rfl, hB⟩)
      go_ret2
      exact ⟨⟨_, rfl, fun h => absurd HU.out h⟩, hB⟩
  · have e1 : max n 0 = 0 := by omega
    have e2 : decide (0 ≤ n) = false := by simp; omega
    rw [e1, e2] at HN
    clear e1 e2
    have hu : utfL n = [] := by unfold utfL; rw [if_pos (by omega)]
    have HU := Lib.hid hu
    clear hu
    go_wp2_with (go_at_call 77; refine HN.out.mono ?_; rintro _ w1 ⟨rfl, hB⟩)
    go_ret2
    rw [decide_eq_false (show ¬ (utfL n ≠ []) from not_not_intro HU.out)]
    exact ⟨⟨_, rfl, fun h => absurd HU.out h⟩, hB⟩
end Go.Proofs.YtinaeegijmkbhaaGreatDoor
