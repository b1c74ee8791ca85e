/-
  Plain: the machine's own writing of a rune is the document's.
-/
import Derived.Test.YtinaeegijmkbhaaGreatDoorQ4
set_option linter.unusedVariables false
namespace Go.Proofs.YtinaeegijmkbhaaGreatDoor

theorem utf_no {r : Int} (h : Utf8.valid r = false) : utfL r = [] := by
  unfold utfL
  rw [if_pos]
  simp [Utf8.valid] at h
  omega
theorem valid_in {r : Int} (h : Utf8.valid r = true) : ¬ (r < 0 ∨ 1114111 < r ∨ (55296 ≤ r ∧ r < 57344)) := by
  simp [Utf8.valid] at h
  omega
theorem oct8_nat (x : Nat) (n : Int) (h : n = (x : Int)) : oct8 n = UInt8.ofNat x := by subst h; rfl
theorem utf_one {c : Nat} (h : Utf8.valid (c : Int) = true) (c1 : c < 128) : (Utf8.encode (c : Int)).data.toList = utfL (c : Int) := by
  have h1 := valid_in h
  have e : utfL (c : Int) = [oct8 c] := by unfold utfL; rw [if_neg h1, if_pos (show (c : Int) < 128 by omega)]
  rw [e, oct8_nat c c rfl]
  simp only [Utf8.encode, h, if_true, Int.toNat_natCast, c1]
theorem utf_two {c : Nat} (h : Utf8.valid (c : Int) = true) (c1 : ¬ c < 128) (c2 : c < 2048) : (Utf8.encode (c : Int)).data.toList = utfL (c : Int) := by
  have h1 := valid_in h
  have e : utfL (c : Int) = [oct8 (192 + (c : Int) / 64), oct8 (128 + (c : Int) % 64)] := by unfold utfL; rw [if_neg h1, if_neg (show ¬ (c : Int) < 128 by omega), if_pos (show (c : Int) < 2048 by omega)]
  rw [e, oct8_nat (192 + c / 64) _ (by omega), oct8_nat (128 + c % 64) _ (by omega)]
  simp only [Utf8.encode, h, if_true, Int.toNat_natCast, c1, c2, if_false]
theorem utf_three {c : Nat} (h : Utf8.valid (c : Int) = true) (c1 : ¬ c < 128) (c2 : ¬ c < 2048) (c3 : c < 65536) : (Utf8.encode (c : Int)).data.toList = utfL (c : Int) := by
  have h1 := valid_in h
  have e : utfL (c : Int) = [oct8 (224 + (c : Int) / 4096), oct8 (128 + (c : Int) / 64 % 64), oct8 (128 + (c : Int) % 64)] := by unfold utfL; rw [if_neg h1, if_neg (show ¬ (c : Int) < 128 by omega), if_neg (show ¬ (c : Int) < 2048 by omega), if_pos (show (c : Int) < 65536 by omega)]
  rw [e, oct8_nat (224 + c / 4096) _ (by omega), oct8_nat (128 + c / 64 % 64) _ (by omega), oct8_nat (128 + c % 64) _ (by omega)]
  simp only [Utf8.encode, h, if_true, Int.toNat_natCast, c1, c2, c3, if_false]
theorem utf_four {c : Nat} (h : Utf8.valid (c : Int) = true) (c1 : ¬ c < 128) (c2 : ¬ c < 2048) (c3 : ¬ c < 65536) : (Utf8.encode (c : Int)).data.toList = utfL (c : Int) := by
  have h1 := valid_in h
  have e : utfL (c : Int) = [oct8 (240 + (c : Int) / 262144), oct8 (128 + (c : Int) / 4096 % 64), oct8 (128 + (c : Int) / 64 % 64), oct8 (128 + (c : Int) % 64)] := by unfold utfL; rw [if_neg h1, if_neg (show ¬ (c : Int) < 128 by omega), if_neg (show ¬ (c : Int) < 2048 by omega), if_neg (show ¬ (c : Int) < 65536 by omega)]
  rw [e, oct8_nat (240 + c / 262144) _ (by omega), oct8_nat (128 + c / 4096 % 64) _ (by omega), oct8_nat (128 + c / 64 % 64) _ (by omega), oct8_nat (128 + c % 64) _ (by omega)]
  simp only [Utf8.encode, h, if_true, Int.toNat_natCast, c1, c2, c3, if_false]
theorem utf_encode {r : Int} (h : Utf8.valid r = true) : (Utf8.encode r).data.toList = utfL r := by
  obtain ⟨c, rfl⟩ : ∃ c : Nat, r = c := ⟨r.toNat, by have := valid_in h; omega⟩
  by_cases c1 : c < 128
  · exact utf_one h c1
  by_cases c2 : c < 2048
  · exact utf_two h c1 c2
  by_cases c3 : c < 65536
  · exact utf_three h c1 c2 c3
  · exact utf_four h c1 c2 c3
end Go.Proofs.YtinaeegijmkbhaaGreatDoor
