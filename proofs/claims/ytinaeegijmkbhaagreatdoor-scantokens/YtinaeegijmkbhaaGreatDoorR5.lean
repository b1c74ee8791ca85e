/-
  Plain: the machine's own reading of a rune, and how wide the document says that it is.
-/
import Derived.Test.YtinaeegijmkbhaaGreatDoorQ3
set_option linter.unusedVariables false
namespace Go.Proofs.YtinaeegijmkbhaaGreatDoor

theorem get_bang (s : ByteArray) (k : Nat) (h : k < s.size) : s.get! k = s[k] := by
  show s.data[k]! = s[k]
  rw [getElem!_pos s.data k h]; rfl
/-- What comes of a reading: a rune, and how wide it is; or none. -/
def Told (x : Nat × Nat) (n : Nat) : Prop := (n = 0 ∧ x = (Utf8.runeError, 1)) ∨ (n ≠ 0 ∧ x.2 = n ∧ (n = 1 → x.1 < 128) ∧ (1 < n → 128 ≤ x.1))
theorem valid_iff (c : Nat) : Utf8.valid (c : Int) = decide (c ≤ 1114111 ∧ ¬ (55296 ≤ c ∧ c < 57344)) := by
  rw [Bool.eq_iff_iff]
  simp [Utf8.valid]
  omega
theorem contB_div (c : UInt8) : contB c = (c.toNat / 64 == 2) := by
  have := c.toNat_lt
  rw [Bool.eq_iff_iff]
  simp [contB]
  omega
theorem cons_drop {s : ByteArray} {i : Nat} (h : i < s.size) : s.data.toList.drop i = s[i] :: s.data.toList.drop (i + 1) := drop_get s i h
theorem told_yes {n v c : Nat} (h1 : 1 < n) (hc : 128 ≤ c) : Told (c, n) n := .inr ⟨by omega, rfl, fun e => by omega, fun _ => hc⟩
theorem told_no : Told (Utf8.runeError, 1) 0 := .inl ⟨rfl, rfl⟩
theorem nil_drop {s : ByteArray} {i : Nat} (h : ¬ i < s.size) : s.data.toList.drop i = [] := List.drop_of_length_le (by rw [size_data]; omega)
set_option maxHeartbeats 1000000 in
theorem wide_told (s : ByteArray) (i : Nat) (h : i < s.size) : Told (Utf8.decode s i) (wideL (s.data.toList.drop i)) := by
  have hlt := s[i].toNat_lt
  unfold Utf8.decode
  simp only [Nat.add_zero, get_bang s i h]
  rw [cons_drop h, wideL]
  generalize hb : s[i].toNat = b at *
  clear hb
  by_cases c1 : b < 128
  · rw [if_pos c1, if_pos c1]
    exact .inr ⟨by omega, rfl, fun _ => c1, fun e => by omega⟩
  rw [if_neg c1, if_neg c1]
  by_cases c2 : b < 192
  · rw [if_pos c2, if_neg (by simp; omega), if_neg (by simp; omega), if_neg (by simp; omega)]
    exact told_no
  rw [if_neg c2]
  by_cases c3 : b < 224
  · rw [if_pos c3]
    have e1 : (b / 32 == 6) = true := by simp; omega
    have e2 : (b / 16 == 14) = false := by simp; omega
    have e3 : (b / 8 == 30) = false := by simp; omega
    rw [e1, e2, e3]
    simp only [Bool.true_and, Bool.false_and, Bool.false_eq_true, if_false]
    by_cases s1 : i + 1 < s.size
    · have hl1 := s[i + 1].toNat_lt
      rw [cons_drop s1, wideR_long (by simp), get_bang s (i + 1) s1]
      simp only [wideT, show 2 - 1 = 1 from rfl, List.take_succ_cons, List.take_zero, List.all_cons, List.all_nil, Bool.and_true, contV, List.foldl_cons, List.foldl_nil, contB_div, s1, decide_true, Bool.true_and]
      generalize s[i + 1].toNat = a1 at *
      cases q1 : (a1 / 64 == 2)
      · simp only [Bool.false_eq_true, if_false]; exact told_no
      · have q1' : a1 / 64 = 2 := by simpa using q1
        simp only [if_true]
        have ev : (b - 192) * 64 + (a1 - 128) = b % 32 * 64 + a1 % 64 := by omega
        rw [ev]
        by_cases o : b % 32 * 64 + a1 % 64 ≥ 128
        · rw [if_pos o, if_neg (by simp [offV]; omega)]
          exact told_yes (v := 0) (by omega) o
        · rw [if_neg o, if_pos (by simp [offV]; omega)]
          exact told_no
    · rw [nil_drop s1, wideR_short (by simp)]
      simp only [s1, decide_false, Bool.false_and, Bool.false_eq_true, if_false]
      exact told_no
  rw [if_neg c3]
  by_cases c4 : b < 240
  · rw [if_pos c4]
    have e1 : (b / 32 == 6) = false := by simp; omega
    have e2 : (b / 16 == 14) = true := by simp; omega
    have e3 : (b / 8 == 30) = false := by simp; omega
    rw [e1, e2, e3]
    simp only [Bool.true_and, Bool.false_and, Bool.false_eq_true, if_false]
    by_cases s1 : i + 1 < s.size
    · have hl1 := s[i + 1].toNat_lt
      by_cases s2 : i + 2 < s.size
      · have hl2 := s[i + 2].toNat_lt
        rw [cons_drop s1, cons_drop s2, wideR_long (by simp), get_bang s (i + 1) s1, get_bang s (i + 2) s2]
        simp only [wideT, show 3 - 1 = 2 from rfl, List.take_succ_cons, List.take_zero, List.all_cons, List.all_nil, Bool.and_true, contV, List.foldl_cons, List.foldl_nil, contB_div, s1, s2, decide_true, Bool.true_and]
        generalize s[i + 1].toNat = a1 at *
        generalize s[i + 2].toNat = a2 at *
        cases q1 : (a1 / 64 == 2)
        · simp only [Bool.false_and, Bool.false_eq_true, if_false]; exact told_no
        cases q2 : (a2 / 64 == 2)
        · simp only [Bool.and_false, Bool.false_eq_true, if_false]; exact told_no
        have q1' : a1 / 64 = 2 := by simpa using q1
        have q2' : a2 / 64 = 2 := by simpa using q2
        simp only [Bool.and_true, if_true]
        have ev : ((b - 224) * 64 + (a1 - 128)) * 64 + (a2 - 128) = b % 16 * 4096 + a1 % 64 * 64 + a2 % 64 := by omega
        rw [ev, valid_iff]
        generalize b % 16 * 4096 + a1 % 64 * 64 + a2 % 64 = v at *
        by_cases o : v ≥ 2048 ∧ v ≤ 1114111 ∧ ¬ (55296 ≤ v ∧ v < 57344)
        · rw [if_pos (by simp; omega), if_neg (by simp [offV]; omega)]
          exact told_yes (v := 0) (by omega) (by omega)
        · rw [if_neg (by simp; omega), if_pos (by simp [offV]; omega)]
          exact told_no
      · rw [cons_drop s1, nil_drop s2, wideR_short (by simp)]
        simp only [s2, decide_false, Bool.false_and, Bool.and_false, Bool.false_eq_true, if_false]
        exact told_no
    · rw [nil_drop s1, wideR_short (by simp)]
      simp only [s1, decide_false, Bool.false_and, Bool.false_eq_true, if_false]
      exact told_no
  rw [if_neg c4]
  by_cases c5 : b < 248
  · rw [if_pos c5]
    have e1 : (b / 32 == 6) = false := by simp; omega
    have e2 : (b / 16 == 14) = false := by simp; omega
    have e3 : (b / 8 == 30) = true := by simp; omega
    rw [e1, e2, e3]
    simp only [Bool.true_and, Bool.false_and, Bool.false_eq_true, if_false]
    by_cases s1 : i + 1 < s.size
    · have hl1 := s[i + 1].toNat_lt
      by_cases s2 : i + 2 < s.size
      · have hl2 := s[i + 2].toNat_lt
        by_cases s3 : i + 3 < s.size
        · have hl3 := s[i + 3].toNat_lt
          rw [cons_drop s1, cons_drop s2, cons_drop s3, wideR_long (by simp), get_bang s (i + 1) s1, get_bang s (i + 2) s2, get_bang s (i + 3) s3]
          simp only [wideT, show 4 - 1 = 3 from rfl, List.take_succ_cons, List.take_zero, List.all_cons, List.all_nil, Bool.and_true, contV, List.foldl_cons, List.foldl_nil, contB_div, s1, s2, s3, decide_true, Bool.true_and]
          generalize s[i + 1].toNat = a1 at *
          generalize s[i + 2].toNat = a2 at *
          generalize s[i + 3].toNat = a3 at *
          cases q1 : (a1 / 64 == 2)
          · simp only [Bool.false_and, Bool.false_eq_true, if_false]; exact told_no
          cases q2 : (a2 / 64 == 2)
          · simp only [Bool.false_and, Bool.and_false, Bool.false_eq_true, if_false]; exact told_no
          cases q3 : (a3 / 64 == 2)
          · simp only [Bool.and_false, Bool.false_eq_true, if_false]; exact told_no
          have q1' : a1 / 64 = 2 := by simpa using q1
          have q2' : a2 / 64 = 2 := by simpa using q2
          have q3' : a3 / 64 = 2 := by simpa using q3
          simp only [Bool.and_true, if_true]
          have ev : (((b - 240) * 64 + (a1 - 128)) * 64 + (a2 - 128)) * 64 + (a3 - 128) = b % 8 * 262144 + a1 % 64 * 4096 + a2 % 64 * 64 + a3 % 64 := by omega
          rw [ev, valid_iff]
          generalize b % 8 * 262144 + a1 % 64 * 4096 + a2 % 64 * 64 + a3 % 64 = v at *
          by_cases o : v ≥ 65536 ∧ v ≤ 1114111 ∧ ¬ (55296 ≤ v ∧ v < 57344)
          · rw [if_pos (by simp; omega), if_neg (by simp [offV]; omega)]
            exact told_yes (v := 0) (by omega) (by omega)
          · rw [if_neg (by simp; omega), if_pos (by simp [offV]; omega)]
            exact told_no
        · rw [cons_drop s1, cons_drop s2, nil_drop s3, wideR_short (by simp)]
          simp only [s3, decide_false, Bool.false_and, Bool.and_false, Bool.false_eq_true, if_false]
          exact told_no
      · rw [cons_drop s1, nil_drop s2, wideR_short (by simp)]
        simp only [s2, decide_false, Bool.false_and, Bool.and_false, Bool.false_eq_true, if_false]
        exact told_no
    · rw [nil_drop s1, wideR_short (by simp)]
      simp only [s1, decide_false, Bool.false_and, Bool.false_eq_true, if_false]
      exact told_no
  rw [if_neg c5, if_neg (by simp; omega), if_neg (by simp; omega), if_neg (by simp; omega)]
  exact told_no
end Go.Proofs.YtinaeegijmkbhaaGreatDoor
