/-
  Plain: what the library's searches say, in the words of a source's tokens. Of no program.
-/
import Derived.Test.YtinaeegijmkbhaaGreatDoorQ10
import Derived.Lib.Replace
import Derived.Lib.CountLaws
import Derived.Lib.SlTrimSet
import Derived.Lib.IndexMore
set_option linter.unusedVariables false
namespace Go.Proofs.YtinaeegijmkbhaaGreatDoor
open Go.Lib

theorem line_count (l : List UInt8) : lineL l = l.count 10 + 1 := by
  induction l with
  | nil => rfl
  | cons c r ih =>
    rw [lineL, List.count_cons, ih]
    by_cases h : c = 10
    · subst h; simp
    · rw [if_neg h]; simp [h]
/-- A search for one byte. -/
theorem index_one (c : UInt8) : ∀ l : List UInt8, index l [c] = if (l.takeWhile (· ≠ c)).length = l.length then -1 else ((l.takeWhile (· ≠ c)).length : Int)
  | [] => rfl
  | b :: l => by
    unfold index
    by_cases h : b = c
    · subst h
      rw [if_pos (by simp), List.takeWhile_cons, if_neg (by simp)]
      simp
    · have h0 : List.isPrefixOf [c] (b :: l) = false := by simp [List.isPrefixOf, Ne.symm h]
      have hle := List.Sublist.length_le (List.takeWhile_sublist (fun x : UInt8 => decide (x ≠ c)) (l := l))
      have ht : (b :: l).takeWhile (fun x => decide (x ≠ c)) = b :: l.takeWhile (fun x => decide (x ≠ c)) := List.takeWhile_cons_of_pos (by simp [h])
      rw [h0, index_one c l, ht]
      simp only [List.length_cons, Bool.false_eq_true, if_false, Nat.add_right_cancel_iff]
      by_cases e : (l.takeWhile (fun x => decide (x ≠ c))).length = l.length
      · rw [if_pos e, if_pos e]; rfl
      · rw [if_neg e, if_neg e]
        have : (((l.takeWhile (fun x => decide (x ≠ c))).length : Int) == -1) = false := by rw [beq_eq_false_iff_ne]; omega
        rw [this]
        simp
theorem take_len_while (p : UInt8 → Bool) (l : List UInt8) : l.take (l.takeWhile p).length = l.takeWhile p := by
  induction l with
  | nil => rfl
  | cons b l ih =>
    rw [List.takeWhile_cons]
    split
    · simp [ih]
    · rfl
/-- What Cut tells, at one byte. -/
theorem cut_one (c : UInt8) (l : List UInt8) : (cut l [c]).1 = l.takeWhile (· ≠ c) ∧ (cut l [c]).2.2 = decide ((l.takeWhile (· ≠ c)).length ≠ l.length) := by
  have hle := List.Sublist.length_le (List.takeWhile_sublist (fun x : UInt8 => decide (x ≠ c)) (l := l))
  unfold cut
  rw [index_one]
  by_cases e : (l.takeWhile (fun x => decide (x ≠ c))).length = l.length
  · rw [if_pos e, if_neg (by decide)]
    refine ⟨?_, (decide_eq_false (fun h => h e)).symm⟩
    show l = _
    conv => lhs; rw [← List.take_length (l := l), ← e, take_len_while]
  · rw [if_neg e, if_pos (by omega)]
    refine ⟨?_, (decide_eq_true e).symm⟩
    rw [Int.toNat_natCast]
    exact take_len_while _ l
/-- A search for a star and a slash. -/
theorem index_com : ∀ l : List UInt8, index l [42, 47] = match comL l with | none => -1 | some k => (k : Int)
  | [] => rfl
  | [a] => by
    unfold index
    have h0 : List.isPrefixOf [42, 47] [a] = false := by simp [List.isPrefixOf]
    rw [h0]; rfl
  | a :: b :: r => by
    unfold index
    rw [comL]
    by_cases h : a = 42 ∧ b = 47
    · obtain ⟨rfl, rfl⟩ := h
      rw [if_pos (by simp [List.isPrefixOf]), if_pos ⟨rfl, rfl⟩]; rfl
    · have h0 : List.isPrefixOf [42, 47] (a :: b :: r) = false := by
        cases e : List.isPrefixOf [42, 47] (a :: b :: r)
        · rfl
        · simp [List.isPrefixOf] at e
          exact absurd ⟨e.1.symm, e.2.symm⟩ h
      rw [h0, index_com (b :: r), if_neg h]
      cases hc : comL (b :: r) with
      | none => rfl
      | some k =>
        have : ((k : Int) == -1) = false := by rw [beq_eq_false_iff_ne]; omega
        simp [this]
theorem cut_com (l : List UInt8) : (cut l [42, 47]).2.2 = (comL l).isSome ∧ ∀ k, comL l = some k → (cut l [42, 47]).1 = l.take k := by
  unfold cut
  rw [index_com]
  cases h : comL l with
  | none => exact ⟨rfl, fun k hk => nomatch hk⟩
  | some k =>
    show (if 0 ≤ (k : Int) then _ else _ : List UInt8 × List UInt8 × Bool).2.2 = true ∧ _
    rw [if_pos (by omega)]
    exact ⟨rfl, fun j hj => by obtain rfl := Option.some.inj hj; simp⟩
theorem trimSuf_one (c : UInt8) (l : List UInt8) : trimSuffix l [c] = if l.getLast? = some c then l.dropLast else l := by
  unfold trimSuffix hasSuffix
  have e : List.isSuffixOf [c] l = decide (l.getLast? = some c) := by
    rw [Bool.eq_iff_iff, List.isSuffixOf_iff_suffix, decide_eq_true_eq]
    constructor
    · rintro ⟨t, rfl⟩; simp
    · intro h
      obtain ⟨t, rfl⟩ := List.getLast?_eq_some_iff.1 h
      exact ⟨t, rfl⟩
  rw [e]
  by_cases h : l.getLast? = some c
  · rw [if_pos (by simpa using h), if_pos h, List.dropLast_eq_take]; rfl
  · rw [if_neg (by simpa using h), if_neg h]
theorem filter_none {c : UInt8} {l : List UInt8} (h : l.count c = 0) : l.filter (· ≠ c) = l := by
  rw [List.filter_eq_self]
  intro x hx
  simp only [decide_eq_true_eq]
  rintro rfl
  exact absurd (List.count_pos_iff.2 hx) (by omega)
theorem replK_one (c : UInt8) : ∀ (n : Nat) (l : List UInt8), l.count c = n → replaceK [c] [] n l = l.filter (· ≠ c)
  | 0, l, h => by rw [replaceK, filter_none h]
  | n + 1, l, h => by
    have hle := List.Sublist.length_le (List.takeWhile_sublist (fun x : UInt8 => decide (x ≠ c)) (l := l))
    have hne : (l.takeWhile (fun x => decide (x ≠ c))).length ≠ l.length := by
      intro e
      have e2 := take_len_while (fun x : UInt8 => decide (x ≠ c)) l
      rw [e, List.take_length] at e2
      have : l.count c = 0 := by
        rw [List.count_eq_zero]
        intro hx
        rw [e2] at hx
        have := List.all_eq_true.1 (List.all_takeWhile (l := l)) _ hx
        simp at this
      omega
    have hi := index_one c l
    rw [if_neg hne] at hi
    rw [replaceK_hit _ _ _ _ _ hi, List.append_nil, take_len_while]
    have hd : l.drop ((l.takeWhile (fun x => decide (x ≠ c))).length) = c :: l.drop ((l.takeWhile (fun x => decide (x ≠ c))).length + [c].length) := by
      rw [List.drop_eq_getElem_cons (by omega)]
      congr 1
      have hdw := List.takeWhile_append_dropWhile (p := fun x : UInt8 => decide (x ≠ c)) (l := l)
      have hdw2 : l.dropWhile (fun x => decide (x ≠ c)) = l.drop (l.takeWhile (fun x => decide (x ≠ c))).length := by
        have e := congrArg (List.drop (l.takeWhile (fun x => decide (x ≠ c))).length) hdw
        rw [List.drop_left] at e
        exact e
      have hn : l.dropWhile (fun x => decide (x ≠ c)) ≠ [] := by
        rw [hdw2]
        intro e
        have := congrArg List.length e
        rw [List.length_drop, List.length_nil] at this
        omega
      have := List.head_dropWhile_not (fun x : UInt8 => decide (x ≠ c)) hn
      have h2 : (l.dropWhile (fun x => decide (x ≠ c))).head hn = l[(l.takeWhile (fun x => decide (x ≠ c))).length]'(by omega) := by
        simp only [hdw2]
        rw [List.head_drop]
      rw [h2] at this
      simpa using this
    have hsplit : l = l.takeWhile (fun x => decide (x ≠ c)) ++ c :: l.drop ((l.takeWhile (fun x => decide (x ≠ c))).length + [c].length) := by
      conv => lhs; rw [← List.take_append_drop (l.takeWhile (fun x => decide (x ≠ c))).length l, take_len_while, hd]
    generalize hw : l.takeWhile (fun x => decide (x ≠ c)) = a at *
    generalize l.drop (a.length + [c].length) = b at *
    have ha : a.filter (fun x => decide (x ≠ c)) = a := by
      rw [List.filter_eq_self]
      intro x hx
      rw [← hw] at hx
      exact List.all_eq_true.1 (List.all_takeWhile (l := l)) _ hx
    have hac : a.count c = 0 := by
      rw [List.count_eq_zero]
      intro hx
      rw [← ha] at hx
      simp at hx
    rw [replK_one c n b (by rw [hsplit, List.count_append, hac, List.count_cons_self] at h; omega), hsplit, List.filter_append, ha, List.filter_cons, if_neg (by simp)]
theorem repl_one (c : UInt8) (l : List UInt8) : replaceAll l [c] [] = l.filter (· ≠ c) := by
  unfold replaceAll replace
  rw [if_neg (by simp), show replaceNum l [c] (-1) = l.count c by unfold replaceNum; rw [if_pos (.inl (by decide)), count_one]]
  exact replK_one c _ l rfl
theorem byte_in (c : UInt8) : ∀ l : List UInt8, decide (0 ≤ indexByte l c) = l.contains c
  | [] => rfl
  | b :: l => by
    have ih := byte_in c l
    have h1 := indexByte_ge l c
    unfold indexByte
    rw [List.contains_cons]
    by_cases h : b = c
    · subst h; simp
    · have e1 : (b == c) = false := beq_eq_false_iff_ne.2 h
      have e2 : (c == b) = false := beq_eq_false_iff_ne.2 (Ne.symm h)
      rw [e2, Bool.false_or, ← ih]
      simp only [e1, Bool.false_eq_true, if_false]
      by_cases e : indexByte l c = -1
      · simp [e]
      · have : ((indexByte l c) == -1) = false := beq_eq_false_iff_ne.2 e
        simp only [this, Bool.false_eq_true, if_false]
        have h1 : 0 ≤ indexByte l c := by omega
        have h2 : 0 ≤ indexByte l c + 1 := by omega
        simp [h1, h2]
theorem lf_in (l : List UInt8) : l.contains 10 = decide (1 < lineL l) := by
  rw [line_count, Bool.eq_iff_iff, List.contains_iff_mem, decide_eq_true_eq, ← List.count_pos_iff]
  omega
/-- How far it is to the quote that ends a text, in one line. -/
def cutQ : List UInt8 → Option Nat
  | [] => none
  | c :: r => if c = 34 then some 0 else if c = 92 then (match r with | [] => none | _ :: r' => (cutQ r').map (· + 2)) else (cutQ r).map (· + 1)
theorem while_yes {c : UInt8} {r : List UInt8} (h : ¬ c = 10) : (c :: r).takeWhile (· ≠ 10) = c :: r.takeWhile (· ≠ 10) := List.takeWhile_cons_of_pos (by simp [h])
theorem while_no {r : List UInt8} : (10 :: r).takeWhile (· ≠ (10 : UInt8)) = [] := List.takeWhile_cons_of_neg (by simp)
theorem quo_cut : ∀ l : List UInt8, quoL l = cutQ (l.takeWhile (· ≠ 10))
  | [] => rfl
  | [c] => by
    by_cases h : c = 10
    · subst h; rw [while_no]; rfl
    · rw [while_yes h, quoL, if_neg h]
      rfl
  | c :: d :: r => by
    have ih1 := quo_cut (d :: r)
    have ih2 := quo_cut r
    by_cases h : c = 10
    · subst h; rw [while_no]; rfl
    · rw [while_yes h, quoL, if_neg h]
      by_cases h1 : c = 34
      · rw [if_pos h1]; subst h1
        generalize (d :: r).takeWhile (· ≠ 10) = x
        cases x <;> simp [cutQ]
      · rw [if_neg h1]
        by_cases h2 : c = 92
        · rw [if_pos h2]; subst h2
          by_cases h3 : d = 10
          · subst h3; rw [while_no]; rfl
          · rw [while_yes h3]
            simp only [h3, if_false]
            rw [ih2]; rfl
        · rw [if_neg h2, ih1]
          show _ = cutQ (c :: _)
          generalize (d :: r).takeWhile (· ≠ 10) = x
          cases x <;> simp [cutQ, h1, h2]
theorem cutQ_lt : ∀ {l : List UInt8} {k : Nat}, cutQ l = some k → k < l.length
  | [], k, h => by rw [cutQ] at h; cases h
  | [c], k, h => by
    simp only [cutQ] at h
    split at h
    · obtain rfl := Option.some.inj h; simp
    · split at h
      · cases h
      · simp at h
  | c :: d :: r, k, h => by
    rw [cutQ] at h
    split at h
    · obtain rfl := Option.some.inj h; simp
    · split at h
      · rw [Option.map_eq_some_iff] at h
        obtain ⟨j, hj, rfl⟩ := h
        have := cutQ_lt hj
        simp only [List.length_cons]; omega
      · rw [Option.map_eq_some_iff] at h
        obtain ⟨j, hj, rfl⟩ := h
        have := cutQ_lt (l := d :: r) hj
        simp only [List.length_cons] at this ⊢; omega
theorem take_while_take {p : UInt8 → Bool} {l : List UInt8} {k : Nat} (h : k ≤ (l.takeWhile p).length) : (l.takeWhile p).take k = l.take k := by
  have := take_len_while p l
  conv => lhs; rw [← this]
  rw [List.take_take, Nat.min_eq_left h]
/-- The blanks ahead of a token. -/
theorem blank_set (semi : Bool) (l : List UInt8) : l.length - (trimLeftS l (if semi then [32, 9, 13] else [32, 9, 13, 10])).length = blanks semi l := by
  unfold trimLeftS blanks
  have hp : ((if semi then [32, 9, 13] else [32, 9, 13, 10] : List UInt8).contains ·) = blankB semi := by
    funext c
    cases semi
    · simp only [Bool.false_eq_true, if_false, List.contains_cons, List.contains_nil, blankB, Bool.not_false, Bool.and_true, Bool.or_false, Bool.or_assoc]
    · simp only [if_true, List.contains_cons, List.contains_nil, blankB, Bool.not_true, Bool.and_false, Bool.or_false, Bool.or_assoc]
  rw [hp]
  have h1 := congrArg List.length (List.takeWhile_append_dropWhile (p := blankB semi) (l := l))
  rw [List.length_append] at h1
  omega
end Go.Proofs.YtinaeegijmkbhaaGreatDoor
