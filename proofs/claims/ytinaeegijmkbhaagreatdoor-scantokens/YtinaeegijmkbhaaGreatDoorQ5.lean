/-
  The document's own scanner: what stands between quotes.
-/
import Derived.Test.YtinaeegijmkbhaaGreatDoorQ4
set_option linter.unusedVariables false
namespace Go.Proofs.YtinaeegijmkbhaaGreatDoor
open Go.RowKit Go.Shelf

/-- How far a quoted text is read. -/
def UnqTo (s : ByteArray) (acc : List UInt8) (k : Nat) : Prop := unqL s.data.toList = (unqL (s.data.toList.drop k)).map (acc ++ ·)
theorem unq_nil : unqL [] = some [] := by rw [unqL]
theorem unq_bad {c : UInt8} {r : List UInt8} (h : c = 10 ∨ c = 34) : unqL (c :: r) = none := by rw [unqL, if_pos h]
theorem unq_on {c : UInt8} {r : List UInt8} (h : ¬ (c = 10 ∨ c = 34)) (k : c ≠ 92) : unqL (c :: r) = (unqL r).map (c :: ·) := by rw [unqL, if_neg h, if_pos k]
theorem unq_no {r : List UInt8} (e : (escL r).1 = []) : unqL (92 :: r) = none := by rw [unqL, if_neg (by decide), if_neg (by decide), if_pos e]
theorem unq_esc {r : List UInt8} (e : (escL r).1 ≠ []) : unqL (92 :: r) = (unqL (r.drop (escL r).2)).map ((escL r).1 ++ ·) := by rw [unqL, if_neg (by decide), if_neg (by decide), if_neg e]
theorem UnqTo.start (s : ByteArray) : UnqTo s [] 0 := by
  unfold UnqTo
  rw [List.drop_zero]
  cases unqL s.data.toList <;> simp
theorem UnqTo.done {s : ByteArray} {acc : List UInt8} {k : Nat} (h : UnqTo s acc k) (hk : s.size ≤ k) : unqL s.data.toList = some acc := by
  unfold UnqTo at h
  rw [h, List.drop_of_length_le (by rw [size_data]; exact hk), unq_nil]; simp
theorem UnqTo.bad {s : ByteArray} {acc : List UInt8} {k : Nat} (h : UnqTo s acc k) (hk : k < s.size) (e : s[k] = 10 ∨ s[k] = 34) : unqL s.data.toList = none := by
  unfold UnqTo at h
  rw [h, drop_get s k hk, unq_bad e]; rfl
theorem UnqTo.on {s : ByteArray} {acc : List UInt8} {k : Nat} (h : UnqTo s acc k) (hk : k < s.size) (e : ¬ (s[k] = 10 ∨ s[k] = 34)) (e' : s[k] ≠ 92) : UnqTo s (acc ++ [s[k]]) (k + 1) := by
  unfold UnqTo at h ⊢
  rw [h, drop_get s k hk, unq_on e e']
  cases unqL (s.data.toList.drop (k + 1)) <;> simp
theorem UnqTo.no {s : ByteArray} {acc : List UInt8} {k : Nat} (h : UnqTo s acc k) (hk : k < s.size) (e : s[k] = 92) (e' : (escL (s.data.toList.drop (k + 1))).1 = []) : unqL s.data.toList = none := by
  unfold UnqTo at h
  rw [h, drop_get s k hk, e, unq_no e']; rfl
theorem UnqTo.esc {s : ByteArray} {acc : List UInt8} {k : Nat} (h : UnqTo s acc k) (hk : k < s.size) (e : s[k] = 92) (e' : (escL (s.data.toList.drop (k + 1))).1 ≠ []) : UnqTo s (acc ++ (escL (s.data.toList.drop (k + 1))).1) (k + 1 + (escL (s.data.toList.drop (k + 1))).2) := by
  unfold UnqTo at h ⊢
  rw [h, drop_get s k hk, e, unq_esc e', List.drop_drop]
  cases unqL (s.data.toList.drop (k + 1 + (escL (s.data.toList.drop (k + 1))).2)) <;> simp
/-- What comes of it. -/
def unqO (l : List UInt8) : ByteArray × Bool := match unqL l with
  | none => (⟨#[]⟩, false)
  | some t => (mkB t, true)
theorem unqO_none {l : List UInt8} (h : unqL l = none) : unqO l = (⟨#[]⟩, false) := by simp [unqO, h]
theorem unqO_some {l t : List UInt8} (h : unqL l = some t) : unqO l = (mkB t, true) := by simp [unqO, h]

/-- The table of what a backslash says. -/
def fromL : List UInt8 := [97, 98, 102, 110, 114, 116, 118, 92, 34]
def toL : List UInt8 := [7, 8, 12, 10, 13, 9, 11, 92, 34]
def escTo (c : UInt8) : Nat → List UInt8
  | 0 => []
  | k + 1 => if fromL[k]? = some c then (match toL[k]? with | some d => [d] | none => []) else escTo c k
theorem escTo_all (c : UInt8) : escTo c 9 = escB c := by
  simp only [escTo, fromL, toL, escB, List.getElem?_cons_zero, List.getElem?_cons_succ, Option.some.injEq]
  by_cases h1 : c = 97
  · subst h1; decide
  by_cases h2 : c = 98
  · subst h2; decide
  by_cases h3 : c = 102
  · subst h3; decide
  by_cases h4 : c = 110
  · subst h4; decide
  by_cases h5 : c = 114
  · subst h5; decide
  by_cases h6 : c = 116
  · subst h6; decide
  by_cases h7 : c = 118
  · subst h7; decide
  by_cases h8 : c = 92
  · subst h8; decide
  by_cases h9 : c = 34
  · subst h9; decide
  simp [h1, h2, h3, h4, h5, h6, h7, h8, h9, Ne.symm h1, Ne.symm h2, Ne.symm h3, Ne.symm h4, Ne.symm h5, Ne.symm h6, Ne.symm h7, Ne.symm h8, Ne.symm h9]
theorem escTo_one {s T : ByteArray} {c : UInt8} {k : Nat} (hF : s.data.toList = fromL) (hT : T.data.toList = toL) (hk : k < s.size) (hk' : k < T.size) (e : ((s[k].toNat : Int) == (c.toNat : Int)) = true) : escTo c (k + 1) = [T[k]] := by
  rw [escTo, ← hF, ← hT, get_data s k hk, get_data T k hk', if_pos (by rw [byte_eq e])]
theorem escTo_off {s : ByteArray} {c : UInt8} {k : Nat} (hF : s.data.toList = fromL) (hk : k < s.size) (e : ((s[k].toNat : Int) == (c.toNat : Int)) = false) : escTo c (k + 1) = escTo c k := by
  rw [escTo, ← hF, get_data s k hk, if_neg (fun x => by rw [Option.some.inj x] at e; simp at e)]
theorem esc_end {s : ByteArray} {k : Nat} (h : s.size ≤ k) : escL (s.data.toList.drop k) = ([], 0) := by
  rw [List.drop_of_length_le (by rw [size_data]; exact h)]; rfl
theorem esc_1 {c : UInt8} {r : List UInt8} (h : escB c ≠ []) : escL (c :: r) = (escB c, 1) := by rw [escL, if_pos h]
theorem esc_2 {c : UInt8} {r : List UInt8} (h : escB c = []) (d : digB c = true) (n : 0 ≤ numL 3 8 (c :: r) ∧ numL 3 8 (c :: r) < 256) : escL (c :: r) = ([oct8 (numL 3 8 (c :: r))], 3) := by rw [escL, if_neg (by simp [h]), if_pos d, if_pos n]
theorem esc_2n {c : UInt8} {r : List UInt8} (h : escB c = []) (d : digB c = true) (n : ¬ (0 ≤ numL 3 8 (c :: r) ∧ numL 3 8 (c :: r) < 256)) : escL (c :: r) = ([], 3) := by rw [escL, if_neg (by simp [h]), if_pos d, if_neg n]
theorem esc_3 {r : List UInt8} (n : 0 ≤ numL 2 16 r) : escL (120 :: r) = ([oct8 (numL 2 16 r)], 3) := by rw [escL, if_neg (by decide), if_neg (by decide), if_pos rfl, if_pos n]
theorem esc_3n {r : List UInt8} (n : ¬ 0 ≤ numL 2 16 r) : escL (120 :: r) = ([], 3) := by rw [escL, if_neg (by decide), if_neg (by decide), if_pos rfl, if_neg n]
theorem esc_4 {r : List UInt8} : escL (117 :: r) = (utfL (numL 4 16 r), 5) := by rw [escL, if_neg (by decide), if_neg (by decide), if_neg (by decide), if_pos rfl]
theorem esc_5 {r : List UInt8} : escL (85 :: r) = (utfL (numL 8 16 r), 9) := by rw [escL, if_neg (by decide), if_neg (by decide), if_neg (by decide), if_neg (by decide), if_pos rfl]
theorem esc_6 {c : UInt8} {r : List UInt8} (h : escB c = []) (d : digB c = false) (h1 : c ≠ 120) (h2 : c ≠ 117) (h3 : c ≠ 85) : escL (c :: r) = ([], 1) := by rw [escL, if_neg (by simp [h]), d, if_neg (by decide), if_neg h1, if_neg h2, if_neg h3]

theorem numF_range {base : Int} (hb : base ≤ 16) (hb2 : 2 ≤ base) : ∀ (l : List UInt8) (n : Int) (j : Nat), 0 ≤ n → n < 16 ^ j → -1 ≤ numF base n l ∧ numF base n l < 16 ^ (j + l.length)
  | [], n, j, h0, h1 => by unfold numF; exact ⟨by omega, h1⟩
  | c :: r, n, j, h0, h1 => by
    unfold numF
    split
    · exact ⟨by omega, by have := Int.pow_pos (n := 16) (m := j + (c :: r).length) (by decide); omega⟩
    · rename_i hc
      have hc' : 0 ≤ hexV c ∧ hexV c < base := by omega
      have e1 : (n + 1) * base ≤ 16 ^ j * 16 := Int.le_trans (Int.mul_le_mul_of_nonneg_right (show n + 1 ≤ 16 ^ j by omega) (by omega)) (Int.mul_le_mul_of_nonneg_left hb (by omega))
      rw [Int.add_mul] at e1
      have e2 : 0 ≤ n * base := Int.mul_nonneg h0 (by omega)
      have := numF_range hb hb2 r (n * base + hexV c) (j + 1) (by omega) (by rw [Int.pow_succ]; omega)
      rw [show j + (c :: r).length = j + 1 + r.length by simp only [List.length_cons]; omega]
      exact this
theorem numL_range {many : Nat} {base : Int} (hb : base ≤ 16) (hb2 : 2 ≤ base) (hm : many ≤ 8) (l : List UInt8) : -1 ≤ numL many base l ∧ numL many base l < 16 ^ 8 := by
  unfold numL
  split
  · decide
  · obtain ⟨h1, h2⟩ := numF_range hb hb2 (l.take many) 0 0 (by decide) (by decide)
    refine ⟨h1, Int.lt_of_lt_of_le h2 ?_⟩
    have : 0 + (l.take many).length ≤ 8 := by rw [List.length_take]; omega
    exact_mod_cast Nat.pow_le_pow_right (by decide : 0 < 16) this
theorem numL_lt {many : Nat} {base : Int} (hb : base ≤ 16) (hb2 : 2 ≤ base) (l : List UInt8) : numL many base l < 16 ^ many := by
  unfold numL
  split
  · have := Int.pow_pos (n := 16) (m := many) (by decide); omega
  · obtain ⟨h1, h2⟩ := numF_range hb hb2 (l.take many) 0 0 (by decide) (by decide)
    refine Int.lt_of_lt_of_le h2 ?_
    have : 0 + (l.take many).length ≤ many := by rw [List.length_take]; omega
    exact_mod_cast Nat.pow_le_pow_right (by decide : 0 < 16) this
theorem numL_len {many : Nat} {base : Int} {l : List UInt8} (h : 0 ≤ numL many base l) : many ≤ l.length := by
  by_cases e : l.length < many
  · rw [numL_short e] at h; omega
  · omega
theorem utfL_neg {r : Int} (h : r < 0) : utfL r = [] := by unfold utfL; rw [if_pos (.inl h)]
theorem utfL_len (r : Int) : (utfL r).length ≤ 4 := by
  unfold utfL
  split
  · simp
  · split
    · simp
    · split
      · simp
      · split <;> simp
theorem escB_len (c : UInt8) : (escB c).length ≤ 1 := by
  unfold escB
  repeat' split
  all_goals simp
theorem mkB_empty {l : List UInt8} (h : l = []) : (mkB l).toList.isEmpty = true := by subst h; rw [Lib.toList_data]; rfl
theorem mkB_full {l : List UInt8} (h : l ≠ []) : (mkB l).toList.isEmpty = false := by
  rw [Lib.toList_data]
  cases l with
  | nil => exact absurd rfl h
  | cons c r => rfl
theorem mkB_size (l : List UInt8) : (mkB l).size = l.length := rfl
theorem app_list (a : ByteArray) (l : List UInt8) : (a ++ mkB l).data.toList = a.data.toList ++ l := by
  rw [ByteArray.data_append, Array.toList_append, data_mkB]
end Go.Proofs.YtinaeegijmkbhaaGreatDoor
