/-
  The document's own scanner: one token (plain).
-/
import Derived.Test.YtinaeegijmkbhaaGreatDoorQ7
import Derived.Test.YtinaeegijmkbhaaGreatDoorQ6
set_option linter.unusedVariables false
namespace Go.Proofs.YtinaeegijmkbhaaGreatDoor
open Go.RowKit Go.Shelf

/-- How far a run of bytes goes. -/
def RunTo (p : UInt8 → Bool) (s : ByteArray) (k : Nat) : Prop := k ≤ s.size ∧ (s.data.toList.take k).all p = true
theorem RunTo.start (p : UInt8 → Bool) (s : ByteArray) : RunTo p s 0 := ⟨Nat.zero_le _, rfl⟩
theorem RunTo.on {p : UInt8 → Bool} {s : ByteArray} {k : Nat} (h : RunTo p s k) (hk : k < s.size) (e : p s[k] = true) : RunTo p s (k + 1) := by
  refine ⟨hk, ?_⟩
  rw [take_snoc s k hk, List.all_append, h.2]; simp [e]
theorem takeWhile_split {α : Type} {p : α → Bool} : ∀ {a b : List α}, a.all p = true → (b = [] ∨ ∃ c r, b = c :: r ∧ p c = false) → (a ++ b).takeWhile p = a
  | [], b, _, h => by
    rcases h with rfl | ⟨c, r, rfl, hc⟩
    · rfl
    · rw [List.nil_append, List.takeWhile_cons, hc]; rfl
  | x :: a, b, ha, h => by
    rw [List.all_cons, Bool.and_eq_true] at ha
    rw [List.cons_append, List.takeWhile_cons, ha.1, if_pos rfl, takeWhile_split ha.2 h]
theorem RunTo.stop {p : UInt8 → Bool} {s : ByteArray} {k : Nat} (h : RunTo p s k) (e : s.size ≤ k ∨ ∃ hk : k < s.size, p s[k] = false) : s.data.toList.takeWhile p = s.data.toList.take k ∧ (s.data.toList.takeWhile p).length = k := by
  have hh : s.data.toList.takeWhile p = s.data.toList.take k := by
    conv => lhs; rw [← List.take_append_drop k s.data.toList]
    refine takeWhile_split h.2 ?_
    rcases e with e | ⟨hk, e⟩
    · exact .inl (List.drop_of_length_le (by rw [size_data]; exact e))
    · exact .inr ⟨_, _, drop_get s k hk, e⟩
  refine ⟨hh, ?_⟩
  rw [hh, List.length_take, size_data]; have := h.1; omega
theorem extract_zero (s : ByteArray) (k : Nat) : s.extract 0 k = mkB (s.data.toList.take k) := by
  have : (s.extract 0 k).data.toList = s.data.toList.take k := by rw [extract_mid, List.drop_zero, Nat.sub_zero]
  rw [← mkB_data (s.extract 0 k), this]

/-! The kinds of tokens. -/
theorem tok_nil : tokL [] = some (0, [], 0) := rfl
theorem tok_name {c : UInt8} {r : List UInt8} (h : letB c = true) : tokL (c :: r) = some (1, (c :: r).takeWhile nameB, ((c :: r).takeWhile nameB).length) := by rw [tokL, if_pos h]
theorem tok_raw {r : List UInt8} : tokL (96 :: r) = if (r.takeWhile (· ≠ 96)).length = r.length then none else some (2, (r.takeWhile (· ≠ 96)).filter (· ≠ 13), (r.takeWhile (· ≠ 96)).length + 2) := by rw [tokL, if_neg (by decide), if_pos rfl]
theorem tok_quo {r : List UInt8} : tokL (34 :: r) = match quoL r with | none => none | some k => (unqL (r.take k)).map fun u => (2, u, k + 2) := by rw [tokL, if_neg (by decide), if_neg (by decide), if_pos rfl]; rfl
theorem tok_line {r : List UInt8} : tokL (47 :: 47 :: r) = if ((47 :: 47 :: r).takeWhile (· ≠ 10)).getLast? = some 13 then some (4, ((47 :: 47 :: r).takeWhile (· ≠ 10)).dropLast, ((47 :: 47 :: r).takeWhile (· ≠ 10)).length) else some (4, (47 :: 47 :: r).takeWhile (· ≠ 10), ((47 :: 47 :: r).takeWhile (· ≠ 10)).length) := by
  rw [tokL, if_neg (by decide), if_neg (by decide), if_neg (by decide), if_pos ⟨rfl, rfl⟩]
theorem tok_long {r : List UInt8} : tokL (47 :: 42 :: r) = match comL r with | none => none | some k => some (4, (47 :: 42 :: r).take (k + 4), k + 4) := by
  rw [tokL, if_neg (by decide), if_neg (by decide), if_neg (by decide), if_neg (by simp), if_pos ⟨rfl, rfl⟩]; rfl
theorem tok_sign {c : UInt8} {r : List UInt8} (h : letB c = false) (h1 : c ≠ 96) (h2 : c ≠ 34) (h3 : ¬ (c = 47 ∧ r.head? = some 47)) (h4 : ¬ (c = 47 ∧ r.head? = some 42)) : tokL (c :: r) = some (3, [c], 1) := by
  rw [tokL, h, if_neg (by simp), if_neg h1, if_neg h2, if_neg h3, if_neg h4]

/-! In backquotes. -/
def segL (q : ByteArray) (m : Nat) : List UInt8 := (q.data.toList.drop 1).take (m - 1)
theorem seg_on {q : ByteArray} {m : Nat} (h1 : 1 ≤ m) (h : m < q.size) : segL q (m + 1) = segL q m ++ [q[m]] := by
  unfold segL
  have hl : m - 1 < (q.data.toList.drop 1).length := by rw [List.length_drop, size_data]; omega
  rw [show m + 1 - 1 = (m - 1) + 1 by omega, List.take_succ_eq_append_getElem hl, List.getElem_drop]
  have : 1 + (m - 1) = m := by omega
  simp only [this]
  rw [get_list q m h]
structure RawTo (q : ByteArray) (m : Nat) (acc : ByteArray) : Prop where
  lo : 1 ≤ m
  hi : m ≤ q.size
  run : (segL q m).all (· ≠ 96) = true
  acc : acc.data.toList = (segL q m).filter (· ≠ 13)
theorem RawTo.start {q : ByteArray} (h : 1 ≤ q.size) : RawTo q 1 ⟨#[]⟩ := ⟨Nat.le_refl _, h, rfl, rfl⟩
theorem RawTo.on {q : ByteArray} {m : Nat} {acc : ByteArray} (h : RawTo q m acc) (hm : m < q.size) (e : q[m] ≠ 96) (e' : q[m] ≠ 13) : RawTo q (m + 1) (acc ++ q.extract m (m + 1)) := by
  refine ⟨by omega, hm, ?_, ?_⟩
  · rw [seg_on h.lo hm, List.all_append, h.run]; simp [e]
  · rw [seg_on h.lo hm, List.filter_append, ← h.acc, app_one acc hm]; simp [e']
theorem RawTo.skip {q : ByteArray} {m : Nat} {acc : ByteArray} (h : RawTo q m acc) (hm : m < q.size) (e : q[m] ≠ 96) (e' : q[m] = 13) : RawTo q (m + 1) acc := by
  refine ⟨by omega, hm, ?_, ?_⟩
  · rw [seg_on h.lo hm, List.all_append, h.run]; simp [e]
  · rw [seg_on h.lo hm, List.filter_append, ← h.acc]; simp [e']
theorem drop_one_split {q : ByteArray} {m : Nat} (h1 : 1 ≤ m) : q.data.toList.drop 1 = segL q m ++ q.data.toList.drop m := by
  unfold segL
  conv => lhs; rw [← List.take_append_drop (m - 1) (q.data.toList.drop 1)]
  rw [List.drop_drop, show 1 + (m - 1) = m by omega]
theorem seg_len {q : ByteArray} {m : Nat} (h1 : 1 ≤ m) (h : m ≤ q.size) : (segL q m).length = m - 1 := by
  unfold segL; rw [List.length_take, List.length_drop, size_data]; omega
theorem RawTo.hit {q : ByteArray} {m : Nat} {acc : ByteArray} (h : RawTo q m acc) (hm : m < q.size) (e : q[m] = 96) (h0 : 0 < q.size) (hc : q[0] = 96) : tokL q.data.toList = some (2, acc.data.toList, m + 1) := by
  have hw : (q.data.toList.drop 1).takeWhile (· ≠ 96) = segL q m := by
    rw [drop_one_split h.lo]
    exact takeWhile_split h.run (.inr ⟨_, _, drop_get q m hm, by simp [e]⟩)
  have hne : ¬ (m - 1 = (q.data.toList.drop 1).length) := by rw [List.length_drop, size_data]; have := h.lo; omega
  rw [wide_head h0, hc, tok_raw, hw, seg_len h.lo h.hi, if_neg hne, ← h.acc, show m - 1 + 2 = m + 1 by have := h.lo; omega]
theorem RawTo.fin {q : ByteArray} {m : Nat} {acc : ByteArray} (h : RawTo q m acc) (hm : q.size ≤ m) (h0 : 0 < q.size) (hc : q[0] = 96) : tokL q.data.toList = none := by
  have hw : (q.data.toList.drop 1).takeWhile (· ≠ 96) = segL q m := by
    conv => lhs; rw [drop_one_split (m := m) h.lo]
    exact takeWhile_split h.run (.inl (List.drop_of_length_le (by rw [size_data]; exact hm)))
  have he : m - 1 = (q.data.toList.drop 1).length := by rw [List.length_drop, size_data]; have := h.hi; omega
  rw [wide_head h0, hc, tok_raw, hw, seg_len h.lo h.hi, if_pos he]

/-! In quotes. -/
def QuoTo (q : ByteArray) (m : Nat) : Prop := 1 ≤ m ∧ quoL (q.data.toList.drop 1) = (quoL (q.data.toList.drop m)).map (· + (m - 1))
theorem QuoTo.start (q : ByteArray) : QuoTo q 1 := ⟨Nat.le_refl _, by cases quoL (q.data.toList.drop 1) <;> simp⟩
theorem quo_nil : quoL [] = none := by rw [quoL]
theorem quo_10 {r : List UInt8} : quoL (10 :: r) = none := by cases r <;> simp [quoL]
theorem quo_34 {r : List UInt8} : quoL (34 :: r) = some 0 := by cases r <;> simp [quoL]
theorem quo_92e : quoL [92] = none := by simp [quoL]
theorem quo_92n {r : List UInt8} : quoL (92 :: 10 :: r) = none := by simp [quoL]
theorem quo_92 {d : UInt8} {r : List UInt8} (h : d ≠ 10) : quoL (92 :: d :: r) = (quoL r).map (· + 2) := by simp [quoL, h]
theorem quo_on {c : UInt8} {r : List UInt8} (h1 : c ≠ 10) (h2 : c ≠ 34) (h3 : c ≠ 92) : quoL (c :: r) = (quoL r).map (· + 1) := by cases r <;> simp [quoL, h1, h2, h3]
theorem QuoTo.fin {q : ByteArray} {m : Nat} (h : QuoTo q m) (hm : q.size ≤ m) : quoL (q.data.toList.drop 1) = none := by
  rw [h.2, List.drop_of_length_le (by rw [size_data]; exact hm), quo_nil]; rfl
theorem QuoTo.feed {q : ByteArray} {m : Nat} (h : QuoTo q m) (hm : m < q.size) (e : q[m] = 10) : quoL (q.data.toList.drop 1) = none := by
  rw [h.2, drop_get q m hm, e, quo_10]; rfl
theorem QuoTo.hit {q : ByteArray} {m : Nat} (h : QuoTo q m) (hm : m < q.size) (e : q[m] = 34) : quoL (q.data.toList.drop 1) = some (m - 1) := by
  rw [h.2, drop_get q m hm, e, quo_34]; simp
theorem QuoTo.on {q : ByteArray} {m : Nat} (h : QuoTo q m) (hm : m < q.size) (h1 : q[m] ≠ 10) (h2 : q[m] ≠ 34) (h3 : q[m] ≠ 92) : QuoTo q (m + 1) := by
  refine ⟨by omega, ?_⟩
  rw [h.2, drop_get q m hm, quo_on h1 h2 h3]
  cases quoL (q.data.toList.drop (m + 1)) with
  | none => rfl
  | some k => simp; have := h.1; omega
theorem QuoTo.back {q : ByteArray} {m : Nat} (h : QuoTo q m) (hm : m + 1 < q.size) (e : q[m]'(by omega) = 92) (h1 : q[m + 1] ≠ 10) : QuoTo q (m + 2) := by
  refine ⟨by omega, ?_⟩
  rw [h.2, drop_get q m (by omega), e, drop_get q (m + 1) hm, quo_92 h1]
  cases quoL (q.data.toList.drop (m + 1 + 1)) with
  | none => rfl
  | some k => simp; have := h.1; omega
theorem QuoTo.backfeed {q : ByteArray} {m : Nat} (h : QuoTo q m) (hm : m + 1 < q.size) (e : q[m]'(by omega) = 92) (h1 : q[m + 1] = 10) : quoL (q.data.toList.drop 1) = Option.none := by
  rw [h.2, drop_get q m (by omega), e, drop_get q (m + 1) hm, h1, quo_92n]; rfl
theorem QuoTo.backend {q : ByteArray} {m : Nat} (h : QuoTo q m) (hm : m + 1 = q.size) (e : q[m]'(by omega) = 92) : quoL (q.data.toList.drop 1) = Option.none := by
  rw [h.2, drop_get q m (by omega), e, List.drop_of_length_le (by rw [size_data]; omega), quo_92e]; rfl
theorem QuoTo.over {q : ByteArray} {m : Nat} (h : QuoTo q m) (hm : m + 1 = q.size) (e : q[m]'(by omega) = 92) : QuoTo q (m + 2) := by
  refine ⟨by omega, ?_⟩
  rw [h.backend hm e, List.drop_of_length_le (by rw [size_data]; omega), quo_nil]; rfl
theorem tokQ_none {q : ByteArray} (h0 : 0 < q.size) (hc : q[0] = 34) (h : quoL (q.data.toList.drop 1) = none) : tokL q.data.toList = none := by
  rw [wide_head h0, hc, tok_quo, h]
theorem tokQ_no {q : ByteArray} (h0 : 0 < q.size) (hc : q[0] = 34) {k : Nat} (h : quoL (q.data.toList.drop 1) = some k) (u : unqL ((q.data.toList.drop 1).take k) = none) : tokL q.data.toList = none := by
  rw [wide_head h0, hc, tok_quo, h]; simp only [u]; rfl
theorem tokQ_some {q : ByteArray} (h0 : 0 < q.size) (hc : q[0] = 34) {k : Nat} (h : quoL (q.data.toList.drop 1) = some k) {x : List UInt8} (u : unqL ((q.data.toList.drop 1).take k) = some x) : tokL q.data.toList = some (2, x, k + 2) := by
  rw [wide_head h0, hc, tok_quo, h]; simp only [u]; rfl

/-! Comments. -/
def ComTo (q : ByteArray) (m : Nat) : Prop := 2 ≤ m ∧ comL (q.data.toList.drop 2) = (comL (q.data.toList.drop m)).map (· + (m - 2))
theorem ComTo.start (q : ByteArray) : ComTo q 2 := ⟨Nat.le_refl _, by cases comL (q.data.toList.drop 2) <;> simp⟩
theorem com_hit {r : List UInt8} : comL (42 :: 47 :: r) = some 0 := by rw [comL, if_pos ⟨rfl, rfl⟩]
theorem com_on {a b : UInt8} {r : List UInt8} (h : ¬ (a = 42 ∧ b = 47)) : comL (a :: b :: r) = (comL (b :: r)).map (· + 1) := by rw [comL, if_neg h]
theorem ComTo.fin {q : ByteArray} {m : Nat} (h : ComTo q m) (hm : q.size ≤ m + 1) : comL (q.data.toList.drop 2) = none := by
  rw [h.2]
  by_cases e : m < q.size
  · rw [drop_get q m e, List.drop_of_length_le (by rw [size_data]; exact hm)]; simp [comL]
  · rw [List.drop_of_length_le (by rw [size_data]; omega)]; simp [comL]
theorem ComTo.hit {q : ByteArray} {m : Nat} (h : ComTo q m) (hm : m + 1 < q.size) (e : q[m]'(by omega) = 42) (e' : q[m + 1] = 47) : comL (q.data.toList.drop 2) = some (m - 2) := by
  rw [h.2, drop_get q m (by omega), drop_get q (m + 1) hm, e, e', com_hit]; simp
theorem ComTo.on {q : ByteArray} {m : Nat} (h : ComTo q m) (hm : m + 1 < q.size) (e : ¬ (q[m]'(by omega) = 42 ∧ q[m + 1] = 47)) : ComTo q (m + 1) := by
  refine ⟨by have := h.1; omega, ?_⟩
  rw [h.2, drop_get q m (by omega), drop_get q (m + 1) hm, com_on e]
  cases comL (q[m + 1] :: q.data.toList.drop (m + 1 + 1)) with
  | none => rfl
  | some k => simp; have := h.1; omega
theorem head_two {q : ByteArray} (h1 : 1 < q.size) : q.data.toList = q[0]'(by omega) :: q[1] :: q.data.toList.drop 2 := by
  conv => lhs; rw [wide_head (by omega : 0 < q.size), drop_get q 1 h1]
theorem tokC_none {q : ByteArray} (h1 : 1 < q.size) (hc : q[0]'(by omega) = 47) (hd : q[1] = 42) (h : comL (q.data.toList.drop 2) = none) : tokL q.data.toList = none := by
  rw [head_two h1, hc, hd, tok_long, h]
theorem tokC_some {q : ByteArray} (h1 : 1 < q.size) (hc : q[0]'(by omega) = 47) (hd : q[1] = 42) {k : Nat} (h : comL (q.data.toList.drop 2) = some k) : tokL q.data.toList = some (4, q.data.toList.take (k + 4), k + 4) := by
  have e := head_two h1
  rw [hc, hd] at e
  rw [e, tok_long, h]
theorem tokL_cut {q : ByteArray} (h1 : 1 < q.size) (hc : q[0]'(by omega) = 47) (hd : q[1] = 47) {n : Nat} (hn : 0 < n) (hn' : n ≤ q.size) (hw : q.data.toList.takeWhile (· ≠ 10) = q.data.toList.take n ∧ (q.data.toList.takeWhile (· ≠ 10)).length = n) :
    tokL q.data.toList = if q[n - 1]'(by omega) = 13 then some (4, q.data.toList.take (n - 1), n) else some (4, q.data.toList.take n, n) := by
  have e := head_two h1
  rw [hc, hd] at e
  have k := tok_line (r := q.data.toList.drop 2)
  rw [← e] at k
  rw [k, hw.1]
  have hlen : (q.data.toList.take n).length = n := by rw [List.length_take, size_data]; omega
  have hs : q.data.toList.take n = q.data.toList.take (n - 1) ++ [q[n - 1]'(by omega)] := by
    conv => lhs; rw [show n = n - 1 + 1 by omega]
    rw [take_snoc q (n - 1) (by omega)]
  rw [hlen]
  have hgl : (q.data.toList.take n).getLast? = some (q[n - 1]'(by omega)) := by rw [hs]; simp
  have hdl : (q.data.toList.take n).dropLast = q.data.toList.take (n - 1) := by rw [hs]; simp
  rw [hgl, hdl]
  simp
theorem tokL_cr {q : ByteArray} (h1 : 1 < q.size) (hc : q[0]'(by omega) = 47) (hd : q[1] = 47) {n : Nat} (hn' : n < q.size) (hw : q.data.toList.takeWhile (fun c => decide (c ≠ 10)) = q.data.toList.take (n + 1) ∧ (q.data.toList.takeWhile (fun c => decide (c ≠ 10))).length = n + 1) (e : q[n] = 13) : tokL q.data.toList = some (4, q.data.toList.take n, n + 1) := by
  have := tokL_cut h1 hc hd (n := n + 1) (by omega) hn' hw
  simp only [Nat.add_sub_cancel] at this
  rw [this, if_pos e]
theorem tokL_nocr {q : ByteArray} (h1 : 1 < q.size) (hc : q[0]'(by omega) = 47) (hd : q[1] = 47) {n : Nat} (hn' : n < q.size) (hw : q.data.toList.takeWhile (fun c => decide (c ≠ 10)) = q.data.toList.take (n + 1) ∧ (q.data.toList.takeWhile (fun c => decide (c ≠ 10))).length = n + 1) (e : q[n] ≠ 13) : tokL q.data.toList = some (4, q.data.toList.take (n + 1), n + 1) := by
  have := tokL_cut h1 hc hd (n := n + 1) (by omega) hn' hw
  simp only [Nat.add_sub_cancel] at this
  rw [this, if_neg e]
theorem tok_kind {l t : List UInt8} {kd n : Nat} (h : tokL l = some (kd, t, n)) : kd ≤ 4 := by
  cases l with
  | nil => rw [tok_nil] at h; simp at h; omega
  | cons c r =>
    rw [tokL] at h
    split at h
    · simp at h; omega
    · split at h
      · split at h
        · cases h
        · simp at h; omega
      · split at h
        · split at h
          · cases h
          · rw [Option.map_eq_some_iff] at h
            obtain ⟨u, -, h⟩ := h
            simp at h; omega
        · split at h
          · split at h <;> simp at h <;> omega
          · split at h
            · split at h
              · cases h
              · simp at h; omega
            · simp at h; omega
theorem tok_four {l t : List UInt8} {n : Nat} (h : tokL l = some (4, t, n)) : t.length ≤ l.length := by
  cases l with
  | nil => rw [tok_nil] at h; simp at h
  | cons c r =>
    have hw : ((c :: r).takeWhile (fun x => decide (x ≠ 10))).length ≤ (c :: r).length := List.Sublist.length_le (List.takeWhile_sublist _)
    rw [tokL] at h
    split at h
    · simp at h
    · split at h
      · split at h
        · cases h
        · simp at h
      · split at h
        · split at h
          · cases h
          · rw [Option.map_eq_some_iff] at h
            obtain ⟨u, -, h⟩ := h
            simp at h
        · split at h
          · split at h
            · simp only [Option.some.injEq, Prod.mk.injEq, true_and] at h
              rw [← h.1, List.length_dropLast]; omega
            · simp only [Option.some.injEq, Prod.mk.injEq, true_and] at h
              rw [← h.1]; exact hw
          · split at h
            · split at h
              · cases h
              · simp only [Option.some.injEq, Prod.mk.injEq, true_and] at h
                rw [← h.1, List.length_take]; omega
            · simp at h
theorem tokS_sign {q : ByteArray} (h0 : 0 < q.size) (h : letB q[0] = false) (h1 : q[0] ≠ 96) (h2 : q[0] ≠ 34) (h3 : q[0] ≠ 47 ∨ q.size = 1 ∨ ∃ hx : 1 < q.size, q[1] ≠ 47 ∧ q[1] ≠ 42) : tokL q.data.toList = some (3, [q[0]], 1) := by
  have hd : ∀ c : UInt8, (c = 47 ∨ c = 42) → ¬ (q[0] = 47 ∧ (q.data.toList.drop 1).head? = some c) := by
    rintro c hc ⟨e1, e2⟩
    rcases h3 with h3 | h3 | ⟨hx, h3, h4⟩
    · exact h3 e1
    · rw [List.drop_of_length_le (by rw [size_data]; omega)] at e2; cases e2
    · rw [drop_get q 1 hx] at e2
      have := Option.some.inj e2
      rcases hc with rfl | rfl
      · exact h3 this
      · exact h4 this
  rw [wide_head h0]
  exact tok_sign h h1 h2 (hd 47 (.inl rfl)) (hd 42 (.inr rfl))
end Go.Proofs.YtinaeegijmkbhaaGreatDoor
