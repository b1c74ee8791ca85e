/-
  The program's scanner: Line; how far a name goes; how far a source is one.
-/
import Derived.Test.YtinaeegijmkbhaaGreatDoorA1
import Derived.Test.YtinaeegijmkbhaaGreatDoorSH
import Derived.Test.YtinaeegijmkbhaaGreatDoorR5
import Derived.Test.YtinaeegijmkbhaaGreatDoorQ7
import Derived.Below
import Derived.BigRegion
import Derived.LoopTactic
import Derived.Laws.RangeAny
set_option linter.unusedVariables false
namespace Go.Proofs.YtinaeegijmkbhaaGreatDoor
open Go.RowKit Go.Shelf

theorem count_le10 (l : List UInt8) : l.count 10 ≤ l.length := List.count_le_length
set_option maxRecDepth 100000 in
set_option maxHeartbeats 1600000 in
theorem line_min (s : ByteArray) (hs : s.size ≤ 20400) (a : Int) (w : World) : Calls Tryz.prog 10 #[.string s, .int .i64 a] w fun e w' => e = .returned (.int .i64 (lineL (s.data.toList.take (min (max a 0) (s.size : Int)).toNat) : Nat)) ∧ w' = w := by
  go_enter Tryz.func10, Tryz.ntmps10
  go_wp2_with (go_at_call 21; refine (Tryz.strings_Count_one _ _ _).mono ?_; rintro _ _ ⟨rfl, rfl⟩)
  go_ret
  have h2 := count_le10 (s.data.toList.take (min (max a 0) (s.size : Int)).toNat)
  have h3 : (s.data.toList.take (min (max a 0) (s.size : Int)).toNat).length ≤ 20400 := by rw [List.length_take, size_data]; omega
  refine ⟨ret_int ?_, rfl⟩
  rw [line_count]
  unfold Lib.countByte
  generalize (s.data.toList.take (min (max a 0) (s.size : Int)).toNat).count 10 = n at *
  have : wrap64 (1 + (n : Int)) = 1 + (n : Int) := by unfold wrap64; omega
  rw [this]
  omega
theorem take_size {s : ByteArray} {k : Nat} (h : s.size ≤ k) : s.data.toList.take k = s.data.toList := List.take_of_length_le (by rw [size_data]; exact h)
theorem line_any (s : ByteArray) (hs : s.size ≤ 20400) (a : Int) (w : World) : Calls Tryz.prog 10 #[.string s, .int .i64 a] w fun e w' => e = .returned (.int .i64 (lineL (s.data.toList.take a.toNat) : Nat)) ∧ w' = w := by
  refine (line_min s hs a w).mono ?_
  rintro _ _ ⟨rfl, rfl⟩
  refine ⟨ret_int ?_, rfl⟩
  by_cases h : a ≤ (s.size : Int)
  · rw [show (min (max a 0) (s.size : Int)).toNat = a.toNat by omega]
  · rw [take_size (k := a.toNat) (by omega), take_size (by omega)]

theorem wideR_yes {n v : Nat} {r : List UInt8} (h : wideR n v r ≠ 0) : wideR n v r = n ∧ (r.take (n - 1)).all contB = true := by
  unfold wideR at h ⊢
  split at h
  · exact absurd rfl h
  · rename_i h1
    rw [if_neg h1]
    split at h
    · rename_i h2
      rw [if_pos h2]
      split at h
      · exact absurd rfl h
      · rename_i h3
        rw [if_neg h3]; exact ⟨rfl, h2⟩
    · exact absurd rfl h
def highB (c : UInt8) : Bool := decide (128 ≤ c.toNat)
theorem cont_high {l : List UInt8} (h : l.all contB = true) : l.all highB = true := by
  rw [List.all_eq_true] at h ⊢
  intro x hx
  have := h x hx
  simp [contB] at this
  simp [highB, this.1]
theorem take_high {n v : Nat} {c : UInt8} {r : List UInt8} (hc : 128 ≤ c.toNat) (hn : 1 ≤ n) (h : wideR n v r ≠ 0) : ((c :: r).take (wideR n v r)).all highB = true := by
  obtain ⟨h1, h2⟩ := wideR_yes h
  obtain ⟨m, rfl⟩ : ∃ m, n = m + 1 := ⟨n - 1, by omega⟩
  have h2' := cont_high h2
  rw [Nat.add_sub_cancel] at h2'
  rw [h1, List.take_succ_cons, List.all_cons, h2']
  simp [highB, hc]
/-- A rune beyond ASCII has no byte of ASCII. -/
theorem wide_high {c : UInt8} {r : List UInt8} (hc : 128 ≤ c.toNat) : ((c :: r).take (wideL (c :: r))).all highB = true := by
  by_cases h0 : wideL (c :: r) = 0
  · rw [h0]; rfl
  have e : wideL (c :: r) = if c.toNat < 128 then 1 else if c.toNat < 192 then 0 else if c.toNat < 224 then wideR 2 (c.toNat - 192) r else if c.toNat < 240 then wideR 3 (c.toNat - 224) r else if c.toNat < 248 then wideR 4 (c.toNat - 240) r else 0 := rfl
  rw [e] at h0 ⊢
  rw [if_neg (by omega)] at h0 ⊢
  split at h0
  · exact absurd rfl h0
  rename_i h1; rw [if_neg h1]
  split at h0
  · rename_i h2; rw [if_pos h2]; exact take_high hc (by omega) h0
  rename_i h2; rw [if_neg h2]
  split at h0
  · rename_i h3; rw [if_pos h3]; exact take_high hc (by omega) h0
  rename_i h3; rw [if_neg h3]
  split at h0
  · rename_i h4; rw [if_pos h4]; exact take_high hc (by omega) h0
  · exact absurd rfl h0
/-- What the machine reads beyond ASCII has no byte of ASCII. -/
theorem read_high (s : ByteArray) (k : Nat) (h : k < s.size) (hc : 128 ≤ s[k].toNat) : ((s.data.toList.drop k).take (Utf8.decode s k).2).all highB = true := by
  have hd := drop_get s k h
  rcases wide_told s k h with ⟨-, e⟩ | ⟨-, e, -, -⟩
  · rw [e, hd]; simp [highB, hc]
  · rw [e, hd]; exact wide_high hc
theorem read_in (s : ByteArray) (k : Nat) (h : k < s.size) : k + (Utf8.decode s k).2 ≤ s.size := by
  have := wideL_le (s.data.toList.drop k)
  rw [List.length_drop, size_data] at this
  rcases wide_told s k h with ⟨-, e⟩ | ⟨-, e, -, -⟩
  · rw [e]; show k + 1 ≤ s.size; omega
  · rw [e]; omega

def letR (r : Int) : Bool := (decide (97 ≤ r) && decide (r ≤ 122)) || (decide (65 ≤ r) && decide (r ≤ 90)) || decide (r = 95) || decide (127 < r)
def digR (r : Int) : Bool := decide (48 ≤ r) && decide (r ≤ 57)
set_option maxRecDepth 100000 in
set_option maxHeartbeats 400000 in
theorem let_any (r : Int) (w : World) : Calls Tryz.prog 54 #[.int .i32 r] w fun e w' => e = .returned (.bool (letR r)) ∧ w' = w := by
  go_enter Tryz.func54, Tryz.ntmps54
  go_wp2
  all_goals
    go_ret
    refine ⟨ret_bool ?_, rfl⟩
    rw [Bool.eq_iff_iff]
    simp [letR]
    try omega
set_option maxRecDepth 100000 in
set_option maxHeartbeats 400000 in
theorem dig_any (r : Int) (w : World) : Calls Tryz.prog 55 #[.int .i32 r] w fun e w' => e = .returned (.bool (digR r)) ∧ w' = w := by
  go_enter Tryz.func55, Tryz.ntmps55
  go_wp2
  all_goals
    go_ret
    refine ⟨ret_bool ?_, rfl⟩
    rw [Bool.eq_iff_iff]
    simp [digR]
    try omega

/-- How long a name is. -/
def nameN : List UInt8 → Nat
  | [] => 0
  | c :: r => if letB c then ((c :: r).takeWhile nameB).length else 0
def NameTo (s : ByteArray) (k : Nat) : Prop := k ≤ s.size ∧ (s.data.toList.take k).all nameB = true ∧ ∀ h : 0 < k, ∀ h' : 0 < s.size, letB s[0] = true
theorem NameTo.start (s : ByteArray) : NameTo s 0 := ⟨Nat.zero_le _, rfl, fun h => absurd h (by omega)⟩
theorem all_while {p : UInt8 → Bool} {l : List UInt8} {k : Nat} (hk : k ≤ l.length) (h : (l.take k).all p = true) (e : l.length ≤ k ∨ ∃ c r, l.drop k = c :: r ∧ p c = false) : (l.takeWhile p).length = k := by
  rw [← List.take_append_drop k l, List.takeWhile_append_of_pos (fun x hx => List.all_eq_true.1 h x hx)]
  have : (l.drop k).takeWhile p = [] := by
    rcases e with e | ⟨c, r, e, hc⟩
    · rw [List.drop_of_length_le e]; rfl
    · rw [e, List.takeWhile_cons, if_neg (by simp [hc])]
  rw [this, List.append_nil, List.length_take]
  omega
theorem NameTo.full {s : ByteArray} {k : Nat} (h : NameTo s k) (h0 : 0 < k) (e : s.size ≤ k ∨ ∃ hk : k < s.size, nameB s[k] = false) : nameN s.data.toList = k := by
  obtain ⟨h1, h2, h3⟩ := h
  have hs : 0 < s.size := by omega
  have hd := drop_get s 0 hs
  rw [List.drop_zero] at hd
  rw [hd, nameN, if_pos (h3 h0 hs), ← hd]
  refine all_while (by rw [size_data]; exact h1) h2 ?_
  rcases e with e | ⟨hk, e⟩
  · exact .inl (by rw [size_data]; exact e)
  · exact .inr ⟨_, _, drop_get s k hk, e⟩
theorem NameTo.none {s : ByteArray} (h : ∀ h' : 0 < s.size, letB s[0] = false) : nameN s.data.toList = 0 := by
  by_cases hs : 0 < s.size
  · have hd := drop_get s 0 hs
    rw [List.drop_zero] at hd
    rw [hd, nameN, if_neg (by rw [h hs]; simp)]
  · have : s.data.toList = [] := List.length_eq_zero_iff.1 (by rw [size_data]; omega)
    rw [this]; rfl
theorem name_high {l : List UInt8} (h : l.all highB = true) : l.all nameB = true := by
  rw [List.all_eq_true] at h ⊢
  intro x hx
  have := h x hx
  simp [highB] at this
  have : 127 < x.toNat := by omega
  simp [nameB, letB, this]
theorem NameTo.on {s : ByteArray} {k : Nat} (h : NameTo s k) (hk : k < s.size) (e : letR (Utf8.decode s k).1 = true ∨ (digR (Utf8.decode s k).1 = true ∧ 0 < k)) : NameTo s (k + (Utf8.decode s k).2) := by
  obtain ⟨h1, h2, h3⟩ := h
  refine ⟨read_in s k hk, ?_, fun _ hs => ?_⟩
  · rw [List.take_add, List.all_append, h2, Bool.true_and]
    by_cases ha : s[k].toNat < 128
    · rw [decode_ascii s k hk ha] at e ⊢
      rw [drop_get s k hk]
      simp only [List.take_succ_cons, List.take_zero, List.all_cons, List.all_nil, Bool.and_true]
      simp only [letR, digR, Bool.or_eq_true, Bool.and_eq_true, decide_eq_true_eq] at e
      simp only [nameB, letB, digB, Bool.or_eq_true, Bool.and_eq_true, decide_eq_true_eq]
      omega
    · exact name_high (read_high s k hk (by omega))
  · by_cases h0 : 0 < k
    · exact h3 h0 hs
    · obtain rfl : k = 0 := by omega
      by_cases ha : s[0].toNat < 128
      · rw [decode_ascii s 0 hk ha] at e
        simp only [letR, digR, Bool.or_eq_true, Bool.and_eq_true, decide_eq_true_eq] at e
        simp only [letB, Bool.or_eq_true, Bool.and_eq_true, decide_eq_true_eq]
        omega
      · simp only [letB, Bool.or_eq_true, Bool.and_eq_true, decide_eq_true_eq]
        omega
theorem NameTo.stop {s : ByteArray} {k : Nat} (h : NameTo s k) (hk : k < s.size) (e1 : letR (Utf8.decode s k).1 = false) (e2 : digR (Utf8.decode s k).1 = false ∨ k = 0) : nameN s.data.toList = k := by
  have ha : s[k].toNat < 128 := by
    by_cases ha : s[k].toNat < 128
    · exact ha
    · have := (decode_high s k hk (by omega)).1
      have : letR (Utf8.decode s k).1 = true := by
        simp only [letR, Bool.or_eq_true, Bool.and_eq_true, decide_eq_true_eq]; omega
      rw [e1] at this; cases this
  rw [decode_ascii s k hk ha] at e1 e2
  have hl : letB s[k] = false := by
    cases hb : letB s[k]
    · rfl
    · simp only [letB, Bool.or_eq_true, Bool.and_eq_true, decide_eq_true_eq] at hb
      have : letR (s[k].toNat : Int) = true := by simp only [letR, Bool.or_eq_true, Bool.and_eq_true, decide_eq_true_eq]; omega
      rw [← this, ← e1]
  by_cases h0 : 0 < k
  · refine h.full h0 (.inr ⟨hk, ?_⟩)
    have e2 := e2.resolve_right (by omega)
    have hd : digB s[k] = false := by
      cases hb : digB s[k]
      · rfl
      · simp only [digB, Bool.and_eq_true, decide_eq_true_eq] at hb
        have : digR (s[k].toNat : Int) = true := by simp only [digR, Bool.and_eq_true, decide_eq_true_eq]; omega
        rw [← this, ← e2]
    unfold nameB
    rw [hl, hd]; rfl
  · obtain rfl : k = 0 := by omega
    exact NameTo.none fun _ => hl

theorem iter_below (w : World) (s : ByteArray) (k : Nat) : Below w.heap.size w (w.iter s k) := (Below.refl _ _).alloc (Nat.le_refl _) _
theorem read_pos (s : ByteArray) (k : Nat) (h : k < s.size) : 1 ≤ (Utf8.decode s k).2 := by
  by_cases ha : (s[k]'h).toNat < 128
  · rw [decode_ascii s k h ha]; exact Nat.le_refl _
  · exact (decode_high s k h (by omega)).2
set_option maxRecDepth 100000 in
set_option maxHeartbeats 1600000 in
theorem name_any (s : ByteArray) (hs : s.size ≤ 20400) (w : World) : Calls Tryz.prog 42 #[.string s] w fun e w' => e = .returned (.int .i64 (nameN s.data.toList : Nat)) ∧ Below w.heap.size w w' := by
  go_enter Tryz.func42, Tryz.ntmps42
  go_wp2
  go_loopw [2] (fun n w' => ∃ k : Nat, w' = w.iter s k ∧ n = .int .i64 0 ∧ NameTo s k) (fun _ w' => s.size - w'.iterPos w.heap.size)
  case atStart => exact ⟨0, rfl, rfl, NameTo.start s⟩
  case round =>
    obtain ⟨k, rfl, rfl, hN⟩ := hrel
    have HN := Lib.hid hN
    clear hN
    by_cases hp : k < s.size
    · have hnx : ∀ ty, (Instr.next (.pointer (some ⟨w.heap.size, 0, none⟩)) true ty).run Tryz.prog (w.iter s k) = _ := fun ty => run_next_any w s k ty hp
      have hwd := read_pos s k hp
      have HOn := Lib.hid (fun e => HN.out.on hp e)
      have HStop := Lib.hid (fun e1 e2 => HN.out.stop hp e1 e2)
      generalize hr : (Utf8.decode s k).1 = r at *
      generalize hn : (Utf8.decode s k).2 = n at *
      clear hr hn HN
      cases h1 : letR r
      · cases h2 : digR r
        · have HH := Lib.hid (HStop.out h1 (.inl h2))
          go_wp2_with (first | (go_at_call 54; refine (let_any _ _).mono ?_; rintro _ _ ⟨rfl, rfl⟩; rw [h1]) | (go_at_call 55; refine (dig_any _ _).mono ?_; rintro _ _ ⟨rfl, rfl⟩; rw [h2]))
          go_ret
          exact ⟨ret_int (by rw [HH.out]), iter_below w s _⟩
        · by_cases h0 : 0 < k
          · have HH := Lib.hid (HOn.out (.inr ⟨h2, h0⟩))
            have i0 : (0 : Int) < (k : Int) := by omega
            go_wp2_with (first | (go_at_call 54; refine (let_any _ _).mono ?_; rintro _ _ ⟨rfl, rfl⟩; rw [h1]) | (go_at_call 55; refine (dig_any _ _).mono ?_; rintro _ _ ⟨rfl, rfl⟩; rw [h2]))
            go_roundw
            case rel => exact ⟨k + n, rfl, rfl, HH.out⟩
            case measure => simp; omega
          · obtain rfl : k = 0 := by omega
            have HH := Lib.hid (HStop.out h1 (.inr rfl))
            go_wp2_with (first | (go_at_call 54; refine (let_any _ _).mono ?_; rintro _ _ ⟨rfl, rfl⟩; rw [h1]) | (go_at_call 55; refine (dig_any _ _).mono ?_; rintro _ _ ⟨rfl, rfl⟩; rw [h2]))
            go_ret
            exact ⟨ret_int (by rw [HH.out]; rfl), iter_below w s _⟩
      · have HH := Lib.hid (HOn.out (.inl h1))
        go_wp2_with (first | (go_at_call 54; refine (let_any _ _).mono ?_; rintro _ _ ⟨rfl, rfl⟩; rw [h1]) | (go_at_call 55; refine (dig_any _ _).mono ?_; rintro _ _ ⟨rfl, rfl⟩; rw [h2]))
        go_roundw
        case rel => exact ⟨k + n, rfl, rfl, HH.out⟩
        case measure => simp; omega
    · have hnx : ∀ ty, (Instr.next (.pointer (some ⟨w.heap.size, 0, none⟩)) true ty).run Tryz.prog (w.iter s k) = _ := fun ty => run_next_end w s k ty hp
      have hk : k = s.size := by have := HN.out.1; omega
      have HH := Lib.hid (show nameN s.data.toList = s.size by
        by_cases h0 : 0 < k
        · rw [HN.out.full h0 (.inl (by omega))]; exact hk
        · rw [NameTo.none (fun h' => absurd h' (by omega))]; omega)
      clear hk HN
      go_wp2
      go_ret
      exact ⟨ret_int (by rw [HH.out]), iter_below w s _⟩
end Go.Proofs.YtinaeegijmkbhaaGreatDoor
