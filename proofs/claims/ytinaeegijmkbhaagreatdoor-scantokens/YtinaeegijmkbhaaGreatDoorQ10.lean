/-
  The document's own scanner: Next.
-/
import Derived.Test.YtinaeegijmkbhaaGreatDoorQ8
import Derived.Test.YtinaeegijmkbhaaGreatDoorQ7
import Derived.Test.YtinaeegijmkbhaaGreatDoorQG
set_option linter.unusedVariables false
namespace Go.Proofs.YtinaeegijmkbhaaGreatDoor
open Go.RowKit Go.Shelf

/-- What a step tells. -/
def StepOut (x : Step) : Value := match x.tok with
  | some (kd, t) => .tuple #[.agg #[.int .i64 (kd : Nat), .string (mkB t), .int .i64 (x.line : Nat)], .agg #[.int .i64 0, .string ⟨#[]⟩, .int .i64 0]]
  | none => .tuple #[.agg #[.int .i64 0, .string ⟨#[]⟩, .int .i64 0], .agg #[.int .i64 100, .string ⟨#[]⟩, .int .i64 (x.line : Nat)]]
/-- The scanner alone may have changed. -/
structure Only (p : Nat) (w w' : World) : Prop where
  size : w.heap.size ≤ w'.heap.size
  block : ∀ k, k < w.heap.size → k ≠ p → w'.heap[k]? = w.heap[k]?
  os : w'.os = w.os
  tape : w'.tape = w.tape
  output : w'.output = w.output

theorem Only.of_below {p : Nat} {w w' : World} (h : Below w.heap.size w w') : Only p w w' := ⟨h.size, fun k hk _ => h.block k hk, h.os, h.tape, h.output⟩
theorem Only.set {p B i : Nat} {w w' : World} (h : Only p w w') (hB : B = p ∨ w.heap.size ≤ B) (v : Value) : Only p w (w'.setCell ⟨B, i, none⟩ v) := by
  refine ⟨?_, fun k hk hne => ?_, h.os, h.tape, h.output⟩
  · have := (Below.refl 0 w').setCell (p := ⟨B, i, none⟩) (Nat.zero_le _) v
    exact Nat.le_trans h.size this.size
  · exact (Below.heap_setCell w' ⟨B, i, none⟩ v k (by rcases hB with rfl | hB; exact hne; show k ≠ B; omega)).trans (h.block k hk hne)
theorem Only.alloc {p : Nat} {w w' : World} (h : Only p w w') (o : Obj) : Only p w (w'.alloc o) := by
  have b := (Below.refl w'.heap.size w').alloc (Nat.le_refl _) o
  exact ⟨Nat.le_trans h.size b.size, fun k hk hne => (b.block k (Nat.lt_of_lt_of_le hk h.size)).trans (h.block k hk hne), b.os.trans h.os, b.tape.trans h.tape, b.output.trans h.output⟩
theorem Only.drew {p : Nat} {w w' : World} (h : Only p w w') : Only p w w'.drew := ⟨h.size, h.block, h.os, h.tape, h.output⟩
theorem Only.drewN {p : Nat} {w w' : World} (h : Only p w w') (n : Nat) : Only p w (w'.drewN n) := ⟨h.size, h.block, h.os, h.tape, h.output⟩

/-- How far the blanks go. -/
structure BlankTo (s : ByteArray) (pos : Nat) (semi : Bool) (k : Nat) : Prop where
  lo : pos ≤ k
  hi : k ≤ s.size
  run : ((s.data.toList.drop pos).take (k - pos)).all (blankB semi) = true
theorem BlankTo.start {s : ByteArray} {pos : Nat} {semi : Bool} (h : pos ≤ s.size) : BlankTo s pos semi pos := ⟨Nat.le_refl _, h, by rw [Nat.sub_self]; rfl⟩
theorem BlankTo.on {s : ByteArray} {pos : Nat} {semi : Bool} {k : Nat} (h : BlankTo s pos semi k) (hk : k < s.size) (e : blankB semi s[k] = true) : BlankTo s pos semi (k + 1) := by
  have hlo := h.lo
  refine ⟨by omega, hk, ?_⟩
  have hl : k - pos < (s.data.toList.drop pos).length := by rw [List.length_drop, size_data]; omega
  rw [show k + 1 - pos = (k - pos) + 1 by omega, List.take_succ_eq_append_getElem hl, List.all_append, h.run, List.getElem_drop]
  have : pos + (k - pos) = k := by omega
  simp only [this]
  rw [get_list s k hk]
  simp [e]
theorem BlankTo.stop {s : ByteArray} {pos : Nat} {semi : Bool} {k : Nat} (h : BlankTo s pos semi k) (e : s.size ≤ k ∨ ∃ hk : k < s.size, blankB semi s[k] = false) : pos + blanks semi (s.data.toList.drop pos) = k := by
  have hlo := h.lo
  have hhi := h.hi
  have hs : s.data.toList.drop pos = (s.data.toList.drop pos).take (k - pos) ++ s.data.toList.drop k := by
    conv => lhs; rw [← List.take_append_drop (k - pos) (s.data.toList.drop pos)]
    rw [List.drop_drop, show pos + (k - pos) = k by omega]
  have hw : (s.data.toList.drop pos).takeWhile (blankB semi) = (s.data.toList.drop pos).take (k - pos) := by
    conv => lhs; rw [hs]
    refine takeWhile_split h.run ?_
    rcases e with e | ⟨hk, e⟩
    · exact .inl (List.drop_of_length_le (by rw [size_data]; exact e))
    · exact .inr ⟨_, _, drop_get s k hk, e⟩
  unfold blanks
  rw [hw, List.length_take, List.length_drop, size_data]; omega
theorem next_eq {l : List UInt8} {pos k : Nat} {semi : Bool} (h : pos + blanks semi (l.drop pos) = k) : nextL l pos semi =
    if semi && (l.drop k).head? == some 10 then ⟨some (3, [10]), lineL (l.take k), k + 1, false⟩
    else match tokL (l.drop k) with
      | none => ⟨none, lineL (l.take k), pos, semi⟩
      | some (kd, t, n) => if semi && (kd == 0 || (kd == 4 && decide (1 < lineL t))) then ⟨some (3, [10]), lineL (l.take k), k, false⟩
        else ⟨some (kd, t), lineL (l.take k), k + n, if kd = 4 then semi else ends kd t⟩ := by
  subst h
  rfl
theorem next_A {l : List UInt8} {pos k : Nat} (h : pos + blanks true (l.drop pos) = k) (e : (l.drop k).head? = some 10) : nextL l pos true = ⟨some (3, [10]), lineL (l.take k), k + 1, false⟩ := by
  rw [next_eq h, e]; rfl
theorem next_N {l : List UInt8} {pos k : Nat} {semi : Bool} (h : pos + blanks semi (l.drop pos) = k) (e : semi = false ∨ (l.drop k).head? ≠ some 10) (t : tokL (l.drop k) = none) : nextL l pos semi = ⟨none, lineL (l.take k), pos, semi⟩ := by
  rw [next_eq h, t, if_neg]
  intro x
  rw [Bool.and_eq_true, beq_iff_eq] at x
  rcases e with e | e
  · rw [e] at x; cases x.1
  · exact e x.2
theorem next_B {l : List UInt8} {pos k : Nat} (h : pos + blanks true (l.drop pos) = k) (e : (l.drop k).head? ≠ some 10) {kd n : Nat} {t : List UInt8} (ht : tokL (l.drop k) = some (kd, t, n)) (hb : kd = 0 ∨ (kd = 4 ∧ 1 < lineL t)) : nextL l pos true = ⟨some (3, [10]), lineL (l.take k), k, false⟩ := by
  rw [next_eq h, ht, if_neg (by intro x; rw [Bool.and_eq_true, beq_iff_eq] at x; exact e x.2)]
  simp only
  rw [if_pos]
  rcases hb with rfl | ⟨rfl, h4⟩
  · rfl
  · simp [h4]
theorem next_C {l : List UInt8} {pos k : Nat} {semi : Bool} (h : pos + blanks semi (l.drop pos) = k) (e : semi = false ∨ (l.drop k).head? ≠ some 10) {kd n : Nat} {t : List UInt8} (ht : tokL (l.drop k) = some (kd, t, n)) (hb : semi = false ∨ ¬ (kd = 0 ∨ (kd = 4 ∧ 1 < lineL t))) : nextL l pos semi = ⟨some (kd, t), lineL (l.take k), k + n, if kd = 4 then semi else ends kd t⟩ := by
  rw [next_eq h, ht, if_neg]
  · simp only
    rw [if_neg]
    intro x
    simp only [Bool.and_eq_true, Bool.or_eq_true, beq_iff_eq, decide_eq_true_eq] at x
    rcases hb with hb | hb
    · rw [hb] at x; cases x.1
    · exact hb x.2
  · intro x
    rw [Bool.and_eq_true, beq_iff_eq] at x
    rcases e with e | e
    · rw [e] at x; cases x.1
    · exact e x.2
end Go.Proofs.YtinaeegijmkbhaaGreatDoor
