/-
  Both scanners as the law meets them; a fault, and the end, come again.
-/
import Derived.Test.YtinaeegijmkbhaaGreatDoorS2
set_option linter.unusedVariables false
namespace Go.Proofs.YtinaeegijmkbhaaGreatDoor
open Go.RowKit Go.Shelf

theorem blanks_over (semi : Bool) : ∀ r : List UInt8, blanks semi (r.drop (blanks semi r)) = 0
  | [] => rfl
  | c :: r => by
    unfold blanks
    cases e : blankB semi c with
    | false => simp [e]
    | true =>
      have := blanks_over semi r
      unfold blanks at this
      simpa [e] using this
theorem fault_again {l : List UInt8} {pos : Nat} {semi : Bool} (h : (stepP l pos semi).tok = none) :
    stepP l (stepP l pos semi).pos (stepP l pos semi).semi = stepP l pos semi := by
  obtain ⟨b, hb⟩ : ∃ b, blanks semi (l.drop pos) = b := ⟨_, rfl⟩
  cases hp : pieceL semi (l.drop (pos + b)) with
  | some y =>
    obtain ⟨k, t, n⟩ := y
    rw [stepP_some hb hp] at h
    cases h
  | none =>
    rw [stepP_none hb hp]
    have h0 : blanks semi (l.drop (pos + b)) = 0 := by rw [← List.drop_drop, ← hb]; exact blanks_over semi _
    exact stepP_none h0 hp
theorem end_again {l t : List UInt8} {pos : Nat} {semi : Bool} (h : (stepP l pos semi).tok = some (0, t)) :
    StepOut (stepP l (stepP l pos semi).pos (stepP l pos semi).semi) = StepOut (stepP l pos semi) := by
  have e0 := step_tok (l := l) (pos := pos) (semi := semi) (by rw [h]; simp)
  rw [e0] at h ⊢
  obtain ⟨k, hk⟩ : ∃ k, pos + blanks semi (l.drop pos) = k := ⟨_, rfl⟩
  by_cases hA : semi = true ∧ (l.drop k).head? = some 10
  · obtain ⟨rfl, hA⟩ := hA
    rw [next_A hk hA] at h
    simp at h
  have hA' : semi = false ∨ (l.drop k).head? ≠ some 10 := by
    cases semi
    · exact .inl rfl
    · exact .inr fun x => hA ⟨rfl, x⟩
  cases ht : tokL (l.drop k) with
  | none => rw [next_N hk hA' ht] at h; cases h
  | some y =>
    obtain ⟨kd, t', n⟩ := y
    by_cases hB : semi = true ∧ (kd = 0 ∨ (kd = 4 ∧ 1 < lineL t'))
    · obtain ⟨rfl, hB⟩ := hB
      rw [next_B hk (hA'.resolve_left (by simp)) ht hB] at h
      simp at h
    · have hB' : semi = false ∨ ¬ (kd = 0 ∨ (kd = 4 ∧ 1 < lineL t')) := by
        cases semi
        · exact .inl rfl
        · exact .inr fun x => hB ⟨rfl, x⟩
      rw [next_C hk hA' ht hB'] at h ⊢
      simp only [Option.some.injEq, Prod.mk.injEq] at h
      obtain ⟨rfl, rfl⟩ := h
      obtain ⟨hd, rfl, rfl⟩ := (tok_fits ht).2.1 rfl
      have hk2 : (k + 0) + blanks (ends 0 []) (l.drop (k + 0)) = k := by rw [Nat.add_zero, hd]; rfl
      have g := next_C hk2 (.inl rfl) ht (.inl rfl)
      show StepOut (stepP l (k + 0) (ends 0 [])) = _
      rw [step_tok (by rw [step_same.1, g]; simp), g]
      rfl
end Go.Proofs.YtinaeegijmkbhaaGreatDoor
