/-
  Plain: what follows of a source's tokens: they go on, their lines never fall; what stands behind a line's end changes none ahead of it.
-/
import Derived.Test.YtinaeegijmkbhaaGreatDoorQ10
set_option linter.unusedVariables false
namespace Go.Proofs.YtinaeegijmkbhaaGreatDoor

theorem takeWhile_le {α : Type} (p : α → Bool) (l : List α) : (l.takeWhile p).length ≤ l.length := List.Sublist.length_le (List.takeWhile_sublist _)
theorem quo_lt : ∀ {l : List UInt8} {k : Nat}, quoL l = some k → k < l.length
  | [], k, h => by rw [quoL] at h; cases h
  | [c], k, h => by
    simp only [quoL] at h
    split at h
    · cases h
    · split at h
      · obtain rfl := Option.some.inj h; simp
      · split at h
        · cases h
        · simp at h
  | c :: d :: r, k, h => by
    rw [quoL] at h
    split at h
    · cases h
    · split at h
      · obtain rfl := Option.some.inj h; simp
      · split at h
        · split at h
          · cases h
          · rw [Option.map_eq_some_iff] at h
            obtain ⟨j, hj, rfl⟩ := h
            have := quo_lt hj
            simp only [List.length_cons]; omega
        · rw [Option.map_eq_some_iff] at h
          obtain ⟨j, hj, rfl⟩ := h
          have := quo_lt (l := d :: r) hj
          simp only [List.length_cons] at this ⊢; omega
theorem com_lt : ∀ {l : List UInt8} {k : Nat}, comL l = some k → k + 1 < l.length
  | [], k, h => by simp [comL] at h
  | [_], k, h => by simp [comL] at h
  | a :: b :: r, k, h => by
    rw [comL] at h
    split at h
    · obtain rfl := Option.some.inj h; simp
    · rw [Option.map_eq_some_iff] at h
      obtain ⟨j, hj, rfl⟩ := h
      have := com_lt hj
      simp only [List.length_cons] at this ⊢; omega
/-- A token is of what is left. -/
theorem tok_fits {l : List UInt8} {kd n : Nat} {t : List UInt8} (h : tokL l = some (kd, t, n)) : n ≤ l.length ∧ (kd = 0 → l = [] ∧ t = [] ∧ n = 0) ∧ (kd ≠ 0 → 1 ≤ n) := by
  cases l with
  | nil => rw [tok_nil] at h; simp at h; obtain ⟨rfl, rfl, rfl⟩ := h; exact ⟨Nat.le_refl _, fun _ => ⟨rfl, rfl, rfl⟩, fun x => absurd rfl x⟩
  | cons c r =>
    rw [tokL] at h
    split at h
    · rename_i hc
      simp only [Option.some.injEq, Prod.mk.injEq] at h
      obtain ⟨rfl, rfl, rfl⟩ := h
      refine ⟨takeWhile_le _ _, fun x => by omega, fun _ => ?_⟩
      rw [List.takeWhile_cons, if_pos (by unfold nameB; rw [hc]; rfl)]; simp
    · split at h
      · split at h
        · cases h
        · rename_i hne
          simp only [Option.some.injEq, Prod.mk.injEq] at h
          obtain ⟨rfl, rfl, rfl⟩ := h
          have := takeWhile_le (fun x : UInt8 => decide (x ≠ 96)) r
          refine ⟨by simp only [List.length_cons]; omega, fun x => by omega, fun _ => by omega⟩
      · split at h
        · split at h
          · cases h
          · rename_i k hk
            rw [Option.map_eq_some_iff] at h
            obtain ⟨u, -, h⟩ := h
            simp only [Prod.mk.injEq] at h
            obtain ⟨rfl, rfl, rfl⟩ := h
            have := quo_lt hk
            refine ⟨by simp only [List.length_cons]; omega, fun x => by omega, fun _ => by omega⟩
        · split at h
          · rename_i hcc
            have h1 : 1 ≤ ((c :: r).takeWhile (fun x => decide (x ≠ 10))).length := by
              rw [List.takeWhile_cons, if_pos (by rw [hcc.1]; rfl)]; simp
            split at h
            · simp only [Option.some.injEq, Prod.mk.injEq] at h
              obtain ⟨rfl, rfl, rfl⟩ := h
              exact ⟨takeWhile_le _ _, fun x => by omega, fun _ => h1⟩
            · simp only [Option.some.injEq, Prod.mk.injEq] at h
              obtain ⟨rfl, rfl, rfl⟩ := h
              exact ⟨takeWhile_le _ _, fun x => by omega, fun _ => h1⟩
          · split at h
            · split at h
              · cases h
              · rename_i k hk
                simp only [Option.some.injEq, Prod.mk.injEq] at h
                obtain ⟨rfl, rfl, rfl⟩ := h
                have := com_lt hk
                rw [List.length_drop] at this
                refine ⟨by simp only [List.length_cons]; omega, fun x => by omega, fun _ => by omega⟩
            · simp only [Option.some.injEq, Prod.mk.injEq] at h
              obtain ⟨rfl, rfl, rfl⟩ := h
              exact ⟨by simp, fun x => by omega, fun _ => Nat.le_refl _⟩
theorem blanks_le (semi : Bool) (l : List UInt8) (pos : Nat) (h : pos ≤ l.length) : pos + blanks semi (l.drop pos) ≤ l.length := by
  have := takeWhile_le (blankB semi) (l.drop pos)
  rw [List.length_drop] at this
  unfold blanks; omega
theorem line_mono (l : List UInt8) {a b : Nat} (h : a ≤ b) : lineL (l.take a) ≤ lineL (l.take b) := by
  obtain ⟨d, rfl⟩ := Nat.le.dest h
  rw [List.take_add]
  generalize l.take a = x
  generalize (l.drop a).take d = y
  induction x with
  | nil => exact line_pos _
  | cons c r ih =>
    rw [List.cons_append, lineL, lineL]
    split <;> omega
/-- What a step does. -/
structure Goes (l : List UInt8) (pos : Nat) (semi : Bool) (x : Step) : Prop where
  low : pos ≤ x.pos
  high : x.pos ≤ l.length
  line1 : lineL (l.take pos) ≤ x.line
  line2 : x.line ≤ lineL l
  line3 : x.tok ≠ none → x.line ≤ lineL (l.take x.pos)
  kind : ∀ {kd t}, x.tok = some (kd, t) → kd ≤ 4 ∧ (kd = 0 → t = [])
  less : ∀ {kd t}, x.tok = some (kd, t) → kd ≠ 0 → 2 * (l.length - x.pos) + x.semi.toNat < 2 * (l.length - pos) + semi.toNat
theorem next_goes {l : List UInt8} {pos : Nat} (semi : Bool) (h : pos ≤ l.length) : Goes l pos semi (nextL l pos semi) := by
  obtain ⟨k, hk⟩ : ∃ k, pos + blanks semi (l.drop pos) = k := ⟨_, rfl⟩
  have h1 : pos ≤ k := by omega
  have h2 : k ≤ l.length := by have := blanks_le semi l pos h; omega
  have hl1 := line_mono l h1
  have hl2 : lineL (l.take k) ≤ lineL l := by have := line_mono l h2; rwa [List.take_length] at this
  by_cases hA : semi = true ∧ (l.drop k).head? = some 10
  · obtain ⟨rfl, hA⟩ := hA
    rw [next_A hk hA]
    have hlt : k < l.length := by
      by_cases e : k < l.length
      · exact e
      · rw [List.drop_of_length_le (by omega)] at hA; cases hA
    exact ⟨by show pos ≤ k + 1; omega, hlt, hl1, hl2, fun _ => line_mono l (Nat.le_succ k), (fun e => by cases e; exact ⟨by omega, fun x => by omega⟩), fun e _ => by show 2 * (l.length - (k + 1)) + 0 < 2 * (l.length - pos) + 1; omega⟩
  have hA' : semi = false ∨ (l.drop k).head? ≠ some 10 := by
    cases semi
    · exact .inl rfl
    · exact .inr fun x => hA ⟨rfl, x⟩
  cases ht : tokL (l.drop k) with
  | none =>
    rw [next_N hk hA' ht]
    exact ⟨Nat.le_refl _, h, hl1, hl2, fun x => absurd rfl x, (fun e => nomatch e), (fun e => nomatch e)⟩
  | some y =>
    obtain ⟨kd, t, n⟩ := y
    obtain ⟨f1, f2, f3⟩ := tok_fits ht
    have f4 := tok_kind ht
    rw [List.length_drop] at f1
    by_cases hB : semi = true ∧ (kd = 0 ∨ (kd = 4 ∧ 1 < lineL t))
    · obtain ⟨rfl, hB⟩ := hB
      rw [next_B hk (hA'.resolve_left (by simp)) ht hB]
      exact ⟨h1, h2, hl1, hl2, fun _ => Nat.le_refl _, (fun e => by cases e; exact ⟨by omega, fun x => by omega⟩), fun e _ => by show 2 * (l.length - k) + 0 < 2 * (l.length - pos) + 1; omega⟩
    · have hB' : semi = false ∨ ¬ (kd = 0 ∨ (kd = 4 ∧ 1 < lineL t)) := by
        cases semi
        · exact .inl rfl
        · exact .inr fun x => hB ⟨rfl, x⟩
      rw [next_C hk hA' ht hB']
      refine ⟨by show pos ≤ k + n; omega, by show k + n ≤ _; omega, hl1, hl2, fun _ => line_mono l (Nat.le_add_right k n), fun e => ?_, fun e hne => ?_⟩
      · simp only [Option.some.injEq, Prod.mk.injEq] at e
        obtain ⟨rfl, rfl⟩ := e
        exact ⟨f4, fun x => (f2 x).2.1⟩
      · simp only [Option.some.injEq, Prod.mk.injEq] at e
        obtain ⟨rfl, rfl⟩ := e
        have := f3 hne
        show 2 * (l.length - (k + n)) + (if kd = 4 then semi else ends kd t).toNat < 2 * (l.length - pos) + semi.toNat
        have b1 : (if kd = 4 then semi else ends kd t).toNat ≤ 1 := by cases (if kd = 4 then semi else ends kd t) <;> simp
        omega

/-- Behind the end there is the end. -/
theorem next_end {l : List UInt8} {pos : Nat} {semi : Bool} (hp : pos ≤ l.length) {t : List UInt8} (h : (nextL l pos semi).tok = some (0, t)) :
    nextL l pos semi = ⟨some (0, []), lineL l, l.length, false⟩ ∧ nextL l l.length false = ⟨some (0, []), lineL l, l.length, false⟩ := by
  have hend : nextL l l.length false = ⟨some (0, []), lineL l, l.length, false⟩ := by
    have hb : l.length + blanks false (l.drop l.length) = l.length := by rw [List.drop_length]; rfl
    rw [next_C (kd := 0) (t := []) (n := 0) hb (.inl rfl) (by rw [List.drop_length]; rfl) (.inl rfl), List.take_length]; rfl
  refine ⟨?_, hend⟩
  obtain ⟨k, hk⟩ : ∃ k, pos + blanks semi (l.drop pos) = k := ⟨_, rfl⟩
  have h2 : k ≤ l.length := by have := blanks_le semi l pos hp; omega
  by_cases hA : semi = true ∧ (l.drop k).head? = some 10
  · obtain ⟨rfl, hA⟩ := hA
    rw [next_A hk hA] at h; simp at h
  have hA' : semi = false ∨ (l.drop k).head? ≠ some 10 := by
    cases semi
    · exact .inl rfl
    · exact .inr fun x => hA ⟨rfl, x⟩
  cases ht : tokL (l.drop k) with
  | none => rw [next_N hk hA' ht] at h; cases h
  | some y =>
    obtain ⟨kd, t', n⟩ := y
    by_cases hB : semi = true ∧ (kd = 0 ∨ (kd = 4 ∧ 1 < lineL t'))
    · obtain ⟨rfl, hB⟩ := hB
      rw [next_B hk (hA'.resolve_left (by simp)) ht hB] at h; simp at h
    · have hB' : semi = false ∨ ¬ (kd = 0 ∨ (kd = 4 ∧ 1 < lineL t')) := by
        cases semi
        · exact .inl rfl
        · exact .inr fun x => hB ⟨rfl, x⟩
      rw [next_C hk hA' ht hB'] at h ⊢
      simp only [Option.some.injEq, Prod.mk.injEq] at h
      obtain ⟨rfl, rfl⟩ := h
      obtain ⟨e1, e2, e3⟩ := (tok_fits ht).2.1 rfl
      have hkl : k = l.length := by
        have := congrArg List.length e1
        rw [List.length_drop] at this
        simp at this; omega
      rw [e2, e3, hkl, List.take_length]; rfl
/-- Behind a fault there is the fault. -/
theorem next_fault {l : List UInt8} {pos : Nat} {semi : Bool} (h : (nextL l pos semi).tok = none) : (nextL l pos semi).pos = pos ∧ (nextL l pos semi).semi = semi := by
  obtain ⟨k, hk⟩ : ∃ k, pos + blanks semi (l.drop pos) = k := ⟨_, rfl⟩
  by_cases hA : semi = true ∧ (l.drop k).head? = some 10
  · obtain ⟨rfl, hA⟩ := hA
    rw [next_A hk hA] at h; simp at h
  have hA' : semi = false ∨ (l.drop k).head? ≠ some 10 := by
    cases semi
    · exact .inl rfl
    · exact .inr fun x => hA ⟨rfl, x⟩
  cases ht : tokL (l.drop k) with
  | none => rw [next_N hk hA' ht]; exact ⟨rfl, rfl⟩
  | some y =>
    obtain ⟨kd, t', n⟩ := y
    by_cases hB : semi = true ∧ (kd = 0 ∨ (kd = 4 ∧ 1 < lineL t'))
    · obtain ⟨rfl, hB⟩ := hB
      rw [next_B hk (hA'.resolve_left (by simp)) ht hB] at h; simp at h
    · have hB' : semi = false ∨ ¬ (kd = 0 ∨ (kd = 4 ∧ 1 < lineL t')) := by
        cases semi
        · exact .inl rfl
        · exact .inr fun x => hB ⟨rfl, x⟩
      rw [next_C hk hA' ht hB'] at h; simp at h
end Go.Proofs.YtinaeegijmkbhaaGreatDoor
