/-
  Plain: what stands behind a line's end changes none of the tokens ahead of it.
-/
import Derived.Test.YtinaeegijmkbhaaGreatDoorR1
set_option linter.unusedVariables false
namespace Go.Proofs.YtinaeegijmkbhaaGreatDoor

theorem takeWhile_rest {α : Type} {p : α → Bool} : ∀ {l : List α} (t : List α), (l.takeWhile p).length < l.length → (l ++ t).takeWhile p = l.takeWhile p
  | [], t, h => by simp at h
  | c :: r, t, h => by
    rw [List.cons_append, List.takeWhile_cons, List.takeWhile_cons]
    by_cases hc : p c = true
    · rw [if_pos hc, if_pos hc]
      rw [List.takeWhile_cons, if_pos hc] at h
      rw [takeWhile_rest t (by simpa using h)]
    · rw [if_neg hc, if_neg hc]
theorem takeWhile_at {α : Type} {p : α → Bool} : ∀ {l : List α}, (l.takeWhile p).length < l.length → ∃ c, l[(l.takeWhile p).length]? = some c ∧ p c = false
  | [], h => by simp at h
  | c :: r, h => by
    by_cases hc : p c = true
    · rw [List.takeWhile_cons, if_pos hc] at h ⊢
      obtain ⟨d, h1, h2⟩ := takeWhile_at (l := r) (p := p) (by simpa using h)
      exact ⟨d, by simpa using h1, h2⟩
    · rw [List.takeWhile_cons, if_neg hc]
      exact ⟨c, rfl, by simpa using hc⟩
theorem takeWhile_short {α : Type} {p : α → Bool} : ∀ {l : List α} {c : α}, c ∈ l → p c = false → (l.takeWhile p).length < l.length
  | [], c, h, _ => by simp at h
  | d :: r, c, h, hc => by
    rw [List.takeWhile_cons]
    split
    · rename_i hd
      rcases List.mem_cons.1 h with rfl | h
      · rw [hc] at hd; cases hd
      · have := takeWhile_short h hc
        simpa using this
    · simp
/-- The last byte is a line feed. -/
def Feed (l : List UInt8) : Prop := l.getLast? = some 10
theorem Feed.tail {c : UInt8} {r : List UInt8} (h : Feed (c :: r)) (hr : r ≠ []) : Feed r := by
  unfold Feed at h ⊢
  rwa [List.getLast?_cons_of_ne_nil hr] at h
theorem Feed.at {l : List UInt8} (h : Feed l) : 0 < l.length ∧ l[l.length - 1]? = some 10 := by
  unfold Feed at h
  rw [List.getLast?_eq_getElem?] at h
  refine ⟨?_, h⟩
  cases l with
  | nil => simp at h
  | cons c r => simp
theorem Feed.lt {l : List UInt8} (h : Feed l) {k : Nat} {c : UInt8} (hk : l[k]? = some c) (hc : c ≠ 10) : k + 1 < l.length := by
  obtain ⟨h1, h2⟩ := h.at
  have hl : k < l.length := by
    by_cases e : k < l.length
    · exact e
    · rw [List.getElem?_eq_none (by omega)] at hk; cases hk
  by_cases e : k = l.length - 1
  · rw [e, h2] at hk; exact absurd (Option.some.inj hk).symm hc
  · omega
theorem Feed.mem {l : List UInt8} (h : Feed l) : (10 : UInt8) ∈ l := List.mem_of_getElem? h.at.2
theorem Feed.drop {l : List UInt8} (h : Feed l) {k : Nat} (hk : k < l.length) : Feed (l.drop k) := by
  unfold Feed at h ⊢
  rw [List.getLast?_eq_getElem?] at h ⊢
  rw [List.getElem?_drop, List.length_drop, ← h]
  congr 1; omega
theorem quo_rest : ∀ {l : List UInt8} {k : Nat} (t : List UInt8), quoL l = some k → quoL (l ++ t) = some k ∧ l[k]? = some 34
  | [], k, t, h => by rw [quoL] at h; cases h
  | [c], k, t, h => by
    simp only [quoL] at h
    split at h
    · cases h
    · split at h
      · obtain rfl := Option.some.inj h
        rename_i h1 h2
        subst h2
        exact ⟨quo_34, rfl⟩
      · split at h
        · cases h
        · simp at h
  | c :: d :: r, k, t, h => by
    rw [quoL] at h
    rw [List.cons_append, List.cons_append, quoL]
    split at h
    · cases h
    · rename_i h1
      rw [if_neg h1]
      split at h
      · rename_i h2
        rw [if_pos h2]
        obtain rfl := Option.some.inj h
        subst h2
        exact ⟨rfl, rfl⟩
      · rename_i h2
        rw [if_neg h2]
        split at h
        · rename_i h3
          rw [if_pos h3]
          split at h
          · cases h
          · rename_i h4
            rw [if_neg h4]
            rw [Option.map_eq_some_iff] at h
            obtain ⟨j, hj, rfl⟩ := h
            obtain ⟨e1, e2⟩ := quo_rest t hj
            rw [e1]
            exact ⟨rfl, by simpa using e2⟩
        · rename_i h3
          rw [if_neg h3]
          rw [Option.map_eq_some_iff] at h
          obtain ⟨j, hj, rfl⟩ := h
          obtain ⟨e1, e2⟩ := quo_rest (l := d :: r) t hj
          rw [List.cons_append] at e1
          rw [e1]
          exact ⟨rfl, by simpa using e2⟩
theorem com_rest : ∀ {l : List UInt8} {k : Nat} (t : List UInt8), comL l = some k → comL (l ++ t) = some k ∧ l[k + 1]? = some 47
  | [], k, t, h => by simp [comL] at h
  | [_], k, t, h => by simp [comL] at h
  | a :: b :: r, k, t, h => by
    rw [comL] at h
    rw [List.cons_append, List.cons_append, comL]
    split at h
    · rename_i h1
      rw [if_pos h1]
      obtain rfl := Option.some.inj h
      exact ⟨rfl, by rw [h1.2]; rfl⟩
    · rename_i h1
      rw [if_neg h1]
      rw [Option.map_eq_some_iff] at h
      obtain ⟨j, hj, rfl⟩ := h
      obtain ⟨e1, e2⟩ := com_rest t hj
      rw [List.cons_append] at e1
      rw [e1]
      exact ⟨rfl, by simpa using e2⟩
theorem head_rest {l : List UInt8} (t : List UInt8) (h : l ≠ []) : (l ++ t).head? = l.head? := by
  cases l with
  | nil => exact absurd rfl h
  | cons c r => rfl
theorem take_rest {l : List UInt8} (t : List UInt8) {k : Nat} (h : k ≤ l.length) : (l ++ t).take k = l.take k := List.take_append_of_le_length h

/-- A token that is no end does not reach the line's end, and hangs on nothing behind it. -/
theorem tok_rest {r : List UInt8} (hf : Feed r) (hh : r.head? ≠ some 10) {kd n : Nat} {tx : List UInt8} (h : tokL r = some (kd, tx, n)) (t : List UInt8) : n < r.length ∧ tokL (r ++ t) = some (kd, tx, n) := by
  cases r with
  | nil => cases hf
  | cons c r =>
    have hc : c ≠ 10 := fun e => hh (by rw [e]; rfl)
    have hr : r ≠ [] := by
      intro e
      subst e
      exact hc (Option.some.inj hf)
    have hf' := hf.tail hr
    rw [tokL] at h
    rw [List.cons_append, tokL, head_rest t hr]
    split at h
    · rename_i h1
      rw [if_pos h1]
      have hs : ((c :: r).takeWhile nameB).length < (c :: r).length := takeWhile_short hf.mem (by decide)
      have e := takeWhile_rest t hs
      rw [List.cons_append] at e
      rw [e]
      simp only [Option.some.injEq, Prod.mk.injEq] at h
      obtain ⟨rfl, rfl, rfl⟩ := h
      exact ⟨hs, rfl⟩
    · rename_i h1
      rw [if_neg h1]
      split at h
      · rename_i h2
        rw [if_pos h2]
        split at h
        · cases h
        · rename_i h3
          have hs : (r.takeWhile (fun x => decide (x ≠ 96))).length < r.length := by
            have := takeWhile_le (fun x : UInt8 => decide (x ≠ 96)) r
            omega
          obtain ⟨d, e1, e2⟩ := takeWhile_at hs
          have e3 := hf'.lt e1 (fun x => by rw [x] at e2; simp at e2)
          rw [takeWhile_rest t hs, if_neg (by rw [List.length_append]; omega)]
          simp only [Option.some.injEq, Prod.mk.injEq] at h
          obtain ⟨rfl, rfl, rfl⟩ := h
          exact ⟨by simp only [List.length_cons]; omega, rfl⟩
      · rename_i h2
        rw [if_neg h2]
        split at h
        · rename_i h3
          rw [if_pos h3]
          split at h
          · cases h
          · rename_i k hk
            obtain ⟨e1, e2⟩ := quo_rest t hk
            have e3 := hf'.lt e2 (by decide)
            rw [e1]
            simp only
            rw [take_rest t (by omega), h]
            rw [Option.map_eq_some_iff] at h
            obtain ⟨u, -, h⟩ := h
            simp only [Prod.mk.injEq] at h
            obtain ⟨rfl, rfl, rfl⟩ := h
            exact ⟨by simp only [List.length_cons]; omega, rfl⟩
        · rename_i h3
          rw [if_neg h3]
          split at h
          · rename_i h4
            rw [if_pos h4]
            have hs : ((c :: r).takeWhile (fun x => decide (x ≠ 10))).length < (c :: r).length := takeWhile_short hf.mem (by decide)
            have e := takeWhile_rest t hs
            rw [List.cons_append] at e
            rw [e]
            refine ⟨?_, h⟩
            split at h
            · simp only [Option.some.injEq, Prod.mk.injEq] at h
              obtain ⟨rfl, rfl, rfl⟩ := h
              exact hs
            · simp only [Option.some.injEq, Prod.mk.injEq] at h
              obtain ⟨rfl, rfl, rfl⟩ := h
              exact hs
          · rename_i h4
            rw [if_neg h4]
            split at h
            · rename_i h5
              rw [if_pos h5]
              split at h
              · cases h
              · rename_i k hk
                have hl1 : 1 ≤ r.length := by cases r with | nil => exact absurd rfl hr | cons _ _ => simp
                obtain ⟨e1, e2⟩ := com_rest t hk
                rw [List.getElem?_drop] at e2
                have e3 := hf'.lt e2 (by decide)
                rw [List.drop_append_of_le_length hl1, e1]
                simp only
                rw [← List.cons_append, take_rest t (by simp only [List.length_cons]; omega)]
                refine ⟨?_, h⟩
                simp only [Option.some.injEq, Prod.mk.injEq] at h
                obtain ⟨rfl, rfl, rfl⟩ := h
                simp only [List.length_cons]; omega
            · rename_i h5
              rw [if_neg h5]
              refine ⟨?_, h⟩
              simp only [Option.some.injEq, Prod.mk.injEq] at h
              obtain ⟨rfl, rfl, rfl⟩ := h
              have := hf'.at.1
              simp only [List.length_cons]; omega

/-- At the end no line may end. -/
def Calm (l : List UInt8) (pos : Nat) (semi : Bool) : Prop := pos ≤ l.length ∧ (pos = l.length → semi = false)
theorem next_rest {l : List UInt8} (hf : Feed l) (t : List UInt8) {pos : Nat} {semi : Bool} (hc : Calm l pos semi) {kd : Nat} {tx : List UInt8} (h : (nextL l pos semi).tok = some (kd, tx)) (hk0 : kd ≠ 0) :
    nextL (l ++ t) pos semi = nextL l pos semi ∧ Calm l (nextL l pos semi).pos (nextL l pos semi).semi := by
  obtain ⟨k, hk⟩ : ∃ k, pos + blanks semi (l.drop pos) = k := ⟨_, rfl⟩
  have h2 : k ≤ l.length := by have := blanks_le semi l pos hc.1; omega
  have ezero : semi = false → l.drop k = [] → False := by
    intro hs he
    have := next_C (n := 0) (t := []) (kd := 0) hk (.inl hs) (by rw [he]; rfl) (.inl hs)
    rw [this] at h
    simp only [Option.some.injEq, Prod.mk.injEq] at h
    exact hk0 h.1.symm
  have hpl : pos < l.length := by
    by_cases e : pos < l.length
    · exact e
    · exfalso
      have hp : pos = l.length := by have := hc.1; omega
      exact ezero (hc.2 hp) (List.drop_of_length_le (by omega))
  have hfm := hf.drop hpl
  have hbl : ((l.drop pos).takeWhile (blankB semi)).length < (l.drop pos).length := by
    by_cases e : ((l.drop pos).takeWhile (blankB semi)).length < (l.drop pos).length
    · exact e
    · exfalso
      have e' : blanks semi (l.drop pos) = (l.drop pos).length := by
        have := takeWhile_le (blankB semi) (l.drop pos)
        unfold blanks; omega
      cases semi with
      | true => exact e (takeWhile_short hfm.mem (by decide))
      | false =>
        refine ezero rfl (List.drop_of_length_le ?_)
        rw [← hk, e', List.length_drop]; omega
  have hkl : k < l.length := by
    rw [List.length_drop] at hbl
    unfold blanks at hk; omega
  have hk' : pos + blanks semi ((l ++ t).drop pos) = k := by
    rw [List.drop_append_of_le_length hc.1]
    unfold blanks at hk ⊢
    rw [takeWhile_rest t hbl]; exact hk
  have hfr := hf.drop hkl
  have hd : (l ++ t).drop k = l.drop k ++ t := List.drop_append_of_le_length h2
  have hne : l.drop k ≠ [] := by
    intro e
    have := congrArg List.length e
    rw [List.length_drop] at this
    simp at this; omega
  have hhd : ((l ++ t).drop k).head? = (l.drop k).head? := by rw [hd, head_rest t hne]
  have htk : (l ++ t).take k = l.take k := take_rest t h2
  have hstop : semi = false → (l.drop k).head? ≠ some 10 := by
    rintro rfl e
    obtain ⟨c, e1, e2⟩ := takeWhile_at hbl
    rw [List.getElem?_drop] at e1
    unfold blanks at hk
    rw [hk] at e1
    rw [List.head?_drop, e1] at e
    obtain rfl := Option.some.inj e
    cases e2
  by_cases hA : semi = true ∧ (l.drop k).head? = some 10
  · obtain ⟨rfl, hA⟩ := hA
    rw [next_A hk hA, next_A hk' (by rw [hhd]; exact hA), htk]
    exact ⟨rfl, ⟨hkl, fun _ => rfl⟩⟩
  have hn10 : (l.drop k).head? ≠ some 10 := by
    cases semi
    · exact hstop rfl
    · exact fun x => hA ⟨rfl, x⟩
  cases ht : tokL (l.drop k) with
  | none => rw [next_N hk (.inr hn10) ht] at h; cases h
  | some y =>
    obtain ⟨kd', t', n⟩ := y
    obtain ⟨hn, ht2⟩ := tok_rest hfr hn10 ht t
    rw [List.length_drop] at hn
    rw [← hd] at ht2
    have hn10' : ((l ++ t).drop k).head? ≠ some 10 := by rw [hhd]; exact hn10
    by_cases hB : semi = true ∧ (kd' = 0 ∨ (kd' = 4 ∧ 1 < lineL t'))
    · obtain ⟨rfl, hB⟩ := hB
      rw [next_B hk hn10 ht hB, next_B hk' hn10' ht2 hB, htk]
      exact ⟨rfl, ⟨h2, fun _ => rfl⟩⟩
    · have hB' : semi = false ∨ ¬ (kd' = 0 ∨ (kd' = 4 ∧ 1 < lineL t')) := by
        cases semi
        · exact .inl rfl
        · exact .inr fun x => hB ⟨rfl, x⟩
      rw [next_C hk (.inr hn10) ht hB', next_C hk' (.inr hn10') ht2 hB', htk]
      exact ⟨rfl, ⟨by show k + n ≤ l.length; omega, fun e => by exfalso; simp only at e; omega⟩⟩
end Go.Proofs.YtinaeegijmkbhaaGreatDoor
