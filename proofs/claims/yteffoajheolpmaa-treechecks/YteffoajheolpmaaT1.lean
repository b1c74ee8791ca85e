/-
  Plain facts on trees: a sorted list is known by its members; what was put is there, and all else.
-/
import Derived.Test.YteffoajheolpmaaF6
namespace Go.Proofs.Yteffoajheolpmaa

theorem up_ext : ∀ {xs ys : List FileB}, Up xs → Up ys → (∀ f, f ∈ xs ↔ f ∈ ys) → xs = ys
  | [], [], _, _, _ => rfl
  | [], y :: ys, _, _, h => by have := (h y).2 (by simp); simp at this
  | x :: xs, [], _, _, h => by have := (h x).1 (by simp); simp at this
  | x :: xs, y :: ys, hx, hy, h => by
    have hx' := List.pairwise_cons.1 hx
    have hy' := List.pairwise_cons.1 hy
    have e : x = y := by
      rcases List.mem_cons.1 ((h x).1 (by simp)) with e | e
      · exact e
      · rcases List.mem_cons.1 ((h y).2 (by simp)) with e' | e'
        · exact e'.symm
        · have h1 := hy'.1 x e
          have h2 := hx'.1 y e'
          rw [cmp_neg, h2] at h1
          omega
    subst e
    congr 1
    refine up_ext hx'.2 hy'.2 fun f => ⟨fun hf => ?_, fun hf => ?_⟩
    · rcases List.mem_cons.1 ((h f).1 (by simp [hf])) with e | e
      · have := hx'.1 f hf
        rw [e, cmp_self] at this; cases this
      · exact e
    · rcases List.mem_cons.1 ((h f).2 (by simp [hf])) with e | e
      · have := hy'.1 f hf
        rw [e, cmp_self] at this; cases this
      · exact e
theorem up_inj {xs : List FileB} (h : Up xs) {f g : FileB} (hf : f ∈ xs) (hg : g ∈ xs) (e : f.1 = g.1) : f = g := by
  obtain ⟨i, hi, rfl⟩ := List.mem_iff_getElem.1 hf
  obtain ⟨j, hj, rfl⟩ := List.mem_iff_getElem.1 hg
  rcases Nat.lt_trichotomy i j with h1 | h1 | h1
  · have := up_at h h1 hj; rw [e, cmp_self] at this; cases this
  · subst h1; rfl
  · have := up_at h h1 hi; rw [e, cmp_self] at this; cases this
theorem mem_put {xs : List FileB} {f g : FileB} : g ∈ putL xs f ↔ g = f ∨ (g ∈ xs ∧ ¬ g.1 = f.1) := by
  unfold putL loF hiF
  simp only [List.mem_append, List.mem_cons, List.mem_filter, decide_eq_true_eq]
  constructor
  · rintro (⟨h, k⟩ | h | ⟨h, k⟩)
    · exact .inr ⟨h, fun e => by rw [e, cmp_self] at k; omega⟩
    · exact .inl h
    · exact .inr ⟨h, fun e => by rw [e, cmp_self] at k; omega⟩
  · rintro (h | ⟨h, k⟩)
    · exact .inr (.inl h)
    · have : ¬ compareN g.1 f.1 = 0 := fun e => k (cmp_zero.1 e)
      rcases cmp_range g.1 f.1 with r | r | r
      · exact .inl ⟨h, by omega⟩
      · exact absurd r this
      · exact .inr (.inr ⟨h, by omega⟩)
theorem put_turn {t : List FileB} (h : Up t) {f g : FileB} (hne : ¬ f.1 = g.1) : putL (putL t f) g = putL (putL t g) f := by
  refine up_ext (up_put (up_put h f) g) (up_put (up_put h g) f) fun x => ?_
  simp only [mem_put]
  constructor
  · rintro (rfl | ⟨rfl | ⟨h1, h2⟩, h3⟩)
    · exact .inr ⟨.inl rfl, fun e => hne e.symm⟩
    · exact .inl rfl
    · exact .inr ⟨.inr ⟨h1, h3⟩, h2⟩
  · rintro (rfl | ⟨rfl | ⟨h1, h2⟩, h3⟩)
    · exact .inr ⟨.inl rfl, hne⟩
    · exact .inl rfl
    · exact .inr ⟨.inr ⟨h1, h3⟩, h2⟩
theorem clash_put {t : List FileB} {f g : FileB} (h : clashI t g.1 = false) : clashI (putL t f) g.1 = insC f.1 g.1 := by
  have h' := clashI_no h
  cases e : insC f.1 g.1
  · unfold clashI
    rw [List.any_eq_false]
    intro x hx
    rcases mem_put.1 hx with rfl | ⟨hx, _⟩
    · simp [e]
    · simp [h' x hx]
  · unfold clashI
    rw [List.any_eq_true]
    exact ⟨f, mem_put.2 (.inl rfl), e⟩
theorem turn_E {t : List FileB} (h : Up t) {f g : FileB} (hne : ¬ f.1 = g.1) (hf : putE t f = 0) (hg : putE t g = 0) : putE (putL t f) g = putE (putL t g) f := by
  obtain ⟨f1, f2, f3, f4⟩ := putE_zero hf
  obtain ⟨g1, g2, g3, g4⟩ := putE_zero hg
  unfold putE
  rw [f1, g1, if_pos rfl, if_pos rfl, if_neg (show ¬ 4000 < g.2.size by omega), if_neg (show ¬ 4000 < f.2.size by omega), clash_put g3, clash_put f3, insC_comm g.1 f.1, put_turn h hne]
theorem turn_R {t : List FileB} (h : Up t) {f g : FileB} (hne : ¬ f.1 = g.1) (hf : putE t f = 0) (hg : putE t g = 0) : putR (putL t f) g = putR (putL t g) f := by
  unfold putR
  rw [turn_E h hne hf hg, put_turn h hne]
theorem FBox.drewN {w : World} {B : Nat} {f : FileB} (h : FBox w B f) (n : Nat) : FBox (w.drewN n) B f := h
end Go.Proofs.Yteffoajheolpmaa
