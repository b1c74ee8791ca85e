/-
  Runs of a list, plain: parts of one length that rise, the last one perhaps shorter.
-/
import Derived.Test.YteffoajheolpmaaT11
namespace Go.Proofs.Yteffoajheolpmaa
open Go.RowKit Go.Shelf

/-- Parts of z files each, that rise; the last one may be shorter. -/
inductive Runs (z : Nat) : List FileB → Prop
  | last (A : List FileB) : A.length ≤ z → Rises A → Runs z A
  | more (A R : List FileB) : A.length = z → Rises A → Runs z R → Runs z (A ++ R)
/-- Parts of z files each, that rise. -/
inductive FullRuns (z : Nat) : List FileB → Prop
  | nil : FullRuns z []
  | more (Q A : List FileB) : FullRuns z Q → A.length = z → Rises A → FullRuns z (Q ++ A)

theorem FullRuns.runs {z : Nat} {Q : List FileB} (h : FullRuns z Q) : ∀ {R : List FileB}, Runs z R → Runs z (Q ++ R) := by
  induction h with
  | nil => intro R hR; exact hR
  | more Q A _ hl hr ih => intro R hR; rw [List.append_assoc]; exact ih (.more A R hl hr hR)
theorem Runs.rises {z : Nat} {R : List FileB} (h : Runs z R) : R.length ≤ z → Rises R := by
  induction h with
  | last A _ hr => intro _; exact hr
  | more A R hl hr _ ih =>
    intro h
    rw [List.length_append] at h
    have : R = [] := List.length_eq_zero_iff.1 (by omega)
    rw [this, List.append_nil]; exact hr
theorem Runs.first {z : Nat} {R : List FileB} (h : Runs z R) (hz : z ≤ R.length) : ∃ A R', R = A ++ R' ∧ A.length = z ∧ Rises A ∧ Runs z R' := by
  cases h with
  | last _ hl hr => exact ⟨R, [], (List.append_nil _).symm, by omega, hr, .last [] (Nat.zero_le _) List.Pairwise.nil⟩
  | more A R hl hr hR => exact ⟨A, R, rfl, hl, hr, hR⟩
theorem short_of {xs ys : List FileB} (k : Kept xs ys) (h : Short xs) : Short ys := fun f hf => h f (k.mem.1 hf)

/-- Where the first pass is: the files ahead of a are sorted by twenties. -/
def Pass1 (xs : List FileB) (a : Nat) (ys : List FileB) : Prop := ∃ Q R, ys = Q ++ R ∧ Q.length = a ∧ FullRuns 20 Q ∧ Kept xs ys
theorem Pass1.start (xs : List FileB) : Pass1 xs 0 xs := ⟨[], xs, rfl, rfl, .nil, Kept.refl _⟩
theorem Pass1.next {xs ys : List FileB} {a : Nat} (h : Pass1 xs a ys) (hb : a + 20 ≤ ys.length) : ∃ P A S, ys = P ++ A ++ S ∧ a = P.length ∧ a + 20 = P.length + A.length ∧ ∀ zs, Parted P A S zs → Pass1 xs (a + 20) zs := by
  obtain ⟨Q, R, rfl, hl, hf, hk⟩ := h
  rw [List.length_append] at hb
  refine ⟨Q, R.take 20, R.drop 20, by rw [List.append_assoc, List.take_append_drop], hl.symm, by rw [List.length_take]; omega, ?_⟩
  rintro zs ⟨A', hr, hk', rfl⟩
  have hl' := kept_len hk'
  rw [List.length_take] at hl'
  refine ⟨Q ++ A', R.drop 20, rfl, by rw [List.length_append]; omega, .more Q A' hf (by omega) hr, hk.trans ?_⟩
  conv => lhs; rw [← List.take_append_drop 20 R]
  rw [List.append_assoc]
  exact (Kept.refl _).app (hk'.app (Kept.refl _))
theorem Pass1.done {xs ys : List FileB} {a : Nat} (h : Pass1 xs a ys) (hb : ys.length < a + 20) (ha : a ≤ ys.length) : ∃ P A, ys = P ++ A ++ [] ∧ a = P.length ∧ ys.length = P.length + A.length ∧ ∀ zs, Parted P A [] zs → Runs 20 zs ∧ Kept xs zs := by
  obtain ⟨Q, R, rfl, hl, hf, hk⟩ := h
  rw [List.length_append] at hb
  refine ⟨Q, R, by rw [List.append_nil], hl.symm, by rw [List.length_append], ?_⟩
  rintro zs ⟨A', hr, hk', rfl⟩
  have hl' := kept_len hk'
  rw [List.append_nil]
  exact ⟨hf.runs (.last A' (by omega) hr), hk.trans ((Kept.refl _).app hk')⟩

/-- Where a later pass is: the files ahead of a are sorted by 2z, those behind it by z. -/
def Pass2 (xs : List FileB) (z a : Nat) (ys : List FileB) : Prop := ∃ Q R, ys = Q ++ R ∧ Q.length = a ∧ FullRuns (2 * z) Q ∧ Runs z R ∧ Kept xs ys
theorem Pass2.start {xs ys : List FileB} {z : Nat} (h : Runs z ys) (k : Kept xs ys) : Pass2 xs z 0 ys := ⟨[], ys, rfl, rfl, .nil, h, k⟩
theorem Pass2.next {xs ys : List FileB} {z a : Nat} (h : Pass2 xs z a ys) (hb : a + 2 * z ≤ ys.length) : ∃ P A C S, ys = P ++ A ++ C ++ S ∧ a = P.length ∧ A.length = z ∧ C.length = z ∧ Rises A ∧ Rises C ∧ ∀ zs, Parted P (A ++ C) S zs → Pass2 xs z (a + 2 * z) zs := by
  obtain ⟨Q, R, rfl, hl, hf, hr, hk⟩ := h
  rw [List.length_append] at hb
  obtain ⟨A, R1, rfl, hA, hAr, hR1⟩ := hr.first (by omega)
  rw [List.length_append] at hb
  obtain ⟨C, R2, rfl, hC, hCr, hR2⟩ := hR1.first (by omega)
  refine ⟨Q, A, C, R2, by simp only [List.append_assoc], hl.symm, hA, hC, hAr, hCr, ?_⟩
  rintro zs ⟨M, hm, hk', rfl⟩
  have hl' := kept_len hk'
  rw [List.length_append] at hl'
  refine ⟨Q ++ M, R2, rfl, by rw [List.length_append]; omega, .more Q M hf (by omega) hm, hR2, hk.trans ?_⟩
  rw [List.append_assoc, ← List.append_assoc A]
  exact (Kept.refl _).app (hk'.app (Kept.refl _))
theorem Pass2.done {xs ys : List FileB} {z a : Nat} (h : Pass2 xs z a ys) (hb : ys.length ≤ a + z) : Runs (2 * z) ys ∧ Kept xs ys := by
  obtain ⟨Q, R, rfl, hl, hf, hr, hk⟩ := h
  rw [List.length_append] at hb
  exact ⟨hf.runs (.last R (by omega) (hr.rises (by omega))), hk⟩
theorem Pass2.rest {xs ys : List FileB} {z a : Nat} (h : Pass2 xs z a ys) (hb : ys.length < a + 2 * z) (hm : a + z < ys.length) : ∃ P A C, ys = P ++ A ++ C ++ [] ∧ a = P.length ∧ A.length = z ∧ 0 < C.length ∧ ys.length = P.length + A.length + C.length ∧ Rises A ∧ Rises C ∧ ∀ zs, Parted P (A ++ C) [] zs → Runs (2 * z) zs ∧ Kept xs zs := by
  obtain ⟨Q, R, rfl, hl, hf, hr, hk⟩ := h
  rw [List.length_append] at hb hm
  obtain ⟨A, C, rfl, hA, hAr, hR1⟩ := hr.first (by omega)
  rw [List.length_append] at hb hm
  refine ⟨Q, A, C, by simp only [List.append_assoc, List.append_nil], hl.symm, hA, by omega, by simp only [List.length_append]; omega, hAr, hR1.rises (by omega), ?_⟩
  rintro zs ⟨M, hm', hk', rfl⟩
  have hl' := kept_len hk'
  rw [List.length_append] at hl'
  rw [List.append_nil]
  exact ⟨hf.runs (.last M (by omega) hm'), hk.trans ((Kept.refl _).app hk')⟩
end Go.Proofs.Yteffoajheolpmaa
