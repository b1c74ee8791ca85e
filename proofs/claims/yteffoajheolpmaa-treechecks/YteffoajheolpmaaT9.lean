/-
  Merging two sorted parts in place, plain.
-/
import Derived.Test.YteffoajheolpmaaT8
namespace Go.Proofs.Yteffoajheolpmaa

theorem rises_at {xs : List FileB} (h : Rises xs) {i j : Nat} (hij : i ≤ j) (hj : j < xs.length) : compareN xs[i].1 xs[j].1 ≤ 0 := by
  by_cases e : i = j
  · subst e; rw [cmp_self]; omega
  · have := (List.pairwise_iff_getElem.1 h) i j (by omega) hj (by omega)
    rw [cmp_neg] at this
    omega
theorem cmp_ge {a b : ByteArray} : ¬ compareN a b < 0 ↔ compareN b a ≤ 0 := by rw [cmp_neg b a]; omega

/-- What the search of a merge tells of its cut: of the first part what is from s on, of the second what is ahead of e. -/
structure Cut (A C : List FileB) (s e : Nat) : Prop where
  hs : s ≤ A.length
  he : e ≤ C.length
  high : ∀ x ∈ A.drop s, ∀ y ∈ C.take e, compareN y.1 x.1 < 0
  low : ∀ x ∈ A.take s, ∀ y ∈ C.drop e, compareN x.1 y.1 ≤ 0
theorem Cut.made {A C : List FileB} {s e : Nat} (ha : Rises A) (hc : Rises C) (hs : s ≤ A.length) (he : e ≤ C.length)
    (h1 : ∀ (p : s < A.length) (q : 0 < e), compareN C[e - 1].1 A[s].1 < 0) (h2 : ∀ (p : 0 < s) (q : e < C.length), ¬ compareN C[e].1 A[s - 1].1 < 0) : Cut A C s e := by
  refine ⟨hs, he, fun x hx y hy => ?_, fun x hx y hy => ?_⟩
  · obtain ⟨i, hi, rfl⟩ := List.mem_iff_getElem.1 hx
    obtain ⟨j, hj, rfl⟩ := List.mem_iff_getElem.1 hy
    rw [List.length_drop] at hi
    rw [List.length_take] at hj
    rw [List.getElem_drop, List.getElem_take]
    have k1 := rises_at ha (i := s) (j := s + i) (by omega) (by omega)
    have k2 := rises_at hc (i := j) (j := e - 1) (by omega) (by omega)
    exact cmp_lt' k2 (cmp_lt (h1 (by omega) (by omega)) k1)
  · obtain ⟨i, hi, rfl⟩ := List.mem_iff_getElem.1 hx
    obtain ⟨j, hj, rfl⟩ := List.mem_iff_getElem.1 hy
    rw [List.length_take] at hi
    rw [List.length_drop] at hj
    rw [List.getElem_drop, List.getElem_take]
    have k1 := rises_at ha (i := i) (j := s - 1) (by omega) (by omega)
    have k2 := rises_at hc (i := e) (j := e + j) (by omega) (by omega)
    exact cmp_le k1 (cmp_le (cmp_ge.1 (h2 (by omega) (by omega))) k2)
/-- The two halves, each merged, are the whole. -/
theorem Cut.whole {A C L R : List FileB} {s e : Nat} (h : Cut A C s e) (ha : Rises A) (hc : Rises C) (hl : Rises L) (kl : Kept (A.take s ++ C.take e) L) (hr : Rises R) (kr : Kept (A.drop s ++ C.drop e) R) : Rises (L ++ R) ∧ Kept (A ++ C) (L ++ R) := by
  have ha' := ha
  have hc' := hc
  rw [← List.take_append_drop s A] at ha'
  rw [← List.take_append_drop e C] at hc'
  have pa := (List.pairwise_append.1 ha').2.2
  have pc := (List.pairwise_append.1 hc').2.2
  constructor
  · refine hl.app hr fun l hl' r hr' => ?_
    rcases List.mem_append.1 (kl.mem.1 hl') with h1 | h1 <;> rcases List.mem_append.1 (kr.mem.1 hr') with h2 | h2
    · exact pa l h1 r h2
    · exact cmp_ge.2 (h.low l h1 r h2)
    · exact cmp_ge.2 (Int.le_of_lt (h.high r h2 l h1))
    · exact pc l h1 r h2
  · refine Kept.trans ?_ (kl.app kr)
    have e1 : A ++ C = A.take s ++ ((A.drop s ++ C.take e) ++ C.drop e) := by
      conv => lhs; rw [← List.take_append_drop s A, ← List.take_append_drop e C]
      simp only [List.append_assoc]
    have e2 : A.take s ++ C.take e ++ (A.drop s ++ C.drop e) = A.take s ++ ((C.take e ++ A.drop s) ++ C.drop e) := by simp only [List.append_assoc]
    rw [e1, e2]
    exact (Kept.refl _).app ((Kept.swap h.high).app (Kept.refl _))
end Go.Proofs.Yteffoajheolpmaa
