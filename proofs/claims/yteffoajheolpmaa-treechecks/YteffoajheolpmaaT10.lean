/-
  The searches of a merge, plain.
-/
import Derived.Test.YteffoajheolpmaaT9
namespace Go.Proofs.Yteffoajheolpmaa

/-- The path at that place. -/
def keyAt (xs : List FileB) (q : Nat) : ByteArray := (xs[q]?.map (·.1)).getD default
theorem keyAt_some {xs : List FileB} {q : Nat} {f : FileB} (h : xs[q]? = some f) : keyAt xs q = f.1 := by unfold keyAt; rw [h]; rfl
theorem some_at {xs : List FileB} {q : Nat} (h : q < xs.length) : ∃ p d, xs[q]? = some (p, d) ∧ p = keyAt xs q := ⟨xs[q].1, xs[q].2, List.getElem?_eq_getElem h, (keyAt_some (List.getElem?_eq_getElem h)).symm⟩
theorem key_first (P A C S : List FileB) {i : Nat} (h : i < A.length) : keyAt (P ++ A ++ C ++ S) (P.length + i) = A[i].1 := by
  apply keyAt_some
  rw [List.append_assoc, List.append_assoc, List.getElem?_append_right (by omega), List.getElem?_append_left (by omega), Nat.add_sub_cancel_left, List.getElem?_eq_getElem h]
theorem key_second (P A C S : List FileB) {i : Nat} (h : i < C.length) : keyAt (P ++ A ++ C ++ S) (P.length + A.length + i) = C[i].1 := by
  apply keyAt_some
  rw [List.append_assoc, List.getElem?_append_right (by rw [List.length_append]; omega), List.getElem?_append_left (by rw [List.length_append]; omega)]
  simp [h]
theorem key_sec1 (P : List FileB) (x : FileB) (C S : List FileB) (i : Nat) (h : i < C.length) : keyAt (P ++ [x] ++ C ++ S) (P.length + 1 + i) = C[i].1 := key_second P [x] C S h

/-- What a search has found out: all ahead of k are so, none from l on is. -/
structure Sk (p : Nat → Prop) (lo hi k l : Nat) : Prop where
  a : lo ≤ k
  b : k ≤ l
  c : l ≤ hi
  yes : ∀ q, lo ≤ q → q < k → p q
  no : ∀ q, l ≤ q → q < hi → ¬ p q
theorem Sk.start (p : Nat → Prop) {lo hi : Nat} (h : lo ≤ hi) : Sk p lo hi lo hi := ⟨Nat.le_refl _, h, Nat.le_refl _, fun _ _ _ => by omega, fun _ _ _ => by omega⟩
theorem Sk.up {p : Nat → Prop} {lo hi k l h : Nat} (s : Sk p lo hi k l) (mono : ∀ q r, lo ≤ q → q ≤ r → r < hi → p r → p q) (h1 : k ≤ h) (h2 : h < l) (e : p h) : Sk p lo hi (h + 1) l :=
  ⟨by have := s.a; omega, h2, s.c, fun q ha hb => mono q h ha (by omega) (by have := s.c; omega) e, s.no⟩
theorem Sk.down {p : Nat → Prop} {lo hi k l h : Nat} (s : Sk p lo hi k l) (mono : ∀ q r, lo ≤ q → q ≤ r → r < hi → p r → p q) (h1 : k ≤ h) (h2 : h < l) (e : ¬ p h) : Sk p lo hi k h :=
  ⟨s.a, h1, by have := s.c; omega, s.yes, fun q ha hb hq => e (mono h q (by have := s.a; omega) ha hb hq)⟩

/-- One file ahead of a sorted part. -/
theorem one_first {x : FileB} {C : List FileB} {e : Nat} (hc : Rises C) (h1 : ∀ y ∈ C.take e, compareN y.1 x.1 < 0) (h2 : ∀ y ∈ C.drop e, ¬ compareN y.1 x.1 < 0) : Rises (C.take e ++ x :: C.drop e) ∧ Kept (x :: C) (C.take e ++ x :: C.drop e) := by
  have hc' := hc
  rw [← List.take_append_drop e C] at hc'
  obtain ⟨k1, k2, k3⟩ := List.pairwise_append.1 hc'
  constructor
  · refine List.pairwise_append.2 ⟨k1, List.pairwise_cons.2 ⟨h2, k2⟩, fun y hy z hz => ?_⟩
    rcases List.mem_cons.1 hz with rfl | hz
    · have := h1 y hy
      rw [cmp_neg]; omega
    · exact k3 y hy z hz
  · have e1 : x :: C = ([x] ++ C.take e) ++ C.drop e := by rw [List.append_assoc, List.take_append_drop]; rfl
    have e2 : C.take e ++ x :: C.drop e = (C.take e ++ [x]) ++ C.drop e := by simp
    rw [e1, e2]
    exact (Kept.swap fun u hu v hv => by rw [List.mem_singleton.1 hu]; exact h1 v hv).app (Kept.refl _)
/-- One file behind a sorted part. -/
theorem one_last {y : FileB} {A : List FileB} {s : Nat} (ha : Rises A) (h1 : ∀ z ∈ A.take s, ¬ compareN y.1 z.1 < 0) (h2 : ∀ z ∈ A.drop s, compareN y.1 z.1 < 0) : Rises (A.take s ++ y :: A.drop s) ∧ Kept (A ++ [y]) (A.take s ++ y :: A.drop s) := by
  have ha' := ha
  rw [← List.take_append_drop s A] at ha'
  obtain ⟨k1, k2, k3⟩ := List.pairwise_append.1 ha'
  constructor
  · refine List.pairwise_append.2 ⟨k1, List.pairwise_cons.2 ⟨fun z hz => ?_, k2⟩, fun z hz v hv => ?_⟩
    · have := h2 z hz
      rw [cmp_neg]; omega
    · rcases List.mem_cons.1 hv with rfl | hv
      · exact h1 z hz
      · exact k3 z hz v hv
  · have e1 : A ++ [y] = A.take s ++ (A.drop s ++ [y]) := by rw [← List.append_assoc, List.take_append_drop]
    have e2 : A.take s ++ y :: A.drop s = A.take s ++ ([y] ++ A.drop s) := by simp
    rw [e1, e2]
    exact (Kept.refl _).app (Kept.swap fun u hu v hv => by rw [List.mem_singleton.1 hv]; exact h2 u hu)

/-- How far the first file has gone up. -/
def UpAt (P : List FileB) (x : FileB) (C S : List FileB) (r : Nat) (ys : List FileB) : Prop := ys = P ++ C.take r ++ x :: C.drop r ++ S
theorem UpAt.next {P : List FileB} {x : FileB} {C S ys : List FileB} {r : Nat} (h : UpAt P x C S r ys) (hr : r < C.length) :
    ∃ P' y S', ys = P' ++ x :: [] ++ y :: S' ∧ P'.length = P.length + r ∧ UpAt P x C S (r + 1) (P' ++ y :: [] ++ x :: S') := by
  refine ⟨P ++ C.take r, C[r], C.drop (r + 1) ++ S, ?_, by simp; omega, ?_⟩
  · rw [h, List.drop_eq_getElem_cons hr]; simp only [List.append_assoc, List.cons_append, List.nil_append]
  · unfold UpAt
    rw [List.take_succ_eq_append_getElem hr]; simp only [List.append_assoc, List.cons_append, List.nil_append]
/-- How far the last file has gone down. -/
def DownAt (P A : List FileB) (y : FileB) (S : List FileB) (r : Nat) (ys : List FileB) : Prop := ys = P ++ A.take r ++ y :: A.drop r ++ S
theorem DownAt.next {P : List FileB} {y : FileB} {A S ys : List FileB} {r : Nat} (h : DownAt P A y S (r + 1) ys) (hr : r < A.length) :
    ∃ P' z S', ys = P' ++ z :: [] ++ y :: S' ∧ P'.length = P.length + r ∧ DownAt P A y S r (P' ++ y :: [] ++ z :: S') := by
  refine ⟨P ++ A.take r, A[r], A.drop (r + 1) ++ S, ?_, by simp; omega, ?_⟩
  · rw [h, List.take_succ_eq_append_getElem hr]; simp only [List.append_assoc, List.cons_append, List.nil_append]
  · unfold DownAt
    rw [List.drop_eq_getElem_cons hr]; simp only [List.append_assoc, List.cons_append, List.nil_append]

/-- The first search tells where the first file belongs. -/
theorem first_cut {P : List FileB} {x : FileB} {C S : List FileB} {e : Nat} (hc : Rises C) (h : Sk (fun q => compareN (keyAt (P ++ [x] ++ C ++ S) q) x.1 < 0) (P.length + 1) (P.length + 1 + C.length) (P.length + 1 + e) (P.length + 1 + e)) : Rises (C.take e ++ x :: C.drop e) ∧ Kept (x :: C) (C.take e ++ x :: C.drop e) := by
  have hle := h.c
  apply one_first hc
  · intro y hy
    obtain ⟨i, hi, rfl⟩ := List.mem_iff_getElem.1 hy
    rw [List.length_take] at hi
    have := h.yes (P.length + 1 + i) (by omega) (by omega)
    rw [key_sec1 P x C S i (by omega)] at this
    rw [List.getElem_take]; exact this
  · intro y hy
    obtain ⟨i, hi, rfl⟩ := List.mem_iff_getElem.1 hy
    rw [List.length_drop] at hi
    have := h.no (P.length + 1 + (e + i)) (by omega) (by omega)
    rw [key_sec1 P x C S (e + i) (by omega)] at this
    rw [List.getElem_drop]; exact this
theorem first_mono {P : List FileB} {x : FileB} {C S : List FileB} (hc : Rises C) (q r : Nat) (h1 : P.length + 1 ≤ q) (h2 : q ≤ r) (h3 : r < P.length + 1 + C.length) (h : compareN (keyAt (P ++ [x] ++ C ++ S) r) x.1 < 0) : compareN (keyAt (P ++ [x] ++ C ++ S) q) x.1 < 0 := by
  obtain ⟨i, rfl⟩ : ∃ i, q = P.length + 1 + i := ⟨q - (P.length + 1), by omega⟩
  obtain ⟨j, rfl⟩ : ∃ j, r = P.length + 1 + j := ⟨r - (P.length + 1), by omega⟩
  rw [key_sec1 P x C S _ (by omega)] at h
  rw [key_sec1 P x C S _ (by omega)]
  exact cmp_lt' (rises_at hc (by omega) (by omega)) h
/-- The second search tells where the last file belongs. -/
theorem second_cut {P A S : List FileB} {y : FileB} {s : Nat} (ha : Rises A) (h : Sk (fun q => ¬ compareN y.1 (keyAt (P ++ A ++ [y] ++ S) q) < 0) P.length (P.length + A.length) (P.length + s) (P.length + s)) : Rises (A.take s ++ y :: A.drop s) ∧ Kept (A ++ [y]) (A.take s ++ y :: A.drop s) := by
  have hle := h.c
  apply one_last ha
  · intro z hz
    obtain ⟨i, hi, rfl⟩ := List.mem_iff_getElem.1 hz
    rw [List.length_take] at hi
    have := h.yes (P.length + i) (by omega) (by omega)
    rw [key_first P A [y] S (by omega)] at this
    rw [List.getElem_take]; exact this
  · intro z hz
    obtain ⟨i, hi, rfl⟩ := List.mem_iff_getElem.1 hz
    rw [List.length_drop] at hi
    have := h.no (P.length + (s + i)) (by omega) (by omega)
    rw [key_first P A [y] S (by omega)] at this
    rw [List.getElem_drop]
    exact Classical.not_not.1 this
theorem second_mono {P A S : List FileB} {y : FileB} (ha : Rises A) (q r : Nat) (h1 : P.length ≤ q) (h2 : q ≤ r) (h3 : r < P.length + A.length) (h : ¬ compareN y.1 (keyAt (P ++ A ++ [y] ++ S) r) < 0) : ¬ compareN y.1 (keyAt (P ++ A ++ [y] ++ S) q) < 0 := by
  obtain ⟨i, rfl⟩ : ∃ i, q = P.length + i := ⟨q - P.length, by omega⟩
  obtain ⟨j, rfl⟩ : ∃ j, r = P.length + j := ⟨r - P.length, by omega⟩
  have hj : j < A.length := by omega
  rw [key_first P A [y] S hj] at h
  rw [key_first P A [y] S (by omega : i < A.length)]
  intro hc
  exact h (cmp_lt hc (rises_at ha (by omega) hj))

/-- The bounds of the third search. -/
def Bounds (a m b mid lo hi : Nat) : Prop := mid = (a + b) / 2 ∧ ((mid < m ∧ lo = mid + m - b ∧ hi = mid) ∨ (m ≤ mid ∧ lo = a ∧ hi = m))
theorem third_mono {P A C S : List FileB} {mid lo hi : Nat} (ha : Rises A) (hc : Rises C) (hA : 0 < A.length) (hC : 0 < C.length) (hb : Bounds P.length (P.length + A.length) (P.length + A.length + C.length) mid lo hi) (q r : Nat) (h1 : lo ≤ q) (h2 : q ≤ r) (h3 : r < hi)
    (h : ¬ compareN (keyAt (P ++ A ++ C ++ S) (mid + (P.length + A.length) - 1 - r)) (keyAt (P ++ A ++ C ++ S) r) < 0) : ¬ compareN (keyAt (P ++ A ++ C ++ S) (mid + (P.length + A.length) - 1 - q)) (keyAt (P ++ A ++ C ++ S) q) < 0 := by
  obtain ⟨hm, hb⟩ := hb
  obtain ⟨i, rfl⟩ : ∃ i, q = P.length + i := ⟨q - P.length, by omega⟩
  obtain ⟨j, rfl⟩ : ∃ j, r = P.length + j := ⟨r - P.length, by omega⟩
  obtain ⟨k, hk⟩ : ∃ k, mid + (P.length + A.length) - 1 - (P.length + i) = P.length + A.length + k := ⟨mid + (P.length + A.length) - 1 - (P.length + i) - (P.length + A.length), by omega⟩
  obtain ⟨l, hl⟩ : ∃ l, mid + (P.length + A.length) - 1 - (P.length + j) = P.length + A.length + l := ⟨mid + (P.length + A.length) - 1 - (P.length + j) - (P.length + A.length), by omega⟩
  have hi' : i < A.length := by omega
  have hj' : j < A.length := by omega
  have hk' : k < C.length := by omega
  have hl' : l < C.length := by omega
  rw [hl, key_second P A C S hl', key_first P A C S hj'] at h
  rw [hk, key_second P A C S hk', key_first P A C S hi']
  intro hx
  exact h (cmp_lt' (rises_at hc (by omega) hk') (cmp_lt hx (rises_at ha (by omega) hj')))
theorem third_cut {P A C S : List FileB} {mid lo hi st : Nat} (ha : Rises A) (hc : Rises C) (hA : 0 < A.length) (hC : 0 < C.length) (hb : Bounds P.length (P.length + A.length) (P.length + A.length + C.length) mid lo hi)
    (h : Sk (fun q => ¬ compareN (keyAt (P ++ A ++ C ++ S) (mid + (P.length + A.length) - 1 - q)) (keyAt (P ++ A ++ C ++ S) q) < 0) lo hi st st) : Cut A C (st - P.length) (mid - st) := by
  obtain ⟨hm, hb⟩ := hb
  have h1 := h.a
  have h2 := h.c
  refine Cut.made ha hc (by omega) (by omega) (fun p q => ?_) (fun p q => ?_)
  · have := h.no st (Nat.le_refl _) (by omega)
    obtain ⟨s, rfl⟩ : ∃ s, st = P.length + s := ⟨st - P.length, by omega⟩
    obtain ⟨e, he⟩ : ∃ e, mid = P.length + s + (e + 1) := ⟨mid - (P.length + s) - 1, by omega⟩
    have e1 : mid + (P.length + A.length) - 1 - (P.length + s) = P.length + A.length + e := by omega
    rw [e1, key_second P A C S (by omega), key_first P A C S (by omega)] at this
    have e2 : mid - (P.length + s) - 1 = e := by omega
    have e3 : P.length + s - P.length = s := by omega
    simp only [e2, e3]
    exact Classical.not_not.1 this
  · have := h.yes (st - 1) (by omega) (by omega)
    obtain ⟨s, rfl⟩ : ∃ s, st = P.length + (s + 1) := ⟨st - P.length - 1, by omega⟩
    obtain ⟨e, he⟩ : ∃ e, mid = P.length + (s + 1) + e := ⟨mid - (P.length + (s + 1)), by omega⟩
    have e1 : mid + (P.length + A.length) - 1 - (P.length + (s + 1) - 1) = P.length + A.length + e := by omega
    have e4 : P.length + (s + 1) - 1 = P.length + s := by omega
    rw [e1, e4, key_second P A C S (by omega), key_first P A C S (by omega)] at this
    have e2 : mid - (P.length + (s + 1)) = e := by omega
    have e3 : P.length + (s + 1) - P.length - 1 = s := by omega
    simp only [e2, e3]
    exact this
end Go.Proofs.Yteffoajheolpmaa
