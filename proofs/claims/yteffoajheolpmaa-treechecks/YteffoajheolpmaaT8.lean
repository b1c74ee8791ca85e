/-
  Sorted lists, plain: what a stable sort leaves is one list alone.
-/
import Derived.Test.YteffoajheolpmaaT4
namespace Go.Proofs.Yteffoajheolpmaa

/-- No file goes ahead of one that is lower. -/
def Rises (xs : List FileB) : Prop := xs.Pairwise fun a b => ¬ compareN b.1 a.1 < 0
/-- The same files, and those of one path in the same order. -/
def Kept (xs ys : List FileB) : Prop := ∀ q : ByteArray, ys.filter (fun f => decide (compareN f.1 q = 0)) = xs.filter (fun f => decide (compareN f.1 q = 0))

theorem Kept.refl (xs : List FileB) : Kept xs xs := fun _ => rfl
theorem Kept.trans {xs ys zs : List FileB} (h : Kept xs ys) (k : Kept ys zs) : Kept xs zs := fun q => (k q).trans (h q)
theorem Kept.app {xs ys us vs : List FileB} (h : Kept xs us) (k : Kept ys vs) : Kept (xs ++ ys) (us ++ vs) := fun q => by rw [List.filter_append, List.filter_append, h q, k q]
theorem Kept.mem {xs ys : List FileB} (h : Kept xs ys) {f : FileB} : f ∈ ys ↔ f ∈ xs := by
  have e := h f.1
  have k : ∀ zs : List FileB, f ∈ zs ↔ f ∈ zs.filter (fun g => decide (compareN g.1 f.1 = 0)) := fun zs => by
    rw [List.mem_filter]
    exact ⟨fun hf => ⟨hf, decide_eq_true (cmp_self _)⟩, fun hf => hf.1⟩
  rw [k ys, k xs, e]
/-- Two parts change places, where each file of the first is higher than each of the second. -/
theorem Kept.swap {us vs : List FileB} (h : ∀ u ∈ us, ∀ v ∈ vs, compareN v.1 u.1 < 0) : Kept (us ++ vs) (vs ++ us) := by
  intro q
  rw [List.filter_append, List.filter_append]
  by_cases hu : us.filter (fun f => decide (compareN f.1 q = 0)) = []
  · rw [hu, List.append_nil, List.nil_append]
  · obtain ⟨u, hu⟩ := List.exists_mem_of_ne_nil _ hu
    obtain ⟨hu1, hu2⟩ := List.mem_filter.1 hu
    have e1 := compareN_eq (of_decide_eq_true hu2)
    have hv : vs.filter (fun f => decide (compareN f.1 q = 0)) = [] := by
      rw [List.filter_eq_nil_iff]
      intro v hv hc
      have := h u hu1 v hv
      rw [e1] at this
      have := of_decide_eq_true hc
      omega
    rw [hv, List.append_nil, List.nil_append]

theorem Kept.tail {x : FileB} {xs ys : List FileB} (h : Kept (x :: xs) (x :: ys)) : Kept xs ys := by
  intro q
  have := h q
  rw [List.filter_cons, List.filter_cons] at this
  split at this
  · exact List.tail_eq_of_cons_eq this
  · exact this

/-- One list alone rises and keeps the files. -/
theorem rises_one : ∀ (xs ys : List FileB), Rises xs → Rises ys → Kept xs ys → ys = xs
  | [], ys, _, _, hk => by
    cases ys with
    | nil => rfl
    | cons y ys => exact absurd (hk.mem.1 (List.mem_cons_self ..)) (List.not_mem_nil)
  | x :: xs, [], _, _, hk => absurd (hk.mem.2 (List.mem_cons_self ..)) (List.not_mem_nil)
  | x :: xs, y :: ys, hx, hy, hk => by
    have hx' := List.pairwise_cons.1 hx
    have hy' := List.pairwise_cons.1 hy
    have e : compareN y.1 x.1 = 0 := by
      have h1 : ¬ compareN y.1 x.1 < 0 := by
        rcases List.mem_cons.1 (hk.mem.1 (List.mem_cons_self (a := y) (l := ys))) with h | h
        · rw [h, cmp_self]; omega
        · exact hx'.1 _ h
      have h2 : ¬ compareN x.1 y.1 < 0 := by
        rcases List.mem_cons.1 (hk.mem.2 (List.mem_cons_self (a := x) (l := xs))) with h | h
        · rw [h, cmp_self]; omega
        · exact hy'.1 _ h
      rw [cmp_neg] at h2
      omega
    have h3 := hk x.1
    rw [List.filter_cons, List.filter_cons, if_pos (decide_eq_true e), if_pos (decide_eq_true (cmp_self _))] at h3
    have h4 : y = x := List.head_eq_of_cons_eq h3
    subst h4
    rw [rises_one xs ys hx'.2 hy'.2 hk.tail]

theorem Rises.app {us vs : List FileB} (h : Rises us) (k : Rises vs) (m : ∀ u ∈ us, ∀ v ∈ vs, ¬ compareN v.1 u.1 < 0) : Rises (us ++ vs) := List.pairwise_append.2 ⟨h, k, m⟩

/-- The document's own Sort rises and keeps the files. -/
theorem ins_kept (f : FileB) : ∀ l : List FileB, Rises l → Rises (insB f l) ∧ Kept (l ++ [f]) (insB f l)
  | [], _ => ⟨List.pairwise_singleton _ _, Kept.refl _⟩
  | g :: r, h => by
    have h' := List.pairwise_cons.1 h
    unfold insB
    split
    · rename_i hlt
      have hall : ∀ u ∈ g :: r, compareN f.1 u.1 < 0 := fun u hu => by
        rcases List.mem_cons.1 hu with rfl | hu
        · exact hlt
        · have := h'.1 u hu
          rw [cmp_neg] at this
          exact cmp_lt hlt (by omega)
      refine ⟨List.pairwise_cons.2 ⟨fun u hu => ?_, h⟩, ?_⟩
      · have := hall u hu
        rw [cmp_neg]
        omega
      · exact Kept.swap (us := g :: r) (vs := [f]) fun u hu v hv => by
          rw [List.mem_singleton.1 hv]; exact hall u hu
    · rename_i hge
      obtain ⟨h1, h2⟩ := ins_kept f r h'.2
      refine ⟨List.pairwise_cons.2 ⟨fun u hu => ?_, h1⟩, ?_⟩
      · rcases mem_ins.1 hu with rfl | hu
        · exact hge
        · exact h'.1 u hu
      · exact (Kept.refl [g]).app h2
theorem sort_kept_take (l : List FileB) : ∀ k, k ≤ l.length → Rises (sortB (l.take k)) ∧ Kept (l.take k) (sortB (l.take k))
  | 0, _ => ⟨List.Pairwise.nil, Kept.refl _⟩
  | k + 1, h => by
    obtain ⟨h1, h2⟩ := sort_kept_take l k (by omega)
    rw [sort_snoc (by omega)]
    obtain ⟨h3, h4⟩ := ins_kept l[k] _ h1
    refine ⟨h3, ?_⟩
    rw [List.take_succ_eq_append_getElem (by omega : k < l.length)]
    exact (h2.app (Kept.refl _)).trans h4
theorem sort_is {l ys : List FileB} (h : Rises ys) (k : Kept l ys) : ys = sortB l := by
  have := sort_kept_take l l.length (Nat.le_refl _)
  rw [List.take_length] at this
  exact rises_one _ _ this.1 h fun q => (k q).trans (this.2 q).symm
end Go.Proofs.Yteffoajheolpmaa
