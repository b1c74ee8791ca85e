/-
  Plain facts: a tree has no fault; what is found in it.
-/
import Derived.Test.YteffoajheolpmaaF9
import Derived.Test.YteffoajheolpmaaT1
namespace Go.Proofs.Yteffoajheolpmaa

theorem check_ok {f : FileB} (h : validB f.1 = true ∧ f.2.size ≤ 4000) : checkFileN f = 0 := checkFile_3 h.1 (by have := h.2; omega)
theorem go_none : ∀ (xs : List FileB) (p : FileB), (∀ x ∈ xs, checkFileN x = 0) → (p :: xs).Pairwise (fun a b => followsB b.1 a.1 = true) → checkGo badT (some p) xs = none
  | [], _, _, _ => rfl
  | x :: xs, p, h, hp => by
    have h1 := List.pairwise_cons.1 hp
    rw [checkGo, if_pos (badT_3 (h x (by simp)) (h1.1 x (by simp)))]
    exact go_none xs x (fun y hy => h y (by simp [hy])) h1.2
theorem go_none' {xs : List FileB} (h : ∀ x ∈ xs, checkFileN x = 0) (hp : xs.Pairwise (fun a b => followsB b.1 a.1 = true)) : checkGo badT none xs = none := by
  cases xs with
  | nil => rfl
  | cons x xs =>
    rw [checkGo, if_pos (badT_2 (h x (by simp)))]
    exact go_none xs x (fun y hy => h y (by simp [hy])) hp
theorem Tree.follows {t : List FileB} (h : Tree t) : t.Pairwise (fun a b => followsB b.1 a.1 = true) := by
  rw [List.pairwise_iff_getElem]
  intro i j hi hj hij
  have hc := up_at h.up hij hj
  have ha := (h.ok _ (List.getElem_mem hi)).1
  have hb := (h.ok _ (List.getElem_mem hj)).1
  refine follows_1 (by omega) ?_
  have hne : ¬ t[j].1 = t[i].1 := fun e => by rw [e, cmp_self] at hc; cases hc
  rw [within_inside hb ha hne]
  have := h.apart _ (List.getElem_mem hj) _ (List.getElem_mem hi)
  unfold insC at this
  exact (Bool.or_eq_false_iff.1 this).1
theorem Tree.check {t : List FileB} (h : Tree t) : checkB badT t = (0, ⟨#[]⟩) := by
  unfold checkB
  rw [go_none' (fun x hx => check_ok (h.ok x hx)) h.follows]
  exact manyB_2 (by have := h.few; omega)

theorem find_self {t : List FileB} (hu : Up t) {k : Nat} (hk : k < t.length) : findB t t[k].1 = (t[k].2, true) := by
  refine find_first hk (fun f hf e => ?_) rfl
  obtain ⟨j, hj, rfl⟩ := List.mem_iff_getElem.1 hf
  rw [List.length_take] at hj
  rw [List.getElem_take] at e
  have := up_at hu (i := j) (j := k) (by omega) hk
  rw [e, cmp_self] at this
  cases this
theorem find_mem {t : List FileB} (hu : Up t) {f : FileB} (hf : f ∈ t) : findB t f.1 = (f.2, true) := by
  obtain ⟨k, hk, rfl⟩ := List.mem_iff_getElem.1 hf
  exact find_self hu hk
theorem find_yes {t : List FileB} {q d : ByteArray} (h : findB t q = (d, true)) : (q, d) ∈ t := by
  unfold findB at h
  split at h
  · rename_i f hf
    have h1 := List.mem_of_find?_eq_some hf
    have h2 := List.find?_some hf
    injection h with h3 _
    have : f = (q, d) := by
      rw [← h3, ← toList_inj.1 (eq_of_beq h2)]
    rw [← this]; exact h1
  · injection h with _ h; cases h
theorem find_put {t : List FileB} (hu : Up t) (f : FileB) : findB (putL t f) f.1 = (f.2, true) := find_mem (up_put hu f) (mem_put.2 (.inl rfl))
theorem find_put_other {t : List FileB} (hu : Up t) {f g : FileB} (hg : g ∈ t) (hne : ¬ g.1 = f.1) : findB (putL t f) g.1 = (g.2, true) := find_mem (up_put hu f) (mem_put.2 (.inr ⟨hg, hne⟩))
theorem lohi_len (q : ByteArray) : ∀ t : List FileB, (loF t q).length + (hiF t q).length ≤ t.length
  | [] => by simp [loF, hiF]
  | x :: t => by
    have ih := lohi_len q t
    unfold loF hiF at ih ⊢
    rw [List.filter_cons, List.filter_cons]
    by_cases h1 : compareN x.1 q < 0
    · rw [if_pos (decide_eq_true h1), if_neg (by simp; omega)]; simp; omega
    · by_cases h2 : 0 < compareN x.1 q
      · rw [if_neg (by simpa using h1), if_pos (decide_eq_true h2)]; simp; omega
      · rw [if_neg (by simpa using h1), if_neg (by simpa using h2)]; simp; omega
theorem put_len (t : List FileB) (f : FileB) : (putL t f).length ≤ t.length + 1 := by
  have := lohi_len f.1 t
  unfold putL
  rw [List.length_append, List.length_cons]; omega

open Go.RowKit Go.Shelf
theorem tfind_v {t : List FileB} {q d : ByteArray} {b : Bool} (h : findB t q = (d, b)) (v : Value) (w : World) (hv : FRow w v t) (ht : Tree t) (h2 : q.size ≤ 20300) :
    Calls Try.prog 23 #[v, .string q] w fun e w' => e = .returned (.tuple #[.string d, .bool b]) ∧ Below w.heap.size w w' := by
  refine (tfind_any t v q w hv ht.short h2 ht.len ht.up).mono ?_
  rintro e w' ⟨rfl, hb⟩
  exact ⟨by rw [h], hb⟩
theorem tcheck_tree {t : List FileB} (ht : Tree t) (v : Value) (w : World) (hv : FRow w v t) :
    Calls Try.prog 15 #[v] w fun e w' => e = .returned (.agg #[.int .i64 0, .string ⟨#[]⟩, .int .i64 0]) ∧ Below w.heap.size w w' := by
  refine (tcheck_any t v w hv (fun f hf => ⟨Nat.le_trans (valid_size (ht.ok f hf).1).2 (by decide), Nat.le_trans (ht.ok f hf).2 (by decide)⟩) ht.len).mono ?_
  rintro e w' ⟨rfl, hb⟩
  exact ⟨by rw [ht.check], hb⟩
theorem rput_tree {xs : List FileB} (ht : Tree xs) (f : FileB) (v : Value) (w : World) (hv : FRow w v xs) (hf1 : f.1.size ≤ maxLen) (hf2 : f.2.size ≤ maxLen) :
    Calls Try.prog 22 #[v, fileV f] w (PutOut (putR xs f) (putE xs f) w) := rput_any xs f v w hv ht.short hf1 hf2 ht.len ht.up
theorem same_yes {t : List FileB} (v u : Value) (w : World) (hv : FRow w v t) (hu : FRow w u t) (hl : t.length ≤ 1000) : Calls Try.prog 17 #[v, u] w (SameOut true w) := by
  have := rsame_any t t v u w hv hu hl
  rwa [show sameF t t = true by simp [sameF]] at this
theorem putR_len {t : List FileB} {f : FileB} : (putR t f).length ≤ 60 := by
  unfold putR
  split
  · rename_i hh; exact (putE_zero hh).2.2.2
  · simp
end Go.Proofs.Yteffoajheolpmaa
