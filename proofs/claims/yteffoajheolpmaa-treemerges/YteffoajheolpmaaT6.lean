/-
  Plain facts: what comes of merging two trees is a tree, of the files of both, one way round as the other.
-/
import Derived.Test.YteffoajheolpmaaT5
namespace Go.Proofs.Yteffoajheolpmaa

theorem go_good {a : List FileB} : ∀ {b : List FileB}, mergeGo a b = none ↔ ∀ m ∈ b, badM a m = false
  | [] => by simp [mergeGo]
  | f :: r => by
    unfold mergeGo
    cases h : badM a f
    · simp only [Bool.false_eq_true, if_false]
      rw [go_good (b := r)]
      simp [h]
    · simp [h]
/-- Two trees that may be merged. -/
structure Fit (a b : List FileB) : Prop where
  clash : ∀ f ∈ b, ∀ g ∈ a, insC g.1 f.1 = false
  alike : ∀ f ∈ b, ∀ g ∈ a, g.1 = f.1 → g = f
theorem fit_of {a b : List FileB} (ha : Tree a) (h : mergeGo a b = none) : Fit a b := by
  rw [go_good] at h
  refine ⟨fun f hf g hg => ?_, fun f hf g hg e => ?_⟩
  · have := h f hf
    unfold badM at this
    exact clashI_no (Bool.or_eq_false_iff.1 this).1 g hg
  · have := h f hf
    unfold badM at this
    have h2 := (Bool.or_eq_false_iff.1 this).2
    rw [← e, find_mem ha.up hg] at h2
    simp only [Bool.true_and, Bool.not_eq_false', beq_iff_eq] at h2
    exact Prod.ext e (toList_inj.1 h2)
theorem of_fit {a b : List FileB} (h : Fit a b) : mergeGo a b = none := by
  rw [go_good]
  intro f hf
  have hc : clashI a f.1 = false := by
    unfold clashI
    rw [List.any_eq_false]
    intro g hg
    rw [h.clash f hf g hg]; decide
  obtain ⟨⟨x, bb⟩, hfa⟩ : ∃ q, findB a f.1 = q := ⟨_, rfl⟩
  cases bb
  · exact badM_4 hc hfa
  · have := h.alike f hf _ (find_yes hfa) rfl
    refine badM_3 hc hfa ?_
    rw [← this]; simp
theorem Fit.comm {a b : List FileB} (h : Fit a b) : Fit b a :=
  ⟨fun f hf g hg => by rw [insC_comm]; exact h.clash g hg f hf, fun f hf g hg e => (h.alike g hg f hf e.symm).symm⟩
theorem mem_fit {a b : List FileB} (ha : Up a) (hb : Up b) (h : Fit a b) (g : FileB) : g ∈ withL a b ↔ g ∈ a ∨ g ∈ b := by
  rw [mem_with ha hb]
  constructor
  · rintro (h1 | ⟨h1, _⟩)
    · exact .inr h1
    · exact .inl h1
  · rintro (h1 | h1)
    · by_cases e : ∃ m ∈ b, m.1 = g.1
      · obtain ⟨m, hm, e⟩ := e
        exact .inl (by rw [h.alike m hm g h1 e.symm]; exact hm)
      · exact .inr ⟨h1, fun m hm e2 => e ⟨m, hm, e2⟩⟩
    · exact .inl h1
theorem with_comm {a b : List FileB} (ha : Up a) (hb : Up b) (h : Fit a b) : withL b a = withL a b := by
  refine up_ext (up_with hb ha) (up_with ha hb) fun g => ?_
  rw [mem_fit hb ha h.comm, mem_fit ha hb h, or_comm]
theorem merge_ok {a b zs : List FileB} {p : ByteArray} (h : mergeR a b = (zs, 0, p)) : mergeGo a b = none ∧ zs = withL a b ∧ (withL a b).length ≤ 60 ∧ p = ⟨#[]⟩ := by
  unfold mergeR at h
  split at h
  · injection h with _ h; injection h with h _; cases h
  · rename_i e
    split at h
    · injection h with _ h; injection h with h _; cases h
    · rename_i hl
      injection h with h1 h; injection h with _ h2
      exact ⟨e, h1.symm, by omega, h2.symm⟩
theorem merge_err {a b zs : List FileB} {n : Int} {p : ByteArray} (h : mergeR a b = (zs, n, p)) (hn : ¬ n = 0) : zs = [] := by
  unfold mergeR at h
  split at h
  · injection h with h _; exact h.symm
  · split at h
    · injection h with h _; exact h.symm
    · injection h with _ h; injection h with h _; exact absurd h.symm hn
structure Merged (a b zs : List FileB) : Prop where
  tree : Tree zs
  back : mergeR b a = (zs, 0, ⟨#[]⟩)
  inA : ∀ f ∈ zs, ∀ x ba, findB a f.1 = (x, ba) → ba = true → x = f.2
  inB : ∀ f ∈ zs, ∀ x ba, findB b f.1 = (x, ba) → ba = true → x = f.2
  any : ∀ f ∈ zs, ∀ x y, findB a f.1 = (x, false) → findB b f.1 = (y, false) → False
  lenA : a.length ≤ zs.length
  lenB : b.length ≤ zs.length
theorem merged {a b zs : List FileB} {p : ByteArray} (ha : Tree a) (hb : Tree b) (h : mergeR a b = (zs, 0, p)) : Merged a b zs := by
  obtain ⟨h1, rfl, h3, rfl⟩ := merge_ok h
  have hf := fit_of ha h1
  have hu := up_with ha.up hb.up
  have hm := mem_fit ha.up hb.up hf
  have hcm := with_comm ha.up hb.up hf
  have hg2 := of_fit hf.comm
  have key : ∀ {t : List FileB}, Up t → (∀ f ∈ t, f ∈ withL a b) → ∀ f ∈ withL a b, ∀ x ba, findB t f.1 = (x, ba) → ba = true → x = f.2 := by
    intro t _ hsub f hf x ba e hba
    subst hba
    have h4 := hsub _ (find_yes e)
    have := up_inj hu h4 hf rfl
    rw [← this]
  refine ⟨⟨fun f hf' => ?_, hu, fun f hf' g hg' => ?_, h3⟩, ?_, key ha.up (fun f hf' => (hm f).2 (.inl hf')), key hb.up (fun f hf' => (hm f).2 (.inr hf')), fun f hf' x y e1 e2 => ?_, ?_, ?_⟩
  · rcases (hm f).1 hf' with h | h
    · exact ha.ok f h
    · exact hb.ok f h
  · rcases (hm f).1 hf' with h | h
    · rcases (hm g).1 hg' with k | k
      · exact ha.apart f h g k
      · exact hf.clash g k f h
    · rcases (hm g).1 hg' with k | k
      · rw [insC_comm]; exact hf.clash f h g k
      · exact hb.apart f h g k
  · unfold mergeR
    rw [hg2, hcm]
    exact if_neg (by omega)
  · rcases (hm f).1 hf' with h | h
    · rw [find_mem ha.up h] at e1; injection e1 with _ e; cases e
    · rw [find_mem hb.up h] at e2; injection e2 with _ e; cases e
  · have := (with_len ha.up hb.up b.length (Nat.le_refl _) (fun m hm' => go_good.1 h1 m (List.mem_of_mem_take hm'))).1
    rwa [List.take_length] at this
  · have := (with_len hb.up ha.up a.length (Nat.le_refl _) (fun m hm' => go_good.1 hg2 m (List.mem_of_mem_take hm'))).1
    rwa [List.take_length, hcm] at this
end Go.Proofs.Yteffoajheolpmaa
