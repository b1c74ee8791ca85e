/-
  Plain facts: the document's Sort sorts; its Diff is the rising list of the paths that differ.
-/
import Derived.Test.YteffoajheolpmaaF12
import Derived.Test.YteffoajheolpmaaF13
import Derived.Test.YteffoajheolpmaaT3
namespace Go.Proofs.Yteffoajheolpmaa

def Le (l : List FileB) : Prop := l.Pairwise fun a b => compareN a.1 b.1 ≤ 0
theorem cmp_le {a b c : ByteArray} (h : compareN a b ≤ 0) (k : compareN b c ≤ 0) : compareN a c ≤ 0 := cmpE_trans _ _ _ h k
theorem ins_le {f : FileB} : ∀ {l : List FileB}, Le l → Le (insB f l)
  | [], _ => List.pairwise_singleton _ _
  | g :: r, h => by
    have h' := List.pairwise_cons.1 h
    unfold insB
    split
    · rename_i e
      refine List.pairwise_cons.2 ⟨fun x hx => ?_, h⟩
      rcases List.mem_cons.1 hx with rfl | hx
      · omega
      · exact cmp_le (by omega) (h'.1 x hx)
    · rename_i e
      refine List.pairwise_cons.2 ⟨fun x hx => ?_, ins_le h'.2⟩
      rcases mem_ins.1 hx with rfl | hx
      · rw [cmp_neg]; omega
      · exact h'.1 x hx
theorem sort_le_take (l : List FileB) : ∀ k, k ≤ l.length → Le (sortB (l.take k))
  | 0, _ => List.Pairwise.nil
  | k + 1, h => by rw [sort_snoc (by omega)]; exact ins_le (sort_le_take l k (by omega))
theorem sort_le (l : List FileB) : Le (sortB l) := by
  have := sort_le_take l l.length (Nat.le_refl _)
  rwa [List.take_length] at this

def dedF (a b : List FileB) (acc : List ByteArray) (f : FileB) : List ByteArray := if differB a b f.1 && !hasS acc f.1 then acc ++ [f.1] else acc
def dedL (a b l : List FileB) : List ByteArray := l.foldl (dedF a b) []
theorem ded_snoc {a b l : List FileB} {k : Nat} (hk : k < l.length) : dedL a b (l.take (k + 1)) = dedF a b (dedL a b (l.take k)) l[k] := by
  unfold dedL
  rw [List.take_succ_eq_append_getElem hk, List.foldl_append]; rfl
theorem ded_spec {a b l : List FileB} (hl : Le l) : ∀ k, k ≤ l.length → UpP (dedL a b (l.take k)) ∧ (∀ q, q ∈ dedL a b (l.take k) ↔ (∃ f ∈ l.take k, f.1 = q) ∧ differB a b q = true) ∧ (dedL a b (l.take k)).length ≤ k
  | 0, _ => ⟨List.Pairwise.nil, by simp [dedL], by simp [dedL]⟩
  | k + 1, h => by
    obtain ⟨h1, h2, h3⟩ := ded_spec hl k (by omega)
    have hk : k < l.length := by omega
    have hmem : ∀ q, (∃ f ∈ l.take (k + 1), f.1 = q) ↔ (∃ f ∈ l.take k, f.1 = q) ∨ l[k].1 = q := by
      intro q
      rw [List.take_succ_eq_append_getElem hk]
      constructor
      · rintro ⟨f, hf, e⟩
        rcases List.mem_append.1 hf with hf | hf
        · exact .inl ⟨f, hf, e⟩
        · exact .inr (by rw [← List.mem_singleton.1 hf]; exact e)
      · rintro (⟨f, hf, e⟩ | e)
        · exact ⟨f, List.mem_append.2 (.inl hf), e⟩
        · exact ⟨l[k], List.mem_append.2 (.inr (List.mem_singleton.2 rfl)), e⟩
    rw [ded_snoc hk]
    unfold dedF
    by_cases hc : (differB a b l[k].1 && !hasS (dedL a b (l.take k)) l[k].1) = true
    · rw [if_pos hc]
      simp only [Bool.and_eq_true, Bool.not_eq_true'] at hc
      have hnot : ¬ l[k].1 ∈ dedL a b (l.take k) := fun hm => by
        have := hasS_iff.2 hm
        rw [hc.2] at this; cases this
      refine ⟨?_, fun q => ?_, by simp; omega⟩
      · unfold UpP
        rw [List.pairwise_append]
        refine ⟨h1, List.pairwise_singleton _ _, fun p hp q hq => ?_⟩
        rw [List.mem_singleton.1 hq]
        obtain ⟨⟨f, hf, e⟩, _⟩ := (h2 p).1 hp
        obtain ⟨i, hi, rfl⟩ := List.mem_iff_getElem.1 hf
        rw [List.length_take] at hi
        rw [List.getElem_take] at e
        have hle := (List.pairwise_iff_getElem.1 hl) i k (by omega) hk (by omega)
        rw [e] at hle
        have hne : ¬ compareN p l[k].1 = 0 := fun e0 => hnot (by rw [← cmp_zero.1 e0]; exact hp)
        exact cmp_m1 (by omega)
      · rw [List.mem_append, h2, List.mem_singleton, hmem]
        constructor
        · rintro (⟨h, k⟩ | rfl)
          · exact ⟨.inl h, k⟩
          · exact ⟨.inr rfl, hc.1⟩
        · rintro ⟨h | h, k⟩
          · exact .inl ⟨h, k⟩
          · exact .inr h.symm
    · rw [if_neg hc]
      refine ⟨h1, fun q => ?_, by omega⟩
      rw [h2, hmem]
      constructor
      · rintro ⟨h, k⟩; exact ⟨.inl h, k⟩
      · rintro ⟨h | h, k⟩
        · exact ⟨h, k⟩
        · subst h
          simp only [Bool.and_eq_true, Bool.not_eq_true', not_and, Bool.not_eq_false] at hc
          have := hasS_iff.1 (hc k)
          exact (h2 _).1 this
theorem ded_diff {a b : List FileB} (ha : Up a) (hb : Up b) : dedL a b (sortB (a ++ b)) = diffL a b := by
  have h := ded_spec (a := a) (b := b) (sort_le (a ++ b)) (sortB (a ++ b)).length (Nat.le_refl _)
  rw [List.take_length] at h
  refine upP_ext h.1 (diff_up ha hb) fun q => ?_
  rw [h.2.1, mem_diff ha hb]
  simp only [mem_sort, List.mem_append, has_iff]
  constructor
  · rintro ⟨⟨f, h1 | h1, e⟩, h2⟩
    · exact ⟨.inl ⟨f, h1, e⟩, h2⟩
    · exact ⟨.inr ⟨f, h1, e⟩, h2⟩
  · rintro ⟨⟨f, h1, e⟩ | ⟨f, h1, e⟩, h2⟩
    · exact ⟨⟨f, .inl h1, e⟩, h2⟩
    · exact ⟨⟨f, .inr h1, e⟩, h2⟩
end Go.Proofs.Yteffoajheolpmaa
