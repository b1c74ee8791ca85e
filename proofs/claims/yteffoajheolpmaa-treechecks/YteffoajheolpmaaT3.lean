/-
  Plain facts: a sorted list with another one is sorted, and has the files of both.
-/
import Derived.Test.YteffoajheolpmaaT2
namespace Go.Proofs.Yteffoajheolpmaa

theorem cmp_m1 {a b : ByteArray} (h : compareN a b < 0) : compareN a b = -1 := by
  rcases cmp_range a b with r | r | r <;> omega
theorem mem_with : ∀ {more xs : List FileB}, Up xs → Up more → ∀ g, g ∈ withL xs more ↔ g ∈ more ∨ (g ∈ xs ∧ ∀ m ∈ more, ¬ m.1 = g.1)
  | [], xs, _, _, g => by simp [withL]
  | x :: r, xs, hx, hm, g => by
    have hm' := List.pairwise_cons.1 hm
    have ih := mem_with (up_hi hx x.1) hm'.2 g
    rw [withL, List.mem_append, List.mem_cons, ih]
    unfold loF hiF
    simp only [List.mem_filter, decide_eq_true_eq, List.mem_cons]
    constructor
    · rintro (⟨h1, h2⟩ | rfl | h | ⟨⟨h1, h2⟩, h3⟩)
      · refine .inr ⟨h1, ?_⟩
        rintro m (rfl | hm1) e
        · rw [e, cmp_self] at h2; omega
        · have := hm'.1 m hm1
          have := cmp_lt h2 (by omega : compareN x.1 m.1 ≤ 0)
          rw [e, cmp_self] at this; omega
      · exact .inl (.inl rfl)
      · exact .inl (.inr h)
      · refine .inr ⟨h1, ?_⟩
        rintro m (rfl | hm1) e
        · rw [e, cmp_self] at h2; omega
        · exact h3 m hm1 e
    · rintro ((rfl | h) | ⟨h1, h2⟩)
      · exact .inr (.inl rfl)
      · exact .inr (.inr (.inl h))
      · have hne : ¬ compareN g.1 x.1 = 0 := fun e => h2 x (.inl rfl) (cmp_zero.1 e).symm
        rcases cmp_range g.1 x.1 with r' | r' | r'
        · exact .inl ⟨h1, by omega⟩
        · exact absurd r' hne
        · exact .inr (.inr (.inr ⟨⟨h1, by omega⟩, fun m hm1 => h2 m (.inr hm1)⟩))
theorem up_with : ∀ {more xs : List FileB}, Up xs → Up more → Up (withL xs more)
  | [], xs, hx, _ => hx
  | x :: r, xs, hx, hm => by
    have hm' := List.pairwise_cons.1 hm
    have ih := up_with (up_hi hx x.1) hm'.2
    have habove : ∀ g ∈ withL (hiF xs x.1) r, compareN x.1 g.1 = -1 := by
      intro g hg
      rcases (mem_with (up_hi hx x.1) hm'.2 g).1 hg with h | ⟨h, _⟩
      · exact hm'.1 g h
      · have := (List.mem_filter.1 h).2
        simp only [decide_eq_true_eq] at this
        have e := cmp_neg g.1 x.1
        exact cmp_m1 (by omega)
    unfold Up withL
    rw [List.pairwise_append]
    refine ⟨hx.filter _, List.pairwise_cons.2 ⟨habove, ih⟩, ?_⟩
    intro a ha b hb
    have ha' := (List.mem_filter.1 ha).2
    simp only [decide_eq_true_eq] at ha'
    refine cmp_m1 (cmp_lt ha' ?_)
    rcases List.mem_cons.1 hb with rfl | hb
    · rw [cmp_self]; exact Int.le_refl _
    · rw [habove b hb]; decide

/-! Texts that rise. -/
def UpP (l : List ByteArray) : Prop := l.Pairwise fun a b => compareN a b = -1
theorem upP_ext {l m : List ByteArray} (hl : UpP l) (hm : UpP m) (h : ∀ p, p ∈ l ↔ p ∈ m) : l = m := by
  have key : ∀ {l : List ByteArray}, UpP l → Up (l.map fun p => ((p, ⟨#[]⟩) : FileB)) := fun hl => List.Pairwise.map _ (fun _ _ h => h) hl
  have := up_ext (key hl) (key hm) (fun f => by
    simp only [List.mem_map]
    exact ⟨fun ⟨p, hp, e⟩ => ⟨p, (h p).1 hp, e⟩, fun ⟨p, hp, e⟩ => ⟨p, (h p).2 hp, e⟩⟩)
  have := congrArg (List.map fun f : FileB => f.1) this
  simpa [List.map_map, Function.comp_def] using this
theorem upP_of {t : List FileB} (h : Up t) : UpP (t.map fun f => f.1) := List.Pairwise.map _ (fun _ _ h => h) h

def differB (a b : List FileB) (q : ByteArray) : Bool := !((findB a q).2 == (findB b q).2) || !((findB a q).1.toList == (findB b q).1.toList)
def diffL (a b : List FileB) : List ByteArray := ((withL a b).map fun f => f.1).filter (differB a b)
theorem differ_comm (a b : List FileB) (q : ByteArray) : differB a b q = differB b a q := by
  unfold differB
  rw [Bool.eq_iff_iff]
  simp only [Bool.or_eq_true, Bool.not_eq_true', beq_eq_false_iff_ne]
  constructor <;> rintro (h | h) <;> first | exact .inl (Ne.symm h) | exact .inr (Ne.symm h)
theorem path_with {a b : List FileB} (ha : Up a) (hb : Up b) (q : ByteArray) : q ∈ (withL a b).map (fun f => f.1) ↔ hasP a q = true ∨ hasP b q = true := by
  simp only [List.mem_map, mem_with ha hb, has_iff]
  constructor
  · rintro ⟨f, h | ⟨h, _⟩, e⟩
    · exact .inr ⟨f, h, e⟩
    · exact .inl ⟨f, h, e⟩
  · rintro (⟨f, h, e⟩ | ⟨f, h, e⟩)
    · by_cases hh : ∃ m ∈ b, m.1 = f.1
      · obtain ⟨m, hm, e2⟩ := hh
        exact ⟨m, .inl hm, by rw [e2, e]⟩
      · exact ⟨f, .inr ⟨h, fun m hm e2 => hh ⟨m, hm, e2⟩⟩, e⟩
    · exact ⟨f, .inl h, e⟩
theorem diff_up {a b : List FileB} (ha : Up a) (hb : Up b) : UpP (diffL a b) := (upP_of (up_with ha hb)).filter _
theorem mem_diff {a b : List FileB} (ha : Up a) (hb : Up b) (q : ByteArray) : q ∈ diffL a b ↔ (hasP a q = true ∨ hasP b q = true) ∧ differB a b q = true := by
  unfold diffL
  rw [List.mem_filter, path_with ha hb]
theorem diff_comm {a b : List FileB} (ha : Up a) (hb : Up b) : diffL a b = diffL b a := by
  refine upP_ext (diff_up ha hb) (diff_up hb ha) fun q => ?_
  rw [mem_diff ha hb, mem_diff hb ha, differ_comm]
  constructor <;> rintro ⟨h1, h2⟩ <;> exact ⟨h1.symm, h2⟩
theorem differ_self (a : List FileB) (q : ByteArray) : differB a a q = false := by unfold differB; simp
theorem diff_nil {a b : List FileB} (ha : Up a) (hb : Up b) : diffL a b = [] ↔ a = b := by
  constructor
  · intro h
    have key : ∀ q, hasP a q = true ∨ hasP b q = true → findB a q = findB b q := by
      intro q hq
      have hn : ¬ differB a b q = true := fun e => by
        have := (mem_diff ha hb q).2 ⟨hq, e⟩
        rw [h] at this; simp at this
      unfold differB at hn
      simp only [Bool.or_eq_true, Bool.not_eq_true', beq_eq_false_iff_ne, not_or, Decidable.not_not, ne_eq] at hn
      exact Prod.ext (toList_inj.1 hn.2) hn.1
    refine up_ext ha hb fun f => ⟨fun hf => ?_, fun hf => ?_⟩
    · have h1 := find_mem ha hf
      rw [key f.1 (.inl (has_iff.2 ⟨f, hf, rfl⟩))] at h1
      exact find_yes h1
    · have h1 := find_mem hb hf
      rw [← key f.1 (.inr (has_iff.2 ⟨f, hf, rfl⟩))] at h1
      exact find_yes h1
  · rintro rfl
    unfold diffL
    refine List.filter_eq_nil_iff.2 fun q _ => ?_
    rw [differ_self]; decide
end Go.Proofs.Yteffoajheolpmaa
