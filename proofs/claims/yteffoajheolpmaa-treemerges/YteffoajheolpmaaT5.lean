/-
  Plain facts on merging two trees.
-/
import Derived.Test.YteffoajheolpmaaT3
namespace Go.Proofs.Yteffoajheolpmaa

def badM (a : List FileB) (f : FileB) : Bool := clashI a f.1 || ((findB a f.1).2 && !((findB a f.1).1.toList == f.2.toList))
def mergeGo (a : List FileB) : List FileB → Option ByteArray
  | [] => none
  | f :: r => if badM a f then some f.1 else mergeGo a r
/-- What Merge tells: the files, the error, its path. -/
def mergeR (a b : List FileB) : List FileB × Int × ByteArray :=
  match mergeGo a b with
  | some p => ([], 4, p)
  | none => if 60 < (withL a b).length then ([], 2, ⟨#[]⟩) else (withL a b, 0, ⟨#[]⟩)
def MAt (a b : List FileB) (k : Nat) : Prop := mergeGo a b = mergeGo a (b.drop k) ∧ ∀ m ∈ b.take k, badM a m = false
theorem MAt.start (a b : List FileB) : MAt a b 0 := ⟨rfl, by simp⟩
theorem MAt.on {a b : List FileB} {k : Nat} (h : MAt a b k) (hk : k < b.length) (e : badM a b[k] = false) : MAt a b (k + 1) := by
  refine ⟨?_, fun m hm => ?_⟩
  · rw [h.1, List.drop_eq_getElem_cons hk, mergeGo, if_neg (by simp [e])]
  · rw [List.take_succ_eq_append_getElem hk] at hm
    rcases List.mem_append.1 hm with hm | hm
    · exact h.2 m hm
    · rw [List.mem_singleton.1 hm]; exact e
theorem MAt.stop {a b : List FileB} {k : Nat} (h : MAt a b k) (hk : k < b.length) (e : badM a b[k] = true) : mergeR a b = ([], 4, b[k].1) := by
  unfold mergeR
  rw [h.1, List.drop_eq_getElem_cons hk, mergeGo, if_pos e]
theorem MAt.done1 {a b : List FileB} {k : Nat} (h : MAt a b k) (hk : b.length ≤ k) (hl : 60 < (withL a b).length) : mergeR a b = ([], 2, ⟨#[]⟩) := by
  unfold mergeR
  rw [h.1, List.drop_of_length_le hk, mergeGo]
  exact if_pos hl
theorem MAt.done2 {a b : List FileB} {k : Nat} (h : MAt a b k) (hk : b.length ≤ k) (hl : ¬ 60 < (withL a b).length) : mergeR a b = (withL a b, 0, ⟨#[]⟩) := by
  unfold mergeR
  rw [h.1, List.drop_of_length_le hk, mergeGo]
  exact if_neg hl
theorem badM_1 {a : List FileB} {f : FileB} (h : clashI a f.1 = true) : badM a f = true := by simp [badM, h]
theorem badM_2 {a : List FileB} {f : FileB} {x : ByteArray} (h : clashI a f.1 = false) (k : findB a f.1 = (x, true)) (e : (x.toList == f.2.toList) = false) : badM a f = true := by simp only [badM, h, k, e]; rfl
theorem badM_3 {a : List FileB} {f : FileB} {x : ByteArray} (h : clashI a f.1 = false) (k : findB a f.1 = (x, true)) (e : (x.toList == f.2.toList) = true) : badM a f = false := by simp only [badM, h, k, e]; rfl
theorem badM_4 {a : List FileB} {f : FileB} {x : ByteArray} (h : clashI a f.1 = false) (k : findB a f.1 = (x, false)) : badM a f = false := by simp only [badM, h, k]; rfl

theorem has_find {t : List FileB} (hu : Up t) {q x : ByteArray} {b : Bool} (h : findB t q = (x, b)) : hasP t q = b := by
  cases e : hasP t q
  · rw [find_none e] at h; injection h with _ h
  · obtain ⟨hp, _⟩ := has_place hu e
    rw [find_place hu e hp] at h; injection h with _ h
theorem has_noclash {a : List FileB} (ha : Tree a) {q : ByteArray} (h : hasP a q = true) : clashI a q = false := by
  obtain ⟨f, hf, rfl⟩ := has_iff.1 h
  unfold clashI
  rw [List.any_eq_false]
  intro g hg
  rw [ha.apart g hg f hf]; decide

section
variable {a b : List FileB} {k : Nat}
theorem take_up (hb : Up b) (k : Nat) : Up (b.take k) := hb.sublist (List.take_sublist _ _)
theorem path_new (hb : Up b) (hk : k < b.length) : ∀ m ∈ b.take k, ¬ m.1 = b[k].1 := by
  intro m hm e
  obtain ⟨i, hi, rfl⟩ := List.mem_iff_getElem.1 hm
  rw [List.length_take] at hi
  rw [List.getElem_take] at e
  have := up_at hb (i := i) (j := k) (by omega) hk
  rw [e, cmp_self] at this; cases this
theorem find_out (ha : Up a) (hb : Up b) (hk : k < b.length) : findB (withL a (b.take k)) b[k].1 = findB a b[k].1 := by
  have hu := up_with ha (take_up hb k)
  cases e : hasP a b[k].1
  · rw [find_none e, find_none]
    cases e2 : hasP (withL a (b.take k)) b[k].1
    · rfl
    · obtain ⟨g, hg, e3⟩ := has_iff.1 e2
      rcases (mem_with ha (take_up hb k) g).1 hg with h | ⟨h, _⟩
      · exact absurd e3 (path_new hb hk g h)
      · have := has_iff.2 ⟨g, h, e3⟩
        rw [e] at this; cases this
  · obtain ⟨g, hg, e3⟩ := has_iff.1 e
    rw [← e3, find_mem ha hg]
    refine find_mem hu ((mem_with ha (take_up hb k) g).2 (.inr ⟨hg, fun m hm => ?_⟩))
    rw [e3]; exact path_new hb hk m hm
theorem clash_out (ha : Up a) (hb : Tree b) (hk : k < b.length) : clashI (withL a (b.take k)) b[k].1 = clashI a b[k].1 := by
  have hb' := take_up hb.up k
  rw [Bool.eq_iff_iff]
  unfold clashI
  rw [List.any_eq_true, List.any_eq_true]
  constructor
  · rintro ⟨g, hg, e⟩
    rcases (mem_with ha hb' g).1 hg with h | ⟨h, _⟩
    · rw [hb.apart g (List.mem_of_mem_take h) b[k] (List.getElem_mem hk)] at e; cases e
    · exact ⟨g, h, e⟩
  · rintro ⟨g, hg, e⟩
    refine ⟨g, (mem_with ha hb' g).2 (.inr ⟨hg, fun m hm e2 => ?_⟩), e⟩
    rw [← e2, hb.apart m (List.mem_of_mem_take hm) b[k] (List.getElem_mem hk)] at e; cases e
theorem mem_take_snoc {l : List FileB} (hk : k < l.length) (g : FileB) : g ∈ l.take (k + 1) ↔ g ∈ l.take k ∨ g = l[k] := by
  rw [List.take_succ_eq_append_getElem hk, List.mem_append, List.mem_singleton]
theorem out_same (ha : Up a) (hb : Up b) (hk : k < b.length) {x : ByteArray} (hf : findB a b[k].1 = (x, true)) (e : (x.toList == b[k].2.toList) = true) : withL a (b.take (k + 1)) = withL a (b.take k) := by
  have hin : b[k] ∈ a := by
    have h1 := find_yes hf
    have h2 : x = b[k].2 := toList_inj.1 (eq_of_beq e)
    rw [h2] at h1; exact h1
  refine up_ext (up_with ha (take_up hb _)) (up_with ha (take_up hb _)) fun g => ?_
  rw [mem_with ha (take_up hb _), mem_with ha (take_up hb _)]
  simp only [mem_take_snoc hk]
  constructor
  · rintro ((h | rfl) | ⟨h, h2⟩)
    · exact .inl h
    · exact .inr ⟨hin, path_new hb hk⟩
    · exact .inr ⟨h, fun m hm => h2 m (.inl hm)⟩
  · rintro (h | ⟨h, h2⟩)
    · exact .inl (.inl h)
    · by_cases e2 : b[k].1 = g.1
      · exact .inl (.inr (up_inj ha h hin e2.symm))
      · refine .inr ⟨h, ?_⟩
        rintro m (hm | rfl)
        · exact h2 m hm
        · exact e2
theorem out_put (ha : Up a) (hb : Up b) (hk : k < b.length) : withL a (b.take (k + 1)) = putL (withL a (b.take k)) b[k] := by
  refine up_ext (up_with ha (take_up hb _)) (up_put (up_with ha (take_up hb _)) _) fun g => ?_
  rw [mem_with ha (take_up hb _), mem_put, mem_with ha (take_up hb _)]
  simp only [mem_take_snoc hk]
  constructor
  · rintro ((h | rfl) | ⟨h, h2⟩)
    · exact .inr ⟨.inl h, path_new hb hk g h⟩
    · exact .inl rfl
    · exact .inr ⟨.inr ⟨h, fun m hm => h2 m (.inl hm)⟩, fun e => h2 b[k] (.inr rfl) e.symm⟩
  · rintro (rfl | ⟨h | ⟨h, h2⟩, h3⟩)
    · exact .inl (.inr rfl)
    · exact .inl (.inl h)
    · refine .inr ⟨h, ?_⟩
      rintro m (hm | rfl)
      · exact h2 m hm
      · exact fun e => h3 e.symm
end
theorem put_longer {t : List FileB} {f : FileB} (h : hasP t f.1 = false) : (putL t f).length = t.length + 1 := by
  have key : ∀ t : List FileB, (∀ g ∈ t, ¬ compareN g.1 f.1 = 0) → (loF t f.1).length + (hiF t f.1).length = t.length := by
    intro t
    induction t with
    | nil => intro _; rfl
    | cons x t ih =>
      intro hn
      have ih' := ih fun g hg => hn g (by simp [hg])
      have hx := hn x (by simp)
      unfold loF hiF at ih' ⊢
      rw [List.filter_cons, List.filter_cons]
      by_cases h1 : compareN x.1 f.1 < 0
      · rw [if_pos (decide_eq_true h1), if_neg (by simp; omega)]; simp; omega
      · rw [if_neg (by simpa using h1), if_pos (decide_eq_true (by omega))]; simp; omega
  have := key t fun g hg e => by
    have := has_iff.2 ⟨g, hg, cmp_zero.1 e⟩
    rw [h] at this; cases this
  unfold putL
  rw [List.length_append, List.length_cons]; omega
theorem with_len {a b : List FileB} (ha : Up a) (hb : Up b) : ∀ k, k ≤ b.length → (∀ m ∈ b.take k, badM a m = false) → a.length ≤ (withL a (b.take k)).length ∧ (withL a (b.take k)).length ≤ a.length + k
  | 0, _, _ => by simp [withL]
  | k + 1, h, hg => by
    have hk : k < b.length := by omega
    obtain ⟨i1, i2⟩ := with_len ha hb k (by omega) fun m hm => hg m ((mem_take_snoc hk m).2 (.inl hm))
    obtain ⟨⟨x, bb⟩, hf⟩ : ∃ q, findB a b[k].1 = q := ⟨_, rfl⟩
    have hbk := hg b[k] ((mem_take_snoc hk _).2 (.inr rfl))
    cases bb
    · rw [out_put ha hb hk, put_longer (by
        have h1 := find_out ha hb hk
        rw [hf] at h1
        exact has_find (up_with ha (take_up hb k)) h1)]
      omega
    · have e : (x.toList == b[k].2.toList) = true := by
        unfold badM at hbk
        rw [hf] at hbk
        have := (Bool.or_eq_false_iff.1 hbk).2
        simpa using this
      rw [out_same ha hb hk hf e]; omega
end Go.Proofs.Yteffoajheolpmaa
