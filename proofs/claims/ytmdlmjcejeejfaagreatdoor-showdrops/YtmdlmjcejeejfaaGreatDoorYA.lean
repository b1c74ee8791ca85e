/-
  Plain facts, of no program: a list sorted by inserting, whatever is compared.
-/
import Derived.Test.YtmdlmjcejeejfaaGreatDoorS1
import Derived.Test.YtmdlmjcejeejfaaGreatDoorRec
import Derived.BigRegion
import Derived.Test.YtmdlmjcejeejfaaGreatDoorE4
namespace Go.Proofs.YtmdlmjcejeejfaaGreatDoor

section
variable {α : Type} (c : α → α → Int)

def insC (f : α) : List α → List α
  | [] => [f]
  | g :: r => if c f g < 0 then f :: g :: r else g :: insC f r
def sortC (l : List α) : List α := l.foldl (fun acc f => insC c f acc) []
variable {c}
theorem sortC_snoc {l : List α} {k : Nat} (hk : k < l.length) : sortC c (l.take (k + 1)) = insC c l[k] (sortC c (l.take k)) := by
  unfold sortC
  rw [List.take_succ_eq_append_getElem hk, List.foldl_append]; rfl
theorem insC_perm (f : α) : ∀ l : List α, (insC c f l).Perm (f :: l)
  | [] => List.Perm.refl _
  | g :: r => by
    unfold insC
    split
    · exact List.Perm.refl _
    · exact ((insC_perm f r).cons g).trans (List.Perm.swap f g r)
theorem sortC_perm (l : List α) : ∀ k, k ≤ l.length → (sortC c (l.take k)).Perm (l.take k)
  | 0, _ => by simp [sortC]
  | k + 1, h => by
    rw [sortC_snoc (by omega), List.take_succ_eq_append_getElem (by omega)]
    exact ((insC_perm _ _).trans ((sortC_perm l k (by omega)).cons _)).trans (List.perm_append_singleton _ _).symm
theorem insC_len (f : α) (l : List α) : (insC c f l).length = l.length + 1 := by rw [(insC_perm f l).length_eq]; rfl
def RisesC (c : α → α → Int) (l : List α) : Prop := l.Pairwise fun a b => ¬ c b a < 0
theorem insC_rises (hc : Cmp c) (f : α) : ∀ {l : List α}, RisesC c l → RisesC c (insC c f l)
  | [], _ => by simp [insC, RisesC]
  | g :: r, h => by
    obtain ⟨h1, h2⟩ := List.pairwise_cons.1 h
    unfold insC
    split
    · rename_i hlt
      refine List.pairwise_cons.2 ⟨fun x hx => ?_, h⟩
      have n1 := hc.neg f x
      have n2 := hc.neg f g
      rcases List.mem_cons.1 hx with rfl | hx
      · omega
      · have h3 := h1 x hx
        have n3 := hc.neg g x
        have := (hc.trans f g x (by omega) (by omega)).1
        omega
    · rename_i hlt
      refine List.pairwise_cons.2 ⟨fun x hx => ?_, insC_rises hc f h2⟩
      rcases List.mem_cons.1 ((insC_perm f r).mem_iff.1 hx) with rfl | hx
      · exact hlt
      · exact h1 x hx
theorem sortC_rises (hc : Cmp c) (l : List α) : ∀ k, k ≤ l.length → RisesC c (sortC c (l.take k))
  | 0, _ => by simp [sortC, RisesC]
  | k + 1, h => by
    rw [sortC_snoc (by omega)]
    exact insC_rises hc _ (sortC_rises hc l k (by omega))

/-- How far an insertion has come. -/
def IC (c : α → α → Int) (xs : List α) (f : α) (k : Nat) (b : Bool) (acc : List α) : Prop :=
  (b = false ∧ acc = xs.take k ∧ insC c f xs = xs.take k ++ insC c f (xs.drop k)) ∨ (b = true ∧ acc ++ xs.drop k = insC c f xs)
theorem IC.start (xs : List α) (f : α) : IC c xs f 0 false [] := .inl ⟨rfl, rfl, rfl⟩
theorem IC.hit {xs : List α} {f : α} {k : Nat} {acc : List α} (h : IC c xs f k false acc) (hk : k < xs.length) (e : c f xs[k] < 0) : IC c xs f (k + 1) true (acc ++ [f] ++ [xs[k]]) := by
  rcases h with ⟨_, rfl, h⟩ | ⟨h, _⟩
  · refine .inr ⟨rfl, ?_⟩
    rw [h, List.drop_eq_getElem_cons hk, insC, if_pos e]; simp
  · cases h
theorem IC.pass {xs : List α} {f : α} {k : Nat} {acc : List α} (h : IC c xs f k false acc) (hk : k < xs.length) (e : ¬ c f xs[k] < 0) : IC c xs f (k + 1) false (acc ++ [xs[k]]) := by
  rcases h with ⟨_, rfl, h⟩ | ⟨h, _⟩
  · refine .inl ⟨rfl, (List.take_succ_eq_append_getElem hk).symm, ?_⟩
    rw [h, List.drop_eq_getElem_cons hk, insC, if_neg e, List.take_succ_eq_append_getElem hk, List.append_assoc]; rfl
  · cases h
theorem IC.on {xs : List α} {f : α} {k : Nat} {acc : List α} (h : IC c xs f k true acc) (hk : k < xs.length) : IC c xs f (k + 1) true (acc ++ [xs[k]]) := by
  rcases h with ⟨h, _⟩ | ⟨_, h⟩
  · cases h
  · refine .inr ⟨rfl, ?_⟩
    rw [← h, List.drop_eq_getElem_cons hk]; simp
theorem IC.len {xs : List α} {f : α} {k : Nat} {b : Bool} {acc : List α} (h : IC c xs f k b acc) : acc.length ≤ xs.length + 1 := by
  rcases h with ⟨_, rfl, _⟩ | ⟨_, h⟩
  · rw [List.length_take]; omega
  · have := congrArg List.length h
    rw [insC_len, List.length_append] at this; omega
theorem IC.done {xs : List α} {f : α} {k : Nat} {acc : List α} (h : IC c xs f k true acc) (hk : xs.length ≤ k) : acc = insC c f xs := by
  rcases h with ⟨h, _⟩ | ⟨_, h⟩
  · cases h
  · rw [← h, List.drop_of_length_le hk, List.append_nil]
theorem IC.last {xs : List α} {f : α} {k : Nat} {acc : List α} (h : IC c xs f k false acc) (hk : xs.length ≤ k) : acc ++ [f] = insC c f xs := by
  rcases h with ⟨_, rfl, h⟩ | ⟨h, _⟩
  · rw [h, List.drop_of_length_le hk]; rfl
  · cases h
end

end Go.Proofs.YtmdlmjcejeejfaaGreatDoor

/-
  Plain facts, of no program: what a stable sort in place does, whatever is compared: its searches, turns, merges and passes.
-/
set_option linter.unusedVariables false
namespace Go.Proofs.YtmdlmjcejeejfaaGreatDoor

/-- An order of whatever is compared. -/
structure Ordr (α : Type) where
  c : α → α → Int
  h : Cmp c

section
variable {α : Type} {O : Ordr α}
theorem cmp_self (a : α) : O.c a a = 0 := O.h.self a
theorem cmp_neg (a b : α) : O.c b a = - O.c a b := O.h.neg a b
theorem cmp_le {a b c : α} (h : O.c a b ≤ 0) (k : O.c b c ≤ 0) : O.c a c ≤ 0 := (O.h.trans a b c h k).1
theorem cmp_lt {a b c : α} (h : O.c a b < 0) (k : O.c b c ≤ 0) : O.c a c < 0 := by
  obtain ⟨h1, h2⟩ := O.h.trans a b c (by omega) k
  have h3 := O.h.range a c
  by_cases e : O.c a c = 0
  · have := (h2 e).1; omega
  · omega
theorem cmp_lt' {a b c : α} (h : O.c a b ≤ 0) (k : O.c b c < 0) : O.c a c < 0 := by
  obtain ⟨h1, h2⟩ := O.h.trans a b c h (by omega)
  have h3 := O.h.range a c
  by_cases e : O.c a c = 0
  · have := (h2 e).2; omega
  · omega
theorem mem_insC {c : α → α → Int} {f u : α} {l : List α} (h : u ∈ insC c f l) : u = f ∨ u ∈ l := List.mem_cons.1 ((insC_perm f l).mem_iff.1 h)
theorem sortC_len {c : α → α → Int} (l : List α) : (sortC c l).length = l.length := by
  have := (sortC_perm (c := c) l l.length (Nat.le_refl _)).length_eq
  rwa [List.take_length] at this


/-- No file goes ahead of one that is lower. -/
def Rises (O : Ordr α) (xs : List α) : Prop := xs.Pairwise fun a b => ¬ O.c b a < 0
/-- The same files, and those of one path in the same order. -/
def Kept (O : Ordr α) (xs ys : List α) : Prop := ∀ q : α, ys.filter (fun f => decide (O.c f q = 0)) = xs.filter (fun f => decide (O.c f q = 0))

theorem Kept.refl (xs : List α) : Kept O xs xs := fun _ => rfl
theorem Kept.trans {xs ys zs : List α} (h : Kept O xs ys) (k : Kept O ys zs) : Kept O xs zs := fun q => (k q).trans (h q)
theorem Kept.app {xs ys us vs : List α} (h : Kept O xs us) (k : Kept O ys vs) : Kept O (xs ++ ys) (us ++ vs) := fun q => by rw [List.filter_append, List.filter_append, h q, k q]
theorem Kept.mem {xs ys : List α} (h : Kept O xs ys) {f : α} : f ∈ ys ↔ f ∈ xs := by
  have e := h f
  have k : ∀ zs : List α, f ∈ zs ↔ f ∈ zs.filter (fun g => decide (O.c g f = 0)) := fun zs => by
    rw [List.mem_filter]
    exact ⟨fun hf => ⟨hf, decide_eq_true (cmp_self _)⟩, fun hf => hf.1⟩
  rw [k ys, k xs, e]
/-- Two parts change places, where each file of the first is higher than each of the second. -/
theorem Kept.swap {us vs : List α} (h : ∀ u ∈ us, ∀ v ∈ vs, O.c v u < 0) : Kept O (us ++ vs) (vs ++ us) := by
  intro q
  rw [List.filter_append, List.filter_append]
  by_cases hu : us.filter (fun f => decide (O.c f q = 0)) = []
  · rw [hu, List.append_nil, List.nil_append]
  · obtain ⟨u, hu⟩ := List.exists_mem_of_ne_nil _ hu
    obtain ⟨hu1, hu2⟩ := List.mem_filter.1 hu
    have hv : vs.filter (fun f => decide (O.c f q = 0)) = [] := by
      rw [List.filter_eq_nil_iff]
      intro v hv hc
      have h0 := h u hu1 v hv
      have h1 := of_decide_eq_true hc
      have h2 := of_decide_eq_true hu2
      have h3 := O.h.neg v q
      have h4 := (O.h.trans u q v (by omega) (by omega)).1
      have h5 := O.h.neg u v
      omega
    rw [hv, List.append_nil, List.nil_append]

theorem Kept.tail {x : α} {xs ys : List α} (h : Kept O (x :: xs) (x :: ys)) : Kept O xs ys := by
  intro q
  have := h q
  rw [List.filter_cons, List.filter_cons] at this
  split at this
  · exact List.tail_eq_of_cons_eq this
  · exact this

/-- One list alone rises and keeps the files. -/
theorem rises_one : ∀ (xs ys : List α), Rises O xs → Rises O ys → Kept O xs ys → ys = xs
  | [], ys, _, _, hk => by
    cases ys with
    | nil => rfl
    | cons y ys => exact absurd (hk.mem.1 (List.mem_cons_self ..)) (List.not_mem_nil)
  | x :: xs, [], _, _, hk => absurd (hk.mem.2 (List.mem_cons_self ..)) (List.not_mem_nil)
  | x :: xs, y :: ys, hx, hy, hk => by
    have hx' := List.pairwise_cons.1 hx
    have hy' := List.pairwise_cons.1 hy
    have e : O.c y x = 0 := by
      have h1 : ¬ O.c y x < 0 := by
        rcases List.mem_cons.1 (hk.mem.1 (List.mem_cons_self (a := y) (l := ys))) with h | h
        · rw [h, cmp_self]; omega
        · exact hx'.1 _ h
      have h2 : ¬ O.c x y < 0 := by
        rcases List.mem_cons.1 (hk.mem.2 (List.mem_cons_self (a := x) (l := xs))) with h | h
        · rw [h, cmp_self]; omega
        · exact hy'.1 _ h
      rw [cmp_neg] at h2
      omega
    have h3 := hk x
    rw [List.filter_cons, List.filter_cons, if_pos (decide_eq_true e), if_pos (decide_eq_true (cmp_self _))] at h3
    have h4 : y = x := List.head_eq_of_cons_eq h3
    subst h4
    rw [rises_one xs ys hx'.2 hy'.2 hk.tail]

theorem Rises.app {us vs : List α} (h : Rises O us) (k : Rises O vs) (m : ∀ u ∈ us, ∀ v ∈ vs, ¬ O.c v u < 0) : Rises O (us ++ vs) := List.pairwise_append.2 ⟨h, k, m⟩

/-- The document's own Sort rises and keeps the files. -/
theorem ins_kept (f : α) : ∀ l : List α, Rises O l → Rises O (insC O.c f l) ∧ Kept O (l ++ [f]) (insC O.c f l)
  | [], _ => ⟨List.pairwise_singleton _ _, Kept.refl _⟩
  | g :: r, h => by
    have h' := List.pairwise_cons.1 h
    unfold insC
    split
    · rename_i hlt
      have hall : ∀ u ∈ g :: r, O.c f u < 0 := fun u hu => by
        rcases List.mem_cons.1 hu with rfl | hu
        · exact hlt
        · have := h'.1 u hu
          rw [cmp_neg] at this
          exact cmp_lt hlt (by omega)
      refine ⟨List.pairwise_cons.2 ⟨fun u hu => ?_, h⟩, ?_⟩
      · have := hall u hu
        rw [cmp_neg]
        omega
      · exact Kept.swap (us := g :: r) (vs := [f]) fun u hu v hv => by
          rw [List.mem_singleton.1 hv]; exact hall u hu
    · rename_i hge
      obtain ⟨h1, h2⟩ := ins_kept f r h'.2
      refine ⟨List.pairwise_cons.2 ⟨fun u hu => ?_, h1⟩, ?_⟩
      · rcases mem_insC hu with rfl | hu
        · exact hge
        · exact h'.1 u hu
      · exact (Kept.refl [g]).app h2
theorem sort_kept_take (l : List α) : ∀ k, k ≤ l.length → Rises O (sortC O.c (l.take k)) ∧ Kept O (l.take k) (sortC O.c (l.take k))
  | 0, _ => ⟨List.Pairwise.nil, Kept.refl _⟩
  | k + 1, h => by
    obtain ⟨h1, h2⟩ := sort_kept_take l k (by omega)
    rw [sortC_snoc (by omega)]
    obtain ⟨h3, h4⟩ := ins_kept l[k] _ h1
    refine ⟨h3, ?_⟩
    rw [List.take_succ_eq_append_getElem (by omega : k < l.length)]
    exact (h2.app (Kept.refl _)).trans h4
theorem sort_is {l ys : List α} (h : Rises O ys) (k : Kept O l ys) : ys = sortC O.c l := by
  have := sort_kept_take (O := O) l l.length (Nat.le_refl _)
  rw [List.take_length] at this
  exact rises_one _ _ this.1 h fun q => (k q).trans (this.2 q).symm



theorem rises_at {xs : List α} (h : Rises O xs) {i j : Nat} (hij : i ≤ j) (hj : j < xs.length) : O.c xs[i] xs[j] ≤ 0 := by
  by_cases e : i = j
  · subst e; rw [cmp_self]; omega
  · have := (List.pairwise_iff_getElem.1 h) i j (by omega) hj (by omega)
    rw [cmp_neg] at this
    omega
theorem cmp_ge {a b : α} : ¬ O.c a b < 0 ↔ O.c b a ≤ 0 := by rw [cmp_neg b a]; omega

/-- What the search of a merge tells of its cut: of the first part what is from s on, of the second what is ahead of e. -/
structure Cut (O : Ordr α) (A C : List α) (s e : Nat) : Prop where
  hs : s ≤ A.length
  he : e ≤ C.length
  high : ∀ x ∈ A.drop s, ∀ y ∈ C.take e, O.c y x < 0
  low : ∀ x ∈ A.take s, ∀ y ∈ C.drop e, O.c x y ≤ 0
theorem Cut.made {A C : List α} {s e : Nat} (ha : Rises O A) (hc : Rises O C) (hs : s ≤ A.length) (he : e ≤ C.length)
    (h1 : ∀ (p : s < A.length) (q : 0 < e), O.c C[e - 1] A[s] < 0) (h2 : ∀ (p : 0 < s) (q : e < C.length), ¬ O.c C[e] A[s - 1] < 0) : Cut O A C s e := by
  refine ⟨hs, he, fun x hx y hy => ?_, fun x hx y hy => ?_⟩
  · obtain ⟨i, hi, rfl⟩ := List.mem_iff_getElem.1 hx
    obtain ⟨j, hj, rfl⟩ := List.mem_iff_getElem.1 hy
    rw [List.length_drop] at hi
    rw [List.length_take] at hj
    rw [List.getElem_drop, List.getElem_take]
    have k1 := rises_at ha (i := s) (j := s + i) (by omega) (by omega)
    have k2 := rises_at hc (i := j) (j := e - 1) (by omega) (by omega)
    exact cmp_lt' k2 (cmp_lt (h1 (by omega) (by omega)) k1)
  · obtain ⟨i, hi, rfl⟩ := List.mem_iff_getElem.1 hx
    obtain ⟨j, hj, rfl⟩ := List.mem_iff_getElem.1 hy
    rw [List.length_take] at hi
    rw [List.length_drop] at hj
    rw [List.getElem_drop, List.getElem_take]
    have k1 := rises_at ha (i := i) (j := s - 1) (by omega) (by omega)
    have k2 := rises_at hc (i := e) (j := e + j) (by omega) (by omega)
    exact cmp_le k1 (cmp_le (cmp_ge.1 (h2 (by omega) (by omega))) k2)
/-- The two halves, each merged, are the whole. -/
theorem Cut.whole {A C L R : List α} {s e : Nat} (h : Cut O A C s e) (ha : Rises O A) (hc : Rises O C) (hl : Rises O L) (kl : Kept O (A.take s ++ C.take e) L) (hr : Rises O R) (kr : Kept O (A.drop s ++ C.drop e) R) : Rises O (L ++ R) ∧ Kept O (A ++ C) (L ++ R) := by
  have ha' := ha
  have hc' := hc
  rw [← List.take_append_drop s A] at ha'
  rw [← List.take_append_drop e C] at hc'
  have pa := (List.pairwise_append.1 ha').2.2
  have pc := (List.pairwise_append.1 hc').2.2
  constructor
  · refine hl.app hr fun l hl' r hr' => ?_
    rcases List.mem_append.1 (kl.mem.1 hl') with h1 | h1 <;> rcases List.mem_append.1 (kr.mem.1 hr') with h2 | h2
    · exact pa l h1 r h2
    · exact cmp_ge.2 (h.low l h1 r h2)
    · exact cmp_ge.2 (Int.le_of_lt (h.high r h2 l h1))
    · exact pc l h1 r h2
  · refine Kept.trans ?_ (kl.app kr)
    have e1 : A ++ C = A.take s ++ ((A.drop s ++ C.take e) ++ C.drop e) := by
      conv => lhs; rw [← List.take_append_drop s A, ← List.take_append_drop e C]
      simp only [List.append_assoc]
    have e2 : A.take s ++ C.take e ++ (A.drop s ++ C.drop e) = A.take s ++ ((C.take e ++ A.drop s) ++ C.drop e) := by simp only [List.append_assoc]
    rw [e1, e2]
    exact (Kept.refl _).app ((Kept.swap h.high).app (Kept.refl _))


/-- What stands at that place. -/
def keyAt [Inhabited α] (xs : List α) (q : Nat) : α := (xs[q]?).getD default
theorem keyAt_some [Inhabited α] {xs : List α} {q : Nat} {f : α} (h : xs[q]? = some f) : keyAt xs q = f := by unfold keyAt; rw [h]; rfl
theorem some_at [Inhabited α] {xs : List α} {q : Nat} (h : q < xs.length) : ∃ p, xs[q]? = some p ∧ p = keyAt xs q := ⟨xs[q], List.getElem?_eq_getElem h, (keyAt_some (List.getElem?_eq_getElem h)).symm⟩
theorem key_first [Inhabited α] (P A C S : List α) {i : Nat} (h : i < A.length) : keyAt (P ++ A ++ C ++ S) (P.length + i) = A[i] := by
  apply keyAt_some
  rw [List.append_assoc, List.append_assoc, List.getElem?_append_right (by omega), List.getElem?_append_left (by omega), Nat.add_sub_cancel_left, List.getElem?_eq_getElem h]
theorem key_second [Inhabited α] (P A C S : List α) {i : Nat} (h : i < C.length) : keyAt (P ++ A ++ C ++ S) (P.length + A.length + i) = C[i] := by
  apply keyAt_some
  rw [List.append_assoc, List.getElem?_append_right (by rw [List.length_append]; omega), List.getElem?_append_left (by rw [List.length_append]; omega)]
  simp [h]
theorem key_sec1 [Inhabited α] (P : List α) (x : α) (C S : List α) (i : Nat) (h : i < C.length) : keyAt (P ++ [x] ++ C ++ S) (P.length + 1 + i) = C[i] := key_second P [x] C S h


/-- What a search has found out: all ahead of k are so, none from l on is. -/
structure Sk (p : Nat → Prop) (lo hi k l : Nat) : Prop where
  a : lo ≤ k
  b : k ≤ l
  c : l ≤ hi
  yes : ∀ q, lo ≤ q → q < k → p q
  no : ∀ q, l ≤ q → q < hi → ¬ p q
theorem Sk.start (p : Nat → Prop) {lo hi : Nat} (h : lo ≤ hi) : Sk p lo hi lo hi := ⟨Nat.le_refl _, h, Nat.le_refl _, fun _ _ _ => by omega, fun _ _ _ => by omega⟩
theorem Sk.up {p : Nat → Prop} {lo hi k l h : Nat} (s : Sk p lo hi k l) (mono : ∀ q r, lo ≤ q → q ≤ r → r < hi → p r → p q) (h1 : k ≤ h) (h2 : h < l) (e : p h) : Sk p lo hi (h + 1) l :=
  ⟨by have := s.a; omega, h2, s.c, fun q ha hb => mono q h ha (by omega) (by have := s.c; omega) e, s.no⟩
theorem Sk.down {p : Nat → Prop} {lo hi k l h : Nat} (s : Sk p lo hi k l) (mono : ∀ q r, lo ≤ q → q ≤ r → r < hi → p r → p q) (h1 : k ≤ h) (h2 : h < l) (e : ¬ p h) : Sk p lo hi k h :=
  ⟨s.a, h1, by have := s.c; omega, s.yes, fun q ha hb hq => e (mono h q (by have := s.a; omega) ha hb hq)⟩

/-- One file ahead of a sorted part. -/
theorem one_first {x : α} {C : List α} {e : Nat} (hc : Rises O C) (h1 : ∀ y ∈ C.take e, O.c y x < 0) (h2 : ∀ y ∈ C.drop e, ¬ O.c y x < 0) : Rises O (C.take e ++ x :: C.drop e) ∧ Kept O (x :: C) (C.take e ++ x :: C.drop e) := by
  have hc' := hc
  rw [← List.take_append_drop e C] at hc'
  obtain ⟨k1, k2, k3⟩ := List.pairwise_append.1 hc'
  constructor
  · refine List.pairwise_append.2 ⟨k1, List.pairwise_cons.2 ⟨h2, k2⟩, fun y hy z hz => ?_⟩
    rcases List.mem_cons.1 hz with rfl | hz
    · have := h1 y hy
      rw [cmp_neg]; omega
    · exact k3 y hy z hz
  · have e1 : x :: C = ([x] ++ C.take e) ++ C.drop e := by rw [List.append_assoc, List.take_append_drop]; rfl
    have e2 : C.take e ++ x :: C.drop e = (C.take e ++ [x]) ++ C.drop e := by simp
    rw [e1, e2]
    exact (Kept.swap fun u hu v hv => by rw [List.mem_singleton.1 hu]; exact h1 v hv).app (Kept.refl _)
/-- One file behind a sorted part. -/
theorem one_last {y : α} {A : List α} {s : Nat} (ha : Rises O A) (h1 : ∀ z ∈ A.take s, ¬ O.c y z < 0) (h2 : ∀ z ∈ A.drop s, O.c y z < 0) : Rises O (A.take s ++ y :: A.drop s) ∧ Kept O (A ++ [y]) (A.take s ++ y :: A.drop s) := by
  have ha' := ha
  rw [← List.take_append_drop s A] at ha'
  obtain ⟨k1, k2, k3⟩ := List.pairwise_append.1 ha'
  constructor
  · refine List.pairwise_append.2 ⟨k1, List.pairwise_cons.2 ⟨fun z hz => ?_, k2⟩, fun z hz v hv => ?_⟩
    · have := h2 z hz
      rw [cmp_neg]; omega
    · rcases List.mem_cons.1 hv with rfl | hv
      · exact h1 z hz
      · exact k3 z hz v hv
  · have e1 : A ++ [y] = A.take s ++ (A.drop s ++ [y]) := by rw [← List.append_assoc, List.take_append_drop]
    have e2 : A.take s ++ y :: A.drop s = A.take s ++ ([y] ++ A.drop s) := by simp
    rw [e1, e2]
    exact (Kept.refl _).app (Kept.swap fun u hu v hv => by rw [List.mem_singleton.1 hv]; exact h2 u hu)

/-- How far the first file has gone up. -/
def UpAt (P : List α) (x : α) (C S : List α) (r : Nat) (ys : List α) : Prop := ys = P ++ C.take r ++ x :: C.drop r ++ S
theorem UpAt.next {P : List α} {x : α} {C S ys : List α} {r : Nat} (h : UpAt P x C S r ys) (hr : r < C.length) :
    ∃ P' y S', ys = P' ++ x :: [] ++ y :: S' ∧ P'.length = P.length + r ∧ UpAt P x C S (r + 1) (P' ++ y :: [] ++ x :: S') := by
  refine ⟨P ++ C.take r, C[r], C.drop (r + 1) ++ S, ?_, by simp; omega, ?_⟩
  · rw [h, List.drop_eq_getElem_cons hr]; simp only [List.append_assoc, List.cons_append, List.nil_append]
  · unfold UpAt
    rw [List.take_succ_eq_append_getElem hr]; simp only [List.append_assoc, List.cons_append, List.nil_append]
/-- How far the last file has gone down. -/
def DownAt (P A : List α) (y : α) (S : List α) (r : Nat) (ys : List α) : Prop := ys = P ++ A.take r ++ y :: A.drop r ++ S
theorem DownAt.next {P : List α} {y : α} {A S ys : List α} {r : Nat} (h : DownAt P A y S (r + 1) ys) (hr : r < A.length) :
    ∃ P' z S', ys = P' ++ z :: [] ++ y :: S' ∧ P'.length = P.length + r ∧ DownAt P A y S r (P' ++ y :: [] ++ z :: S') := by
  refine ⟨P ++ A.take r, A[r], A.drop (r + 1) ++ S, ?_, by simp; omega, ?_⟩
  · rw [h, List.take_succ_eq_append_getElem hr]; simp only [List.append_assoc, List.cons_append, List.nil_append]
  · unfold DownAt
    rw [List.drop_eq_getElem_cons hr]; simp only [List.append_assoc, List.cons_append, List.nil_append]

/-- The first search tells where the first file belongs. -/
theorem first_cut [Inhabited α] {P : List α} {x : α} {C S : List α} {e : Nat} (hc : Rises O C) (h : Sk (fun q => O.c (keyAt (P ++ [x] ++ C ++ S) q) x < 0) (P.length + 1) (P.length + 1 + C.length) (P.length + 1 + e) (P.length + 1 + e)) : Rises O (C.take e ++ x :: C.drop e) ∧ Kept O (x :: C) (C.take e ++ x :: C.drop e) := by
  have hle := h.c
  apply one_first hc
  · intro y hy
    obtain ⟨i, hi, rfl⟩ := List.mem_iff_getElem.1 hy
    rw [List.length_take] at hi
    have := h.yes (P.length + 1 + i) (by omega) (by omega)
    rw [key_sec1 P x C S i (by omega)] at this
    rw [List.getElem_take]; exact this
  · intro y hy
    obtain ⟨i, hi, rfl⟩ := List.mem_iff_getElem.1 hy
    rw [List.length_drop] at hi
    have := h.no (P.length + 1 + (e + i)) (by omega) (by omega)
    rw [key_sec1 P x C S (e + i) (by omega)] at this
    rw [List.getElem_drop]; exact this
theorem first_mono [Inhabited α] {P : List α} {x : α} {C S : List α} (hc : Rises O C) (q r : Nat) (h1 : P.length + 1 ≤ q) (h2 : q ≤ r) (h3 : r < P.length + 1 + C.length) (h : O.c (keyAt (P ++ [x] ++ C ++ S) r) x < 0) : O.c (keyAt (P ++ [x] ++ C ++ S) q) x < 0 := by
  obtain ⟨i, rfl⟩ : ∃ i, q = P.length + 1 + i := ⟨q - (P.length + 1), by omega⟩
  obtain ⟨j, rfl⟩ : ∃ j, r = P.length + 1 + j := ⟨r - (P.length + 1), by omega⟩
  rw [key_sec1 P x C S _ (by omega)] at h
  rw [key_sec1 P x C S _ (by omega)]
  exact cmp_lt' (rises_at hc (by omega) (by omega)) h
/-- The second search tells where the last file belongs. -/
theorem second_cut [Inhabited α] {P A S : List α} {y : α} {s : Nat} (ha : Rises O A) (h : Sk (fun q => ¬ O.c y (keyAt (P ++ A ++ [y] ++ S) q) < 0) P.length (P.length + A.length) (P.length + s) (P.length + s)) : Rises O (A.take s ++ y :: A.drop s) ∧ Kept O (A ++ [y]) (A.take s ++ y :: A.drop s) := by
  have hle := h.c
  apply one_last ha
  · intro z hz
    obtain ⟨i, hi, rfl⟩ := List.mem_iff_getElem.1 hz
    rw [List.length_take] at hi
    have := h.yes (P.length + i) (by omega) (by omega)
    rw [key_first P A [y] S (by omega)] at this
    rw [List.getElem_take]; exact this
  · intro z hz
    obtain ⟨i, hi, rfl⟩ := List.mem_iff_getElem.1 hz
    rw [List.length_drop] at hi
    have := h.no (P.length + (s + i)) (by omega) (by omega)
    rw [key_first P A [y] S (by omega)] at this
    rw [List.getElem_drop]
    exact Classical.not_not.1 this
theorem second_mono [Inhabited α] {P A S : List α} {y : α} (ha : Rises O A) (q r : Nat) (h1 : P.length ≤ q) (h2 : q ≤ r) (h3 : r < P.length + A.length) (h : ¬ O.c y (keyAt (P ++ A ++ [y] ++ S) r) < 0) : ¬ O.c y (keyAt (P ++ A ++ [y] ++ S) q) < 0 := by
  obtain ⟨i, rfl⟩ : ∃ i, q = P.length + i := ⟨q - P.length, by omega⟩
  obtain ⟨j, rfl⟩ : ∃ j, r = P.length + j := ⟨r - P.length, by omega⟩
  have hj : j < A.length := by omega
  rw [key_first P A [y] S hj] at h
  rw [key_first P A [y] S (by omega : i < A.length)]
  intro hc
  exact h (cmp_lt hc (rises_at ha (by omega) hj))

/-- The bounds of the third search. -/
def Bounds (a m b mid lo hi : Nat) : Prop := mid = (a + b) / 2 ∧ ((mid < m ∧ lo = mid + m - b ∧ hi = mid) ∨ (m ≤ mid ∧ lo = a ∧ hi = m))
theorem third_mono [Inhabited α] {P A C S : List α} {mid lo hi : Nat} (ha : Rises O A) (hc : Rises O C) (hA : 0 < A.length) (hC : 0 < C.length) (hb : Bounds P.length (P.length + A.length) (P.length + A.length + C.length) mid lo hi) (q r : Nat) (h1 : lo ≤ q) (h2 : q ≤ r) (h3 : r < hi)
    (h : ¬ O.c (keyAt (P ++ A ++ C ++ S) (mid + (P.length + A.length) - 1 - r)) (keyAt (P ++ A ++ C ++ S) r) < 0) : ¬ O.c (keyAt (P ++ A ++ C ++ S) (mid + (P.length + A.length) - 1 - q)) (keyAt (P ++ A ++ C ++ S) q) < 0 := by
  obtain ⟨hm, hb⟩ := hb
  obtain ⟨i, rfl⟩ : ∃ i, q = P.length + i := ⟨q - P.length, by omega⟩
  obtain ⟨j, rfl⟩ : ∃ j, r = P.length + j := ⟨r - P.length, by omega⟩
  obtain ⟨k, hk⟩ : ∃ k, mid + (P.length + A.length) - 1 - (P.length + i) = P.length + A.length + k := ⟨mid + (P.length + A.length) - 1 - (P.length + i) - (P.length + A.length), by omega⟩
  obtain ⟨l, hl⟩ : ∃ l, mid + (P.length + A.length) - 1 - (P.length + j) = P.length + A.length + l := ⟨mid + (P.length + A.length) - 1 - (P.length + j) - (P.length + A.length), by omega⟩
  have hi' : i < A.length := by omega
  have hj' : j < A.length := by omega
  have hk' : k < C.length := by omega
  have hl' : l < C.length := by omega
  rw [hl, key_second P A C S hl', key_first P A C S hj'] at h
  rw [hk, key_second P A C S hk', key_first P A C S hi']
  intro hx
  exact h (cmp_lt' (rises_at hc (by omega) hk') (cmp_lt hx (rises_at ha (by omega) hj')))
theorem third_cut [Inhabited α] {P A C S : List α} {mid lo hi st : Nat} (ha : Rises O A) (hc : Rises O C) (hA : 0 < A.length) (hC : 0 < C.length) (hb : Bounds P.length (P.length + A.length) (P.length + A.length + C.length) mid lo hi)
    (h : Sk (fun q => ¬ O.c (keyAt (P ++ A ++ C ++ S) (mid + (P.length + A.length) - 1 - q)) (keyAt (P ++ A ++ C ++ S) q) < 0) lo hi st st) : Cut O A C (st - P.length) (mid - st) := by
  obtain ⟨hm, hb⟩ := hb
  have h1 := h.a
  have h2 := h.c
  refine Cut.made ha hc (by omega) (by omega) (fun p q => ?_) (fun p q => ?_)
  · have := h.no st (Nat.le_refl _) (by omega)
    obtain ⟨s, rfl⟩ : ∃ s, st = P.length + s := ⟨st - P.length, by omega⟩
    obtain ⟨e, he⟩ : ∃ e, mid = P.length + s + (e + 1) := ⟨mid - (P.length + s) - 1, by omega⟩
    have e1 : mid + (P.length + A.length) - 1 - (P.length + s) = P.length + A.length + e := by omega
    rw [e1, key_second P A C S (by omega), key_first P A C S (by omega)] at this
    have e2 : mid - (P.length + s) - 1 = e := by omega
    have e3 : P.length + s - P.length = s := by omega
    simp only [e2, e3]
    exact Classical.not_not.1 this
  · have := h.yes (st - 1) (by omega) (by omega)
    obtain ⟨s, rfl⟩ : ∃ s, st = P.length + (s + 1) := ⟨st - P.length - 1, by omega⟩
    obtain ⟨e, he⟩ : ∃ e, mid = P.length + (s + 1) + e := ⟨mid - (P.length + (s + 1)), by omega⟩
    have e1 : mid + (P.length + A.length) - 1 - (P.length + (s + 1) - 1) = P.length + A.length + e := by omega
    have e4 : P.length + (s + 1) - 1 = P.length + s := by omega
    rw [e1, e4, key_second P A C S (by omega), key_first P A C S (by omega)] at this
    have e2 : mid - (P.length + (s + 1)) = e := by omega
    have e3 : P.length + (s + 1) - P.length - 1 = s := by omega
    simp only [e2, e3]
    exact this

/-- How far two parts have changed places. -/
def SwapAt (P A M C S : List α) (k : Nat) (ys : List α) : Prop := ys = P ++ C.take k ++ A.drop k ++ M ++ A.take k ++ C.drop k ++ S
theorem SwapAt.next {P A M C S ys : List α} {k : Nat} (h : SwapAt P A M C S k ys) (hk : k < A.length) (hc : C.length = A.length) :
    ∃ P' M' S' x y, ys = P' ++ x :: M' ++ y :: S' ∧ P'.length = P.length + k ∧ P'.length + 1 + M'.length = P.length + A.length + M.length + k ∧ SwapAt P A M C S (k + 1) (P' ++ y :: M' ++ x :: S') := by
  refine ⟨P ++ C.take k, A.drop (k + 1) ++ M ++ A.take k, C.drop (k + 1) ++ S, A[k], C[k], ?_, ?_, ?_, ?_⟩
  · rw [h, List.drop_eq_getElem_cons hk, List.drop_eq_getElem_cons (by omega : k < C.length)]; simp only [List.append_assoc, List.cons_append]
  · simp; omega
  · simp; omega
  · unfold SwapAt
    rw [List.take_succ_eq_append_getElem hk, List.take_succ_eq_append_getElem (by omega : k < C.length)]; simp only [List.append_assoc, List.cons_append, List.nil_append]


/-- How far it has come: what is left to change places, between what stays. -/
def RotAt (T : List α) (m i j : Nat) (ys : List α) : Prop := ∃ P A C S, ys = P ++ A ++ C ++ S ∧ T = P ++ C ++ A ++ S ∧ A.length = i ∧ C.length = j ∧ P.length + i = m
theorem RotAt.more {T : List α} {m i j : Nat} {ys : List α} (h : RotAt T m i j ys) (hij : j < i) :
    ∃ P A M C S, ys = P ++ A ++ M ++ C ++ S ∧ C.length = A.length ∧ m - i = P.length ∧ m = P.length + A.length + M.length ∧ j = A.length ∧ RotAt T m (i - j) j (P ++ C ++ M ++ A ++ S) := by
  obtain ⟨P, A, C, S, rfl, rfl, h1, h2, h3⟩ := h
  refine ⟨P, A.take j, A.drop j, C, S, ?_, ?_, ?_, ?_, ?_, P ++ C, A.drop j, A.take j, S, ?_, ?_, ?_, ?_, ?_⟩
  · rw [List.append_assoc P (A.take j), List.take_append_drop]
  · simp; omega
  · omega
  · simp; omega
  · simp; omega
  · rfl
  · rw [List.append_assoc (P ++ C) (A.take j), List.take_append_drop]
  · simp; omega
  · simp; omega
  · simp; omega
theorem RotAt.less {T : List α} {m i j : Nat} {ys : List α} (h : RotAt T m i j ys) (hij : i < j) :
    ∃ P A M C S, ys = P ++ A ++ M ++ C ++ S ∧ C.length = A.length ∧ m - i = P.length ∧ m + j - i = P.length + A.length + M.length ∧ i = A.length ∧ RotAt T m i (j - i) (P ++ C ++ M ++ A ++ S) := by
  obtain ⟨P, A, C, S, rfl, rfl, h1, h2, h3⟩ := h
  refine ⟨P, A, C.take (j - i), C.drop (j - i), S, ?_, ?_, ?_, ?_, ?_, P, C.drop (j - i), C.take (j - i), A ++ S, ?_, ?_, ?_, ?_, ?_⟩
  · rw [List.append_assoc (P ++ A) (C.take _), List.take_append_drop]
  · simp; omega
  · omega
  · simp; omega
  · omega
  · simp only [List.append_assoc]
  · rw [List.append_assoc P (C.take _), List.take_append_drop]; simp only [List.append_assoc]
  · simp; omega
  · simp; omega
  · omega
theorem RotAt.last {T : List α} {m i : Nat} {ys : List α} (h : RotAt T m i i ys) :
    ∃ P A M C S, ys = P ++ A ++ M ++ C ++ S ∧ C.length = A.length ∧ m - i = P.length ∧ m = P.length + A.length + M.length ∧ i = A.length ∧ P ++ C ++ M ++ A ++ S = T := by
  obtain ⟨P, A, C, S, rfl, rfl, h1, h2, h3⟩ := h
  exact ⟨P, A, [], C, S, by simp, by omega, by omega, by simp; omega, by omega, by simp⟩


theorem set_mid (P S : List α) (x y : α) : (P ++ x :: S).set P.length y = P ++ y :: S := by simp
theorem set_two (P M S : List α) (x y : α) : ((P ++ x :: M ++ y :: S).set P.length y).set (P.length + 1 + M.length) x = P ++ y :: M ++ x :: S := by
  have e1 : P ++ x :: M ++ y :: S = P ++ x :: (M ++ y :: S) := by simp
  rw [e1, set_mid, show P ++ y :: (M ++ y :: S) = (P ++ y :: M) ++ y :: S by simp, show P.length + 1 + M.length = (P ++ y :: M).length by simp; omega, set_mid]
theorem at_mid (P S : List α) (x : α) : (P ++ x :: S)[P.length]? = some x := by simp
theorem at_two (P M S : List α) (x y : α) : (P ++ x :: M ++ y :: S)[P.length]? = some x ∧ (P ++ x :: M ++ y :: S)[P.length + 1 + M.length]? = some y := by
  constructor
  · rw [show P ++ x :: M ++ y :: S = P ++ x :: (M ++ y :: S) by simp, at_mid]
  · rw [show P.length + 1 + M.length = (P ++ x :: M).length by simp; omega, at_mid]

theorem set_two' (P M S : List α) (x y : α) : ((P ++ x :: M ++ y :: S).set (P.length + 1 + M.length) x).set P.length y = P ++ y :: M ++ x :: S := by
  rw [List.set_comm _ _ (by omega), set_two]

/-- A part is sorted; what is ahead of it and behind it stays. -/
def Parted (O : Ordr α) (P A S ys : List α) : Prop := ∃ A', Rises O A' ∧ Kept O A A' ∧ ys = P ++ A' ++ S
/-- How far one file has gone down among those ahead of it. -/
def InsAt (O : Ordr α) (P A : List α) (x : α) (S : List α) (j : Nat) (ys : List α) : Prop :=
  ∃ L R, A = L ++ R ∧ (∀ r ∈ R, O.c x r < 0) ∧ j = P.length + L.length ∧ ys = P ++ L ++ x :: R ++ S
theorem ins_done {L R : List α} {x : α} (h : Rises O (L ++ R)) (hr : ∀ r ∈ R, O.c x r < 0) (hl : ∀ z ∈ L, ¬ O.c x z < 0) : Rises O (L ++ x :: R) ∧ Kept O (L ++ R ++ [x]) (L ++ x :: R) := by
  obtain ⟨h1, h2, h3⟩ := List.pairwise_append.1 h
  constructor
  · refine List.pairwise_append.2 ⟨h1, List.pairwise_cons.2 ⟨fun r h => ?_, h2⟩, fun l hl' r hr' => ?_⟩
    · have := hr r h
      rw [cmp_neg]; omega
    · rcases List.mem_cons.1 hr' with rfl | hr'
      · exact hl l hl'
      · exact h3 l hl' r hr'
  · rw [List.append_assoc]
    exact (Kept.refl L).app (Kept.swap (us := R) (vs := [x]) fun u hu v hv => by rw [List.mem_singleton.1 hv]; exact hr u hu)
theorem InsAt.low {P A S ys : List α} {x : α} {j : Nat} (h : InsAt O P A x S j ys) (ha : Rises O A) (hj : j = P.length) : Parted O P (A ++ [x]) S ys := by
  obtain ⟨L, R, rfl, h1, h2, rfl⟩ := h
  have : L = [] := List.length_eq_zero_iff.1 (by omega)
  subst this
  obtain ⟨k1, k2⟩ := ins_done ha h1 (by simp)
  exact ⟨_, k1, k2, by simp⟩
theorem InsAt.next {P A S ys : List α} {x : α} {j : Nat} (h : InsAt O P A x S j ys) (ha : Rises O A) (hj : P.length < j) :
    ∃ P' z S', ys = P' ++ z :: [] ++ x :: S' ∧ j = P'.length + 1 ∧ (O.c x z < 0 → InsAt O P A x S P'.length (P' ++ x :: [] ++ z :: S')) ∧ (¬ O.c x z < 0 → Parted O P (A ++ [x]) S ys) := by
  obtain ⟨L, R, rfl, h1, h2, rfl⟩ := h
  have hne : L ≠ [] := by intro e; subst e; simp at h2; omega
  obtain ⟨L', z, rfl⟩ : ∃ L' z, L = L' ++ [z] := ⟨_, _, (List.dropLast_concat_getLast hne).symm⟩
  refine ⟨P ++ L', z, R ++ S, by simp, by simp at h2; simp; omega, fun hc => ⟨L', z :: R, by simp, fun r hr => ?_, by simp, by simp⟩, fun hc => ?_⟩
  · rcases List.mem_cons.1 hr with rfl | hr
    · exact hc
    · exact h1 r hr
  · obtain ⟨k1, k2⟩ := ins_done ha h1 (fun y hy => by
      rcases List.mem_append.1 hy with hy | hy
      · have h4 := (List.pairwise_append.1 (List.pairwise_append.1 ha).1).2.2 y hy z (List.mem_singleton.2 rfl)
        intro h5
        apply hc
        rw [cmp_neg] at h4
        exact cmp_lt h5 (by omega)
      · rw [List.mem_singleton.1 hy]; exact hc)
    exact ⟨_, k1, k2, by simp⟩
/-- How far the sort of a part has come. -/
def SortAt (O : Ordr α) (P A S : List α) (k : Nat) (ys : List α) : Prop := ∃ A1, Rises O A1 ∧ Kept O (A.take k) A1 ∧ ys = P ++ A1 ++ (A.drop k ++ S)
theorem kept_len {xs ys : List α} (h : Kept O xs ys) : ys.length = xs.length := by
  have k := sort_kept_take (O := O) ys ys.length (Nat.le_refl _)
  have e1 := sortC_len (c := O.c) ys
  have e2 := sortC_len (c := O.c) xs
  rw [List.take_length] at k
  rw [← e1, sort_is k.1 (h.trans k.2), e2]
theorem SortAt.start (P A S : List α) : SortAt O P A S 1 (P ++ A ++ S) := ⟨A.take 1, by cases A <;> simp [Rises], Kept.refl _, by rw [List.append_assoc P (A.take 1), ← List.append_assoc (A.take 1), List.take_append_drop, List.append_assoc]⟩
theorem SortAt.done {P A S ys : List α} {k : Nat} (h : SortAt O P A S k ys) (hk : A.length ≤ k) : Parted O P A S ys := by
  obtain ⟨A1, h1, h2, rfl⟩ := h
  rw [List.take_of_length_le hk] at h2
  rw [List.drop_of_length_le hk]
  exact ⟨A1, h1, h2, by simp⟩
theorem SortAt.next {P A S ys : List α} {k : Nat} (h : SortAt O P A S k ys) (hk : k < A.length) :
    ∃ A1 x S', Rises O A1 ∧ InsAt O P A1 x S' (P.length + k) ys ∧ ∀ zs, Parted O P (A1 ++ [x]) S' zs → SortAt O P A S (k + 1) zs := by
  obtain ⟨A1, h1, h2, rfl⟩ := h
  have hl := kept_len h2
  rw [List.length_take] at hl
  refine ⟨A1, A[k], A.drop (k + 1) ++ S, h1, ⟨A1, [], by simp, by simp, by omega, ?_⟩, ?_⟩
  · rw [List.drop_eq_getElem_cons hk]; simp only [List.append_assoc, List.cons_append, List.nil_append]
  · rintro zs ⟨A', k1, k2, rfl⟩
    refine ⟨A', k1, ?_, rfl⟩
    rw [List.take_succ_eq_append_getElem hk]
    exact (h2.app (Kept.refl [A[k]])).trans k2



/-- All that is so of each of the list. -/
def Each (ok : α → Prop) (xs : List α) : Prop := ∀ x ∈ xs, ok x
theorem each_swap {ok : α → Prop} {P M S : List α} {x y : α} (h : Each ok (P ++ x :: M ++ y :: S)) : Each ok (P ++ y :: M ++ x :: S) := by
  intro f hf
  apply h f
  simp only [List.mem_append, List.mem_cons] at hf ⊢
  rcases hf with (h | h | h) | h | h <;> simp [h]
/-- The first is no lower than the second. -/
def NotLess (O : Ordr α) (p q : α) : Prop := ¬ O.c p q < 0

/-- The four parts at a cut. -/
structure Quart (O : Ordr α) (A C A1 A2 C1 C2 : List α) : Prop where
  ha : A = A1 ++ A2
  hc : C = C1 ++ C2
  r1 : Rises O A1
  r2 : Rises O A2
  r3 : Rises O C1
  r4 : Rises O C2
  whole : ∀ L R, Rises O L → Kept O (A1 ++ C1) L → Rises O R → Kept O (A2 ++ C2) R → Rises O (L ++ R) ∧ Kept O (A ++ C) (L ++ R)
theorem Cut.quart {A C : List α} {s e : Nat} (h : Cut O A C s e) (ha : Rises O A) (hc : Rises O C) : Quart O A C (A.take s) (A.drop s) (C.take e) (C.drop e) := by
  have ha' := ha
  have hc' := hc
  rw [← List.take_append_drop s A] at ha'
  rw [← List.take_append_drop e C] at hc'
  have pa := List.pairwise_append.1 ha'
  have pc := List.pairwise_append.1 hc'
  exact ⟨(List.take_append_drop s A).symm, (List.take_append_drop e C).symm, pa.1, pa.2.1, pc.1, pc.2.1, fun L R h1 h2 h3 h4 => h.whole ha hc h1 h2 h3 h4⟩
/-- What the third search leaves. -/
theorem third_parts [Inhabited α] {P A C S : List α} {mid lo hi st : Nat} (ha : Rises O A) (hc : Rises O C) (hA : 0 < A.length) (hC : 0 < C.length) (hb : Bounds P.length (P.length + A.length) (P.length + A.length + C.length) mid lo hi)
    (h : Sk (fun q => NotLess O (keyAt (P ++ A ++ C ++ S) (mid + (P.length + A.length) - 1 - q)) (keyAt (P ++ A ++ C ++ S) q)) lo hi st st) :
    ∃ A1 A2 C1 C2, Quart O A C A1 A2 C1 C2 ∧ P.length + A1.length = st ∧ P.length + A1.length + C1.length = mid ∧ st ≤ mid := by
  have hcut := third_cut (S := S) ha hc hA hC hb h
  obtain ⟨hm, hb⟩ := hb
  have h1 := h.a
  have h2 := h.c
  have h3 := hcut.hs
  have h4 := hcut.he
  exact ⟨_, _, _, _, hcut.quart ha hc, by rw [List.length_take]; omega, by rw [List.length_take, List.length_take]; omega, by omega⟩
theorem third_mono' [Inhabited α] {P A C S : List α} {mid lo hi : Nat} (ha : Rises O A) (hc : Rises O C) (hA : 0 < A.length) (hC : 0 < C.length) (hb : Bounds P.length (P.length + A.length) (P.length + A.length + C.length) mid lo hi) (q r : Nat) (h1 : lo ≤ q) (h2 : q ≤ r) (h3 : r < hi)
    (h : NotLess O (keyAt (P ++ A ++ C ++ S) (mid + (P.length + A.length) - 1 - r)) (keyAt (P ++ A ++ C ++ S) r)) : NotLess O (keyAt (P ++ A ++ C ++ S) (mid + (P.length + A.length) - 1 - q)) (keyAt (P ++ A ++ C ++ S) q) := third_mono ha hc hA hC hb q r h1 h2 h3 h


theorem Quart.turn {A C A1 A2 C1 C2 : List α} (h : Quart O A C A1 A2 C1 C2) (P S : List α) : P ++ A ++ C ++ S = (P ++ A1) ++ A2 ++ C1 ++ (C2 ++ S) := by
  rw [h.ha, h.hc]; simp only [List.append_assoc]
theorem left_form (P A1 C1 A2 C2 S : List α) : (P ++ A1) ++ C1 ++ A2 ++ (C2 ++ S) = P ++ A1 ++ C1 ++ (A2 ++ C2 ++ S) := by simp only [List.append_assoc]

theorem each_turn {ok : α → Prop} {P A1 A2 C1 C2 S : List α} (h : Each ok ((P ++ A1) ++ A2 ++ C1 ++ (C2 ++ S))) : Each ok (P ++ A1 ++ C1 ++ (A2 ++ C2 ++ S)) := by
  intro f hf
  apply h f
  simp only [List.mem_append] at hf ⊢
  rcases hf with ((h | h) | h) | ((h | h) | h) <;> simp [h]
theorem no_turn {P A1 A2 C1 C2 S : List α} (he : A2.length = 0 ∨ C1.length = 0) : (P ++ A1) ++ A2 ++ C1 ++ (C2 ++ S) = P ++ A1 ++ C1 ++ (A2 ++ C2 ++ S) := by
  rcases he with e | e <;> rw [List.length_eq_zero_iff.1 e] <;> simp



/-- Parts of z files each, that rise; the last one may be shorter. -/
inductive Runs (O : Ordr α) (z : Nat) : List α → Prop
  | last (A : List α) : A.length ≤ z → Rises O A → Runs O z A
  | more (A R : List α) : A.length = z → Rises O A → Runs O z R → Runs O z (A ++ R)
/-- Parts of z files each, that rise. -/
inductive FullRuns (O : Ordr α) (z : Nat) : List α → Prop
  | nil : FullRuns O z []
  | more (Q A : List α) : FullRuns O z Q → A.length = z → Rises O A → FullRuns O z (Q ++ A)

theorem FullRuns.runs {z : Nat} {Q : List α} (h : FullRuns O z Q) : ∀ {R : List α}, Runs O z R → Runs O z (Q ++ R) := by
  induction h with
  | nil => intro R hR; exact hR
  | more Q A _ hl hr ih => intro R hR; rw [List.append_assoc]; exact ih (.more A R hl hr hR)
theorem Runs.rises {z : Nat} {R : List α} (h : Runs O z R) : R.length ≤ z → Rises O R := by
  induction h with
  | last A _ hr => intro _; exact hr
  | more A R hl hr _ ih =>
    intro h
    rw [List.length_append] at h
    have : R = [] := List.length_eq_zero_iff.1 (by omega)
    rw [this, List.append_nil]; exact hr
theorem Runs.first {z : Nat} {R : List α} (h : Runs O z R) (hz : z ≤ R.length) : ∃ A R', R = A ++ R' ∧ A.length = z ∧ Rises O A ∧ Runs O z R' := by
  cases h with
  | last _ hl hr => exact ⟨R, [], (List.append_nil _).symm, by omega, hr, .last [] (Nat.zero_le _) List.Pairwise.nil⟩
  | more A R hl hr hR => exact ⟨A, R, rfl, hl, hr, hR⟩
theorem each_of {ok : α → Prop} {xs ys : List α} (k : Kept O xs ys) (h : Each ok xs) : Each ok ys := fun f hf => h f (k.mem.1 hf)

/-- Where the first pass is: the files ahead of a are sorted by twenties. -/
def Pass1 (O : Ordr α) (xs : List α) (a : Nat) (ys : List α) : Prop := ∃ Q R, ys = Q ++ R ∧ Q.length = a ∧ FullRuns O 20 Q ∧ Kept O xs ys
theorem Pass1.start (xs : List α) : Pass1 O xs 0 xs := ⟨[], xs, rfl, rfl, .nil, Kept.refl _⟩
theorem Pass1.next {xs ys : List α} {a : Nat} (h : Pass1 O xs a ys) (hb : a + 20 ≤ ys.length) : ∃ P A S, ys = P ++ A ++ S ∧ a = P.length ∧ a + 20 = P.length + A.length ∧ ∀ zs, Parted O P A S zs → Pass1 O xs (a + 20) zs := by
  obtain ⟨Q, R, rfl, hl, hf, hk⟩ := h
  rw [List.length_append] at hb
  refine ⟨Q, R.take 20, R.drop 20, by rw [List.append_assoc, List.take_append_drop], hl.symm, by rw [List.length_take]; omega, ?_⟩
  rintro zs ⟨A', hr, hk', rfl⟩
  have hl' := kept_len hk'
  rw [List.length_take] at hl'
  refine ⟨Q ++ A', R.drop 20, rfl, by rw [List.length_append]; omega, .more Q A' hf (by omega) hr, hk.trans ?_⟩
  conv => lhs; rw [← List.take_append_drop 20 R]
  rw [List.append_assoc]
  exact (Kept.refl _).app (hk'.app (Kept.refl _))
theorem Pass1.done {xs ys : List α} {a : Nat} (h : Pass1 O xs a ys) (hb : ys.length < a + 20) (ha : a ≤ ys.length) : ∃ P A, ys = P ++ A ++ [] ∧ a = P.length ∧ ys.length = P.length + A.length ∧ ∀ zs, Parted O P A [] zs → Runs O 20 zs ∧ Kept O xs zs := by
  obtain ⟨Q, R, rfl, hl, hf, hk⟩ := h
  rw [List.length_append] at hb
  refine ⟨Q, R, by rw [List.append_nil], hl.symm, by rw [List.length_append], ?_⟩
  rintro zs ⟨A', hr, hk', rfl⟩
  have hl' := kept_len hk'
  rw [List.append_nil]
  exact ⟨hf.runs (.last A' (by omega) hr), hk.trans ((Kept.refl _).app hk')⟩

/-- Where a later pass is: the files ahead of a are sorted by 2z, those behind it by z. -/
def Pass2 (O : Ordr α) (xs : List α) (z a : Nat) (ys : List α) : Prop := ∃ Q R, ys = Q ++ R ∧ Q.length = a ∧ FullRuns O (2 * z) Q ∧ Runs O z R ∧ Kept O xs ys
theorem Pass2.start {xs ys : List α} {z : Nat} (h : Runs O z ys) (k : Kept O xs ys) : Pass2 O xs z 0 ys := ⟨[], ys, rfl, rfl, .nil, h, k⟩
theorem Pass2.next {xs ys : List α} {z a : Nat} (h : Pass2 O xs z a ys) (hb : a + 2 * z ≤ ys.length) : ∃ P A C S, ys = P ++ A ++ C ++ S ∧ a = P.length ∧ A.length = z ∧ C.length = z ∧ Rises O A ∧ Rises O C ∧ ∀ zs, Parted O P (A ++ C) S zs → Pass2 O xs z (a + 2 * z) zs := by
  obtain ⟨Q, R, rfl, hl, hf, hr, hk⟩ := h
  rw [List.length_append] at hb
  obtain ⟨A, R1, rfl, hA, hAr, hR1⟩ := hr.first (by omega)
  rw [List.length_append] at hb
  obtain ⟨C, R2, rfl, hC, hCr, hR2⟩ := hR1.first (by omega)
  refine ⟨Q, A, C, R2, by simp only [List.append_assoc], hl.symm, hA, hC, hAr, hCr, ?_⟩
  rintro zs ⟨M, hm, hk', rfl⟩
  have hl' := kept_len hk'
  rw [List.length_append] at hl'
  refine ⟨Q ++ M, R2, rfl, by rw [List.length_append]; omega, .more Q M hf (by omega) hm, hR2, hk.trans ?_⟩
  rw [List.append_assoc, ← List.append_assoc A]
  exact (Kept.refl _).app (hk'.app (Kept.refl _))
theorem Pass2.done {xs ys : List α} {z a : Nat} (h : Pass2 O xs z a ys) (hb : ys.length ≤ a + z) : Runs O (2 * z) ys ∧ Kept O xs ys := by
  obtain ⟨Q, R, rfl, hl, hf, hr, hk⟩ := h
  rw [List.length_append] at hb
  exact ⟨hf.runs (.last R (by omega) (hr.rises (by omega))), hk⟩
theorem Pass2.rest {xs ys : List α} {z a : Nat} (h : Pass2 O xs z a ys) (hb : ys.length < a + 2 * z) (hm : a + z < ys.length) : ∃ P A C, ys = P ++ A ++ C ++ [] ∧ a = P.length ∧ A.length = z ∧ 0 < C.length ∧ ys.length = P.length + A.length + C.length ∧ Rises O A ∧ Rises O C ∧ ∀ zs, Parted O P (A ++ C) [] zs → Runs O (2 * z) zs ∧ Kept O xs zs := by
  obtain ⟨Q, R, rfl, hl, hf, hr, hk⟩ := h
  rw [List.length_append] at hb hm
  obtain ⟨A, C, rfl, hA, hAr, hR1⟩ := hr.first (by omega)
  rw [List.length_append] at hb hm
  refine ⟨Q, A, C, by simp only [List.append_assoc, List.append_nil], hl.symm, hA, by omega, by simp only [List.length_append]; omega, hAr, hR1.rises (by omega), ?_⟩
  rintro zs ⟨M, hm', hk', rfl⟩
  have hl' := kept_len hk'
  rw [List.length_append] at hl'
  rw [List.append_nil]
  exact ⟨hf.runs (.last M (by omega) hm'), hk.trans ((Kept.refl _).app hk')⟩

end
end Go.Proofs.YtmdlmjcejeejfaaGreatDoor

/-
  A list of records that is written in place, of whatever program.
-/
set_option linter.unusedVariables false
namespace Go.Proofs.YtmdlmjcejeejfaaGreatDoor
open Go.RowKit Go.Shelf

/-- A list, from a place on written anew. -/
def putL : List Value → Nat → List Value → List Value
  | l, _, [] => l
  | l, o, v :: vs => putL (l.set o v) (o + 1) vs
theorem putL_len : ∀ (vs l : List Value) (o : Nat), (putL l o vs).length = l.length
  | [], _, _ => rfl
  | v :: vs, l, o => by rw [putL, putL_len vs, List.length_set]
theorem putL_take : ∀ (vs l : List Value) (o m : Nat), (putL l o vs).take m = putL (l.take m) o vs
  | [], _, _, _ => rfl
  | v :: vs, l, o, m => by rw [putL, putL_take vs, List.take_set, putL]
theorem putL_mid : ∀ (vs p c s : List Value), c.length = vs.length → putL (p ++ c ++ s) p.length vs = p ++ vs ++ s
  | [], p, c, s, h => by rw [List.length_eq_zero_iff.1 h]; rfl
  | v :: vs, p, [], s, h => by simp at h
  | v :: vs, p, x :: c, s, h => by
    rw [putL, show (p ++ x :: c ++ s).set p.length v = (p ++ [v]) ++ c ++ s by simp, show p.length + 1 = (p ++ [v]).length by simp, putL_mid vs (p ++ [v]) c s (by simpa using h)]
    simp
/-- A world, with cells from a place on written anew. -/
def setFrom : World → Nat → Nat → List Value → World
  | w, _, _, [] => w
  | w, g, o, v :: vs => setFrom (w.setCell ⟨g, o, none⟩ v) g (o + 1) vs
theorem wheap_setCell_other (w : World) (b o : Nat) (x : Value) (k : Nat) (h : k ≠ b) : (w.setCell ⟨b, o, none⟩ x).heap[k]? = w.heap[k]? := by
  simp [World.setCell, Array.getElem?_modify, Ne.symm h]
theorem wheap_setCell_same (w : World) (b o : Nat) (x : Value) (cur : Array Value) (e : TypeId) (f : Nat × Nat) (h : w.heap[b]? = some (.cells cur e f)) : (w.setCell ⟨b, o, none⟩ x).heap[b]? = some (.cells (cur.setIfInBounds o x) e f) := by
  simp [World.setCell, Array.getElem?_modify, h]
theorem wsize_setCell (w : World) (b o : Nat) (x : Value) : (w.setCell ⟨b, o, none⟩ x).heap.size = w.heap.size := by simp [World.setCell]
theorem setFrom_other : ∀ (vs : List Value) (w : World) (g o k : Nat), k ≠ g → (setFrom w g o vs).heap[k]? = w.heap[k]?
  | [], _, _, _, _, _ => rfl
  | v :: vs, w, g, o, k, h => by rw [setFrom, setFrom_other vs _ g (o + 1) k h, wheap_setCell_other _ _ _ _ _ h]
theorem setFrom_size : ∀ (vs : List Value) (w : World) (g o : Nat), (setFrom w g o vs).heap.size = w.heap.size
  | [], _, _, _ => rfl
  | v :: vs, w, g, o => by rw [setFrom, setFrom_size vs, wsize_setCell]
theorem setFrom_rest : ∀ (vs : List Value) (w : World) (g o : Nat), (setFrom w g o vs).os = w.os ∧ (setFrom w g o vs).tape = w.tape ∧ (setFrom w g o vs).output = w.output
  | [], _, _, _ => ⟨rfl, rfl, rfl⟩
  | v :: vs, w, g, o => by rw [setFrom]; exact setFrom_rest vs _ g (o + 1)
theorem setFrom_same : ∀ (vs : List Value) (w : World) (g o : Nat) (cur : Array Value) (e : TypeId) (f : Nat × Nat), w.heap[g]? = some (.cells cur e f) →
    ∃ cur', (setFrom w g o vs).heap[g]? = some (.cells cur' e f) ∧ cur'.toList = putL cur.toList o vs
  | [], _, _, _, cur, _, _, h => ⟨cur, h, rfl⟩
  | v :: vs, w, g, o, cur, e, f, h => by
    obtain ⟨cur', h1, h2⟩ := setFrom_same vs (w.setCell ⟨g, o, none⟩ v) g (o + 1) _ e f (wheap_setCell_same w g o v cur e f h)
    refine ⟨cur', h1, ?_⟩
    rw [h2, Array.toList_setIfInBounds]; rfl

section
variable {α : Type} {R : Rec α} {et : TypeId}
theorem Rec.flat_put {xs : List α} {i : Nat} (hi : i < xs.length) (y : α) : R.flat (xs.set i y) = putL (R.flat xs) (i * R.k) (R.cells y) := by
  have e : xs = xs.take i ++ xs[i] :: xs.drop (i + 1) := by rw [← List.drop_eq_getElem_cons hi, List.take_append_drop]
  have e1 : xs.set i y = xs.take i ++ y :: xs.drop (i + 1) := by
    have k := set_mid (xs.take i) (xs.drop (i + 1)) xs[i] y
    rw [← e, List.length_take, Nat.min_eq_left (Nat.le_of_lt hi)] at k
    exact k
  have e2 : R.flat xs = R.flat (xs.take i) ++ R.cells xs[i] ++ R.flat (xs.drop (i + 1)) := by
    conv => lhs; rw [e]
    rw [R.flat_app, R.flat_cons, List.append_assoc]
  have e3 : i * R.k = (R.flat (xs.take i)).length := by rw [R.flat_len, List.length_take, Nat.min_eq_left (Nat.le_of_lt hi)]
  rw [e1, e2, e3, putL_mid _ _ _ _ (by rw [R.len, R.len]), R.flat_app, R.flat_cons, List.append_assoc]

/-- The list under way: it lies in a block of its own. -/
structure Work (R : Rec α) (et : TypeId) (w0 : World) (g c n : Nat) (w : World) (xs : List α) : Prop where
  len : xs.length = n
  own : ROwn R et w 0 (.slice (some ⟨g, 0, none⟩) n c) xs
  far : w0.grownBy w (some g)

variable {w0 w w' : World} {g c n : Nat} {xs : List α}
theorem Work.block (h : Work R et w0 g c n w xs) :
    ∃ cur, w.heap[g]? = some (.cells cur et (0, 0)) ∧ 0 ≤ g ∧ n ≤ c ∧ c ≤ maxLen ∧ cur.size = c * R.k ∧ cur.toList.take (n * R.k) = R.flat xs := by
  obtain ⟨h0, ⟨e, _⟩ | ⟨g', cap, cur, e, hg, hh, hle, hm, hcs, ht⟩⟩ := h.own
  · cases e
  · injection e with e1 e2 e3
    injection e1 with e1
    injection e1 with e1
    subst e1 e3
    rw [h.len] at hle ht
    exact ⟨cur, hh, hg, hle, hm, hcs, ht⟩
theorem Work.call (h : Work R et w0 g c n w xs) (hb : Below w.heap.size w w') : Work R et w0 g c n w' xs :=
  ⟨h.len, h.own.below hb, h.far.trans ⟨hb.os, hb.tape, hb.output, hb.size, fun k hk _ => hb.block k hk⟩⟩
theorem Work.drew (h : Work R et w0 g c n w xs) : Work R et w0 g c n w.drew xs := h.call ⟨rfl, rfl, rfl, Nat.le_refl _, fun _ _ => rfl⟩
theorem Work.drewN (h : Work R et w0 g c n w xs) (k : Nat) : Work R et w0 g c n (w.drewN k) xs := h.call ⟨rfl, rfl, rfl, Nat.le_refl _, fun _ _ => rfl⟩
theorem Work.cells (h : Work R et w0 g c n w xs) {i : Nat} {x : α} (hi : xs[i]? = some x) (j : Nat) (u : Value) (hu : (R.cells x)[j]? = some u) : w.cell? ⟨g, i * R.k + j, none⟩ = some u := by
  obtain ⟨hlt, rfl⟩ := List.getElem?_eq_some_iff.1 hi
  obtain ⟨cur, hh, _, _, _, hcs, ht⟩ := h.block
  have hj : j < R.k := by rw [← R.len xs[i]]; exact (List.getElem?_eq_some_iff.1 hu).1
  have hl := h.len
  have hlt2 : i * R.k + j < n * R.k := by
    have : (i + 1) * R.k ≤ n * R.k := Nat.mul_le_mul_right _ (by omega)
    rw [Nat.add_mul] at this; omega
  have k1 : (cur.toList.take (n * R.k))[i * R.k + j]? = some u := by rw [ht, R.flat_at xs i hlt j hj]; exact hu
  rw [List.getElem?_take_of_lt hlt2, Array.getElem?_toList] at k1
  rw [← k1]
  simp [World.cell?, hh]
theorem Work.frozen (h : Work R et w0 g c n w xs) (j : Nat) : w.frozen? ⟨g, j, none⟩ = false := by
  obtain ⟨cur, hh, _⟩ := h.block
  simp [World.frozen?, hh]
theorem Work.lt (h : Work R et w0 g c n w xs) : g < w.heap.size := by
  obtain ⟨cur, hh, _⟩ := h.block
  exact (Array.getElem?_eq_some_iff.1 hh).1
theorem Work.set (h : Work R et w0 g c n w xs) {i : Nat} (hi : i < xs.length) (y : α) : Work R et w0 g c n (setFrom w g (i * R.k) (R.cells y)) (xs.set i y) := by
  obtain ⟨cur, hh, hg, hle, hm, hcs, ht⟩ := h.block
  have hlen : (xs.set i y).length = n := by rw [List.length_set]; exact h.len
  have hsz := setFrom_size (R.cells y) w g (i * R.k)
  obtain ⟨cur', h1, h2⟩ := setFrom_same (R.cells y) w g (i * R.k) cur et (0, 0) hh
  have hcs' : cur'.size = cur.size := by
    have := congrArg List.length h2
    rw [putL_len] at this
    simpa using this
  refine ⟨hlen, ⟨by rw [R.flat_len], .inr ⟨g, c, cur', by rw [hlen], Nat.zero_le _, h1, by rw [hlen]; exact hle, hm, by rw [hcs', hcs], ?_⟩⟩, ?_⟩
  · rw [hlen, h2, putL_take, ht, Rec.flat_put hi]
  · obtain ⟨r1, r2, r3⟩ := setFrom_rest (R.cells y) w g (i * R.k)
    refine h.far.trans ⟨r1, r2, r3, by rw [hsz]; exact Nat.le_refl _, fun k hk hne => ?_⟩
    exact setFrom_other _ _ _ _ _ (fun e => hne (by rw [e]))
/-- Two records change places. -/
theorem Work.swap {P M S : List α} {x y : α} (h : Work R et w0 g c n w (P ++ x :: M ++ y :: S)) :
    Work R et w0 g c n (setFrom (setFrom w g (P.length * R.k) (R.cells y)) g ((P.length + 1 + M.length) * R.k) (R.cells x)) (P ++ y :: M ++ x :: S) := by
  rw [← set_two]
  exact (h.set (by simp) y).set (by simp; omega) x
/-- The same, the second written first. -/
theorem Work.swap' {P M S : List α} {x y : α} (h : Work R et w0 g c n w (P ++ x :: M ++ y :: S)) :
    Work R et w0 g c n (setFrom (setFrom w g ((P.length + 1 + M.length) * R.k) (R.cells x)) g (P.length * R.k) (R.cells y)) (P ++ y :: M ++ x :: S) := by
  rw [← set_two']
  exact (h.set (by simp; omega) x).set (by simp) y

def IntOut (n : Int) (w : World) (e : Ending) (w' : World) : Prop := e = .returned (.int .i64 n) ∧ Below w.heap.size w w'
def DoneOut (R : Rec α) (et : TypeId) (w0 : World) (g c n : Nat) (ys : List α) (e : Ending) (w' : World) : Prop := e = .returned (.tuple #[]) ∧ Work R et w0 g c n w' ys
/-- A list under way that has come so far. -/
def Came (R : Rec α) (et : TypeId) (O : Ordr α) (ok : α → Prop) (w0 : World) (g c n : Nat) (P A S : List α) (w' : World) : Prop := ∃ ys, Parted O P A S ys ∧ Each ok ys ∧ Work R et w0 g c n w' ys
def MergeOut (R : Rec α) (et : TypeId) (O : Ordr α) (ok : α → Prop) (w0 : World) (g c n : Nat) (P A S : List α) (e : Ending) (w' : World) : Prop := e = .returned (.tuple #[]) ∧ ∃ ys, Parted O P A S ys ∧ Each ok ys ∧ Work R et w0 g c n w' ys
variable {O : Ordr α} {ok : α → Prop}
/-- The left half is merged by itself where one of its parts is empty. -/
theorem Quart.left {A C A1 A2 C1 C2 P S : List α} (h : Quart O A C A1 A2 C1 C2) (he : A1.length = 0 ∨ C1.length = 0) (hs : Each ok (P ++ A1 ++ C1 ++ (A2 ++ C2 ++ S))) (hw : Work R et w0 g c n w (P ++ A1 ++ C1 ++ (A2 ++ C2 ++ S))) : Came R et O ok w0 g c n P (A1 ++ C1) (A2 ++ C2 ++ S) w := by
  refine ⟨_, ⟨A1 ++ C1, ?_, Kept.refl _, by simp only [List.append_assoc]⟩, hs, hw⟩
  rcases he with e | e
  · rw [List.length_eq_zero_iff.1 e]; exact h.r3
  · rw [List.length_eq_zero_iff.1 e, List.append_nil]; exact h.r1
/-- The right half. -/
theorem Quart.right {A C A1 A2 C1 C2 P S L : List α} (h : Quart O A C A1 A2 C1 C2) (he : A2.length = 0 ∨ C2.length = 0) (hs : Each ok (P ++ L ++ (A2 ++ C2 ++ S))) (hw : Work R et w0 g c n w (P ++ L ++ (A2 ++ C2 ++ S))) : Came R et O ok w0 g c n (P ++ L) (A2 ++ C2) S w := by
  refine ⟨_, ⟨A2 ++ C2, ?_, Kept.refl _, by simp only [List.append_assoc]⟩, hs, hw⟩
  rcases he with e | e
  · rw [List.length_eq_zero_iff.1 e]; exact h.r4
  · rw [List.length_eq_zero_iff.1 e, List.append_nil]; exact h.r2
theorem Quart.done {A C A1 A2 C1 C2 P S L : List α} (h : Quart O A C A1 A2 C1 C2) (h1 : Rises O L) (h2 : Kept O (A1 ++ C1) L) (hr : Came R et O ok w0 g c n (P ++ L) (A2 ++ C2) S w) : Came R et O ok w0 g c n P (A ++ C) S w := by
  obtain ⟨ys, ⟨R', h3, h4, rfl⟩, h5, h6⟩ := hr
  obtain ⟨k1, k2⟩ := h.whole L R' h1 h2 h3 h4
  exact ⟨_, ⟨L ++ R', k1, k2, by simp only [List.append_assoc]⟩, h5, h6⟩
end
end Go.Proofs.YtmdlmjcejeejfaaGreatDoor

/-
  The stable sort at ReqB: two parts change places (swapRange, rotate).
-/
set_option linter.unusedVariables false
set_option linter.unusedSimpArgs false
namespace Go.Proofs.YtmdlmjcejeejfaaGreatDoor
open Go.RowKit Go.Shelf

def cmpVQ : Value := .func (.func 22) #[] #[]
/-- What is asked of the comparison. -/
def CmpOKQ (O : Ordr ReqB) (ok : ReqB → Prop) : Prop := ∀ (x1 : ByteArray) (x2 : ByteArray) (x3 : Bool) (z1 : ByteArray) (z2 : ByteArray) (z3 : Bool) w, ok ((x1, x2), x3) → ok ((z1, z2), z3) → Calls Tryz.prog 22 #[.agg #[.string x1, .string x2, .bool x3], .agg #[.string z1, .string z2, .bool z3]] w (IntOut (O.c ((x1, x2), x3) ((z1, z2), z3)) w)
theorem wcellQ {w0 w : World} {g c n : Nat} {xs : List ReqB} (h : Work reqR 50 w0 g c n w xs) {i : Nat} {x1 : ByteArray} {x2 : ByteArray} {x3 : Bool} (hi : xs[i]? = some ((x1, x2), x3)) : w.cell? ⟨g, i * 3, none⟩ = some (.string x1) ∧ w.cell? ⟨g, i * 3 + 1, none⟩ = some (.string x2) ∧ w.cell? ⟨g, i * 3 + 2, none⟩ = some (.bool x3) := ⟨h.cells hi 0 _ rfl, h.cells hi 1 _ rfl, h.cells hi 2 _ rfl⟩
theorem wswapQ {w0 w : World} {g c n : Nat} {P M S : List ReqB} (x1 : ByteArray) (x2 : ByteArray) (x3 : Bool) (y1 : ByteArray) (y2 : ByteArray) (y3 : Bool) (h : Work reqR 50 w0 g c n w (P ++ ((x1, x2), x3) :: M ++ ((y1, y2), y3) :: S)) : Work reqR 50 w0 g c n ((((((w.setCell ⟨g, P.length * 3, none⟩ (.string y1)).setCell ⟨g, P.length * 3 + 1, none⟩ (.string y2)).setCell ⟨g, P.length * 3 + 2, none⟩ (.bool y3)).setCell ⟨g, (P.length + 1 + M.length) * 3, none⟩ (.string x1)).setCell ⟨g, (P.length + 1 + M.length) * 3 + 1, none⟩ (.string x2)).setCell ⟨g, (P.length + 1 + M.length) * 3 + 2, none⟩ (.bool x3)) (P ++ ((y1, y2), y3) :: M ++ ((x1, x2), x3) :: S) := h.swap
theorem wswapQ' {w0 w : World} {g c n : Nat} {P M S : List ReqB} (x1 : ByteArray) (x2 : ByteArray) (x3 : Bool) (y1 : ByteArray) (y2 : ByteArray) (y3 : Bool) (h : Work reqR 50 w0 g c n w (P ++ ((x1, x2), x3) :: M ++ ((y1, y2), y3) :: S)) : Work reqR 50 w0 g c n ((((((w.setCell ⟨g, (P.length + 1 + M.length) * 3, none⟩ (.string x1)).setCell ⟨g, (P.length + 1 + M.length) * 3 + 1, none⟩ (.string x2)).setCell ⟨g, (P.length + 1 + M.length) * 3 + 2, none⟩ (.bool x3)).setCell ⟨g, P.length * 3, none⟩ (.string y1)).setCell ⟨g, P.length * 3 + 1, none⟩ (.string y2)).setCell ⟨g, P.length * 3 + 2, none⟩ (.bool y3)) (P ++ ((y1, y2), y3) :: M ++ ((x1, x2), x3) :: S) := h.swap'

set_option maxRecDepth 100000 in
set_option maxHeartbeats 4000000 in
theorem swapRange_anyQ (w0 : World) (g c n : Nat) (w : World) (P A M C S : List ReqB) (hw : Work reqR 50 w0 g c n w (P ++ A ++ M ++ C ++ S)) (hc : C.length = A.length) (a b m : Nat) (ha : a = P.length) (hb : b = P.length + A.length + M.length) (hm : m = A.length) (hn : n ≤ 1000) :
    Calls Tryz.prog 191 #[.slice (some ⟨g, 0, none⟩) n c, .int .i64 a, .int .i64 b, .int .i64 m, cmpVQ] w (DoneOut reqR 50 w0 g c n (P ++ C ++ M ++ A ++ S)) := by
  have hlen := hw.len
  simp only [List.length_append] at hlen
  have hbn : b + m ≤ n := by omega
  have hab : a + m ≤ b := by omega
  have HW := Lib.hid hw
  have HN := Lib.hid (fun ys k (h : SwapAt P A M C S k ys) (hk : k < m) => h.next (by omega) hc)
  have H0 := Lib.hid (show SwapAt P A M C S 0 (P ++ A ++ M ++ C ++ S) by simp [SwapAt])
  have HE := Lib.hid (fun ys k (h : SwapAt P A M C S k ys) (hk : k = m) => show ys = P ++ C ++ M ++ A ++ S by subst hk; rw [h, hm, List.take_of_length_le (Nat.le_of_eq hc), List.take_length, List.drop_length, List.drop_of_length_le (Nat.le_of_eq hc)]; simp)
  have HA := Lib.hid ha
  have HB := Lib.hid hb
  clear hw hlen ha hb hm hc
  unfold cmpVQ
  go_enter Tryz.func191, Tryz.ntmps191
  go_wp2
  go_loopw [10] (fun i wr => ∃ (k : Nat) (ys : List ReqB), k ≤ m ∧ i = .int .i64 k ∧ SwapAt P A M C S k ys ∧ Work reqR 50 w0 g c n wr ys) (fun i _ => m - (intOf i).toNat)
  case atStart => exact ⟨0, _, Nat.zero_le _, rfl, H0.out, HW.out⟩
  case round =>
    obtain ⟨k, ys, hk, rfl, hsw, hwk⟩ := hrel
    by_cases hlt : k < m
    · obtain ⟨P', M', S', ⟨⟨x1, x2⟩, x3⟩, ⟨⟨y1, y2⟩, y3⟩, rfl, h1, h2, h3⟩ := HN.out ys k hsw hlt
      have d1 : P'.length = a + k := by rw [h1, HA.out]
      have d2 : P'.length + 1 + M'.length = b + k := by rw [h2, HB.out]
      obtain ⟨q0, q1, q2⟩ := wcellQ hwk (at_two P' M' S' _ _).1
      obtain ⟨r0, r1, r2⟩ := wcellQ hwk (at_two P' M' S' _ _).2
      have HS := Lib.hid (wswapQ x1 x2 x3 y1 y2 y3 hwk)
      rw [d2] at r0 r1 r2 HS
      rw [d1] at q0 q1 q2 HS
      have f0 := hwk.frozen ((a + k) * 3)
      have f1 := hwk.frozen ((a + k) * 3 + 1)
      have f2 := hwk.frozen ((a + k) * 3 + 2)
      have e0 := hwk.frozen ((b + k) * 3)
      have e1 := hwk.frozen ((b + k) * 3 + 1)
      have e2 := hwk.frozen ((b + k) * 3 + 2)
      have t1 : ((a : Int) + (k : Int)).toNat = a + k := by omega
      have t2 : ((b : Int) + (k : Int)).toNat = b + k := by omega
      have i1 : (0 : Int) ≤ (a : Int) + (k : Int) := by omega
      have i2 : (a : Int) + (k : Int) < (n : Int) := by omega
      have i3 : (0 : Int) ≤ (b : Int) + (k : Int) := by omega
      have i4 : (b : Int) + (k : Int) < (n : Int) := by omega
      have H3 := Lib.hid h3
      clear hsw h1 h2 h3 hwk d1 d2
      go_wp2
      go_region
      go_wp2
      go_roundw
      case rel => exact ⟨k + 1, _, by omega, by go_num, H3.out, HS.out.drew⟩
      case measure => simp [intOf]; omega
    · have HEE := Lib.hid (HE.out ys k hsw (by omega))
      clear hsw
      go_wp2
      go_end0
      rw [← HEE.out]
      exact ⟨rfl, hwk⟩
set_option maxRecDepth 100000 in
set_option maxHeartbeats 4000000 in
theorem rotate_anyQ (w0 : World) (g c n : Nat) (w : World) (P A C S : List ReqB) (hw : Work reqR 50 w0 g c n w (P ++ A ++ C ++ S)) (a m b : Nat) (ha : a = P.length) (hm : m = P.length + A.length) (hb : b = P.length + A.length + C.length) (h1 : a < m) (h2 : m < b) (hn : n ≤ 1000) :
    Calls Tryz.prog 160 #[.slice (some ⟨g, 0, none⟩) n c, .int .i64 a, .int .i64 m, .int .i64 b, cmpVQ] w (DoneOut reqR 50 w0 g c n (P ++ C ++ A ++ S)) := by
  have hlen := hw.len
  simp only [List.length_append] at hlen
  have hbn : b ≤ n := by omega
  have H0 := Lib.hid (show RotAt (P ++ C ++ A ++ S) m (m - a) (b - m) (P ++ A ++ C ++ S) from ⟨P, A, C, S, rfl, rfl, by omega, by omega, by omega⟩)
  generalize P ++ C ++ A ++ S = T at *
  have HW := Lib.hid hw
  clear hw hlen ha hb hm
  have ew1 : ((m : Int) - (a : Int)) = ((m - a : Nat) : Int) := by omega
  have ew2 : ((b : Int) - (m : Int)) = ((b - m : Nat) : Int) := by omega
  go_enter Tryz.func160, Tryz.ntmps160
  go_wp2
  go_loopw [10, 11] (fun i j wr => ∃ (k l : Nat) (ys : List ReqB), 0 < k ∧ 0 < l ∧ k ≤ m ∧ m + l ≤ b ∧ i = .int .i64 k ∧ j = .int .i64 l ∧ RotAt T m k l ys ∧ Work reqR 50 w0 g c n wr ys) (fun i j _ => (intOf i + intOf j).toNat)
  case atStart => exact ⟨m - a, b - m, _, by omega, by omega, by omega, by omega, by go_num, by go_num, H0.out, HW.out⟩
  case round =>
    obtain ⟨k, l, ys, hk0, hl0, hkm, hlb, rfl, rfl, hr, hwk⟩ := hrel
    have ek : ((m : Int) - (k : Int)) = ((m - k : Nat) : Int) := by omega
    by_cases heq : k = l
    · subst heq
      obtain ⟨P, A, M, C, S, rfl, q1, q2, q3, q4, q5⟩ := hr.last
      have HX := Lib.hid (swapRange_anyQ w0 g c n _ P A M C S hwk q1 (m - k) m k q2 q3 q4 hn)
      rw [q5] at HX
      clear hr q1 q2 q3 q4 q5 hwk
      go_wp2_with fail
      refine HX.out.mono ?_
      rintro _ w1 ⟨rfl, hd⟩
      go_wp2
      go_end0
      exact ⟨rfl, hd⟩
    · by_cases hlt : l < k
      · obtain ⟨P, A, M, C, S, rfl, q1, q2, q3, q4, q5⟩ := hr.more hlt
        have HX := Lib.hid (swapRange_anyQ w0 g c n _ P A M C S hwk q1 (m - k) m l q2 q3 q4 hn)
        have H5 := Lib.hid q5
        clear hr q1 q2 q3 q4 q5 hwk
        generalize P ++ C ++ M ++ A ++ S = zs at *
        go_wp2_with fail
        refine HX.out.mono ?_
        rintro _ w1 ⟨rfl, hd⟩
        go_wp2
        go_roundw
        case rel => exact ⟨k - l, l, zs, by omega, by omega, by omega, by omega, by go_num, rfl, H5.out, hd⟩
        case measure => simp [intOf]; omega
      · obtain ⟨P, A, M, C, S, rfl, q1, q2, q3, q4, q5⟩ := hr.less (by omega)
        have HX := Lib.hid (swapRange_anyQ w0 g c n _ P A M C S hwk q1 (m - k) (m + l - k) k q2 q3 q4 hn)
        have H5 := Lib.hid q5
        clear hr q1 q2 q3 q4 q5 hwk
        generalize P ++ C ++ M ++ A ++ S = zs at *
        have ek2 : ((m : Int) + (l : Int) - (k : Int)) = ((m + l - k : Nat) : Int) := by omega
        go_wp2_with fail
        refine HX.out.mono ?_
        rintro _ w1 ⟨rfl, hd⟩
        go_wp2
        go_roundw
        case rel => exact ⟨k, l - k, zs, by omega, by omega, by omega, by omega, rfl, by go_num, H5.out, hd⟩
        case measure => simp [intOf]; omega
end Go.Proofs.YtmdlmjcejeejfaaGreatDoor

/-
  The stable sort at ReqB: the insertion sort of a part.
-/
set_option linter.unusedVariables false
set_option linter.unusedSimpArgs false
namespace Go.Proofs.YtmdlmjcejeejfaaGreatDoor
open Go.RowKit Go.Shelf

set_option maxRecDepth 100000 in
set_option maxHeartbeats 4000000 in
theorem insertion_anyQ (O : Ordr ReqB) (ok : ReqB → Prop) (hcmp : CmpOKQ O ok) (w0 : World) (g c n : Nat) (w : World) (P A S : List ReqB) (hw : Work reqR 50 w0 g c n w (P ++ A ++ S)) (hs : Each ok (P ++ A ++ S)) (a b : Nat) (ha : a = P.length) (hb : b = P.length + A.length) (hn : n ≤ 1000) :
    Calls Tryz.prog 106 #[.slice (some ⟨g, 0, none⟩) n c, .int .i64 a, .int .i64 b, cmpVQ] w (fun e w' => e = .returned (.tuple #[]) ∧ ∃ ys, Parted O P A S ys ∧ Each ok ys ∧ Work reqR 50 w0 g c n w' ys) := by
  have hlen := hw.len
  simp only [List.length_append] at hlen
  have hbn : b ≤ n := by omega
  have HW := Lib.hid hw
  have HCMP := Lib.hid hcmp
  clear hcmp
  have HSh := Lib.hid hs
  clear hs
  have H0 := Lib.hid (SortAt.start (O := O) P A S)
  have HN := Lib.hid (fun ys k (h : SortAt O P A S k ys) (hk : a + k < b) => h.next (by omega))
  have HD := Lib.hid (fun ys k (h : SortAt O P A S k ys) (hk : b ≤ a + k) => h.done (by omega))
  have HA := Lib.hid ha
  have hab : a ≤ b := by omega
  clear hw hlen ha hb
  unfold cmpVQ
  go_enter Tryz.func106, Tryz.ntmps106
  go_wp2
  go_loopw [8] (fun i wr => ∃ (k : Nat) (ys : List ReqB), 1 ≤ k ∧ (k = 1 ∨ a + k ≤ b) ∧ i = .int .i64 ((a + k : Nat) : Int) ∧ SortAt O P A S k ys ∧ Each ok ys ∧ Work reqR 50 w0 g c n wr ys) (fun i _ => b + 1 - (intOf i).toNat)
  case atStart => exact ⟨1, _, Nat.le_refl _, .inl rfl, by go_num, H0.out, HSh.out, HW.out⟩
  case round =>
    obtain ⟨k, ys, hk1, hkb, rfl, hso, hsy, hwk⟩ := hrel
    have HSO := Lib.hid hso
    have HSY := Lib.hid hsy
    clear hso hsy
    obtain ⟨ik, hik⟩ : ∃ ik, a + k = ik := ⟨_, rfl⟩
    rw [hik] at hkb ⊢
    by_cases hlt : ik < b
    · obtain ⟨A1, ⟨⟨x1, x2⟩, x3⟩, S', hr1, hia, hfin⟩ := HN.out ys k HSO.out (by omega)
      have HR1 := Lib.hid hr1
      have HIA := Lib.hid (show InsAt O P A1 ((x1, x2), x3) S' ik ys by rw [← hik, HA.out]; exact hia)
      have HF := Lib.hid hfin
      clear hr1 hia hfin
      go_wp2
      go_loopw [9] (fun j wi => ∃ (jn : Nat) (zs : List ReqB), a ≤ jn ∧ jn ≤ ik ∧ j = .int .i64 jn ∧ InsAt O P A1 ((x1, x2), x3) S' jn zs ∧ Each ok zs ∧ Work reqR 50 w0 g c n wi zs) (fun j _ => (intOf j).toNat)
      case atStart => exact ⟨ik, ys, by omega, Nat.le_refl _, rfl, HIA.out, HSY.out, hwk⟩
      case round =>
        obtain ⟨jn, zs, hj1, hj2, rfl, hins, hsz, hwi⟩ := hrel
        by_cases hja : a < jn
        · obtain ⟨P', ⟨⟨z1, z2⟩, z3⟩, S'', rfl, hj, hyes, hno⟩ := hins.next HR1.out (by rw [← HA.out]; exact hja)
          have HY := Lib.hid hyes
          have HNo := Lib.hid hno
          have e2 : P'.length + 1 + ([] : List ReqB).length = jn := by simp; omega
          have sx : ok ((x1, x2), x3) := hsz _ (by simp)
          have sz : ok ((z1, z2), z3) := hsz _ (by simp)
          have HZ := Lib.hid hsz
          have HZ2 := Lib.hid (each_swap hsz)
          have HC := Lib.hid (fun w' (h : Work reqR 50 w0 g c n w' (P' ++ ((z1, z2), z3) :: [] ++ ((x1, x2), x3) :: S'')) => And.intro (wcellQ h (at_two P' [] S'' _ _).1) (wcellQ h (at_two P' [] S'' _ _).2))
          have HSw := Lib.hid (fun w' (h : Work reqR 50 w0 g c n w' (P' ++ ((z1, z2), z3) :: [] ++ ((x1, x2), x3) :: S'')) => wswapQ' z1 z2 z3 x1 x2 x3 h)
          clear hyes hno hsz hins
          obtain ⟨jm, e1⟩ : ∃ jm, P'.length = jm := ⟨_, rfl⟩
          rw [e2] at HC HSw
          rw [e1] at HC HSw HY
          have HJ := Lib.hid (show jn = jm + 1 by omega)
          have t1 : (jn : Int) - 1 = (jm : Int) := by omega
          have t2 : jm < n := by omega
          have t3 : jn < n := by omega
          have t4 : (jm : Int) < (n : Int) := by omega
          have t5 : (jn : Int) < (n : Int) := by omega
          have t6 : IntKind.i64.wrap (jm : Int) = (jm : Int) := IntWalk.i64_in _ (by omega)
          clear hj e1 e2
          obtain ⟨⟨q0, q1, q2⟩, ⟨r0, r1, r2⟩⟩ := HC.out _ hwi
          have hgz := hwi.lt
          by_cases hcm : O.c ((x1, x2), x3) ((z1, z2), z3) < 0
          · go_wp2
            go_region_held3 (fun w' => w'.cell? ⟨g, jn * 3, none⟩ = some (.string x1) ∧ w'.cell? ⟨g, jn * 3 + 1, none⟩ = some (.string x2) ∧ w'.cell? ⟨g, jn * 3 + 2, none⟩ = some (.bool x3) ∧ w'.cell? ⟨g, jm * 3, none⟩ = some (.string z1) ∧ w'.cell? ⟨g, jm * 3 + 1, none⟩ = some (.string z2) ∧ w'.cell? ⟨g, jm * 3 + 2, none⟩ = some (.bool z3))
              (first | go_keep | with_reducible exact K2.out)
              (first | (go_at_call 22; refine (HCMP.out x1 x2 x3 z1 z2 z3 _ sx sz).mono ?_; rintro e w2 ⟨rfl, hb2'⟩; have hb2 := below_drewN' (n := 1) hb2'; have K2 := Lib.hid (And.intro ((hb2.cell (p := ⟨g, jn * 3, none⟩) hgz).trans r0) (And.intro ((hb2.cell (p := ⟨g, jn * 3 + 1, none⟩) hgz).trans r1) (And.intro ((hb2.cell (p := ⟨g, jn * 3 + 2, none⟩) hgz).trans r2) (And.intro ((hb2.cell (p := ⟨g, jm * 3, none⟩) hgz).trans q0) (And.intro ((hb2.cell (p := ⟨g, jm * 3 + 1, none⟩) hgz).trans q1) ((hb2.cell (p := ⟨g, jm * 3 + 2, none⟩) hgz).trans q2))))))))
            rename_i hheld
            clear hheld K2 hb2'
            have hw2 := hwi.call hb2
            obtain ⟨⟨p0, p1, p2⟩, ⟨o0, o1, o2⟩⟩ := HC.out _ hw2
            have f0 := hw2.frozen (jn * 3)
            have f1 := hw2.frozen (jn * 3 + 1)
            have f2 := hw2.frozen (jn * 3 + 2)
            have e0 := hw2.frozen (jm * 3)
            have e1 := hw2.frozen (jm * 3 + 1)
            have e2 := hw2.frozen (jm * 3 + 2)
            have HSS := Lib.hid (HSw.out _ hw2)
            clear hb2 q0 q1 q2 r0 r1 r2 hgz hwi
            go_wp2
            go_region
            go_wp2
            go_roundw
            case rel => exact ⟨jm, _, by have := HJ.out; omega, by have := HJ.out; omega, by go_num, HY.out hcm, HZ2.out, HSS.out.drew⟩
            case measure => have := HJ.out; simp [intOf]; omega
          · go_wp2
            go_region_held3 (fun w' => w'.cell? ⟨g, jn * 3, none⟩ = some (.string x1) ∧ w'.cell? ⟨g, jn * 3 + 1, none⟩ = some (.string x2) ∧ w'.cell? ⟨g, jn * 3 + 2, none⟩ = some (.bool x3) ∧ w'.cell? ⟨g, jm * 3, none⟩ = some (.string z1) ∧ w'.cell? ⟨g, jm * 3 + 1, none⟩ = some (.string z2) ∧ w'.cell? ⟨g, jm * 3 + 2, none⟩ = some (.bool z3))
              (first | go_keep | with_reducible exact K2.out)
              (first | (go_at_call 22; refine (HCMP.out x1 x2 x3 z1 z2 z3 _ sx sz).mono ?_; rintro e w2 ⟨rfl, hb2'⟩; have hb2 := below_drewN' (n := 1) hb2'; have K2 := Lib.hid (And.intro ((hb2.cell (p := ⟨g, jn * 3, none⟩) hgz).trans r0) (And.intro ((hb2.cell (p := ⟨g, jn * 3 + 1, none⟩) hgz).trans r1) (And.intro ((hb2.cell (p := ⟨g, jn * 3 + 2, none⟩) hgz).trans r2) (And.intro ((hb2.cell (p := ⟨g, jm * 3, none⟩) hgz).trans q0) (And.intro ((hb2.cell (p := ⟨g, jm * 3 + 1, none⟩) hgz).trans q1) ((hb2.cell (p := ⟨g, jm * 3 + 2, none⟩) hgz).trans q2))))))))
            rename_i hheld
            clear hheld K2 hb2'
            have hw2 := hwi.call hb2
            have HP := Lib.hid (HF.out _ (HNo.out hcm))
            clear hb2 q0 q1 q2 r0 r1 r2 hgz hwi
            go_wp2
            go_roundw
            case rel => exact ⟨k + 1, _, by omega, by omega, by go_num, HP.out, HZ.out, hw2⟩
            case measure => simp [intOf]; omega
        · have HP := Lib.hid (HF.out _ (hins.low HR1.out (by rw [← HA.out]; omega)))
          have HZ := Lib.hid hsz
          have hjd : jn = a := by omega
          subst hjd
          clear hins hsz
          go_wp2
          go_quiet (fail)
          go_wp2
          go_roundw
          case rel => exact ⟨k + 1, _, by omega, by omega, by go_num, HP.out, HZ.out, hwi.drewN _⟩
          case measure => simp [intOf]; omega
    · have HP := Lib.hid (HD.out _ _ HSO.out (by omega))
      go_wp2
      go_end0
      exact ⟨rfl, _, HP.out, HSY.out, hwk⟩
end Go.Proofs.YtmdlmjcejeejfaaGreatDoor

/-
  The stable sort at ReqB: merges of one with a part.
-/
set_option linter.unusedVariables false
set_option linter.unusedSimpArgs false
namespace Go.Proofs.YtmdlmjcejeejfaaGreatDoor
open Go.RowKit Go.Shelf

set_option maxRecDepth 100000 in
set_option maxHeartbeats 4000000 in
theorem merge_firstQ (O : Ordr ReqB) (ok : ReqB → Prop) (hcmp : CmpOKQ O ok) (w0 : World) (g c n : Nat) (w : World) (P : List ReqB) (x : ReqB) (C S : List ReqB) (hw : Work reqR 50 w0 g c n w (P ++ [x] ++ C ++ S)) (hs : Each ok (P ++ [x] ++ C ++ S)) (hc : Rises O C) (a m b : Nat) (ha : a = P.length) (hm : m = P.length + 1) (hb : b = P.length + 1 + C.length) (hn : n ≤ 1000) :
    Calls Tryz.prog 107 #[.slice (some ⟨g, 0, none⟩) n c, .int .i64 a, .int .i64 m, .int .i64 b, cmpVQ] w (MergeOut reqR 50 O ok w0 g c n P (x :: C) S) := by
  obtain ⟨⟨x1, x2⟩, x3⟩ := x
  have hlen := hw.len
  simp only [List.length_append, List.length_singleton] at hlen
  have hbn : b ≤ n := by omega
  have HW := Lib.hid hw
  have HCMP := Lib.hid hcmp
  clear hcmp
  have HSh := Lib.hid hs
  have HMo := Lib.hid (first_mono (P := P) (x := ((x1, x2), x3)) (S := S) hc)
  have HCu := Lib.hid (fun e => first_cut (P := P) (x := ((x1, x2), x3)) (S := S) (e := e) hc)
  have HU0 := Lib.hid (show UpAt P ((x1, x2), x3) C S 0 (P ++ [((x1, x2), x3)] ++ C ++ S) by simp [UpAt])
  have sx : ok ((x1, x2), x3) := hs _ (by simp)
  have qx : (P ++ [((x1, x2), x3)] ++ C ++ S)[a]? = some ((x1, x2), x3) := by rw [ha]; simp
  have HX := Lib.hid (fun w' (h : Work reqR 50 w0 g c n w' (P ++ [((x1, x2), x3)] ++ C ++ S)) => wcellQ h qx)
  have HA := Lib.hid ha
  have HM := Lib.hid hm
  have HB := Lib.hid hb
  have hcl : b = m + C.length := by omega
  have HCL := Lib.hid hcl
  have hma : m = a + 1 := by omega
  have HMA := Lib.hid hma
  have hmb : m ≤ b := by omega
  have han : a < n := by omega
  have hti : (m : Int) - (a : Int) = 1 := by omega
  have han' : (a : Int) < (n : Int) := by omega
  have HXS := Lib.hid (fun q => some_at (xs := P ++ [((x1, x2), x3)] ++ C ++ S) (q := q))
  have HL := Lib.hid (show (P ++ [((x1, x2), x3)] ++ C ++ S).length = n from hw.len)
  rw [← hm] at HMo HCu
  clear hw hlen ha hb hm hs hcl hma qx hc
  generalize hxs : P ++ [((x1, x2), x3)] ++ C ++ S = xs at *
  have HQ := Lib.hid hxs
  clear hxs
  unfold cmpVQ
  go_enter Tryz.func107, Tryz.ntmps107
  go_wp2
  go_loopw [10, 11] (fun i j wr => ∃ (k l : Nat), i = .int .i64 k ∧ j = .int .i64 l ∧ Sk (fun q => O.c (keyAt xs q) ((x1, x2), x3) < 0) m (m + C.length) k l ∧ Work reqR 50 w0 g c n wr xs) (fun i j _ => (intOf j - intOf i).toNat)
  case atStart => exact ⟨m, b, rfl, rfl, by rw [HCL.out]; exact Sk.start _ (by omega), HW.out⟩
  case round =>
    obtain ⟨k, l, rfl, rfl, hsk, hwk⟩ := hrel
    have hk1 := hsk.a
    have hk2 := hsk.b
    have hk3 := hsk.c
    rw [← HCL.out] at hk3
    by_cases hlt : k < l
    · obtain ⟨h, hh⟩ : ∃ h, (k + l) / 2 = h := ⟨_, rfl⟩
      obtain ⟨⟨⟨z1, z2⟩, z3⟩, qz, ez⟩ := HXS.out ((k + l) / 2) (by rw [HL.out]; omega)
      obtain ⟨q0, q1, q2⟩ := wcellQ hwk qz
      obtain ⟨r0, r1, r2⟩ := HX.out _ hwk
      have sz : ok ((z1, z2), z3) := HSh.out _ (List.mem_of_getElem? qz)
      have hgz := hwk.lt
      have hb1 : (k + l) / 2 < n := by omega
      have hb3 : (0 : Int) ≤ ((k : Int) + (l : Int)) / 2 := by omega
      have hb4 : ((k : Int) + (l : Int)) / 2 < (n : Int) := by omega
      have hb5 : (0 : Int) ≤ (a : Int) := by omega
      have hb6 : (((k : Int) + (l : Int)) / 2).toNat = (k + l) / 2 := by omega
      have HUp := Lib.hid (fun e => hsk.up HMo.out (h := (k + l) / 2) (by omega) (by omega) e)
      have HDn := Lib.hid (fun e => hsk.down HMo.out (h := (k + l) / 2) (by omega) (by omega) e)
      simp only [← ez] at HUp HDn
      clear hsk qz ez hh
      by_cases hcm : O.c ((z1, z2), z3) ((x1, x2), x3) < 0
      · go_wp2
        go_region_held3 (fun w' => w'.cell? ⟨g, (k + l) / 2 * 3, none⟩ = some (.string z1) ∧ w'.cell? ⟨g, (k + l) / 2 * 3 + 1, none⟩ = some (.string z2) ∧ w'.cell? ⟨g, (k + l) / 2 * 3 + 2, none⟩ = some (.bool z3) ∧ w'.cell? ⟨g, a * 3, none⟩ = some (.string x1) ∧ w'.cell? ⟨g, a * 3 + 1, none⟩ = some (.string x2) ∧ w'.cell? ⟨g, a * 3 + 2, none⟩ = some (.bool x3))
          (first | go_keep | with_reducible exact K2.out)
          (first | (go_at_call 22; refine (HCMP.out z1 z2 z3 x1 x2 x3 _ sz sx).mono ?_; rintro e w2 ⟨rfl, hb2'⟩; have hb2 := below_drewN' (n := 1) hb2'; have K2 := Lib.hid (And.intro ((hb2.cell (p := ⟨g, (k + l) / 2 * 3, none⟩) hgz).trans q0) (And.intro ((hb2.cell (p := ⟨g, (k + l) / 2 * 3 + 1, none⟩) hgz).trans q1) (And.intro ((hb2.cell (p := ⟨g, (k + l) / 2 * 3 + 2, none⟩) hgz).trans q2) (And.intro ((hb2.cell (p := ⟨g, a * 3, none⟩) hgz).trans r0) (And.intro ((hb2.cell (p := ⟨g, a * 3 + 1, none⟩) hgz).trans r1) ((hb2.cell (p := ⟨g, a * 3 + 2, none⟩) hgz).trans r2))))))))
        rename_i hheld
        clear hheld K2 hb2'
        have hw2 := hwk.call hb2
        have HP := Lib.hid (HUp.out hcm)
        clear hb2 q0 q1 q2 r0 r1 r2 hgz hwk
        go_wp2
        go_roundw
        case rel => exact ⟨(k + l) / 2 + 1, l, by go_num, rfl, HP.out, hw2⟩
        case measure => simp [intOf]; omega
      · go_wp2
        go_region_held3 (fun w' => w'.cell? ⟨g, (k + l) / 2 * 3, none⟩ = some (.string z1) ∧ w'.cell? ⟨g, (k + l) / 2 * 3 + 1, none⟩ = some (.string z2) ∧ w'.cell? ⟨g, (k + l) / 2 * 3 + 2, none⟩ = some (.bool z3) ∧ w'.cell? ⟨g, a * 3, none⟩ = some (.string x1) ∧ w'.cell? ⟨g, a * 3 + 1, none⟩ = some (.string x2) ∧ w'.cell? ⟨g, a * 3 + 2, none⟩ = some (.bool x3))
          (first | go_keep | with_reducible exact K2.out)
          (first | (go_at_call 22; refine (HCMP.out z1 z2 z3 x1 x2 x3 _ sz sx).mono ?_; rintro e w2 ⟨rfl, hb2'⟩; have hb2 := below_drewN' (n := 1) hb2'; have K2 := Lib.hid (And.intro ((hb2.cell (p := ⟨g, (k + l) / 2 * 3, none⟩) hgz).trans q0) (And.intro ((hb2.cell (p := ⟨g, (k + l) / 2 * 3 + 1, none⟩) hgz).trans q1) (And.intro ((hb2.cell (p := ⟨g, (k + l) / 2 * 3 + 2, none⟩) hgz).trans q2) (And.intro ((hb2.cell (p := ⟨g, a * 3, none⟩) hgz).trans r0) (And.intro ((hb2.cell (p := ⟨g, a * 3 + 1, none⟩) hgz).trans r1) ((hb2.cell (p := ⟨g, a * 3 + 2, none⟩) hgz).trans r2))))))))
        rename_i hheld
        clear hheld K2 hb2'
        have hw2 := hwk.call hb2
        have HP := Lib.hid (HDn.out hcm)
        clear hb2 q0 q1 q2 r0 r1 r2 hgz hwk
        go_wp2
        go_roundw
        case rel => exact ⟨k, (k + l) / 2, rfl, by go_num, HP.out, hw2⟩
        case measure => simp [intOf]; omega
    · obtain rfl : k = l := by omega
      obtain ⟨e, rfl⟩ : ∃ e, k = m + e := ⟨k - m, by omega⟩
      have HR := Lib.hid (HCu.out e hsk)
      have hsub : ((m + e : Nat) : Int) - 1 = ((a + e : Nat) : Int) := by have := HMA.out; omega
      obtain ⟨ke, hke⟩ : ∃ ke, m + e = ke := ⟨_, rfl⟩
      have hae : a + e + 1 = ke := by have := HMA.out; omega
      have heC : e ≤ C.length := by have := HCL.out; omega
      rw [hke] at hsub hk1 hk2 hk3 ⊢
      have hsub' : (ke : Int) - 1 = (a : Int) + (e : Int) := by omega
      have HUN := Lib.hid (fun ys r (h : UpAt P ((x1, x2), x3) C S r ys) (hr : r < e) => h.next (by omega))
      clear hsk hsub
      go_wp2
      go_loopw [13] (fun i wr => ∃ (r : Nat) (ys : List ReqB), r ≤ e ∧ i = .int .i64 ((a + r : Nat) : Int) ∧ UpAt P ((x1, x2), x3) C S r ys ∧ Each ok ys ∧ Work reqR 50 w0 g c n wr ys) (fun i _ => (a + e) - (intOf i).toNat)
      case atStart => exact ⟨0, xs, Nat.zero_le _, rfl, HU0.out, HSh.out, hwk⟩
      case round =>
        obtain ⟨r, ys, hre, rfl, hup, hsy, hwy⟩ := hrel
        by_cases hrl : r < e
        · obtain ⟨P', ⟨⟨y1, y2⟩, y3⟩, S', rfl, hl, hup2⟩ := HUN.out ys r hup hrl
          have HS2 := Lib.hid (each_swap hsy)
          have HU2 := Lib.hid hup2
          have d1 : P'.length = a + r := by rw [hl, HA.out]
          have d2 : P'.length + 1 + ([] : List ReqB).length = a + r + 1 := by simp [d1]
          obtain ⟨⟨q0, q1, q2⟩, ⟨r0, r1, r2⟩⟩ := And.intro (wcellQ hwy (at_two P' [] S' _ _).1) (wcellQ hwy (at_two P' [] S' _ _).2)
          have HSw := Lib.hid (wswapQ x1 x2 x3 y1 y2 y3 hwy)
          rw [d2] at r0 r1 r2 HSw
          rw [d1] at q0 q1 q2 HSw
          obtain ⟨jm, hjm⟩ : ∃ jm, a + r = jm := ⟨_, rfl⟩
          rw [hjm] at q0 q1 q2 r0 r1 r2 HSw ⊢
          obtain ⟨jn, hjn⟩ : ∃ jn, jm + 1 = jn := ⟨_, rfl⟩
          rw [hjn] at r0 r1 r2 HSw
          have t1 : (jm : Int) + 1 = (jn : Int) := by omega
          have t2 : (jm : Int) < (n : Int) := by omega
          have t3 : (jn : Int) < (n : Int) := by omega
          have t5 : jm < n := by omega
          have t6 : jn < n := by omega
          have t4 : IntKind.i64.wrap (jn : Int) = (jn : Int) := IntWalk.i64_in _ (by omega)
          have t7 : (jm : Int) < (a : Int) + (e : Int) := by omega
          have f0 := hwy.frozen (jn * 3)
          have f1 := hwy.frozen (jn * 3 + 1)
          have f2 := hwy.frozen (jn * 3 + 2)
          have e0 := hwy.frozen (jm * 3)
          have e1 := hwy.frozen (jm * 3 + 1)
          have e2 := hwy.frozen (jm * 3 + 2)
          have HJN := Lib.hid hjn
          clear hup hsy hl hup2 hwy d1 d2 hjn
          go_wp2
          go_region
          go_wp2
          go_roundw
          case rel => exact ⟨r + 1, _, by omega, by go_num, HU2.out, HS2.out, HSw.out.drew⟩
          case measure => have := HJN.out; simp [intOf]; omega
        · obtain rfl : r = e := by omega
          have HS2 := Lib.hid hsy
          have HU2 := Lib.hid hup
          clear hup hsy
          go_wp2
          go_end0
          exact ⟨rfl, ys, ⟨_, HR.out.1, HR.out.2, by rw [HU2.out]; simp⟩, HS2.out, hwy⟩

set_option maxRecDepth 100000 in
set_option maxHeartbeats 4000000 in
theorem merge_lastQ (O : Ordr ReqB) (ok : ReqB → Prop) (hcmp : CmpOKQ O ok) (w0 : World) (g c n : Nat) (w : World) (P A : List ReqB) (y : ReqB) (S : List ReqB) (hw : Work reqR 50 w0 g c n w (P ++ A ++ [y] ++ S)) (hs : Each ok (P ++ A ++ [y] ++ S)) (hA : Rises O A) (h2 : A.length ≠ 1) (a m b : Nat) (ha : a = P.length) (hm : m = P.length + A.length) (hb : b = P.length + A.length + 1) (hn : n ≤ 1000) :
    Calls Tryz.prog 107 #[.slice (some ⟨g, 0, none⟩) n c, .int .i64 a, .int .i64 m, .int .i64 b, cmpVQ] w (MergeOut reqR 50 O ok w0 g c n P (A ++ [y]) S) := by
  obtain ⟨⟨y1, y2⟩, y3⟩ := y
  have hlen := hw.len
  simp only [List.length_append, List.length_singleton] at hlen
  have hbn : b ≤ n := by omega
  have HW := Lib.hid hw
  have HCMP := Lib.hid hcmp
  clear hcmp
  have HSh := Lib.hid hs
  have HMo := Lib.hid (show ∀ q r, P.length ≤ q → q ≤ r → r < P.length + A.length → NotLess O ((y1, y2), y3) (keyAt (P ++ A ++ [((y1, y2), y3)] ++ S) r) → NotLess O ((y1, y2), y3) (keyAt (P ++ A ++ [((y1, y2), y3)] ++ S) q) from second_mono (P := P) (y := ((y1, y2), y3)) (S := S) hA)
  have HCu := Lib.hid (fun s (h : Sk (fun q => NotLess O ((y1, y2), y3) (keyAt (P ++ A ++ [((y1, y2), y3)] ++ S) q)) P.length (P.length + A.length) (P.length + s) (P.length + s)) => second_cut (P := P) (y := ((y1, y2), y3)) (S := S) (s := s) hA h)
  have HU0 := Lib.hid (show DownAt P A ((y1, y2), y3) S A.length (P ++ A ++ [((y1, y2), y3)] ++ S) by simp [DownAt])
  have sy : ok ((y1, y2), y3) := hs _ (by simp)
  have qy : (P ++ A ++ [((y1, y2), y3)] ++ S)[m]? = some ((y1, y2), y3) := by
    rw [hm, show P ++ A ++ [((y1, y2), y3)] ++ S = (P ++ A) ++ ((y1, y2), y3) :: S by simp, ← List.length_append, at_mid]
  have HX := Lib.hid (fun w' (h : Work reqR 50 w0 g c n w' (P ++ A ++ [((y1, y2), y3)] ++ S)) => wcellQ h qy)
  have HA := Lib.hid ha
  have hcl : m = a + A.length := by omega
  have HCL := Lib.hid hcl
  have hma : a ≤ m := by omega
  have hmn : m < n := by omega
  have hti : ((m : Int) - (a : Int) == 1) = false := by
    rw [beq_eq_false_iff_ne]; omega
  have htj : (b : Int) - (m : Int) = 1 := by omega
  have hmn' : (m : Int) < (n : Int) := by omega
  have HXS := Lib.hid (fun q => some_at (xs := P ++ A ++ [((y1, y2), y3)] ++ S) (q := q))
  have HL := Lib.hid (show (P ++ A ++ [((y1, y2), y3)] ++ S).length = n from hw.len)
  rw [← ha] at HMo HCu
  clear hw hlen ha hb hm hs hcl qy hA h2
  generalize P ++ A ++ [((y1, y2), y3)] ++ S = xs at *
  unfold cmpVQ
  go_enter Tryz.func107, Tryz.ntmps107
  go_wp2
  go_loopw [14, 15] (fun i j wr => ∃ (k l : Nat), i = .int .i64 k ∧ j = .int .i64 l ∧ Sk (fun q => NotLess O ((y1, y2), y3) (keyAt xs q)) a (a + A.length) k l ∧ Work reqR 50 w0 g c n wr xs) (fun i j _ => (intOf j - intOf i).toNat)
  case atStart => exact ⟨a, m, rfl, rfl, by rw [HCL.out]; exact Sk.start _ (by omega), HW.out⟩
  case round =>
    obtain ⟨k, l, rfl, rfl, hsk, hwk⟩ := hrel
    have hk1 := hsk.a
    have hk2 := hsk.b
    have hk3 := hsk.c
    rw [← HCL.out] at hk3
    by_cases hlt : k < l
    · obtain ⟨⟨⟨z1, z2⟩, z3⟩, qz, ez⟩ := HXS.out ((k + l) / 2) (by rw [HL.out]; omega)
      obtain ⟨q0, q1, q2⟩ := wcellQ hwk qz
      obtain ⟨r0, r1, r2⟩ := HX.out _ hwk
      have sz : ok ((z1, z2), z3) := HSh.out _ (List.mem_of_getElem? qz)
      have hgz := hwk.lt
      have hb1 : (k + l) / 2 < n := by omega
      have hb3 : (0 : Int) ≤ ((k : Int) + (l : Int)) / 2 := by omega
      have hb4 : ((k : Int) + (l : Int)) / 2 < (n : Int) := by omega
      have hb5 : (0 : Int) ≤ (m : Int) := by omega
      have hb6 : (((k : Int) + (l : Int)) / 2).toNat = (k + l) / 2 := by omega
      have HUp := Lib.hid (fun e => hsk.up HMo.out (h := (k + l) / 2) (by omega) (by omega) e)
      have HDn := Lib.hid (fun (e : O.c ((y1, y2), y3) (keyAt xs ((k + l) / 2)) < 0) => hsk.down HMo.out (h := (k + l) / 2) (by omega) (by omega) (fun hq => hq e))
      rw [← ez] at HUp HDn
      clear hsk qz ez
      by_cases hcm : O.c ((y1, y2), y3) ((z1, z2), z3) < 0
      · have hcd : decide (O.c ((y1, y2), y3) ((z1, z2), z3) < 0) = true := decide_eq_true hcm
        have HCM := Lib.hid (HDn.out hcm)
        clear hcm HUp HDn
        go_wp2
        go_region_held3 (fun w' => w'.cell? ⟨g, (k + l) / 2 * 3, none⟩ = some (.string z1) ∧ w'.cell? ⟨g, (k + l) / 2 * 3 + 1, none⟩ = some (.string z2) ∧ w'.cell? ⟨g, (k + l) / 2 * 3 + 2, none⟩ = some (.bool z3) ∧ w'.cell? ⟨g, m * 3, none⟩ = some (.string y1) ∧ w'.cell? ⟨g, m * 3 + 1, none⟩ = some (.string y2) ∧ w'.cell? ⟨g, m * 3 + 2, none⟩ = some (.bool y3))
          (first | go_keep | with_reducible exact K2.out)
          (first | (go_at_call 22; refine (HCMP.out y1 y2 y3 z1 z2 z3 _ sy sz).mono ?_; rintro e w2 ⟨rfl, hb2'⟩; have hb2 := below_drewN' (n := 1) hb2'; have K2 := Lib.hid (And.intro ((hb2.cell (p := ⟨g, (k + l) / 2 * 3, none⟩) hgz).trans q0) (And.intro ((hb2.cell (p := ⟨g, (k + l) / 2 * 3 + 1, none⟩) hgz).trans q1) (And.intro ((hb2.cell (p := ⟨g, (k + l) / 2 * 3 + 2, none⟩) hgz).trans q2) (And.intro ((hb2.cell (p := ⟨g, m * 3, none⟩) hgz).trans r0) (And.intro ((hb2.cell (p := ⟨g, m * 3 + 1, none⟩) hgz).trans r1) ((hb2.cell (p := ⟨g, m * 3 + 2, none⟩) hgz).trans r2))))))))
        rename_i hheld
        clear hheld K2 hb2'
        have hw2 := hwk.call hb2
        clear hb2 q0 q1 q2 r0 r1 r2 hgz hwk
        go_wp2
        go_roundw
        case rel => exact ⟨k, (k + l) / 2, rfl, by go_num, HCM.out, hw2⟩
        case measure => simp [intOf]; omega
      · have hcd : decide (O.c ((y1, y2), y3) ((z1, z2), z3) < 0) = false := decide_eq_false hcm
        have HCM := Lib.hid (HUp.out hcm)
        clear hcm HUp HDn
        go_wp2
        go_region_held3 (fun w' => w'.cell? ⟨g, (k + l) / 2 * 3, none⟩ = some (.string z1) ∧ w'.cell? ⟨g, (k + l) / 2 * 3 + 1, none⟩ = some (.string z2) ∧ w'.cell? ⟨g, (k + l) / 2 * 3 + 2, none⟩ = some (.bool z3) ∧ w'.cell? ⟨g, m * 3, none⟩ = some (.string y1) ∧ w'.cell? ⟨g, m * 3 + 1, none⟩ = some (.string y2) ∧ w'.cell? ⟨g, m * 3 + 2, none⟩ = some (.bool y3))
          (first | go_keep | with_reducible exact K2.out)
          (first | (go_at_call 22; refine (HCMP.out y1 y2 y3 z1 z2 z3 _ sy sz).mono ?_; rintro e w2 ⟨rfl, hb2'⟩; have hb2 := below_drewN' (n := 1) hb2'; have K2 := Lib.hid (And.intro ((hb2.cell (p := ⟨g, (k + l) / 2 * 3, none⟩) hgz).trans q0) (And.intro ((hb2.cell (p := ⟨g, (k + l) / 2 * 3 + 1, none⟩) hgz).trans q1) (And.intro ((hb2.cell (p := ⟨g, (k + l) / 2 * 3 + 2, none⟩) hgz).trans q2) (And.intro ((hb2.cell (p := ⟨g, m * 3, none⟩) hgz).trans r0) (And.intro ((hb2.cell (p := ⟨g, m * 3 + 1, none⟩) hgz).trans r1) ((hb2.cell (p := ⟨g, m * 3 + 2, none⟩) hgz).trans r2))))))))
        rename_i hheld
        clear hheld K2 hb2'
        have hw2 := hwk.call hb2
        clear hb2 q0 q1 q2 r0 r1 r2 hgz hwk
        go_wp2
        go_roundw
        case rel => exact ⟨(k + l) / 2 + 1, l, by go_num, rfl, HCM.out, hw2⟩
        case measure => simp [intOf]; omega
    · obtain rfl : k = l := by omega
      obtain ⟨s, rfl⟩ : ∃ s, k = a + s := ⟨k - a, by omega⟩
      have HR := Lib.hid (HCu.out s hsk)
      obtain ⟨ks, hks⟩ : ∃ ks, a + s = ks := ⟨_, rfl⟩
      have hsA : s ≤ A.length := by have := HCL.out; omega
      rw [hks] at hk1 hk2 hk3 ⊢
      have HUN := Lib.hid (fun ys r (h : DownAt P A ((y1, y2), y3) S (r + 1) ys) (hr : r < A.length) => h.next hr)
      clear hsk
      go_wp2
      go_loopw [17] (fun i wr => ∃ (r : Nat) (ys : List ReqB), s ≤ r ∧ r ≤ A.length ∧ i = .int .i64 ((a + r : Nat) : Int) ∧ DownAt P A ((y1, y2), y3) S r ys ∧ Each ok ys ∧ Work reqR 50 w0 g c n wr ys) (fun i _ => (intOf i).toNat)
      case atStart => exact ⟨A.length, xs, hsA, Nat.le_refl _, by rw [HCL.out], HU0.out, HSh.out, hwk⟩
      case round =>
        obtain ⟨r, ys, hsr, hrA, rfl, hup, hsy, hwy⟩ := hrel
        by_cases hrl : s < r
        · obtain ⟨r, rfl⟩ : ∃ r', r = r' + 1 := ⟨r - 1, by omega⟩
          obtain ⟨P', ⟨⟨z1, z2⟩, z3⟩, S', rfl, hl, hup2⟩ := HUN.out ys r hup (by omega)
          have HS2 := Lib.hid (each_swap hsy)
          have HU2 := Lib.hid hup2
          have d1 : P'.length = a + r := by rw [hl, HA.out]
          have d2 : P'.length + 1 + ([] : List ReqB).length = a + (r + 1) := by simp [d1]; omega
          obtain ⟨⟨q0, q1, q2⟩, ⟨r0, r1, r2⟩⟩ := And.intro (wcellQ hwy (at_two P' [] S' _ _).1) (wcellQ hwy (at_two P' [] S' _ _).2)
          have HSw := Lib.hid (wswapQ' z1 z2 z3 y1 y2 y3 hwy)
          rw [d2] at r0 r1 r2 HSw
          rw [d1] at q0 q1 q2 HSw
          have hrm : a + (r + 1) ≤ m := by have := HCL.out; omega
          obtain ⟨jn, hjn⟩ : ∃ jn, a + (r + 1) = jn := ⟨_, rfl⟩
          rw [hjn] at r0 r1 r2 HSw hrm ⊢
          obtain ⟨jm, hjm⟩ : ∃ jm, a + r = jm := ⟨_, rfl⟩
          rw [hjm] at q0 q1 q2 HSw
          have t1 : (jn : Int) - 1 = (jm : Int) := by omega
          have t2 : (jm : Int) < (n : Int) := by omega
          have t3 : (jn : Int) < (n : Int) := by omega
          have t5 : jm < n := by omega
          have t6 : jn < n := by omega
          have t4 : IntKind.i64.wrap (jm : Int) = (jm : Int) := IntWalk.i64_in _ (by omega)
          have t7 : (ks : Int) < (jn : Int) := by omega
          have f0 := hwy.frozen (jn * 3)
          have f1 := hwy.frozen (jn * 3 + 1)
          have f2 := hwy.frozen (jn * 3 + 2)
          have e0 := hwy.frozen (jm * 3)
          have e1 := hwy.frozen (jm * 3 + 1)
          have e2 := hwy.frozen (jm * 3 + 2)
          have HJN := Lib.hid hjn
          have HJM := Lib.hid hjm
          clear hup hsy hl hup2 hwy d1 d2 hjn hjm
          go_wp2
          go_region
          go_wp2
          go_roundw
          case rel => exact ⟨r, _, by omega, by omega, by rw [HJM.out], HU2.out, HS2.out, HSw.out.drew⟩
          case measure => have := HJN.out; have := HJM.out; simp [intOf]; omega
        · obtain rfl : r = s := by omega
          have HS2 := Lib.hid hsy
          have HU2 := Lib.hid hup
          clear hup hsy
          go_wp2
          go_end0
          exact ⟨rfl, ys, ⟨_, HR.out.1, HR.out.2, by rw [HU2.out]; simp⟩, HS2.out, hwy⟩
end Go.Proofs.YtmdlmjcejeejfaaGreatDoor

/-
  The stable sort at ReqB: the merge of two parts, one way.
-/
set_option linter.unusedVariables false
set_option linter.unusedSimpArgs false
namespace Go.Proofs.YtmdlmjcejeejfaaGreatDoor
open Go.RowKit Go.Shelf

/-- What a merge promises, for parts of at most d files. -/
def MergesQ (O : Ordr ReqB) (ok : ReqB → Prop) (w0 : World) (g c n : Nat) (d : Nat) : Prop :=
  ∀ (P A C S : List ReqB) (w : World), A.length + C.length ≤ d → 0 < A.length → 0 < C.length → Rises O A → Rises O C → Each ok (P ++ A ++ C ++ S) → Work reqR 50 w0 g c n w (P ++ A ++ C ++ S) →
    ∀ a m b : Nat, a = P.length → m = P.length + A.length → b = P.length + A.length + C.length →
    Calls Tryz.prog 107 #[.slice (some ⟨g, 0, none⟩) n c, .int .i64 a, .int .i64 m, .int .i64 b, cmpVQ] w (fun e w' => e = .returned (.tuple #[]) ∧ Came reqR 50 O ok w0 g c n P (A ++ C) S w')

set_option maxRecDepth 100000 in
set_option maxHeartbeats 4000000 in
theorem merge_b1Q (O : Ordr ReqB) (ok : ReqB → Prop) (hcmp : CmpOKQ O ok) (w0 : World) (g c n : Nat) (d : Nat) (ih : MergesQ O ok w0 g c n d) (hn : n ≤ 1000) (P A C S : List ReqB) (w : World) (hd : A.length + C.length ≤ d + 1) (hA0 : 2 ≤ A.length) (hC0 : 2 ≤ C.length) (hA : Rises O A) (hC : Rises O C) (hs : Each ok (P ++ A ++ C ++ S)) (hw : Work reqR 50 w0 g c n w (P ++ A ++ C ++ S))
    (a m b mid : Nat) (ha : a = P.length) (hm : m = P.length + A.length) (hb : b = P.length + A.length + C.length) (hmid : mid = (a + b) / 2) (hbr : mid < m) :
    Calls Tryz.prog 107 #[.slice (some ⟨g, 0, none⟩) n c, .int .i64 a, .int .i64 m, .int .i64 b, cmpVQ] w (fun e w' => e = .returned (.tuple #[]) ∧ Came reqR 50 O ok w0 g c n P (A ++ C) S w') := by
  have hlen := hw.len
  simp only [List.length_append] at hlen
  have hbn : b ≤ n := by omega
  have HW := Lib.hid hw
  have HCMP := Lib.hid hcmp
  clear hcmp
  have HSh := Lib.hid hs
  obtain ⟨lo, hlo⟩ : ∃ lo, mid + m - b = lo := ⟨_, rfl⟩
  have hbo' : Bounds P.length (P.length + A.length) (P.length + A.length + C.length) mid lo (mid) := by
    rw [← hb, ← hm, ← ha]
    exact ⟨hmid, .inl ⟨hbr, hlo.symm, rfl⟩⟩
  have HMo := Lib.hid (show ∀ q r, lo ≤ q → q ≤ r → r < mid → NotLess O (keyAt (P ++ A ++ C ++ S) (mid + m - 1 - r)) (keyAt (P ++ A ++ C ++ S) r) → NotLess O (keyAt (P ++ A ++ C ++ S) (mid + m - 1 - q)) (keyAt (P ++ A ++ C ++ S) q) by
    subst hm
    exact third_mono' (S := S) hA hC (by omega) (by omega) hbo')
  have HCu := Lib.hid (show ∀ st, Sk (fun q => NotLess O (keyAt (P ++ A ++ C ++ S) (mid + m - 1 - q)) (keyAt (P ++ A ++ C ++ S) q)) lo (mid) st st → ∃ A1 A2 C1 C2, Quart O A C A1 A2 C1 C2 ∧ P.length + A1.length = st ∧ P.length + A1.length + C1.length = mid ∧ st ≤ mid by
    intro st h
    subst hm
    exact third_parts (S := S) hA hC (by omega) (by omega) hbo' h)
  have hlo1 : a ≤ lo := by omega
  have hlo2 : lo ≤ mid := by omega
  have HXS := Lib.hid (fun q => some_at (xs := P ++ A ++ C ++ S) (q := q))
  have HL := Lib.hid (show (P ++ A ++ C ++ S).length = n from hw.len)
  have HA := Lib.hid ha
  have HM := Lib.hid hm
  have HB := Lib.hid hb
  have HD := Lib.hid hd
  have HI := Lib.hid ih
  have ham : a + 2 ≤ m := by omega
  have hmb : m + 2 ≤ b := by omega
  have hm1 : a < mid := by omega
  have hm2 : mid < b := by omega
  obtain ⟨nn, hnn⟩ : ∃ nn, mid + m = nn := ⟨_, rfl⟩
  obtain ⟨pp, hpp⟩ : ∃ pp, nn - 1 = pp := ⟨_, rfl⟩
  rw [hnn, hpp] at HMo HCu
  have HT := Lib.hid (fun (A1 A2 C1 C2 : List ReqB) (h : Quart O A C A1 A2 C1 C2) => h.turn P S)
  have hti : ((m : Int) - (a : Int) == 1) = false := by rw [beq_eq_false_iff_ne]; omega
  have htj : ((b : Int) - (m : Int) == 1) = false := by rw [beq_eq_false_iff_ne]; omega
  have htk : ((a : Int) + (b : Int)) / 2 = (mid : Int) := by omega
  have htl : (mid : Int) + (m : Int) = (nn : Int) := by omega
  have htn : (nn : Int) - 1 = (pp : Int) := by omega
  have hto : (nn : Int) - (b : Int) = ((nn - b : Nat) : Int) := by omega
  clear hw hlen ha hb hm hs hbo' hA hC hA0 hC0 hd ih hmid
  generalize P ++ A ++ C ++ S = xs at *
  unfold cmpVQ
  go_enter Tryz.func107, Tryz.ntmps107
  go_wp2

  go_loopw [20, 21] (fun i j wr => ∃ (k l : Nat), i = .int .i64 k ∧ j = .int .i64 l ∧ Sk (fun q => NotLess O (keyAt xs (pp - q)) (keyAt xs q)) lo (mid) k l ∧ Work reqR 50 w0 g c n wr xs) (fun i j _ => (intOf j - intOf i).toNat)
  case atStart => exact ⟨lo, mid, by first | rfl | (rw [← hlo]; go_num) | (congr 1; omega), rfl, Sk.start _ hlo2, HW.out⟩
  case round =>
    obtain ⟨k, l, rfl, rfl, hsk, hwk⟩ := hrel
    have hk1 := hsk.a
    have hk2 := hsk.b
    have hk3 := hsk.c
    by_cases hlt : k < l
    · obtain ⟨⟨⟨z1, z2⟩, z3⟩, qz, ez⟩ := HXS.out ((k + l) / 2) (by rw [HL.out]; omega)
      obtain ⟨⟨⟨y1, y2⟩, y3⟩, qy, ey⟩ := HXS.out (pp - (k + l) / 2) (by rw [HL.out]; omega)
      obtain ⟨q0, q1, q2⟩ := wcellQ hwk qz
      obtain ⟨r0, r1, r2⟩ := wcellQ hwk qy
      have sz : ok ((z1, z2), z3) := HSh.out _ (List.mem_of_getElem? qz)
      have sy : ok ((y1, y2), y3) := HSh.out _ (List.mem_of_getElem? qy)
      have hgz := hwk.lt
      have hb1 : (k + l) / 2 < n := by omega
      have hb3 : (0 : Int) ≤ ((k : Int) + (l : Int)) / 2 := by omega
      have hb4 : ((k : Int) + (l : Int)) / 2 < (n : Int) := by omega
      have hb6 : (((k : Int) + (l : Int)) / 2).toNat = (k + l) / 2 := by omega
      have HUp := Lib.hid (fun (e : ¬ O.c (keyAt xs (pp - (k + l) / 2)) (keyAt xs ((k + l) / 2)) < 0) => hsk.up HMo.out (h := (k + l) / 2) (by omega) (by omega) e)
      have HDn := Lib.hid (fun (e : O.c (keyAt xs (pp - (k + l) / 2)) (keyAt xs ((k + l) / 2)) < 0) => hsk.down HMo.out (h := (k + l) / 2) (by omega) (by omega) (fun hq => hq e))
      rw [← ez, ← ey] at HUp HDn
      obtain ⟨dd, hdd⟩ : ∃ dd, pp - (k + l) / 2 = dd := ⟨_, rfl⟩
      rw [hdd] at r0 r1 r2
      have hb7 : (pp : Int) - ((k : Int) + (l : Int)) / 2 = (dd : Int) := by omega
      have hb8 : (dd : Int) < (n : Int) := by omega
      have hb9 : dd < n := by omega
      have hb10 : IntKind.i64.wrap (dd : Int) = (dd : Int) := IntWalk.i64_in _ (by omega)
      clear hsk qz ez qy ey hdd
      by_cases hcm : O.c ((y1, y2), y3) ((z1, z2), z3) < 0
      · have hcd : decide (O.c ((y1, y2), y3) ((z1, z2), z3) < 0) = true := decide_eq_true hcm
        have HCM := Lib.hid (HDn.out hcm)
        clear hcm HUp HDn
        go_wp2
        go_region_held3 (fun w' => w'.cell? ⟨g, (k + l) / 2 * 3, none⟩ = some (.string z1) ∧ w'.cell? ⟨g, (k + l) / 2 * 3 + 1, none⟩ = some (.string z2) ∧ w'.cell? ⟨g, (k + l) / 2 * 3 + 2, none⟩ = some (.bool z3) ∧ w'.cell? ⟨g, dd * 3, none⟩ = some (.string y1) ∧ w'.cell? ⟨g, dd * 3 + 1, none⟩ = some (.string y2) ∧ w'.cell? ⟨g, dd * 3 + 2, none⟩ = some (.bool y3))
          (first | go_keep | with_reducible exact K2.out)
          (first | (go_at_call 22; refine (HCMP.out y1 y2 y3 z1 z2 z3 _ sy sz).mono ?_; rintro e w2 ⟨rfl, hb2'⟩; have hb2 := below_drewN' (n := 1) hb2'; have K2 := Lib.hid (And.intro ((hb2.cell (p := ⟨g, (k + l) / 2 * 3, none⟩) hgz).trans q0) (And.intro ((hb2.cell (p := ⟨g, (k + l) / 2 * 3 + 1, none⟩) hgz).trans q1) (And.intro ((hb2.cell (p := ⟨g, (k + l) / 2 * 3 + 2, none⟩) hgz).trans q2) (And.intro ((hb2.cell (p := ⟨g, dd * 3, none⟩) hgz).trans r0) (And.intro ((hb2.cell (p := ⟨g, dd * 3 + 1, none⟩) hgz).trans r1) ((hb2.cell (p := ⟨g, dd * 3 + 2, none⟩) hgz).trans r2))))))))
        rename_i hheld
        clear hheld K2 hb2'
        have hw2 := hwk.call hb2
        clear hb2 q0 q1 q2 r0 r1 r2 hgz hwk
        go_wp2
        go_roundw
        case rel => exact ⟨k, (k + l) / 2, rfl, by go_num, HCM.out, hw2⟩
        case measure => simp [intOf]; omega
      · have hcd : decide (O.c ((y1, y2), y3) ((z1, z2), z3) < 0) = false := decide_eq_false hcm
        have HCM := Lib.hid (HUp.out hcm)
        clear hcm HUp HDn
        go_wp2
        go_region_held3 (fun w' => w'.cell? ⟨g, (k + l) / 2 * 3, none⟩ = some (.string z1) ∧ w'.cell? ⟨g, (k + l) / 2 * 3 + 1, none⟩ = some (.string z2) ∧ w'.cell? ⟨g, (k + l) / 2 * 3 + 2, none⟩ = some (.bool z3) ∧ w'.cell? ⟨g, dd * 3, none⟩ = some (.string y1) ∧ w'.cell? ⟨g, dd * 3 + 1, none⟩ = some (.string y2) ∧ w'.cell? ⟨g, dd * 3 + 2, none⟩ = some (.bool y3))
          (first | go_keep | with_reducible exact K2.out)
          (first | (go_at_call 22; refine (HCMP.out y1 y2 y3 z1 z2 z3 _ sy sz).mono ?_; rintro e w2 ⟨rfl, hb2'⟩; have hb2 := below_drewN' (n := 1) hb2'; have K2 := Lib.hid (And.intro ((hb2.cell (p := ⟨g, (k + l) / 2 * 3, none⟩) hgz).trans q0) (And.intro ((hb2.cell (p := ⟨g, (k + l) / 2 * 3 + 1, none⟩) hgz).trans q1) (And.intro ((hb2.cell (p := ⟨g, (k + l) / 2 * 3 + 2, none⟩) hgz).trans q2) (And.intro ((hb2.cell (p := ⟨g, dd * 3, none⟩) hgz).trans r0) (And.intro ((hb2.cell (p := ⟨g, dd * 3 + 1, none⟩) hgz).trans r1) ((hb2.cell (p := ⟨g, dd * 3 + 2, none⟩) hgz).trans r2))))))))
        rename_i hheld
        clear hheld K2 hb2'
        have hw2 := hwk.call hb2
        clear hb2 q0 q1 q2 r0 r1 r2 hgz hwk
        go_wp2
        go_roundw
        case rel => exact ⟨(k + l) / 2 + 1, l, by go_num, rfl, HCM.out, hw2⟩
        case measure => simp [intOf]; omega
    · obtain rfl : k = l := by omega
      obtain ⟨A1, A2, C1, C2, hq, l1, l2, l3⟩ := HCu.out k hsk
      have exs := HT.out _ _ _ _ hq
      have l4 := congrArg List.length hq.ha
      have l5 := congrArg List.length hq.hc
      rw [List.length_append] at l4 l5
      have l6 := HA.out
      have l7 := HM.out
      have l8 := HB.out
      have HQ := Lib.hid hq
      clear hsk hq
      obtain ⟨en, hen⟩ : ∃ en, nn - k = en := ⟨_, rfl⟩
      have hen' : (nn : Int) - (k : Int) = (en : Int) := by omega
      have hsh := HSh.out
      rw [exs] at hsh hwk
      have HS1 := Lib.hid (each_turn hsh)
      have HN := Lib.hid (show a = P.length ∧ m = P.length + A.length ∧ b = P.length + A.length + C.length ∧ P.length + A1.length = k ∧ P.length + A1.length + C1.length = mid ∧ A.length = A1.length + A2.length ∧ C.length = C1.length + C2.length ∧ A.length + C.length ≤ d + 1 from ⟨l6, l7, l8, l1, l2, l4, l5, HD.out⟩)
      clear hsh exs l1 l2 l4 l5 l6 l7 l8
      by_cases hy : k < mid
      · have y1 : k < m := by omega
        have y2 : m < en := by omega
        have y3 : mid < en := by omega
        by_cases y4 : a < k
        · by_cases y5 : en < b
          · have HX := Lib.hid (rotate_anyQ w0 g c n _ (P ++ A1) A2 C1 (C2 ++ S) hwk k m en (by have hx := HN.out; (try simp only [List.length_append]); omega) (by have hx := HN.out; (try simp only [List.length_append]); omega) (by have hx := HN.out; (try simp only [List.length_append]); omega) (by omega) (by omega) hn)
            clear hwk
            go_wp2_with fail
            refine HX.out.mono ?_
            rintro _ w1 ⟨rfl, hw1⟩
            rw [left_form] at hw1
            clear HX
            have HX2 := Lib.hid (HI.out P A1 C1 (A2 ++ C2 ++ S) _ (by have hx := HN.out; (try simp only [List.length_append]); omega) (by have hx := HN.out; (try simp only [List.length_append]); omega) (by have hx := HN.out; (try simp only [List.length_append]); omega) HQ.out.r1 HQ.out.r3 HS1.out hw1 a k mid (by have hx := HN.out; (try simp only [List.length_append]); omega) (by have hx := HN.out; (try simp only [List.length_append]); omega) (by have hx := HN.out; (try simp only [List.length_append]); omega))
            clear hw1
            go_wp2_with fail
            refine HX2.out.mono ?_
            rintro _ w2 ⟨rfl, hc2⟩
            clear HX2
            obtain ⟨ys, ⟨L, r1, r2, rfl⟩, r3, hw2⟩ := hc2
            have HR1 := Lib.hid r1
            have HR2 := Lib.hid r2
            have HK := Lib.hid (kept_len r2)
            clear r1 r2
            have er : P ++ L ++ (A2 ++ C2 ++ S) = P ++ L ++ A2 ++ C2 ++ S := by simp only [List.append_assoc]
            rw [er] at r3 hw2
            have HX3 := Lib.hid (HI.out (P ++ L) A2 C2 S _ (by have hx := HN.out; (try simp only [List.length_append]); omega) (by have hx := HN.out; (try simp only [List.length_append]); omega) (by have hx := HN.out; (try simp only [List.length_append]); omega) HQ.out.r2 HQ.out.r4 r3 hw2 mid en b (by have hx := HN.out; have hy := HK.out; simp only [List.length_append] at hy ⊢; omega) (by have hx := HN.out; have hy := HK.out; simp only [List.length_append] at hy ⊢; omega) (by have hx := HN.out; have hy := HK.out; simp only [List.length_append] at hy ⊢; omega))
            clear hw2 r3 er
            go_wp2_with fail
            refine HX3.out.mono ?_
            rintro _ w3 ⟨rfl, hc3⟩
            clear HX3
            have HC3 := Lib.hid hc3
            clear hc3
            go_wp2
            go_end0
            exact ⟨rfl, HQ.out.done HR1.out HR2.out HC3.out⟩
          · have HX := Lib.hid (rotate_anyQ w0 g c n _ (P ++ A1) A2 C1 (C2 ++ S) hwk k m en (by have hx := HN.out; (try simp only [List.length_append]); omega) (by have hx := HN.out; (try simp only [List.length_append]); omega) (by have hx := HN.out; (try simp only [List.length_append]); omega) (by omega) (by omega) hn)
            clear hwk
            go_wp2_with fail
            refine HX.out.mono ?_
            rintro _ w1 ⟨rfl, hw1⟩
            rw [left_form] at hw1
            clear HX
            have HX2 := Lib.hid (HI.out P A1 C1 (A2 ++ C2 ++ S) _ (by have hx := HN.out; (try simp only [List.length_append]); omega) (by have hx := HN.out; (try simp only [List.length_append]); omega) (by have hx := HN.out; (try simp only [List.length_append]); omega) HQ.out.r1 HQ.out.r3 HS1.out hw1 a k mid (by have hx := HN.out; (try simp only [List.length_append]); omega) (by have hx := HN.out; (try simp only [List.length_append]); omega) (by have hx := HN.out; (try simp only [List.length_append]); omega))
            clear hw1
            go_wp2_with fail
            refine HX2.out.mono ?_
            rintro _ w2 ⟨rfl, hc2⟩
            clear HX2
            obtain ⟨ys, ⟨L, r1, r2, rfl⟩, r3, hw2⟩ := hc2
            have HR1 := Lib.hid r1
            have HR2 := Lib.hid r2
            have HK := Lib.hid (kept_len r2)
            clear r1 r2
            have hc3 := HQ.out.right (by have hx := HN.out; (try simp only [List.length_append]); omega) r3 hw2
            clear hw2 r3
            have HC3 := Lib.hid hc3
            clear hc3
            go_wp2
            go_end0
            exact ⟨rfl, HQ.out.done HR1.out HR2.out HC3.out⟩
        · by_cases y5 : en < b
          · have HX := Lib.hid (rotate_anyQ w0 g c n _ (P ++ A1) A2 C1 (C2 ++ S) hwk k m en (by have hx := HN.out; (try simp only [List.length_append]); omega) (by have hx := HN.out; (try simp only [List.length_append]); omega) (by have hx := HN.out; (try simp only [List.length_append]); omega) (by omega) (by omega) hn)
            clear hwk
            go_wp2_with fail
            refine HX.out.mono ?_
            rintro _ w1 ⟨rfl, hw1⟩
            rw [left_form] at hw1
            clear HX
            have hc2 := HQ.out.left (by have hx := HN.out; (try simp only [List.length_append]); omega) HS1.out hw1
            clear hw1
            obtain ⟨ys, ⟨L, r1, r2, rfl⟩, r3, hw2⟩ := hc2
            have HR1 := Lib.hid r1
            have HR2 := Lib.hid r2
            have HK := Lib.hid (kept_len r2)
            clear r1 r2
            have er : P ++ L ++ (A2 ++ C2 ++ S) = P ++ L ++ A2 ++ C2 ++ S := by simp only [List.append_assoc]
            rw [er] at r3 hw2
            have HX3 := Lib.hid (HI.out (P ++ L) A2 C2 S _ (by have hx := HN.out; (try simp only [List.length_append]); omega) (by have hx := HN.out; (try simp only [List.length_append]); omega) (by have hx := HN.out; (try simp only [List.length_append]); omega) HQ.out.r2 HQ.out.r4 r3 hw2 mid en b (by have hx := HN.out; have hy := HK.out; simp only [List.length_append] at hy ⊢; omega) (by have hx := HN.out; have hy := HK.out; simp only [List.length_append] at hy ⊢; omega) (by have hx := HN.out; have hy := HK.out; simp only [List.length_append] at hy ⊢; omega))
            clear hw2 r3 er
            go_wp2_with fail
            refine HX3.out.mono ?_
            rintro _ w3 ⟨rfl, hc3⟩
            clear HX3
            have HC3 := Lib.hid hc3
            clear hc3
            go_wp2
            go_end0
            exact ⟨rfl, HQ.out.done HR1.out HR2.out HC3.out⟩
          · have HX := Lib.hid (rotate_anyQ w0 g c n _ (P ++ A1) A2 C1 (C2 ++ S) hwk k m en (by have hx := HN.out; (try simp only [List.length_append]); omega) (by have hx := HN.out; (try simp only [List.length_append]); omega) (by have hx := HN.out; (try simp only [List.length_append]); omega) (by omega) (by omega) hn)
            clear hwk
            go_wp2_with fail
            refine HX.out.mono ?_
            rintro _ w1 ⟨rfl, hw1⟩
            rw [left_form] at hw1
            clear HX
            have hc2 := HQ.out.left (by have hx := HN.out; (try simp only [List.length_append]); omega) HS1.out hw1
            clear hw1
            obtain ⟨ys, ⟨L, r1, r2, rfl⟩, r3, hw2⟩ := hc2
            have HR1 := Lib.hid r1
            have HR2 := Lib.hid r2
            have HK := Lib.hid (kept_len r2)
            clear r1 r2
            have hc3 := HQ.out.right (by have hx := HN.out; (try simp only [List.length_append]); omega) r3 hw2
            clear hw2 r3
            have HC3 := Lib.hid hc3
            clear hc3
            go_wp2
            go_end0
            exact ⟨rfl, HQ.out.done HR1.out HR2.out HC3.out⟩
      · have x1 : k < m := by omega
        have x2 : ¬ m < en := by omega
        have x3 : a < k := by omega
        have x4 : mid < en := by omega
        have x5 : en < b := by omega
        have hw1 := hwk
        rw [no_turn (by have hx := HN.out; (try simp only [List.length_append]); omega)] at hw1
        clear hwk
        have hc2 := HQ.out.left (by have hx := HN.out; (try simp only [List.length_append]); omega) HS1.out hw1
        clear hw1
        obtain ⟨ys, ⟨L, r1, r2, rfl⟩, r3, hw2⟩ := hc2
        have HR1 := Lib.hid r1
        have HR2 := Lib.hid r2
        have HK := Lib.hid (kept_len r2)
        clear r1 r2
        have er : P ++ L ++ (A2 ++ C2 ++ S) = P ++ L ++ A2 ++ C2 ++ S := by simp only [List.append_assoc]
        rw [er] at r3 hw2
        have HX3 := Lib.hid (HI.out (P ++ L) A2 C2 S _ (by have hx := HN.out; (try simp only [List.length_append]); omega) (by have hx := HN.out; (try simp only [List.length_append]); omega) (by have hx := HN.out; (try simp only [List.length_append]); omega) HQ.out.r2 HQ.out.r4 r3 hw2 mid en b (by have hx := HN.out; have hy := HK.out; simp only [List.length_append] at hy ⊢; omega) (by have hx := HN.out; have hy := HK.out; simp only [List.length_append] at hy ⊢; omega) (by have hx := HN.out; have hy := HK.out; simp only [List.length_append] at hy ⊢; omega))
        clear hw2 r3 er
        go_wp2_with fail
        refine HX3.out.mono ?_
        rintro _ w3 ⟨rfl, hc3⟩
        clear HX3
        have HC3 := Lib.hid hc3
        clear hc3
        go_wp2
        go_end0
        exact ⟨rfl, HQ.out.done HR1.out HR2.out HC3.out⟩
end Go.Proofs.YtmdlmjcejeejfaaGreatDoor

/-
  The stable sort at ReqB: the merge of two parts, the other way; the sort whole.
-/
set_option linter.unusedVariables false
set_option linter.unusedSimpArgs false
namespace Go.Proofs.YtmdlmjcejeejfaaGreatDoor
open Go.RowKit Go.Shelf

set_option maxRecDepth 100000 in
set_option maxHeartbeats 4000000 in
theorem merge_b2Q (O : Ordr ReqB) (ok : ReqB → Prop) (hcmp : CmpOKQ O ok) (w0 : World) (g c n : Nat) (d : Nat) (ih : MergesQ O ok w0 g c n d) (hn : n ≤ 1000) (P A C S : List ReqB) (w : World) (hd : A.length + C.length ≤ d + 1) (hA0 : 2 ≤ A.length) (hC0 : 2 ≤ C.length) (hA : Rises O A) (hC : Rises O C) (hs : Each ok (P ++ A ++ C ++ S)) (hw : Work reqR 50 w0 g c n w (P ++ A ++ C ++ S))
    (a m b mid : Nat) (ha : a = P.length) (hm : m = P.length + A.length) (hb : b = P.length + A.length + C.length) (hmid : mid = (a + b) / 2) (hbr : m ≤ mid) :
    Calls Tryz.prog 107 #[.slice (some ⟨g, 0, none⟩) n c, .int .i64 a, .int .i64 m, .int .i64 b, cmpVQ] w (fun e w' => e = .returned (.tuple #[]) ∧ Came reqR 50 O ok w0 g c n P (A ++ C) S w') := by
  have hlen := hw.len
  simp only [List.length_append] at hlen
  have hbn : b ≤ n := by omega
  have HW := Lib.hid hw
  have HCMP := Lib.hid hcmp
  clear hcmp
  have HSh := Lib.hid hs

  have hbo' : Bounds P.length (P.length + A.length) (P.length + A.length + C.length) mid a (m) := by
    rw [← hb, ← hm, ← ha]
    exact ⟨hmid, .inr ⟨hbr, rfl, rfl⟩⟩
  have HMo := Lib.hid (show ∀ q r, a ≤ q → q ≤ r → r < m → NotLess O (keyAt (P ++ A ++ C ++ S) (mid + m - 1 - r)) (keyAt (P ++ A ++ C ++ S) r) → NotLess O (keyAt (P ++ A ++ C ++ S) (mid + m - 1 - q)) (keyAt (P ++ A ++ C ++ S) q) by
    subst hm
    exact third_mono' (S := S) hA hC (by omega) (by omega) hbo')
  have HCu := Lib.hid (show ∀ st, Sk (fun q => NotLess O (keyAt (P ++ A ++ C ++ S) (mid + m - 1 - q)) (keyAt (P ++ A ++ C ++ S) q)) a (m) st st → ∃ A1 A2 C1 C2, Quart O A C A1 A2 C1 C2 ∧ P.length + A1.length = st ∧ P.length + A1.length + C1.length = mid ∧ st ≤ mid by
    intro st h
    subst hm
    exact third_parts (S := S) hA hC (by omega) (by omega) hbo' h)
  have hlo1 : a ≤ a := by omega
  have hlo2 : a ≤ m := by omega
  have HXS := Lib.hid (fun q => some_at (xs := P ++ A ++ C ++ S) (q := q))
  have HL := Lib.hid (show (P ++ A ++ C ++ S).length = n from hw.len)
  have HA := Lib.hid ha
  have HM := Lib.hid hm
  have HB := Lib.hid hb
  have HD := Lib.hid hd
  have HI := Lib.hid ih
  have ham : a + 2 ≤ m := by omega
  have hmb : m + 2 ≤ b := by omega
  have hm1 : a < mid := by omega
  have hm2 : mid < b := by omega
  obtain ⟨nn, hnn⟩ : ∃ nn, mid + m = nn := ⟨_, rfl⟩
  obtain ⟨pp, hpp⟩ : ∃ pp, nn - 1 = pp := ⟨_, rfl⟩
  rw [hnn, hpp] at HMo HCu
  have HT := Lib.hid (fun (A1 A2 C1 C2 : List ReqB) (h : Quart O A C A1 A2 C1 C2) => h.turn P S)
  have hti : ((m : Int) - (a : Int) == 1) = false := by rw [beq_eq_false_iff_ne]; omega
  have htj : ((b : Int) - (m : Int) == 1) = false := by rw [beq_eq_false_iff_ne]; omega
  have htk : ((a : Int) + (b : Int)) / 2 = (mid : Int) := by omega
  have htl : (mid : Int) + (m : Int) = (nn : Int) := by omega
  have htn : (nn : Int) - 1 = (pp : Int) := by omega

  clear hw hlen ha hb hm hs hbo' hA hC hA0 hC0 hd ih hmid
  generalize P ++ A ++ C ++ S = xs at *
  unfold cmpVQ
  go_enter Tryz.func107, Tryz.ntmps107
  go_wp2
  rw [show decide (mid < m) = false from decide_eq_false (Nat.not_lt.2 hbr)]
  go_loopw [20, 21] (fun i j wr => ∃ (k l : Nat), i = .int .i64 k ∧ j = .int .i64 l ∧ Sk (fun q => NotLess O (keyAt xs (pp - q)) (keyAt xs q)) a (m) k l ∧ Work reqR 50 w0 g c n wr xs) (fun i j _ => (intOf j - intOf i).toNat)
  case atStart => exact ⟨a, m, rfl, rfl, Sk.start _ hlo2, HW.out⟩
  case round =>
    obtain ⟨k, l, rfl, rfl, hsk, hwk⟩ := hrel
    have hk1 := hsk.a
    have hk2 := hsk.b
    have hk3 := hsk.c
    by_cases hlt : k < l
    · obtain ⟨⟨⟨z1, z2⟩, z3⟩, qz, ez⟩ := HXS.out ((k + l) / 2) (by rw [HL.out]; omega)
      obtain ⟨⟨⟨y1, y2⟩, y3⟩, qy, ey⟩ := HXS.out (pp - (k + l) / 2) (by rw [HL.out]; omega)
      obtain ⟨q0, q1, q2⟩ := wcellQ hwk qz
      obtain ⟨r0, r1, r2⟩ := wcellQ hwk qy
      have sz : ok ((z1, z2), z3) := HSh.out _ (List.mem_of_getElem? qz)
      have sy : ok ((y1, y2), y3) := HSh.out _ (List.mem_of_getElem? qy)
      have hgz := hwk.lt
      have hb1 : (k + l) / 2 < n := by omega
      have hb3 : (0 : Int) ≤ ((k : Int) + (l : Int)) / 2 := by omega
      have hb4 : ((k : Int) + (l : Int)) / 2 < (n : Int) := by omega
      have hb6 : (((k : Int) + (l : Int)) / 2).toNat = (k + l) / 2 := by omega
      have HUp := Lib.hid (fun (e : ¬ O.c (keyAt xs (pp - (k + l) / 2)) (keyAt xs ((k + l) / 2)) < 0) => hsk.up HMo.out (h := (k + l) / 2) (by omega) (by omega) e)
      have HDn := Lib.hid (fun (e : O.c (keyAt xs (pp - (k + l) / 2)) (keyAt xs ((k + l) / 2)) < 0) => hsk.down HMo.out (h := (k + l) / 2) (by omega) (by omega) (fun hq => hq e))
      rw [← ez, ← ey] at HUp HDn
      obtain ⟨dd, hdd⟩ : ∃ dd, pp - (k + l) / 2 = dd := ⟨_, rfl⟩
      rw [hdd] at r0 r1 r2
      have hb7 : (pp : Int) - ((k : Int) + (l : Int)) / 2 = (dd : Int) := by omega
      have hb8 : (dd : Int) < (n : Int) := by omega
      have hb9 : dd < n := by omega
      have hb10 : IntKind.i64.wrap (dd : Int) = (dd : Int) := IntWalk.i64_in _ (by omega)
      clear hsk qz ez qy ey hdd
      by_cases hcm : O.c ((y1, y2), y3) ((z1, z2), z3) < 0
      · have hcd : decide (O.c ((y1, y2), y3) ((z1, z2), z3) < 0) = true := decide_eq_true hcm
        have HCM := Lib.hid (HDn.out hcm)
        clear hcm HUp HDn
        go_wp2
        go_region_held3 (fun w' => w'.cell? ⟨g, (k + l) / 2 * 3, none⟩ = some (.string z1) ∧ w'.cell? ⟨g, (k + l) / 2 * 3 + 1, none⟩ = some (.string z2) ∧ w'.cell? ⟨g, (k + l) / 2 * 3 + 2, none⟩ = some (.bool z3) ∧ w'.cell? ⟨g, dd * 3, none⟩ = some (.string y1) ∧ w'.cell? ⟨g, dd * 3 + 1, none⟩ = some (.string y2) ∧ w'.cell? ⟨g, dd * 3 + 2, none⟩ = some (.bool y3))
          (first | go_keep | with_reducible exact K2.out)
          (first | (go_at_call 22; refine (HCMP.out y1 y2 y3 z1 z2 z3 _ sy sz).mono ?_; rintro e w2 ⟨rfl, hb2'⟩; have hb2 := below_drewN' (n := 1) hb2'; have K2 := Lib.hid (And.intro ((hb2.cell (p := ⟨g, (k + l) / 2 * 3, none⟩) hgz).trans q0) (And.intro ((hb2.cell (p := ⟨g, (k + l) / 2 * 3 + 1, none⟩) hgz).trans q1) (And.intro ((hb2.cell (p := ⟨g, (k + l) / 2 * 3 + 2, none⟩) hgz).trans q2) (And.intro ((hb2.cell (p := ⟨g, dd * 3, none⟩) hgz).trans r0) (And.intro ((hb2.cell (p := ⟨g, dd * 3 + 1, none⟩) hgz).trans r1) ((hb2.cell (p := ⟨g, dd * 3 + 2, none⟩) hgz).trans r2))))))))
        rename_i hheld
        clear hheld K2 hb2'
        have hw2 := hwk.call hb2
        clear hb2 q0 q1 q2 r0 r1 r2 hgz hwk
        go_wp2
        go_roundw
        case rel => exact ⟨k, (k + l) / 2, rfl, by go_num, HCM.out, hw2⟩
        case measure => simp [intOf]; omega
      · have hcd : decide (O.c ((y1, y2), y3) ((z1, z2), z3) < 0) = false := decide_eq_false hcm
        have HCM := Lib.hid (HUp.out hcm)
        clear hcm HUp HDn
        go_wp2
        go_region_held3 (fun w' => w'.cell? ⟨g, (k + l) / 2 * 3, none⟩ = some (.string z1) ∧ w'.cell? ⟨g, (k + l) / 2 * 3 + 1, none⟩ = some (.string z2) ∧ w'.cell? ⟨g, (k + l) / 2 * 3 + 2, none⟩ = some (.bool z3) ∧ w'.cell? ⟨g, dd * 3, none⟩ = some (.string y1) ∧ w'.cell? ⟨g, dd * 3 + 1, none⟩ = some (.string y2) ∧ w'.cell? ⟨g, dd * 3 + 2, none⟩ = some (.bool y3))
          (first | go_keep | with_reducible exact K2.out)
          (first | (go_at_call 22; refine (HCMP.out y1 y2 y3 z1 z2 z3 _ sy sz).mono ?_; rintro e w2 ⟨rfl, hb2'⟩; have hb2 := below_drewN' (n := 1) hb2'; have K2 := Lib.hid (And.intro ((hb2.cell (p := ⟨g, (k + l) / 2 * 3, none⟩) hgz).trans q0) (And.intro ((hb2.cell (p := ⟨g, (k + l) / 2 * 3 + 1, none⟩) hgz).trans q1) (And.intro ((hb2.cell (p := ⟨g, (k + l) / 2 * 3 + 2, none⟩) hgz).trans q2) (And.intro ((hb2.cell (p := ⟨g, dd * 3, none⟩) hgz).trans r0) (And.intro ((hb2.cell (p := ⟨g, dd * 3 + 1, none⟩) hgz).trans r1) ((hb2.cell (p := ⟨g, dd * 3 + 2, none⟩) hgz).trans r2))))))))
        rename_i hheld
        clear hheld K2 hb2'
        have hw2 := hwk.call hb2
        clear hb2 q0 q1 q2 r0 r1 r2 hgz hwk
        go_wp2
        go_roundw
        case rel => exact ⟨(k + l) / 2 + 1, l, by go_num, rfl, HCM.out, hw2⟩
        case measure => simp [intOf]; omega
    · obtain rfl : k = l := by omega
      obtain ⟨A1, A2, C1, C2, hq, l1, l2, l3⟩ := HCu.out k hsk
      have exs := HT.out _ _ _ _ hq
      have l4 := congrArg List.length hq.ha
      have l5 := congrArg List.length hq.hc
      rw [List.length_append] at l4 l5
      have l6 := HA.out
      have l7 := HM.out
      have l8 := HB.out
      have HQ := Lib.hid hq
      clear hsk hq
      obtain ⟨en, hen⟩ : ∃ en, nn - k = en := ⟨_, rfl⟩
      have hen' : (nn : Int) - (k : Int) = (en : Int) := by omega
      have hsh := HSh.out
      rw [exs] at hsh hwk
      have HS1 := Lib.hid (each_turn hsh)
      have HN := Lib.hid (show a = P.length ∧ m = P.length + A.length ∧ b = P.length + A.length + C.length ∧ P.length + A1.length = k ∧ P.length + A1.length + C1.length = mid ∧ A.length = A1.length + A2.length ∧ C.length = C1.length + C2.length ∧ A.length + C.length ≤ d + 1 from ⟨l6, l7, l8, l1, l2, l4, l5, HD.out⟩)
      clear hsh exs l1 l2 l4 l5 l6 l7 l8
      by_cases hy : k < mid
      · by_cases hx : k < m
        · have y1 : k < m := by omega
          have y2 : m < en := by omega
          have y3 : mid < en := by omega
          by_cases y4 : a < k
          · by_cases y5 : en < b
            · have HX := Lib.hid (rotate_anyQ w0 g c n _ (P ++ A1) A2 C1 (C2 ++ S) hwk k m en (by have hx := HN.out; (try simp only [List.length_append]); omega) (by have hx := HN.out; (try simp only [List.length_append]); omega) (by have hx := HN.out; (try simp only [List.length_append]); omega) (by omega) (by omega) hn)
              clear hwk
              go_wp2_with fail
              refine HX.out.mono ?_
              rintro _ w1 ⟨rfl, hw1⟩
              rw [left_form] at hw1
              clear HX
              have HX2 := Lib.hid (HI.out P A1 C1 (A2 ++ C2 ++ S) _ (by have hx := HN.out; (try simp only [List.length_append]); omega) (by have hx := HN.out; (try simp only [List.length_append]); omega) (by have hx := HN.out; (try simp only [List.length_append]); omega) HQ.out.r1 HQ.out.r3 HS1.out hw1 a k mid (by have hx := HN.out; (try simp only [List.length_append]); omega) (by have hx := HN.out; (try simp only [List.length_append]); omega) (by have hx := HN.out; (try simp only [List.length_append]); omega))
              clear hw1
              go_wp2_with fail
              refine HX2.out.mono ?_
              rintro _ w2 ⟨rfl, hc2⟩
              clear HX2
              obtain ⟨ys, ⟨L, r1, r2, rfl⟩, r3, hw2⟩ := hc2
              have HR1 := Lib.hid r1
              have HR2 := Lib.hid r2
              have HK := Lib.hid (kept_len r2)
              clear r1 r2
              have er : P ++ L ++ (A2 ++ C2 ++ S) = P ++ L ++ A2 ++ C2 ++ S := by simp only [List.append_assoc]
              rw [er] at r3 hw2
              have HX3 := Lib.hid (HI.out (P ++ L) A2 C2 S _ (by have hx := HN.out; (try simp only [List.length_append]); omega) (by have hx := HN.out; (try simp only [List.length_append]); omega) (by have hx := HN.out; (try simp only [List.length_append]); omega) HQ.out.r2 HQ.out.r4 r3 hw2 mid en b (by have hx := HN.out; have hy := HK.out; simp only [List.length_append] at hy ⊢; omega) (by have hx := HN.out; have hy := HK.out; simp only [List.length_append] at hy ⊢; omega) (by have hx := HN.out; have hy := HK.out; simp only [List.length_append] at hy ⊢; omega))
              clear hw2 r3 er
              go_wp2_with fail
              refine HX3.out.mono ?_
              rintro _ w3 ⟨rfl, hc3⟩
              clear HX3
              have HC3 := Lib.hid hc3
              clear hc3
              go_wp2
              go_end0
              exact ⟨rfl, HQ.out.done HR1.out HR2.out HC3.out⟩
            · have HX := Lib.hid (rotate_anyQ w0 g c n _ (P ++ A1) A2 C1 (C2 ++ S) hwk k m en (by have hx := HN.out; (try simp only [List.length_append]); omega) (by have hx := HN.out; (try simp only [List.length_append]); omega) (by have hx := HN.out; (try simp only [List.length_append]); omega) (by omega) (by omega) hn)
              clear hwk
              go_wp2_with fail
              refine HX.out.mono ?_
              rintro _ w1 ⟨rfl, hw1⟩
              rw [left_form] at hw1
              clear HX
              have HX2 := Lib.hid (HI.out P A1 C1 (A2 ++ C2 ++ S) _ (by have hx := HN.out; (try simp only [List.length_append]); omega) (by have hx := HN.out; (try simp only [List.length_append]); omega) (by have hx := HN.out; (try simp only [List.length_append]); omega) HQ.out.r1 HQ.out.r3 HS1.out hw1 a k mid (by have hx := HN.out; (try simp only [List.length_append]); omega) (by have hx := HN.out; (try simp only [List.length_append]); omega) (by have hx := HN.out; (try simp only [List.length_append]); omega))
              clear hw1
              go_wp2_with fail
              refine HX2.out.mono ?_
              rintro _ w2 ⟨rfl, hc2⟩
              clear HX2
              obtain ⟨ys, ⟨L, r1, r2, rfl⟩, r3, hw2⟩ := hc2
              have HR1 := Lib.hid r1
              have HR2 := Lib.hid r2
              have HK := Lib.hid (kept_len r2)
              clear r1 r2
              have hc3 := HQ.out.right (by have hx := HN.out; (try simp only [List.length_append]); omega) r3 hw2
              clear hw2 r3
              have HC3 := Lib.hid hc3
              clear hc3
              go_wp2
              go_end0
              exact ⟨rfl, HQ.out.done HR1.out HR2.out HC3.out⟩
          · by_cases y5 : en < b
            · have HX := Lib.hid (rotate_anyQ w0 g c n _ (P ++ A1) A2 C1 (C2 ++ S) hwk k m en (by have hx := HN.out; (try simp only [List.length_append]); omega) (by have hx := HN.out; (try simp only [List.length_append]); omega) (by have hx := HN.out; (try simp only [List.length_append]); omega) (by omega) (by omega) hn)
              clear hwk
              go_wp2_with fail
              refine HX.out.mono ?_
              rintro _ w1 ⟨rfl, hw1⟩
              rw [left_form] at hw1
              clear HX
              have hc2 := HQ.out.left (by have hx := HN.out; (try simp only [List.length_append]); omega) HS1.out hw1
              clear hw1
              obtain ⟨ys, ⟨L, r1, r2, rfl⟩, r3, hw2⟩ := hc2
              have HR1 := Lib.hid r1
              have HR2 := Lib.hid r2
              have HK := Lib.hid (kept_len r2)
              clear r1 r2
              have er : P ++ L ++ (A2 ++ C2 ++ S) = P ++ L ++ A2 ++ C2 ++ S := by simp only [List.append_assoc]
              rw [er] at r3 hw2
              have HX3 := Lib.hid (HI.out (P ++ L) A2 C2 S _ (by have hx := HN.out; (try simp only [List.length_append]); omega) (by have hx := HN.out; (try simp only [List.length_append]); omega) (by have hx := HN.out; (try simp only [List.length_append]); omega) HQ.out.r2 HQ.out.r4 r3 hw2 mid en b (by have hx := HN.out; have hy := HK.out; simp only [List.length_append] at hy ⊢; omega) (by have hx := HN.out; have hy := HK.out; simp only [List.length_append] at hy ⊢; omega) (by have hx := HN.out; have hy := HK.out; simp only [List.length_append] at hy ⊢; omega))
              clear hw2 r3 er
              go_wp2_with fail
              refine HX3.out.mono ?_
              rintro _ w3 ⟨rfl, hc3⟩
              clear HX3
              have HC3 := Lib.hid hc3
              clear hc3
              go_wp2
              go_end0
              exact ⟨rfl, HQ.out.done HR1.out HR2.out HC3.out⟩
            · have HX := Lib.hid (rotate_anyQ w0 g c n _ (P ++ A1) A2 C1 (C2 ++ S) hwk k m en (by have hx := HN.out; (try simp only [List.length_append]); omega) (by have hx := HN.out; (try simp only [List.length_append]); omega) (by have hx := HN.out; (try simp only [List.length_append]); omega) (by omega) (by omega) hn)
              clear hwk
              go_wp2_with fail
              refine HX.out.mono ?_
              rintro _ w1 ⟨rfl, hw1⟩
              rw [left_form] at hw1
              clear HX
              have hc2 := HQ.out.left (by have hx := HN.out; (try simp only [List.length_append]); omega) HS1.out hw1
              clear hw1
              obtain ⟨ys, ⟨L, r1, r2, rfl⟩, r3, hw2⟩ := hc2
              have HR1 := Lib.hid r1
              have HR2 := Lib.hid r2
              have HK := Lib.hid (kept_len r2)
              clear r1 r2
              have hc3 := HQ.out.right (by have hx := HN.out; (try simp only [List.length_append]); omega) r3 hw2
              clear hw2 r3
              have HC3 := Lib.hid hc3
              clear hc3
              go_wp2
              go_end0
              exact ⟨rfl, HQ.out.done HR1.out HR2.out HC3.out⟩
        · have x3 : a < k := by omega
          have x4 : ¬ mid < en := by omega
          have hw1 := hwk
          rw [no_turn (by have hx := HN.out; (try simp only [List.length_append]); omega)] at hw1
          clear hwk
          have HX2 := Lib.hid (HI.out P A1 C1 (A2 ++ C2 ++ S) _ (by have hx := HN.out; (try simp only [List.length_append]); omega) (by have hx := HN.out; (try simp only [List.length_append]); omega) (by have hx := HN.out; (try simp only [List.length_append]); omega) HQ.out.r1 HQ.out.r3 HS1.out hw1 a k mid (by have hx := HN.out; (try simp only [List.length_append]); omega) (by have hx := HN.out; (try simp only [List.length_append]); omega) (by have hx := HN.out; (try simp only [List.length_append]); omega))
          clear hw1
          go_wp2_with fail
          refine HX2.out.mono ?_
          rintro _ w2 ⟨rfl, hc2⟩
          clear HX2
          obtain ⟨ys, ⟨L, r1, r2, rfl⟩, r3, hw2⟩ := hc2
          have HR1 := Lib.hid r1
          have HR2 := Lib.hid r2
          have HK := Lib.hid (kept_len r2)
          clear r1 r2
          have hc3 := HQ.out.right (by have hx := HN.out; (try simp only [List.length_append]); omega) r3 hw2
          clear hw2 r3
          have HC3 := Lib.hid hc3
          clear hc3
          go_wp2
          go_end0
          exact ⟨rfl, HQ.out.done HR1.out HR2.out HC3.out⟩
      · have x1 : ¬ k < m := by omega
        have x3 : a < k := by omega
        have x4 : ¬ mid < en := by omega
        have hw1 := hwk
        rw [no_turn (by have hx := HN.out; (try simp only [List.length_append]); omega)] at hw1
        clear hwk
        have hc2 := HQ.out.left (by have hx := HN.out; (try simp only [List.length_append]); omega) HS1.out hw1
        clear hw1
        obtain ⟨ys, ⟨L, r1, r2, rfl⟩, r3, hw2⟩ := hc2
        have HR1 := Lib.hid r1
        have HR2 := Lib.hid r2
        have HK := Lib.hid (kept_len r2)
        clear r1 r2
        have hc3 := HQ.out.right (by have hx := HN.out; (try simp only [List.length_append]); omega) r3 hw2
        clear hw2 r3
        have HC3 := Lib.hid hc3
        clear hc3
        go_wp2
        go_end0
        exact ⟨rfl, HQ.out.done HR1.out HR2.out HC3.out⟩

theorem merges_allQ (O : Ordr ReqB) (ok : ReqB → Prop) (hcmp : CmpOKQ O ok) (w0 : World) (g c n : Nat) (hn : n ≤ 1000) : ∀ d, MergesQ O ok w0 g c n d
  | 0 => fun P A C S w hd hA0 hC0 => by omega
  | d + 1 => fun P A C S w hd hA0 hC0 hA hC hs hw a m b ha hm hb => by
    by_cases h1 : A.length = 1
    · obtain ⟨x, rfl⟩ := List.length_eq_one_iff.1 h1
      exact merge_firstQ O ok hcmp w0 g c n w P x C S hw hs hC a m b ha (by simpa using hm) (by simpa using hb) hn
    · by_cases h2 : C.length = 1
      · obtain ⟨y, rfl⟩ := List.length_eq_one_iff.1 h2
        exact merge_lastQ O ok hcmp w0 g c n w P A y S hw hs hA h1 a m b ha hm (by simpa using hb) hn
      · by_cases h3 : (a + b) / 2 < m
        · exact merge_b1Q O ok hcmp w0 g c n d (merges_allQ O ok hcmp w0 g c n hn d) hn P A C S w hd (by omega) (by omega) hA hC hs hw a m b _ ha hm hb rfl h3
        · exact merge_b2Q O ok hcmp w0 g c n d (merges_allQ O ok hcmp w0 g c n hn d) hn P A C S w hd (by omega) (by omega) hA hC hs hw a m b _ ha hm hb rfl (by omega)

set_option maxRecDepth 100000 in
set_option maxHeartbeats 4000000 in
theorem stable_anyQ (O : Ordr ReqB) (ok : ReqB → Prop) (hcmp : CmpOKQ O ok) (w0 : World) (g c n : Nat) (w : World) (xs : List ReqB) (hw : Work reqR 50 w0 g c n w xs) (hs : Each ok xs) (hn : n ≤ 1000) :
    Calls Tryz.prog 64 #[.slice (some ⟨g, 0, none⟩) n c, .int .i64 n, cmpVQ] w (fun e w' => e = .returned (.tuple #[]) ∧ ∃ ys, Rises O ys ∧ Kept O xs ys ∧ Work reqR 50 w0 g c n w' ys) := by
  have HW := Lib.hid hw
  have HCMP := Lib.hid hcmp
  clear hcmp
  have HSh := Lib.hid hs
  have HL := Lib.hid hw.len
  clear hw hs
  unfold cmpVQ
  go_enter Tryz.func64, Tryz.ntmps64
  go_wp2
  go_loopw [7, 8] (fun i j wr => ∃ (a b : Nat) (ys : List ReqB), i = .int .i64 a ∧ j = .int .i64 b ∧ a + 20 = b ∧ a ≤ n ∧ Pass1 O xs a ys ∧ Each ok ys ∧ Work reqR 50 w0 g c n wr ys) (fun i _ _ => n - (intOf i).toNat)
  case atStart => exact ⟨0, 20, xs, rfl, rfl, rfl, Nat.zero_le _, Pass1.start xs, HSh.out, HW.out⟩
  case round =>
    obtain ⟨a, b, ys, rfl, rfl, hab, han, hp, hsy, hwk⟩ := hrel
    have hlen := hwk.len
    by_cases hlt : b ≤ n
    · obtain ⟨P, A, S, rfl, e1, e2, hnx⟩ := hp.next (by omega)
      have HX := Lib.hid (insertion_anyQ O ok HCMP.out w0 g c n _ P A S hwk hsy a b e1 (by omega) hn)
      have HN := Lib.hid hnx
      clear hnx hwk hsy e1 e2 hlen hp
      go_wp2_with fail
      refine HX.out.mono ?_
      rintro _ w1 ⟨rfl, zs, hpz, hsz, hw1⟩
      have HP := Lib.hid (HN.out zs hpz)
      have HZ := Lib.hid hsz
      clear HX HN hpz hsz
      go_wp2
      go_roundw
      case rel => exact ⟨b, b + 20, zs, rfl, by go_num, rfl, hlt, by rw [← hab]; exact HP.out, HZ.out, hw1⟩
      case measure => simp [intOf]; omega
    · obtain ⟨P, A, rfl, e1, e2, hnx⟩ := hp.done (by omega) (by omega)
      have HX := Lib.hid (insertion_anyQ O ok HCMP.out w0 g c n _ P A [] hwk hsy a n e1 (by omega) hn)
      have HN := Lib.hid hnx
      clear hnx hwk hsy e1 e2 hlen hp
      go_wp2_with fail
      refine HX.out.mono ?_
      rintro _ w1 ⟨rfl, zs, hpz, hsz, hw1⟩
      have HP := Lib.hid (HN.out zs hpz)
      have HZ := Lib.hid hsz
      clear HX HN hpz hsz
      go_wp2
      go_loopw [6] (fun i wr => ∃ (z : Nat) (ys : List ReqB), i = .int .i64 z ∧ 20 ≤ z ∧ z ≤ 4000 ∧ Runs O z ys ∧ Kept O xs ys ∧ Each ok ys ∧ Work reqR 50 w0 g c n wr ys) (fun i _ => n - (intOf i).toNat)
      case atStart => exact ⟨20, zs, rfl, by omega, by omega, HP.out.1, HP.out.2, HZ.out, hw1⟩
      case round =>
        obtain ⟨z, ys, rfl, hz1, hz2, hr, hk, hsy, hwk⟩ := hrel
        by_cases hzn : z < n
        · have HSt := Lib.hid (Pass2.start hr hk)
          have HY := Lib.hid hsy
          clear hr hk hsy
          obtain ⟨zz, hzz⟩ : ∃ zz, 2 * z = zz := ⟨_, rfl⟩
          have tz : 2 * (z : Int) = (zz : Int) := by omega
          have tz' : (z : Int) * 2 = (zz : Int) := by omega
          have HZZ := Lib.hid hzz
          go_wp2
          go_loopw [7, 8] (fun i j wr => ∃ (a b : Nat) (ys : List ReqB), i = .int .i64 a ∧ j = .int .i64 b ∧ a + zz = b ∧ a ≤ n ∧ Pass2 O xs z a ys ∧ Each ok ys ∧ Work reqR 50 w0 g c n wr ys) (fun i _ _ => n - (intOf i).toNat)
          case atStart => exact ⟨0, zz, ys, rfl, by go_num, by omega, Nat.zero_le _, HSt.out, HY.out, hwk⟩
          case round =>
            obtain ⟨a, b, ys, rfl, rfl, hab, han, hp, hsy, hwk⟩ := hrel
            have hlen := hwk.len
            by_cases hlt : b ≤ n
            · obtain ⟨P, A, C, S, rfl, e1, e2, e3, r1, r2, hnx⟩ := hp.next (by omega)
              obtain ⟨m, hm⟩ : ∃ m, a + z = m := ⟨_, rfl⟩
              have tm : (a : Int) + (z : Int) = (m : Int) := by omega
              have HX := Lib.hid (merges_allQ O ok HCMP.out w0 g c n hn _ P A C S _ (Nat.le_refl _) (by omega) (by omega) r1 r2 hsy hwk a m b e1 (by omega) (by omega))
              have HN := Lib.hid hnx
              clear hnx hwk hsy e1 e2 e3 hlen hp r1 r2 hm
              go_wp2_with fail
              refine HX.out.mono ?_
              rintro _ w1 ⟨rfl, zs, hpz, hsz, hw1⟩
              have HP := Lib.hid (HN.out zs hpz)
              have HZ := Lib.hid hsz
              clear HX HN hpz hsz
              go_wp2
              go_roundw
              case rel => exact ⟨b, b + zz, zs, rfl, by go_num, rfl, hlt, by rw [← hab, ← HZZ.out]; exact HP.out, HZ.out, hw1⟩
              case measure => simp [intOf]; omega
            · obtain ⟨m, hm⟩ : ∃ m, a + z = m := ⟨_, rfl⟩
              have tm : (a : Int) + (z : Int) = (m : Int) := by omega
              by_cases hmn : m < n
              · obtain ⟨P, A, C, rfl, e1, e2, e3, e4, r1, r2, hnx⟩ := hp.rest (by omega) (by omega)
                have HX := Lib.hid (merges_allQ O ok HCMP.out w0 g c n hn _ P A C [] _ (Nat.le_refl _) (by omega) (by omega) r1 r2 hsy hwk a m n e1 (by omega) (by omega))
                have HN := Lib.hid hnx
                clear hnx hwk hsy e1 e2 e3 e4 hlen hp r1 r2 hm
                go_wp2_with fail
                refine HX.out.mono ?_
                rintro _ w1 ⟨rfl, zs, hpz, hsz, hw1⟩
                have HP := Lib.hid (HN.out zs hpz)
                have HZ := Lib.hid hsz
                clear HX HN hpz hsz
                go_wp2
                go_roundw
                case rel => exact ⟨zz, zs, by go_num, by omega, by omega, by rw [← HZZ.out]; exact HP.out.1, HP.out.2, HZ.out, hw1⟩
                case measure => simp [intOf]; omega
              · have HP := Lib.hid (hp.done (by omega))
                have HZ := Lib.hid hsy
                clear hp hsy hlen hm
                go_wp2
                go_roundw
                case rel => exact ⟨zz, ys, by go_num, by omega, by omega, by rw [← HZZ.out]; exact HP.out.1, HP.out.2, HZ.out, hwk⟩
                case measure => simp [intOf]; omega
        · have HR := Lib.hid (hr.rises (by rw [hwk.len]; omega))
          have HK := Lib.hid hk
          clear hr hk hsy
          go_wp2
          go_end0
          exact ⟨rfl, ys, HR.out, HK.out, hwk⟩

set_option maxRecDepth 100000 in
set_option maxHeartbeats 400000 in
theorem insertion_noneQ (c : Nat) (w : World) : Calls Tryz.prog 106 #[.slice none 0 c, .int .i64 0, .int .i64 0, cmpVQ] w (fun e w' => e = .returned (.tuple #[]) ∧ w' = w) := by
  unfold cmpVQ
  go_enter Tryz.func106, Tryz.ntmps106
  go_wp2
  go_loopw [8] (fun i wr => i = .int .i64 1 ∧ wr = w) (fun _ _ => 0)
  case atStart => exact ⟨rfl, rfl⟩
  case round =>
    obtain ⟨rfl, rfl⟩ := hrel
    go_wp2
    go_end0
    exact ⟨rfl, rfl⟩

set_option maxRecDepth 100000 in
set_option maxHeartbeats 400000 in
theorem stable_noneQ (c : Nat) (w : World) : Calls Tryz.prog 64 #[.slice none 0 c, .int .i64 0, cmpVQ] w (fun e w' => e = .returned (.tuple #[]) ∧ w' = w) := by
  unfold cmpVQ
  go_enter Tryz.func64, Tryz.ntmps64
  go_wp2
  go_loopw [7, 8] (fun i j wr => i = .int .i64 0 ∧ j = .int .i64 20 ∧ wr = w) (fun _ _ _ => 0)
  case atStart => exact ⟨rfl, rfl, rfl⟩
  case round =>
    obtain ⟨rfl, rfl, rfl⟩ := hrel
    go_wp2_with fail
    refine (insertion_noneQ c _).mono ?_
    rintro _ w1 ⟨rfl, rfl⟩
    go_wp2
    go_loopw [6] (fun i wr => i = .int .i64 20 ∧ wr = w1) (fun _ _ => 0)
    case atStart => exact ⟨rfl, rfl⟩
    case round =>
      obtain ⟨rfl, rfl⟩ := hrel
      go_wp2
      go_end0
      exact ⟨rfl, rfl⟩

set_option maxRecDepth 100000 in
set_option maxHeartbeats 400000 in
theorem stableF_anyQ (O : Ordr ReqB) (ok : ReqB → Prop) (hcmp : CmpOKQ O ok) (w0 : World) (g c n : Nat) (w : World) (xs : List ReqB) (hw : Work reqR 50 w0 g c n w xs) (hs : Each ok xs) (hn : n ≤ 1000) :
    Calls Tryz.prog 21 #[.slice (some ⟨g, 0, none⟩) n c, cmpVQ] w (fun e w' => e = .returned (.tuple #[]) ∧ ∃ ys, Rises O ys ∧ Kept O xs ys ∧ Work reqR 50 w0 g c n w' ys) := by
  have HX := Lib.hid (stable_anyQ O ok hcmp w0 g c n w xs hw hs hn)
  clear hw hs
  unfold cmpVQ
  go_enter Tryz.func21, Tryz.ntmps21
  go_wp2_with fail
  refine HX.out.mono ?_
  rintro _ w1 ⟨rfl, ys, h1, h2, h3⟩
  have H1 := Lib.hid h1
  have H2 := Lib.hid h2
  clear h1 h2
  go_wp2
  go_end0
  exact ⟨rfl, ys, H1.out, H2.out, h3⟩

set_option maxRecDepth 100000 in
set_option maxHeartbeats 400000 in
theorem stableF_noneQ (c : Nat) (w : World) : Calls Tryz.prog 21 #[.slice none 0 c, cmpVQ] w (fun e w' => e = .returned (.tuple #[]) ∧ w' = w) := by
  unfold cmpVQ
  go_enter Tryz.func21, Tryz.ntmps21
  go_wp2_with fail
  refine (stable_noneQ c _).mono ?_
  rintro _ w1 ⟨rfl, rfl⟩
  go_wp2
  go_end0
  exact ⟨rfl, rfl⟩

end Go.Proofs.YtmdlmjcejeejfaaGreatDoor

/-
  The stable sort at ModB: two parts change places (swapRange, rotate).
-/
set_option linter.unusedVariables false
set_option linter.unusedSimpArgs false
namespace Go.Proofs.YtmdlmjcejeejfaaGreatDoor
open Go.RowKit Go.Shelf

def cmpVX : Value := .func (.func 26) #[] #[]
/-- What is asked of the comparison. -/
def CmpOKX (O : Ordr ModB) (ok : ModB → Prop) : Prop := ∀ (x1 : ByteArray) (x2 : ByteArray) (z1 : ByteArray) (z2 : ByteArray) w, ok (x1, x2) → ok (z1, z2) → Calls Tryz.prog 26 #[.agg #[.string x1, .string x2], .agg #[.string z1, .string z2]] w (IntOut (O.c (x1, x2) (z1, z2)) w)
theorem wcellX {w0 w : World} {g c n : Nat} {xs : List ModB} (h : Work modR 41 w0 g c n w xs) {i : Nat} {x1 : ByteArray} {x2 : ByteArray} (hi : xs[i]? = some (x1, x2)) : w.cell? ⟨g, i * 2, none⟩ = some (.string x1) ∧ w.cell? ⟨g, i * 2 + 1, none⟩ = some (.string x2) := ⟨h.cells hi 0 _ rfl, h.cells hi 1 _ rfl⟩
theorem wswapX {w0 w : World} {g c n : Nat} {P M S : List ModB} (x1 : ByteArray) (x2 : ByteArray) (y1 : ByteArray) (y2 : ByteArray) (h : Work modR 41 w0 g c n w (P ++ (x1, x2) :: M ++ (y1, y2) :: S)) : Work modR 41 w0 g c n ((((w.setCell ⟨g, P.length * 2, none⟩ (.string y1)).setCell ⟨g, P.length * 2 + 1, none⟩ (.string y2)).setCell ⟨g, (P.length + 1 + M.length) * 2, none⟩ (.string x1)).setCell ⟨g, (P.length + 1 + M.length) * 2 + 1, none⟩ (.string x2)) (P ++ (y1, y2) :: M ++ (x1, x2) :: S) := h.swap
theorem wswapX' {w0 w : World} {g c n : Nat} {P M S : List ModB} (x1 : ByteArray) (x2 : ByteArray) (y1 : ByteArray) (y2 : ByteArray) (h : Work modR 41 w0 g c n w (P ++ (x1, x2) :: M ++ (y1, y2) :: S)) : Work modR 41 w0 g c n ((((w.setCell ⟨g, (P.length + 1 + M.length) * 2, none⟩ (.string x1)).setCell ⟨g, (P.length + 1 + M.length) * 2 + 1, none⟩ (.string x2)).setCell ⟨g, P.length * 2, none⟩ (.string y1)).setCell ⟨g, P.length * 2 + 1, none⟩ (.string y2)) (P ++ (y1, y2) :: M ++ (x1, x2) :: S) := h.swap'

set_option maxRecDepth 100000 in
set_option maxHeartbeats 4000000 in
theorem swapRange_anyX (w0 : World) (g c n : Nat) (w : World) (P A M C S : List ModB) (hw : Work modR 41 w0 g c n w (P ++ A ++ M ++ C ++ S)) (hc : C.length = A.length) (a b m : Nat) (ha : a = P.length) (hb : b = P.length + A.length + M.length) (hm : m = A.length) (hn : n ≤ 1000) :
    Calls Tryz.prog 193 #[.slice (some ⟨g, 0, none⟩) n c, .int .i64 a, .int .i64 b, .int .i64 m, cmpVX] w (DoneOut modR 41 w0 g c n (P ++ C ++ M ++ A ++ S)) := by
  have hlen := hw.len
  simp only [List.length_append] at hlen
  have hbn : b + m ≤ n := by omega
  have hab : a + m ≤ b := by omega
  have HW := Lib.hid hw
  have HN := Lib.hid (fun ys k (h : SwapAt P A M C S k ys) (hk : k < m) => h.next (by omega) hc)
  have H0 := Lib.hid (show SwapAt P A M C S 0 (P ++ A ++ M ++ C ++ S) by simp [SwapAt])
  have HE := Lib.hid (fun ys k (h : SwapAt P A M C S k ys) (hk : k = m) => show ys = P ++ C ++ M ++ A ++ S by subst hk; rw [h, hm, List.take_of_length_le (Nat.le_of_eq hc), List.take_length, List.drop_length, List.drop_of_length_le (Nat.le_of_eq hc)]; simp)
  have HA := Lib.hid ha
  have HB := Lib.hid hb
  clear hw hlen ha hb hm hc
  unfold cmpVX
  go_enter Tryz.func193, Tryz.ntmps193
  go_wp2
  go_loopw [10] (fun i wr => ∃ (k : Nat) (ys : List ModB), k ≤ m ∧ i = .int .i64 k ∧ SwapAt P A M C S k ys ∧ Work modR 41 w0 g c n wr ys) (fun i _ => m - (intOf i).toNat)
  case atStart => exact ⟨0, _, Nat.zero_le _, rfl, H0.out, HW.out⟩
  case round =>
    obtain ⟨k, ys, hk, rfl, hsw, hwk⟩ := hrel
    by_cases hlt : k < m
    · obtain ⟨P', M', S', ⟨x1, x2⟩, ⟨y1, y2⟩, rfl, h1, h2, h3⟩ := HN.out ys k hsw hlt
      have d1 : P'.length = a + k := by rw [h1, HA.out]
      have d2 : P'.length + 1 + M'.length = b + k := by rw [h2, HB.out]
      obtain ⟨q0, q1⟩ := wcellX hwk (at_two P' M' S' _ _).1
      obtain ⟨r0, r1⟩ := wcellX hwk (at_two P' M' S' _ _).2
      have HS := Lib.hid (wswapX x1 x2 y1 y2 hwk)
      rw [d2] at r0 r1 HS
      rw [d1] at q0 q1 HS
      have f0 := hwk.frozen ((a + k) * 2)
      have f1 := hwk.frozen ((a + k) * 2 + 1)
      have e0 := hwk.frozen ((b + k) * 2)
      have e1 := hwk.frozen ((b + k) * 2 + 1)
      have t1 : ((a : Int) + (k : Int)).toNat = a + k := by omega
      have t2 : ((b : Int) + (k : Int)).toNat = b + k := by omega
      have i1 : (0 : Int) ≤ (a : Int) + (k : Int) := by omega
      have i2 : (a : Int) + (k : Int) < (n : Int) := by omega
      have i3 : (0 : Int) ≤ (b : Int) + (k : Int) := by omega
      have i4 : (b : Int) + (k : Int) < (n : Int) := by omega
      have H3 := Lib.hid h3
      clear hsw h1 h2 h3 hwk d1 d2
      go_wp2
      go_region
      go_wp2
      go_roundw
      case rel => exact ⟨k + 1, _, by omega, by go_num, H3.out, HS.out.drew⟩
      case measure => simp [intOf]; omega
    · have HEE := Lib.hid (HE.out ys k hsw (by omega))
      clear hsw
      go_wp2
      go_end0
      rw [← HEE.out]
      exact ⟨rfl, hwk⟩
set_option maxRecDepth 100000 in
set_option maxHeartbeats 4000000 in
theorem rotate_anyX (w0 : World) (g c n : Nat) (w : World) (P A C S : List ModB) (hw : Work modR 41 w0 g c n w (P ++ A ++ C ++ S)) (a m b : Nat) (ha : a = P.length) (hm : m = P.length + A.length) (hb : b = P.length + A.length + C.length) (h1 : a < m) (h2 : m < b) (hn : n ≤ 1000) :
    Calls Tryz.prog 164 #[.slice (some ⟨g, 0, none⟩) n c, .int .i64 a, .int .i64 m, .int .i64 b, cmpVX] w (DoneOut modR 41 w0 g c n (P ++ C ++ A ++ S)) := by
  have hlen := hw.len
  simp only [List.length_append] at hlen
  have hbn : b ≤ n := by omega
  have H0 := Lib.hid (show RotAt (P ++ C ++ A ++ S) m (m - a) (b - m) (P ++ A ++ C ++ S) from ⟨P, A, C, S, rfl, rfl, by omega, by omega, by omega⟩)
  generalize P ++ C ++ A ++ S = T at *
  have HW := Lib.hid hw
  clear hw hlen ha hb hm
  have ew1 : ((m : Int) - (a : Int)) = ((m - a : Nat) : Int) := by omega
  have ew2 : ((b : Int) - (m : Int)) = ((b - m : Nat) : Int) := by omega
  go_enter Tryz.func164, Tryz.ntmps164
  go_wp2
  go_loopw [10, 11] (fun i j wr => ∃ (k l : Nat) (ys : List ModB), 0 < k ∧ 0 < l ∧ k ≤ m ∧ m + l ≤ b ∧ i = .int .i64 k ∧ j = .int .i64 l ∧ RotAt T m k l ys ∧ Work modR 41 w0 g c n wr ys) (fun i j _ => (intOf i + intOf j).toNat)
  case atStart => exact ⟨m - a, b - m, _, by omega, by omega, by omega, by omega, by go_num, by go_num, H0.out, HW.out⟩
  case round =>
    obtain ⟨k, l, ys, hk0, hl0, hkm, hlb, rfl, rfl, hr, hwk⟩ := hrel
    have ek : ((m : Int) - (k : Int)) = ((m - k : Nat) : Int) := by omega
    by_cases heq : k = l
    · subst heq
      obtain ⟨P, A, M, C, S, rfl, q1, q2, q3, q4, q5⟩ := hr.last
      have HX := Lib.hid (swapRange_anyX w0 g c n _ P A M C S hwk q1 (m - k) m k q2 q3 q4 hn)
      rw [q5] at HX
      clear hr q1 q2 q3 q4 q5 hwk
      go_wp2_with fail
      refine HX.out.mono ?_
      rintro _ w1 ⟨rfl, hd⟩
      go_wp2
      go_end0
      exact ⟨rfl, hd⟩
    · by_cases hlt : l < k
      · obtain ⟨P, A, M, C, S, rfl, q1, q2, q3, q4, q5⟩ := hr.more hlt
        have HX := Lib.hid (swapRange_anyX w0 g c n _ P A M C S hwk q1 (m - k) m l q2 q3 q4 hn)
        have H5 := Lib.hid q5
        clear hr q1 q2 q3 q4 q5 hwk
        generalize P ++ C ++ M ++ A ++ S = zs at *
        go_wp2_with fail
        refine HX.out.mono ?_
        rintro _ w1 ⟨rfl, hd⟩
        go_wp2
        go_roundw
        case rel => exact ⟨k - l, l, zs, by omega, by omega, by omega, by omega, by go_num, rfl, H5.out, hd⟩
        case measure => simp [intOf]; omega
      · obtain ⟨P, A, M, C, S, rfl, q1, q2, q3, q4, q5⟩ := hr.less (by omega)
        have HX := Lib.hid (swapRange_anyX w0 g c n _ P A M C S hwk q1 (m - k) (m + l - k) k q2 q3 q4 hn)
        have H5 := Lib.hid q5
        clear hr q1 q2 q3 q4 q5 hwk
        generalize P ++ C ++ M ++ A ++ S = zs at *
        have ek2 : ((m : Int) + (l : Int) - (k : Int)) = ((m + l - k : Nat) : Int) := by omega
        go_wp2_with fail
        refine HX.out.mono ?_
        rintro _ w1 ⟨rfl, hd⟩
        go_wp2
        go_roundw
        case rel => exact ⟨k, l - k, zs, by omega, by omega, by omega, by omega, rfl, by go_num, H5.out, hd⟩
        case measure => simp [intOf]; omega
end Go.Proofs.YtmdlmjcejeejfaaGreatDoor

/-
  The stable sort at ModB: the insertion sort of a part.
-/
set_option linter.unusedVariables false
set_option linter.unusedSimpArgs false
namespace Go.Proofs.YtmdlmjcejeejfaaGreatDoor
open Go.RowKit Go.Shelf

set_option maxRecDepth 100000 in
set_option maxHeartbeats 4000000 in
theorem insertion_anyX (O : Ordr ModB) (ok : ModB → Prop) (hcmp : CmpOKX O ok) (w0 : World) (g c n : Nat) (w : World) (P A S : List ModB) (hw : Work modR 41 w0 g c n w (P ++ A ++ S)) (hs : Each ok (P ++ A ++ S)) (a b : Nat) (ha : a = P.length) (hb : b = P.length + A.length) (hn : n ≤ 1000) :
    Calls Tryz.prog 113 #[.slice (some ⟨g, 0, none⟩) n c, .int .i64 a, .int .i64 b, cmpVX] w (fun e w' => e = .returned (.tuple #[]) ∧ ∃ ys, Parted O P A S ys ∧ Each ok ys ∧ Work modR 41 w0 g c n w' ys) := by
  have hlen := hw.len
  simp only [List.length_append] at hlen
  have hbn : b ≤ n := by omega
  have HW := Lib.hid hw
  have HCMP := Lib.hid hcmp
  clear hcmp
  have HSh := Lib.hid hs
  clear hs
  have H0 := Lib.hid (SortAt.start (O := O) P A S)
  have HN := Lib.hid (fun ys k (h : SortAt O P A S k ys) (hk : a + k < b) => h.next (by omega))
  have HD := Lib.hid (fun ys k (h : SortAt O P A S k ys) (hk : b ≤ a + k) => h.done (by omega))
  have HA := Lib.hid ha
  have hab : a ≤ b := by omega
  clear hw hlen ha hb
  unfold cmpVX
  go_enter Tryz.func113, Tryz.ntmps113
  go_wp2
  go_loopw [8] (fun i wr => ∃ (k : Nat) (ys : List ModB), 1 ≤ k ∧ (k = 1 ∨ a + k ≤ b) ∧ i = .int .i64 ((a + k : Nat) : Int) ∧ SortAt O P A S k ys ∧ Each ok ys ∧ Work modR 41 w0 g c n wr ys) (fun i _ => b + 1 - (intOf i).toNat)
  case atStart => exact ⟨1, _, Nat.le_refl _, .inl rfl, by go_num, H0.out, HSh.out, HW.out⟩
  case round =>
    obtain ⟨k, ys, hk1, hkb, rfl, hso, hsy, hwk⟩ := hrel
    have HSO := Lib.hid hso
    have HSY := Lib.hid hsy
    clear hso hsy
    obtain ⟨ik, hik⟩ : ∃ ik, a + k = ik := ⟨_, rfl⟩
    rw [hik] at hkb ⊢
    by_cases hlt : ik < b
    · obtain ⟨A1, ⟨x1, x2⟩, S', hr1, hia, hfin⟩ := HN.out ys k HSO.out (by omega)
      have HR1 := Lib.hid hr1
      have HIA := Lib.hid (show InsAt O P A1 (x1, x2) S' ik ys by rw [← hik, HA.out]; exact hia)
      have HF := Lib.hid hfin
      clear hr1 hia hfin
      go_wp2
      go_loopw [9] (fun j wi => ∃ (jn : Nat) (zs : List ModB), a ≤ jn ∧ jn ≤ ik ∧ j = .int .i64 jn ∧ InsAt O P A1 (x1, x2) S' jn zs ∧ Each ok zs ∧ Work modR 41 w0 g c n wi zs) (fun j _ => (intOf j).toNat)
      case atStart => exact ⟨ik, ys, by omega, Nat.le_refl _, rfl, HIA.out, HSY.out, hwk⟩
      case round =>
        obtain ⟨jn, zs, hj1, hj2, rfl, hins, hsz, hwi⟩ := hrel
        by_cases hja : a < jn
        · obtain ⟨P', ⟨z1, z2⟩, S'', rfl, hj, hyes, hno⟩ := hins.next HR1.out (by rw [← HA.out]; exact hja)
          have HY := Lib.hid hyes
          have HNo := Lib.hid hno
          have e2 : P'.length + 1 + ([] : List ModB).length = jn := by simp; omega
          have sx : ok (x1, x2) := hsz _ (by simp)
          have sz : ok (z1, z2) := hsz _ (by simp)
          have HZ := Lib.hid hsz
          have HZ2 := Lib.hid (each_swap hsz)
          have HC := Lib.hid (fun w' (h : Work modR 41 w0 g c n w' (P' ++ (z1, z2) :: [] ++ (x1, x2) :: S'')) => And.intro (wcellX h (at_two P' [] S'' _ _).1) (wcellX h (at_two P' [] S'' _ _).2))
          have HSw := Lib.hid (fun w' (h : Work modR 41 w0 g c n w' (P' ++ (z1, z2) :: [] ++ (x1, x2) :: S'')) => wswapX' z1 z2 x1 x2 h)
          clear hyes hno hsz hins
          obtain ⟨jm, e1⟩ : ∃ jm, P'.length = jm := ⟨_, rfl⟩
          rw [e2] at HC HSw
          rw [e1] at HC HSw HY
          have HJ := Lib.hid (show jn = jm + 1 by omega)
          have t1 : (jn : Int) - 1 = (jm : Int) := by omega
          have t2 : jm < n := by omega
          have t3 : jn < n := by omega
          have t4 : (jm : Int) < (n : Int) := by omega
          have t5 : (jn : Int) < (n : Int) := by omega
          have t6 : IntKind.i64.wrap (jm : Int) = (jm : Int) := IntWalk.i64_in _ (by omega)
          clear hj e1 e2
          obtain ⟨⟨q0, q1⟩, ⟨r0, r1⟩⟩ := HC.out _ hwi
          have hgz := hwi.lt
          by_cases hcm : O.c (x1, x2) (z1, z2) < 0
          · go_wp2
            go_region_held3 (fun w' => w'.cell? ⟨g, jn * 2, none⟩ = some (.string x1) ∧ w'.cell? ⟨g, jn * 2 + 1, none⟩ = some (.string x2) ∧ w'.cell? ⟨g, jm * 2, none⟩ = some (.string z1) ∧ w'.cell? ⟨g, jm * 2 + 1, none⟩ = some (.string z2))
              (first | go_keep | with_reducible exact K2.out)
              (first | (go_at_call 26; refine (HCMP.out x1 x2 z1 z2 _ sx sz).mono ?_; rintro e w2 ⟨rfl, hb2'⟩; have hb2 := below_drewN' (n := 1) hb2'; have K2 := Lib.hid (And.intro ((hb2.cell (p := ⟨g, jn * 2, none⟩) hgz).trans r0) (And.intro ((hb2.cell (p := ⟨g, jn * 2 + 1, none⟩) hgz).trans r1) (And.intro ((hb2.cell (p := ⟨g, jm * 2, none⟩) hgz).trans q0) ((hb2.cell (p := ⟨g, jm * 2 + 1, none⟩) hgz).trans q1))))))
            rename_i hheld
            clear hheld K2 hb2'
            have hw2 := hwi.call hb2
            obtain ⟨⟨p0, p1⟩, ⟨o0, o1⟩⟩ := HC.out _ hw2
            have f0 := hw2.frozen (jn * 2)
            have f1 := hw2.frozen (jn * 2 + 1)
            have e0 := hw2.frozen (jm * 2)
            have e1 := hw2.frozen (jm * 2 + 1)
            have HSS := Lib.hid (HSw.out _ hw2)
            clear hb2 q0 q1 r0 r1 hgz hwi
            go_wp2
            go_region
            go_wp2
            go_roundw
            case rel => exact ⟨jm, _, by have := HJ.out; omega, by have := HJ.out; omega, by go_num, HY.out hcm, HZ2.out, HSS.out.drew⟩
            case measure => have := HJ.out; simp [intOf]; omega
          · go_wp2
            go_region_held3 (fun w' => w'.cell? ⟨g, jn * 2, none⟩ = some (.string x1) ∧ w'.cell? ⟨g, jn * 2 + 1, none⟩ = some (.string x2) ∧ w'.cell? ⟨g, jm * 2, none⟩ = some (.string z1) ∧ w'.cell? ⟨g, jm * 2 + 1, none⟩ = some (.string z2))
              (first | go_keep | with_reducible exact K2.out)
              (first | (go_at_call 26; refine (HCMP.out x1 x2 z1 z2 _ sx sz).mono ?_; rintro e w2 ⟨rfl, hb2'⟩; have hb2 := below_drewN' (n := 1) hb2'; have K2 := Lib.hid (And.intro ((hb2.cell (p := ⟨g, jn * 2, none⟩) hgz).trans r0) (And.intro ((hb2.cell (p := ⟨g, jn * 2 + 1, none⟩) hgz).trans r1) (And.intro ((hb2.cell (p := ⟨g, jm * 2, none⟩) hgz).trans q0) ((hb2.cell (p := ⟨g, jm * 2 + 1, none⟩) hgz).trans q1))))))
            rename_i hheld
            clear hheld K2 hb2'
            have hw2 := hwi.call hb2
            have HP := Lib.hid (HF.out _ (HNo.out hcm))
            clear hb2 q0 q1 r0 r1 hgz hwi
            go_wp2
            go_roundw
            case rel => exact ⟨k + 1, _, by omega, by omega, by go_num, HP.out, HZ.out, hw2⟩
            case measure => simp [intOf]; omega
        · have HP := Lib.hid (HF.out _ (hins.low HR1.out (by rw [← HA.out]; omega)))
          have HZ := Lib.hid hsz
          have hjd : jn = a := by omega
          subst hjd
          clear hins hsz
          go_wp2
          go_quiet (fail)
          go_wp2
          go_roundw
          case rel => exact ⟨k + 1, _, by omega, by omega, by go_num, HP.out, HZ.out, hwi.drewN _⟩
          case measure => simp [intOf]; omega
    · have HP := Lib.hid (HD.out _ _ HSO.out (by omega))
      go_wp2
      go_end0
      exact ⟨rfl, _, HP.out, HSY.out, hwk⟩
end Go.Proofs.YtmdlmjcejeejfaaGreatDoor

/-
  The stable sort at ModB: merges of one with a part.
-/
set_option linter.unusedVariables false
set_option linter.unusedSimpArgs false
namespace Go.Proofs.YtmdlmjcejeejfaaGreatDoor
open Go.RowKit Go.Shelf

set_option maxRecDepth 100000 in
set_option maxHeartbeats 4000000 in
theorem merge_firstX (O : Ordr ModB) (ok : ModB → Prop) (hcmp : CmpOKX O ok) (w0 : World) (g c n : Nat) (w : World) (P : List ModB) (x : ModB) (C S : List ModB) (hw : Work modR 41 w0 g c n w (P ++ [x] ++ C ++ S)) (hs : Each ok (P ++ [x] ++ C ++ S)) (hc : Rises O C) (a m b : Nat) (ha : a = P.length) (hm : m = P.length + 1) (hb : b = P.length + 1 + C.length) (hn : n ≤ 1000) :
    Calls Tryz.prog 114 #[.slice (some ⟨g, 0, none⟩) n c, .int .i64 a, .int .i64 m, .int .i64 b, cmpVX] w (MergeOut modR 41 O ok w0 g c n P (x :: C) S) := by
  obtain ⟨x1, x2⟩ := x
  have hlen := hw.len
  simp only [List.length_append, List.length_singleton] at hlen
  have hbn : b ≤ n := by omega
  have HW := Lib.hid hw
  have HCMP := Lib.hid hcmp
  clear hcmp
  have HSh := Lib.hid hs
  have HMo := Lib.hid (first_mono (P := P) (x := (x1, x2)) (S := S) hc)
  have HCu := Lib.hid (fun e => first_cut (P := P) (x := (x1, x2)) (S := S) (e := e) hc)
  have HU0 := Lib.hid (show UpAt P (x1, x2) C S 0 (P ++ [(x1, x2)] ++ C ++ S) by simp [UpAt])
  have sx : ok (x1, x2) := hs _ (by simp)
  have qx : (P ++ [(x1, x2)] ++ C ++ S)[a]? = some (x1, x2) := by rw [ha]; simp
  have HX := Lib.hid (fun w' (h : Work modR 41 w0 g c n w' (P ++ [(x1, x2)] ++ C ++ S)) => wcellX h qx)
  have HA := Lib.hid ha
  have HM := Lib.hid hm
  have HB := Lib.hid hb
  have hcl : b = m + C.length := by omega
  have HCL := Lib.hid hcl
  have hma : m = a + 1 := by omega
  have HMA := Lib.hid hma
  have hmb : m ≤ b := by omega
  have han : a < n := by omega
  have hti : (m : Int) - (a : Int) = 1 := by omega
  have han' : (a : Int) < (n : Int) := by omega
  have HXS := Lib.hid (fun q => some_at (xs := P ++ [(x1, x2)] ++ C ++ S) (q := q))
  have HL := Lib.hid (show (P ++ [(x1, x2)] ++ C ++ S).length = n from hw.len)
  rw [← hm] at HMo HCu
  clear hw hlen ha hb hm hs hcl hma qx hc
  generalize hxs : P ++ [(x1, x2)] ++ C ++ S = xs at *
  have HQ := Lib.hid hxs
  clear hxs
  unfold cmpVX
  go_enter Tryz.func114, Tryz.ntmps114
  go_wp2
  go_loopw [10, 11] (fun i j wr => ∃ (k l : Nat), i = .int .i64 k ∧ j = .int .i64 l ∧ Sk (fun q => O.c (keyAt xs q) (x1, x2) < 0) m (m + C.length) k l ∧ Work modR 41 w0 g c n wr xs) (fun i j _ => (intOf j - intOf i).toNat)
  case atStart => exact ⟨m, b, rfl, rfl, by rw [HCL.out]; exact Sk.start _ (by omega), HW.out⟩
  case round =>
    obtain ⟨k, l, rfl, rfl, hsk, hwk⟩ := hrel
    have hk1 := hsk.a
    have hk2 := hsk.b
    have hk3 := hsk.c
    rw [← HCL.out] at hk3
    by_cases hlt : k < l
    · obtain ⟨h, hh⟩ : ∃ h, (k + l) / 2 = h := ⟨_, rfl⟩
      obtain ⟨⟨z1, z2⟩, qz, ez⟩ := HXS.out ((k + l) / 2) (by rw [HL.out]; omega)
      obtain ⟨q0, q1⟩ := wcellX hwk qz
      obtain ⟨r0, r1⟩ := HX.out _ hwk
      have sz : ok (z1, z2) := HSh.out _ (List.mem_of_getElem? qz)
      have hgz := hwk.lt
      have hb1 : (k + l) / 2 < n := by omega
      have hb3 : (0 : Int) ≤ ((k : Int) + (l : Int)) / 2 := by omega
      have hb4 : ((k : Int) + (l : Int)) / 2 < (n : Int) := by omega
      have hb5 : (0 : Int) ≤ (a : Int) := by omega
      have hb6 : (((k : Int) + (l : Int)) / 2).toNat = (k + l) / 2 := by omega
      have HUp := Lib.hid (fun e => hsk.up HMo.out (h := (k + l) / 2) (by omega) (by omega) e)
      have HDn := Lib.hid (fun e => hsk.down HMo.out (h := (k + l) / 2) (by omega) (by omega) e)
      simp only [← ez] at HUp HDn
      clear hsk qz ez hh
      by_cases hcm : O.c (z1, z2) (x1, x2) < 0
      · go_wp2
        go_region_held3 (fun w' => w'.cell? ⟨g, (k + l) / 2 * 2, none⟩ = some (.string z1) ∧ w'.cell? ⟨g, (k + l) / 2 * 2 + 1, none⟩ = some (.string z2) ∧ w'.cell? ⟨g, a * 2, none⟩ = some (.string x1) ∧ w'.cell? ⟨g, a * 2 + 1, none⟩ = some (.string x2))
          (first | go_keep | with_reducible exact K2.out)
          (first | (go_at_call 26; refine (HCMP.out z1 z2 x1 x2 _ sz sx).mono ?_; rintro e w2 ⟨rfl, hb2'⟩; have hb2 := below_drewN' (n := 1) hb2'; have K2 := Lib.hid (And.intro ((hb2.cell (p := ⟨g, (k + l) / 2 * 2, none⟩) hgz).trans q0) (And.intro ((hb2.cell (p := ⟨g, (k + l) / 2 * 2 + 1, none⟩) hgz).trans q1) (And.intro ((hb2.cell (p := ⟨g, a * 2, none⟩) hgz).trans r0) ((hb2.cell (p := ⟨g, a * 2 + 1, none⟩) hgz).trans r1))))))
        rename_i hheld
        clear hheld K2 hb2'
        have hw2 := hwk.call hb2
        have HP := Lib.hid (HUp.out hcm)
        clear hb2 q0 q1 r0 r1 hgz hwk
        go_wp2
        go_roundw
        case rel => exact ⟨(k + l) / 2 + 1, l, by go_num, rfl, HP.out, hw2⟩
        case measure => simp [intOf]; omega
      · go_wp2
        go_region_held3 (fun w' => w'.cell? ⟨g, (k + l) / 2 * 2, none⟩ = some (.string z1) ∧ w'.cell? ⟨g, (k + l) / 2 * 2 + 1, none⟩ = some (.string z2) ∧ w'.cell? ⟨g, a * 2, none⟩ = some (.string x1) ∧ w'.cell? ⟨g, a * 2 + 1, none⟩ = some (.string x2))
          (first | go_keep | with_reducible exact K2.out)
          (first | (go_at_call 26; refine (HCMP.out z1 z2 x1 x2 _ sz sx).mono ?_; rintro e w2 ⟨rfl, hb2'⟩; have hb2 := below_drewN' (n := 1) hb2'; have K2 := Lib.hid (And.intro ((hb2.cell (p := ⟨g, (k + l) / 2 * 2, none⟩) hgz).trans q0) (And.intro ((hb2.cell (p := ⟨g, (k + l) / 2 * 2 + 1, none⟩) hgz).trans q1) (And.intro ((hb2.cell (p := ⟨g, a * 2, none⟩) hgz).trans r0) ((hb2.cell (p := ⟨g, a * 2 + 1, none⟩) hgz).trans r1))))))
        rename_i hheld
        clear hheld K2 hb2'
        have hw2 := hwk.call hb2
        have HP := Lib.hid (HDn.out hcm)
        clear hb2 q0 q1 r0 r1 hgz hwk
        go_wp2
        go_roundw
        case rel => exact ⟨k, (k + l) / 2, rfl, by go_num, HP.out, hw2⟩
        case measure => simp [intOf]; omega
    · obtain rfl : k = l := by omega
      obtain ⟨e, rfl⟩ : ∃ e, k = m + e := ⟨k - m, by omega⟩
      have HR := Lib.hid (HCu.out e hsk)
      have hsub : ((m + e : Nat) : Int) - 1 = ((a + e : Nat) : Int) := by have := HMA.out; omega
      obtain ⟨ke, hke⟩ : ∃ ke, m + e = ke := ⟨_, rfl⟩
      have hae : a + e + 1 = ke := by have := HMA.out; omega
      have heC : e ≤ C.length := by have := HCL.out; omega
      rw [hke] at hsub hk1 hk2 hk3 ⊢
      have hsub' : (ke : Int) - 1 = (a : Int) + (e : Int) := by omega
      have HUN := Lib.hid (fun ys r (h : UpAt P (x1, x2) C S r ys) (hr : r < e) => h.next (by omega))
      clear hsk hsub
      go_wp2
      go_loopw [13] (fun i wr => ∃ (r : Nat) (ys : List ModB), r ≤ e ∧ i = .int .i64 ((a + r : Nat) : Int) ∧ UpAt P (x1, x2) C S r ys ∧ Each ok ys ∧ Work modR 41 w0 g c n wr ys) (fun i _ => (a + e) - (intOf i).toNat)
      case atStart => exact ⟨0, xs, Nat.zero_le _, rfl, HU0.out, HSh.out, hwk⟩
      case round =>
        obtain ⟨r, ys, hre, rfl, hup, hsy, hwy⟩ := hrel
        by_cases hrl : r < e
        · obtain ⟨P', ⟨y1, y2⟩, S', rfl, hl, hup2⟩ := HUN.out ys r hup hrl
          have HS2 := Lib.hid (each_swap hsy)
          have HU2 := Lib.hid hup2
          have d1 : P'.length = a + r := by rw [hl, HA.out]
          have d2 : P'.length + 1 + ([] : List ModB).length = a + r + 1 := by simp [d1]
          obtain ⟨⟨q0, q1⟩, ⟨r0, r1⟩⟩ := And.intro (wcellX hwy (at_two P' [] S' _ _).1) (wcellX hwy (at_two P' [] S' _ _).2)
          have HSw := Lib.hid (wswapX x1 x2 y1 y2 hwy)
          rw [d2] at r0 r1 HSw
          rw [d1] at q0 q1 HSw
          obtain ⟨jm, hjm⟩ : ∃ jm, a + r = jm := ⟨_, rfl⟩
          rw [hjm] at q0 q1 r0 r1 HSw ⊢
          obtain ⟨jn, hjn⟩ : ∃ jn, jm + 1 = jn := ⟨_, rfl⟩
          rw [hjn] at r0 r1 HSw
          have t1 : (jm : Int) + 1 = (jn : Int) := by omega
          have t2 : (jm : Int) < (n : Int) := by omega
          have t3 : (jn : Int) < (n : Int) := by omega
          have t5 : jm < n := by omega
          have t6 : jn < n := by omega
          have t4 : IntKind.i64.wrap (jn : Int) = (jn : Int) := IntWalk.i64_in _ (by omega)
          have t7 : (jm : Int) < (a : Int) + (e : Int) := by omega
          have f0 := hwy.frozen (jn * 2)
          have f1 := hwy.frozen (jn * 2 + 1)
          have e0 := hwy.frozen (jm * 2)
          have e1 := hwy.frozen (jm * 2 + 1)
          have HJN := Lib.hid hjn
          clear hup hsy hl hup2 hwy d1 d2 hjn
          go_wp2
          go_region
          go_wp2
          go_roundw
          case rel => exact ⟨r + 1, _, by omega, by go_num, HU2.out, HS2.out, HSw.out.drew⟩
          case measure => have := HJN.out; simp [intOf]; omega
        · obtain rfl : r = e := by omega
          have HS2 := Lib.hid hsy
          have HU2 := Lib.hid hup
          clear hup hsy
          go_wp2
          go_end0
          exact ⟨rfl, ys, ⟨_, HR.out.1, HR.out.2, by rw [HU2.out]; simp⟩, HS2.out, hwy⟩

set_option maxRecDepth 100000 in
set_option maxHeartbeats 4000000 in
theorem merge_lastX (O : Ordr ModB) (ok : ModB → Prop) (hcmp : CmpOKX O ok) (w0 : World) (g c n : Nat) (w : World) (P A : List ModB) (y : ModB) (S : List ModB) (hw : Work modR 41 w0 g c n w (P ++ A ++ [y] ++ S)) (hs : Each ok (P ++ A ++ [y] ++ S)) (hA : Rises O A) (h2 : A.length ≠ 1) (a m b : Nat) (ha : a = P.length) (hm : m = P.length + A.length) (hb : b = P.length + A.length + 1) (hn : n ≤ 1000) :
    Calls Tryz.prog 114 #[.slice (some ⟨g, 0, none⟩) n c, .int .i64 a, .int .i64 m, .int .i64 b, cmpVX] w (MergeOut modR 41 O ok w0 g c n P (A ++ [y]) S) := by
  obtain ⟨y1, y2⟩ := y
  have hlen := hw.len
  simp only [List.length_append, List.length_singleton] at hlen
  have hbn : b ≤ n := by omega
  have HW := Lib.hid hw
  have HCMP := Lib.hid hcmp
  clear hcmp
  have HSh := Lib.hid hs
  have HMo := Lib.hid (show ∀ q r, P.length ≤ q → q ≤ r → r < P.length + A.length → NotLess O (y1, y2) (keyAt (P ++ A ++ [(y1, y2)] ++ S) r) → NotLess O (y1, y2) (keyAt (P ++ A ++ [(y1, y2)] ++ S) q) from second_mono (P := P) (y := (y1, y2)) (S := S) hA)
  have HCu := Lib.hid (fun s (h : Sk (fun q => NotLess O (y1, y2) (keyAt (P ++ A ++ [(y1, y2)] ++ S) q)) P.length (P.length + A.length) (P.length + s) (P.length + s)) => second_cut (P := P) (y := (y1, y2)) (S := S) (s := s) hA h)
  have HU0 := Lib.hid (show DownAt P A (y1, y2) S A.length (P ++ A ++ [(y1, y2)] ++ S) by simp [DownAt])
  have sy : ok (y1, y2) := hs _ (by simp)
  have qy : (P ++ A ++ [(y1, y2)] ++ S)[m]? = some (y1, y2) := by
    rw [hm, show P ++ A ++ [(y1, y2)] ++ S = (P ++ A) ++ (y1, y2) :: S by simp, ← List.length_append, at_mid]
  have HX := Lib.hid (fun w' (h : Work modR 41 w0 g c n w' (P ++ A ++ [(y1, y2)] ++ S)) => wcellX h qy)
  have HA := Lib.hid ha
  have hcl : m = a + A.length := by omega
  have HCL := Lib.hid hcl
  have hma : a ≤ m := by omega
  have hmn : m < n := by omega
  have hti : ((m : Int) - (a : Int) == 1) = false := by
    rw [beq_eq_false_iff_ne]; omega
  have htj : (b : Int) - (m : Int) = 1 := by omega
  have hmn' : (m : Int) < (n : Int) := by omega
  have HXS := Lib.hid (fun q => some_at (xs := P ++ A ++ [(y1, y2)] ++ S) (q := q))
  have HL := Lib.hid (show (P ++ A ++ [(y1, y2)] ++ S).length = n from hw.len)
  rw [← ha] at HMo HCu
  clear hw hlen ha hb hm hs hcl qy hA h2
  generalize P ++ A ++ [(y1, y2)] ++ S = xs at *
  unfold cmpVX
  go_enter Tryz.func114, Tryz.ntmps114
  go_wp2
  go_loopw [14, 15] (fun i j wr => ∃ (k l : Nat), i = .int .i64 k ∧ j = .int .i64 l ∧ Sk (fun q => NotLess O (y1, y2) (keyAt xs q)) a (a + A.length) k l ∧ Work modR 41 w0 g c n wr xs) (fun i j _ => (intOf j - intOf i).toNat)
  case atStart => exact ⟨a, m, rfl, rfl, by rw [HCL.out]; exact Sk.start _ (by omega), HW.out⟩
  case round =>
    obtain ⟨k, l, rfl, rfl, hsk, hwk⟩ := hrel
    have hk1 := hsk.a
    have hk2 := hsk.b
    have hk3 := hsk.c
    rw [← HCL.out] at hk3
    by_cases hlt : k < l
    · obtain ⟨⟨z1, z2⟩, qz, ez⟩ := HXS.out ((k + l) / 2) (by rw [HL.out]; omega)
      obtain ⟨q0, q1⟩ := wcellX hwk qz
      obtain ⟨r0, r1⟩ := HX.out _ hwk
      have sz : ok (z1, z2) := HSh.out _ (List.mem_of_getElem? qz)
      have hgz := hwk.lt
      have hb1 : (k + l) / 2 < n := by omega
      have hb3 : (0 : Int) ≤ ((k : Int) + (l : Int)) / 2 := by omega
      have hb4 : ((k : Int) + (l : Int)) / 2 < (n : Int) := by omega
      have hb5 : (0 : Int) ≤ (m : Int) := by omega
      have hb6 : (((k : Int) + (l : Int)) / 2).toNat = (k + l) / 2 := by omega
      have HUp := Lib.hid (fun e => hsk.up HMo.out (h := (k + l) / 2) (by omega) (by omega) e)
      have HDn := Lib.hid (fun (e : O.c (y1, y2) (keyAt xs ((k + l) / 2)) < 0) => hsk.down HMo.out (h := (k + l) / 2) (by omega) (by omega) (fun hq => hq e))
      rw [← ez] at HUp HDn
      clear hsk qz ez
      by_cases hcm : O.c (y1, y2) (z1, z2) < 0
      · have hcd : decide (O.c (y1, y2) (z1, z2) < 0) = true := decide_eq_true hcm
        have HCM := Lib.hid (HDn.out hcm)
        clear hcm HUp HDn
        go_wp2
        go_region_held3 (fun w' => w'.cell? ⟨g, (k + l) / 2 * 2, none⟩ = some (.string z1) ∧ w'.cell? ⟨g, (k + l) / 2 * 2 + 1, none⟩ = some (.string z2) ∧ w'.cell? ⟨g, m * 2, none⟩ = some (.string y1) ∧ w'.cell? ⟨g, m * 2 + 1, none⟩ = some (.string y2))
          (first | go_keep | with_reducible exact K2.out)
          (first | (go_at_call 26; refine (HCMP.out y1 y2 z1 z2 _ sy sz).mono ?_; rintro e w2 ⟨rfl, hb2'⟩; have hb2 := below_drewN' (n := 1) hb2'; have K2 := Lib.hid (And.intro ((hb2.cell (p := ⟨g, (k + l) / 2 * 2, none⟩) hgz).trans q0) (And.intro ((hb2.cell (p := ⟨g, (k + l) / 2 * 2 + 1, none⟩) hgz).trans q1) (And.intro ((hb2.cell (p := ⟨g, m * 2, none⟩) hgz).trans r0) ((hb2.cell (p := ⟨g, m * 2 + 1, none⟩) hgz).trans r1))))))
        rename_i hheld
        clear hheld K2 hb2'
        have hw2 := hwk.call hb2
        clear hb2 q0 q1 r0 r1 hgz hwk
        go_wp2
        go_roundw
        case rel => exact ⟨k, (k + l) / 2, rfl, by go_num, HCM.out, hw2⟩
        case measure => simp [intOf]; omega
      · have hcd : decide (O.c (y1, y2) (z1, z2) < 0) = false := decide_eq_false hcm
        have HCM := Lib.hid (HUp.out hcm)
        clear hcm HUp HDn
        go_wp2
        go_region_held3 (fun w' => w'.cell? ⟨g, (k + l) / 2 * 2, none⟩ = some (.string z1) ∧ w'.cell? ⟨g, (k + l) / 2 * 2 + 1, none⟩ = some (.string z2) ∧ w'.cell? ⟨g, m * 2, none⟩ = some (.string y1) ∧ w'.cell? ⟨g, m * 2 + 1, none⟩ = some (.string y2))
          (first | go_keep | with_reducible exact K2.out)
          (first | (go_at_call 26; refine (HCMP.out y1 y2 z1 z2 _ sy sz).mono ?_; rintro e w2 ⟨rfl, hb2'⟩; have hb2 := below_drewN' (n := 1) hb2'; have K2 := Lib.hid (And.intro ((hb2.cell (p := ⟨g, (k + l) / 2 * 2, none⟩) hgz).trans q0) (And.intro ((hb2.cell (p := ⟨g, (k + l) / 2 * 2 + 1, none⟩) hgz).trans q1) (And.intro ((hb2.cell (p := ⟨g, m * 2, none⟩) hgz).trans r0) ((hb2.cell (p := ⟨g, m * 2 + 1, none⟩) hgz).trans r1))))))
        rename_i hheld
        clear hheld K2 hb2'
        have hw2 := hwk.call hb2
        clear hb2 q0 q1 r0 r1 hgz hwk
        go_wp2
        go_roundw
        case rel => exact ⟨(k + l) / 2 + 1, l, by go_num, rfl, HCM.out, hw2⟩
        case measure => simp [intOf]; omega
    · obtain rfl : k = l := by omega
      obtain ⟨s, rfl⟩ : ∃ s, k = a + s := ⟨k - a, by omega⟩
      have HR := Lib.hid (HCu.out s hsk)
      obtain ⟨ks, hks⟩ : ∃ ks, a + s = ks := ⟨_, rfl⟩
      have hsA : s ≤ A.length := by have := HCL.out; omega
      rw [hks] at hk1 hk2 hk3 ⊢
      have HUN := Lib.hid (fun ys r (h : DownAt P A (y1, y2) S (r + 1) ys) (hr : r < A.length) => h.next hr)
      clear hsk
      go_wp2
      go_loopw [17] (fun i wr => ∃ (r : Nat) (ys : List ModB), s ≤ r ∧ r ≤ A.length ∧ i = .int .i64 ((a + r : Nat) : Int) ∧ DownAt P A (y1, y2) S r ys ∧ Each ok ys ∧ Work modR 41 w0 g c n wr ys) (fun i _ => (intOf i).toNat)
      case atStart => exact ⟨A.length, xs, hsA, Nat.le_refl _, by rw [HCL.out], HU0.out, HSh.out, hwk⟩
      case round =>
        obtain ⟨r, ys, hsr, hrA, rfl, hup, hsy, hwy⟩ := hrel
        by_cases hrl : s < r
        · obtain ⟨r, rfl⟩ : ∃ r', r = r' + 1 := ⟨r - 1, by omega⟩
          obtain ⟨P', ⟨z1, z2⟩, S', rfl, hl, hup2⟩ := HUN.out ys r hup (by omega)
          have HS2 := Lib.hid (each_swap hsy)
          have HU2 := Lib.hid hup2
          have d1 : P'.length = a + r := by rw [hl, HA.out]
          have d2 : P'.length + 1 + ([] : List ModB).length = a + (r + 1) := by simp [d1]; omega
          obtain ⟨⟨q0, q1⟩, ⟨r0, r1⟩⟩ := And.intro (wcellX hwy (at_two P' [] S' _ _).1) (wcellX hwy (at_two P' [] S' _ _).2)
          have HSw := Lib.hid (wswapX' z1 z2 y1 y2 hwy)
          rw [d2] at r0 r1 HSw
          rw [d1] at q0 q1 HSw
          have hrm : a + (r + 1) ≤ m := by have := HCL.out; omega
          obtain ⟨jn, hjn⟩ : ∃ jn, a + (r + 1) = jn := ⟨_, rfl⟩
          rw [hjn] at r0 r1 HSw hrm ⊢
          obtain ⟨jm, hjm⟩ : ∃ jm, a + r = jm := ⟨_, rfl⟩
          rw [hjm] at q0 q1 HSw
          have t1 : (jn : Int) - 1 = (jm : Int) := by omega
          have t2 : (jm : Int) < (n : Int) := by omega
          have t3 : (jn : Int) < (n : Int) := by omega
          have t5 : jm < n := by omega
          have t6 : jn < n := by omega
          have t4 : IntKind.i64.wrap (jm : Int) = (jm : Int) := IntWalk.i64_in _ (by omega)
          have t7 : (ks : Int) < (jn : Int) := by omega
          have f0 := hwy.frozen (jn * 2)
          have f1 := hwy.frozen (jn * 2 + 1)
          have e0 := hwy.frozen (jm * 2)
          have e1 := hwy.frozen (jm * 2 + 1)
          have HJN := Lib.hid hjn
          have HJM := Lib.hid hjm
          clear hup hsy hl hup2 hwy d1 d2 hjn hjm
          go_wp2
          go_region
          go_wp2
          go_roundw
          case rel => exact ⟨r, _, by omega, by omega, by rw [HJM.out], HU2.out, HS2.out, HSw.out.drew⟩
          case measure => have := HJN.out; have := HJM.out; simp [intOf]; omega
        · obtain rfl : r = s := by omega
          have HS2 := Lib.hid hsy
          have HU2 := Lib.hid hup
          clear hup hsy
          go_wp2
          go_end0
          exact ⟨rfl, ys, ⟨_, HR.out.1, HR.out.2, by rw [HU2.out]; simp⟩, HS2.out, hwy⟩
end Go.Proofs.YtmdlmjcejeejfaaGreatDoor

/-
  The stable sort at ModB: the merge of two parts, one way.
-/
set_option linter.unusedVariables false
set_option linter.unusedSimpArgs false
namespace Go.Proofs.YtmdlmjcejeejfaaGreatDoor
open Go.RowKit Go.Shelf

/-- What a merge promises, for parts of at most d files. -/
def MergesX (O : Ordr ModB) (ok : ModB → Prop) (w0 : World) (g c n : Nat) (d : Nat) : Prop :=
  ∀ (P A C S : List ModB) (w : World), A.length + C.length ≤ d → 0 < A.length → 0 < C.length → Rises O A → Rises O C → Each ok (P ++ A ++ C ++ S) → Work modR 41 w0 g c n w (P ++ A ++ C ++ S) →
    ∀ a m b : Nat, a = P.length → m = P.length + A.length → b = P.length + A.length + C.length →
    Calls Tryz.prog 114 #[.slice (some ⟨g, 0, none⟩) n c, .int .i64 a, .int .i64 m, .int .i64 b, cmpVX] w (fun e w' => e = .returned (.tuple #[]) ∧ Came modR 41 O ok w0 g c n P (A ++ C) S w')

set_option maxRecDepth 100000 in
set_option maxHeartbeats 4000000 in
theorem merge_b1X (O : Ordr ModB) (ok : ModB → Prop) (hcmp : CmpOKX O ok) (w0 : World) (g c n : Nat) (d : Nat) (ih : MergesX O ok w0 g c n d) (hn : n ≤ 1000) (P A C S : List ModB) (w : World) (hd : A.length + C.length ≤ d + 1) (hA0 : 2 ≤ A.length) (hC0 : 2 ≤ C.length) (hA : Rises O A) (hC : Rises O C) (hs : Each ok (P ++ A ++ C ++ S)) (hw : Work modR 41 w0 g c n w (P ++ A ++ C ++ S))
    (a m b mid : Nat) (ha : a = P.length) (hm : m = P.length + A.length) (hb : b = P.length + A.length + C.length) (hmid : mid = (a + b) / 2) (hbr : mid < m) :
    Calls Tryz.prog 114 #[.slice (some ⟨g, 0, none⟩) n c, .int .i64 a, .int .i64 m, .int .i64 b, cmpVX] w (fun e w' => e = .returned (.tuple #[]) ∧ Came modR 41 O ok w0 g c n P (A ++ C) S w') := by
  have hlen := hw.len
  simp only [List.length_append] at hlen
  have hbn : b ≤ n := by omega
  have HW := Lib.hid hw
  have HCMP := Lib.hid hcmp
  clear hcmp
  have HSh := Lib.hid hs
  obtain ⟨lo, hlo⟩ : ∃ lo, mid + m - b = lo := ⟨_, rfl⟩
  have hbo' : Bounds P.length (P.length + A.length) (P.length + A.length + C.length) mid lo (mid) := by
    rw [← hb, ← hm, ← ha]
    exact ⟨hmid, .inl ⟨hbr, hlo.symm, rfl⟩⟩
  have HMo := Lib.hid (show ∀ q r, lo ≤ q → q ≤ r → r < mid → NotLess O (keyAt (P ++ A ++ C ++ S) (mid + m - 1 - r)) (keyAt (P ++ A ++ C ++ S) r) → NotLess O (keyAt (P ++ A ++ C ++ S) (mid + m - 1 - q)) (keyAt (P ++ A ++ C ++ S) q) by
    subst hm
    exact third_mono' (S := S) hA hC (by omega) (by omega) hbo')
  have HCu := Lib.hid (show ∀ st, Sk (fun q => NotLess O (keyAt (P ++ A ++ C ++ S) (mid + m - 1 - q)) (keyAt (P ++ A ++ C ++ S) q)) lo (mid) st st → ∃ A1 A2 C1 C2, Quart O A C A1 A2 C1 C2 ∧ P.length + A1.length = st ∧ P.length + A1.length + C1.length = mid ∧ st ≤ mid by
    intro st h
    subst hm
    exact third_parts (S := S) hA hC (by omega) (by omega) hbo' h)
  have hlo1 : a ≤ lo := by omega
  have hlo2 : lo ≤ mid := by omega
  have HXS := Lib.hid (fun q => some_at (xs := P ++ A ++ C ++ S) (q := q))
  have HL := Lib.hid (show (P ++ A ++ C ++ S).length = n from hw.len)
  have HA := Lib.hid ha
  have HM := Lib.hid hm
  have HB := Lib.hid hb
  have HD := Lib.hid hd
  have HI := Lib.hid ih
  have ham : a + 2 ≤ m := by omega
  have hmb : m + 2 ≤ b := by omega
  have hm1 : a < mid := by omega
  have hm2 : mid < b := by omega
  obtain ⟨nn, hnn⟩ : ∃ nn, mid + m = nn := ⟨_, rfl⟩
  obtain ⟨pp, hpp⟩ : ∃ pp, nn - 1 = pp := ⟨_, rfl⟩
  rw [hnn, hpp] at HMo HCu
  have HT := Lib.hid (fun (A1 A2 C1 C2 : List ModB) (h : Quart O A C A1 A2 C1 C2) => h.turn P S)
  have hti : ((m : Int) - (a : Int) == 1) = false := by rw [beq_eq_false_iff_ne]; omega
  have htj : ((b : Int) - (m : Int) == 1) = false := by rw [beq_eq_false_iff_ne]; omega
  have htk : ((a : Int) + (b : Int)) / 2 = (mid : Int) := by omega
  have htl : (mid : Int) + (m : Int) = (nn : Int) := by omega
  have htn : (nn : Int) - 1 = (pp : Int) := by omega
  have hto : (nn : Int) - (b : Int) = ((nn - b : Nat) : Int) := by omega
  clear hw hlen ha hb hm hs hbo' hA hC hA0 hC0 hd ih hmid
  generalize P ++ A ++ C ++ S = xs at *
  unfold cmpVX
  go_enter Tryz.func114, Tryz.ntmps114
  go_wp2

  go_loopw [20, 21] (fun i j wr => ∃ (k l : Nat), i = .int .i64 k ∧ j = .int .i64 l ∧ Sk (fun q => NotLess O (keyAt xs (pp - q)) (keyAt xs q)) lo (mid) k l ∧ Work modR 41 w0 g c n wr xs) (fun i j _ => (intOf j - intOf i).toNat)
  case atStart => exact ⟨lo, mid, by first | rfl | (rw [← hlo]; go_num) | (congr 1; omega), rfl, Sk.start _ hlo2, HW.out⟩
  case round =>
    obtain ⟨k, l, rfl, rfl, hsk, hwk⟩ := hrel
    have hk1 := hsk.a
    have hk2 := hsk.b
    have hk3 := hsk.c
    by_cases hlt : k < l
    · obtain ⟨⟨z1, z2⟩, qz, ez⟩ := HXS.out ((k + l) / 2) (by rw [HL.out]; omega)
      obtain ⟨⟨y1, y2⟩, qy, ey⟩ := HXS.out (pp - (k + l) / 2) (by rw [HL.out]; omega)
      obtain ⟨q0, q1⟩ := wcellX hwk qz
      obtain ⟨r0, r1⟩ := wcellX hwk qy
      have sz : ok (z1, z2) := HSh.out _ (List.mem_of_getElem? qz)
      have sy : ok (y1, y2) := HSh.out _ (List.mem_of_getElem? qy)
      have hgz := hwk.lt
      have hb1 : (k + l) / 2 < n := by omega
      have hb3 : (0 : Int) ≤ ((k : Int) + (l : Int)) / 2 := by omega
      have hb4 : ((k : Int) + (l : Int)) / 2 < (n : Int) := by omega
      have hb6 : (((k : Int) + (l : Int)) / 2).toNat = (k + l) / 2 := by omega
      have HUp := Lib.hid (fun (e : ¬ O.c (keyAt xs (pp - (k + l) / 2)) (keyAt xs ((k + l) / 2)) < 0) => hsk.up HMo.out (h := (k + l) / 2) (by omega) (by omega) e)
      have HDn := Lib.hid (fun (e : O.c (keyAt xs (pp - (k + l) / 2)) (keyAt xs ((k + l) / 2)) < 0) => hsk.down HMo.out (h := (k + l) / 2) (by omega) (by omega) (fun hq => hq e))
      rw [← ez, ← ey] at HUp HDn
      obtain ⟨dd, hdd⟩ : ∃ dd, pp - (k + l) / 2 = dd := ⟨_, rfl⟩
      rw [hdd] at r0 r1
      have hb7 : (pp : Int) - ((k : Int) + (l : Int)) / 2 = (dd : Int) := by omega
      have hb8 : (dd : Int) < (n : Int) := by omega
      have hb9 : dd < n := by omega
      have hb10 : IntKind.i64.wrap (dd : Int) = (dd : Int) := IntWalk.i64_in _ (by omega)
      clear hsk qz ez qy ey hdd
      by_cases hcm : O.c (y1, y2) (z1, z2) < 0
      · have hcd : decide (O.c (y1, y2) (z1, z2) < 0) = true := decide_eq_true hcm
        have HCM := Lib.hid (HDn.out hcm)
        clear hcm HUp HDn
        go_wp2
        go_region_held3 (fun w' => w'.cell? ⟨g, (k + l) / 2 * 2, none⟩ = some (.string z1) ∧ w'.cell? ⟨g, (k + l) / 2 * 2 + 1, none⟩ = some (.string z2) ∧ w'.cell? ⟨g, dd * 2, none⟩ = some (.string y1) ∧ w'.cell? ⟨g, dd * 2 + 1, none⟩ = some (.string y2))
          (first | go_keep | with_reducible exact K2.out)
          (first | (go_at_call 26; refine (HCMP.out y1 y2 z1 z2 _ sy sz).mono ?_; rintro e w2 ⟨rfl, hb2'⟩; have hb2 := below_drewN' (n := 1) hb2'; have K2 := Lib.hid (And.intro ((hb2.cell (p := ⟨g, (k + l) / 2 * 2, none⟩) hgz).trans q0) (And.intro ((hb2.cell (p := ⟨g, (k + l) / 2 * 2 + 1, none⟩) hgz).trans q1) (And.intro ((hb2.cell (p := ⟨g, dd * 2, none⟩) hgz).trans r0) ((hb2.cell (p := ⟨g, dd * 2 + 1, none⟩) hgz).trans r1))))))
        rename_i hheld
        clear hheld K2 hb2'
        have hw2 := hwk.call hb2
        clear hb2 q0 q1 r0 r1 hgz hwk
        go_wp2
        go_roundw
        case rel => exact ⟨k, (k + l) / 2, rfl, by go_num, HCM.out, hw2⟩
        case measure => simp [intOf]; omega
      · have hcd : decide (O.c (y1, y2) (z1, z2) < 0) = false := decide_eq_false hcm
        have HCM := Lib.hid (HUp.out hcm)
        clear hcm HUp HDn
        go_wp2
        go_region_held3 (fun w' => w'.cell? ⟨g, (k + l) / 2 * 2, none⟩ = some (.string z1) ∧ w'.cell? ⟨g, (k + l) / 2 * 2 + 1, none⟩ = some (.string z2) ∧ w'.cell? ⟨g, dd * 2, none⟩ = some (.string y1) ∧ w'.cell? ⟨g, dd * 2 + 1, none⟩ = some (.string y2))
          (first | go_keep | with_reducible exact K2.out)
          (first | (go_at_call 26; refine (HCMP.out y1 y2 z1 z2 _ sy sz).mono ?_; rintro e w2 ⟨rfl, hb2'⟩; have hb2 := below_drewN' (n := 1) hb2'; have K2 := Lib.hid (And.intro ((hb2.cell (p := ⟨g, (k + l) / 2 * 2, none⟩) hgz).trans q0) (And.intro ((hb2.cell (p := ⟨g, (k + l) / 2 * 2 + 1, none⟩) hgz).trans q1) (And.intro ((hb2.cell (p := ⟨g, dd * 2, none⟩) hgz).trans r0) ((hb2.cell (p := ⟨g, dd * 2 + 1, none⟩) hgz).trans r1))))))
        rename_i hheld
        clear hheld K2 hb2'
        have hw2 := hwk.call hb2
        clear hb2 q0 q1 r0 r1 hgz hwk
        go_wp2
        go_roundw
        case rel => exact ⟨(k + l) / 2 + 1, l, by go_num, rfl, HCM.out, hw2⟩
        case measure => simp [intOf]; omega
    · obtain rfl : k = l := by omega
      obtain ⟨A1, A2, C1, C2, hq, l1, l2, l3⟩ := HCu.out k hsk
      have exs := HT.out _ _ _ _ hq
      have l4 := congrArg List.length hq.ha
      have l5 := congrArg List.length hq.hc
      rw [List.length_append] at l4 l5
      have l6 := HA.out
      have l7 := HM.out
      have l8 := HB.out
      have HQ := Lib.hid hq
      clear hsk hq
      obtain ⟨en, hen⟩ : ∃ en, nn - k = en := ⟨_, rfl⟩
      have hen' : (nn : Int) - (k : Int) = (en : Int) := by omega
      have hsh := HSh.out
      rw [exs] at hsh hwk
      have HS1 := Lib.hid (each_turn hsh)
      have HN := Lib.hid (show a = P.length ∧ m = P.length + A.length ∧ b = P.length + A.length + C.length ∧ P.length + A1.length = k ∧ P.length + A1.length + C1.length = mid ∧ A.length = A1.length + A2.length ∧ C.length = C1.length + C2.length ∧ A.length + C.length ≤ d + 1 from ⟨l6, l7, l8, l1, l2, l4, l5, HD.out⟩)
      clear hsh exs l1 l2 l4 l5 l6 l7 l8
      by_cases hy : k < mid
      · have y1 : k < m := by omega
        have y2 : m < en := by omega
        have y3 : mid < en := by omega
        by_cases y4 : a < k
        · by_cases y5 : en < b
          · have HX := Lib.hid (rotate_anyX w0 g c n _ (P ++ A1) A2 C1 (C2 ++ S) hwk k m en (by have hx := HN.out; (try simp only [List.length_append]); omega) (by have hx := HN.out; (try simp only [List.length_append]); omega) (by have hx := HN.out; (try simp only [List.length_append]); omega) (by omega) (by omega) hn)
            clear hwk
            go_wp2_with fail
            refine HX.out.mono ?_
            rintro _ w1 ⟨rfl, hw1⟩
            rw [left_form] at hw1
            clear HX
            have HX2 := Lib.hid (HI.out P A1 C1 (A2 ++ C2 ++ S) _ (by have hx := HN.out; (try simp only [List.length_append]); omega) (by have hx := HN.out; (try simp only [List.length_append]); omega) (by have hx := HN.out; (try simp only [List.length_append]); omega) HQ.out.r1 HQ.out.r3 HS1.out hw1 a k mid (by have hx := HN.out; (try simp only [List.length_append]); omega) (by have hx := HN.out; (try simp only [List.length_append]); omega) (by have hx := HN.out; (try simp only [List.length_append]); omega))
            clear hw1
            go_wp2_with fail
            refine HX2.out.mono ?_
            rintro _ w2 ⟨rfl, hc2⟩
            clear HX2
            obtain ⟨ys, ⟨L, r1, r2, rfl⟩, r3, hw2⟩ := hc2
            have HR1 := Lib.hid r1
            have HR2 := Lib.hid r2
            have HK := Lib.hid (kept_len r2)
            clear r1 r2
            have er : P ++ L ++ (A2 ++ C2 ++ S) = P ++ L ++ A2 ++ C2 ++ S := by simp only [List.append_assoc]
            rw [er] at r3 hw2
            have HX3 := Lib.hid (HI.out (P ++ L) A2 C2 S _ (by have hx := HN.out; (try simp only [List.length_append]); omega) (by have hx := HN.out; (try simp only [List.length_append]); omega) (by have hx := HN.out; (try simp only [List.length_append]); omega) HQ.out.r2 HQ.out.r4 r3 hw2 mid en b (by have hx := HN.out; have hy := HK.out; simp only [List.length_append] at hy ⊢; omega) (by have hx := HN.out; have hy := HK.out; simp only [List.length_append] at hy ⊢; omega) (by have hx := HN.out; have hy := HK.out; simp only [List.length_append] at hy ⊢; omega))
            clear hw2 r3 er
            go_wp2_with fail
            refine HX3.out.mono ?_
            rintro _ w3 ⟨rfl, hc3⟩
            clear HX3
            have HC3 := Lib.hid hc3
            clear hc3
            go_wp2
            go_end0
            exact ⟨rfl, HQ.out.done HR1.out HR2.out HC3.out⟩
          · have HX := Lib.hid (rotate_anyX w0 g c n _ (P ++ A1) A2 C1 (C2 ++ S) hwk k m en (by have hx := HN.out; (try simp only [List.length_append]); omega) (by have hx := HN.out; (try simp only [List.length_append]); omega) (by have hx := HN.out; (try simp only [List.length_append]); omega) (by omega) (by omega) hn)
            clear hwk
            go_wp2_with fail
            refine HX.out.mono ?_
            rintro _ w1 ⟨rfl, hw1⟩
            rw [left_form] at hw1
            clear HX
            have HX2 := Lib.hid (HI.out P A1 C1 (A2 ++ C2 ++ S) _ (by have hx := HN.out; (try simp only [List.length_append]); omega) (by have hx := HN.out; (try simp only [List.length_append]); omega) (by have hx := HN.out; (try simp only [List.length_append]); omega) HQ.out.r1 HQ.out.r3 HS1.out hw1 a k mid (by have hx := HN.out; (try simp only [List.length_append]); omega) (by have hx := HN.out; (try simp only [List.length_append]); omega) (by have hx := HN.out; (try simp only [List.length_append]); omega))
            clear hw1
            go_wp2_with fail
            refine HX2.out.mono ?_
            rintro _ w2 ⟨rfl, hc2⟩
            clear HX2
            obtain ⟨ys, ⟨L, r1, r2, rfl⟩, r3, hw2⟩ := hc2
            have HR1 := Lib.hid r1
            have HR2 := Lib.hid r2
            have HK := Lib.hid (kept_len r2)
            clear r1 r2
            have hc3 := HQ.out.right (by have hx := HN.out; (try simp only [List.length_append]); omega) r3 hw2
            clear hw2 r3
            have HC3 := Lib.hid hc3
            clear hc3
            go_wp2
            go_end0
            exact ⟨rfl, HQ.out.done HR1.out HR2.out HC3.out⟩
        · by_cases y5 : en < b
          · have HX := Lib.hid (rotate_anyX w0 g c n _ (P ++ A1) A2 C1 (C2 ++ S) hwk k m en (by have hx := HN.out; (try simp only [List.length_append]); omega) (by have hx := HN.out; (try simp only [List.length_append]); omega) (by have hx := HN.out; (try simp only [List.length_append]); omega) (by omega) (by omega) hn)
            clear hwk
            go_wp2_with fail
            refine HX.out.mono ?_
            rintro _ w1 ⟨rfl, hw1⟩
            rw [left_form] at hw1
            clear HX
            have hc2 := HQ.out.left (by have hx := HN.out; (try simp only [List.length_append]); omega) HS1.out hw1
            clear hw1
            obtain ⟨ys, ⟨L, r1, r2, rfl⟩, r3, hw2⟩ := hc2
            have HR1 := Lib.hid r1
            have HR2 := Lib.hid r2
            have HK := Lib.hid (kept_len r2)
            clear r1 r2
            have er : P ++ L ++ (A2 ++ C2 ++ S) = P ++ L ++ A2 ++ C2 ++ S := by simp only [List.append_assoc]
            rw [er] at r3 hw2
            have HX3 := Lib.hid (HI.out (P ++ L) A2 C2 S _ (by have hx := HN.out; (try simp only [List.length_append]); omega) (by have hx := HN.out; (try simp only [List.length_append]); omega) (by have hx := HN.out; (try simp only [List.length_append]); omega) HQ.out.r2 HQ.out.r4 r3 hw2 mid en b (by have hx := HN.out; have hy := HK.out; simp only [List.length_append] at hy ⊢; omega) (by have hx := HN.out; have hy := HK.out; simp only [List.length_append] at hy ⊢; omega) (by have hx := HN.out; have hy := HK.out; simp only [List.length_append] at hy ⊢; omega))
            clear hw2 r3 er
            go_wp2_with fail
            refine HX3.out.mono ?_
            rintro _ w3 ⟨rfl, hc3⟩
            clear HX3
            have HC3 := Lib.hid hc3
            clear hc3
            go_wp2
            go_end0
            exact ⟨rfl, HQ.out.done HR1.out HR2.out HC3.out⟩
          · have HX := Lib.hid (rotate_anyX w0 g c n _ (P ++ A1) A2 C1 (C2 ++ S) hwk k m en (by have hx := HN.out; (try simp only [List.length_append]); omega) (by have hx := HN.out; (try simp only [List.length_append]); omega) (by have hx := HN.out; (try simp only [List.length_append]); omega) (by omega) (by omega) hn)
            clear hwk
            go_wp2_with fail
            refine HX.out.mono ?_
            rintro _ w1 ⟨rfl, hw1⟩
            rw [left_form] at hw1
            clear HX
            have hc2 := HQ.out.left (by have hx := HN.out; (try simp only [List.length_append]); omega) HS1.out hw1
            clear hw1
            obtain ⟨ys, ⟨L, r1, r2, rfl⟩, r3, hw2⟩ := hc2
            have HR1 := Lib.hid r1
            have HR2 := Lib.hid r2
            have HK := Lib.hid (kept_len r2)
            clear r1 r2
            have hc3 := HQ.out.right (by have hx := HN.out; (try simp only [List.length_append]); omega) r3 hw2
            clear hw2 r3
            have HC3 := Lib.hid hc3
            clear hc3
            go_wp2
            go_end0
            exact ⟨rfl, HQ.out.done HR1.out HR2.out HC3.out⟩
      · have x1 : k < m := by omega
        have x2 : ¬ m < en := by omega
        have x3 : a < k := by omega
        have x4 : mid < en := by omega
        have x5 : en < b := by omega
        have hw1 := hwk
        rw [no_turn (by have hx := HN.out; (try simp only [List.length_append]); omega)] at hw1
        clear hwk
        have hc2 := HQ.out.left (by have hx := HN.out; (try simp only [List.length_append]); omega) HS1.out hw1
        clear hw1
        obtain ⟨ys, ⟨L, r1, r2, rfl⟩, r3, hw2⟩ := hc2
        have HR1 := Lib.hid r1
        have HR2 := Lib.hid r2
        have HK := Lib.hid (kept_len r2)
        clear r1 r2
        have er : P ++ L ++ (A2 ++ C2 ++ S) = P ++ L ++ A2 ++ C2 ++ S := by simp only [List.append_assoc]
        rw [er] at r3 hw2
        have HX3 := Lib.hid (HI.out (P ++ L) A2 C2 S _ (by have hx := HN.out; (try simp only [List.length_append]); omega) (by have hx := HN.out; (try simp only [List.length_append]); omega) (by have hx := HN.out; (try simp only [List.length_append]); omega) HQ.out.r2 HQ.out.r4 r3 hw2 mid en b (by have hx := HN.out; have hy := HK.out; simp only [List.length_append] at hy ⊢; omega) (by have hx := HN.out; have hy := HK.out; simp only [List.length_append] at hy ⊢; omega) (by have hx := HN.out; have hy := HK.out; simp only [List.length_append] at hy ⊢; omega))
        clear hw2 r3 er
        go_wp2_with fail
        refine HX3.out.mono ?_
        rintro _ w3 ⟨rfl, hc3⟩
        clear HX3
        have HC3 := Lib.hid hc3
        clear hc3
        go_wp2
        go_end0
        exact ⟨rfl, HQ.out.done HR1.out HR2.out HC3.out⟩
end Go.Proofs.YtmdlmjcejeejfaaGreatDoor

/-
  The stable sort at ModB: the merge of two parts, the other way; the sort whole.
-/
set_option linter.unusedVariables false
set_option linter.unusedSimpArgs false
namespace Go.Proofs.YtmdlmjcejeejfaaGreatDoor
open Go.RowKit Go.Shelf

set_option maxRecDepth 100000 in
set_option maxHeartbeats 4000000 in
theorem merge_b2X (O : Ordr ModB) (ok : ModB → Prop) (hcmp : CmpOKX O ok) (w0 : World) (g c n : Nat) (d : Nat) (ih : MergesX O ok w0 g c n d) (hn : n ≤ 1000) (P A C S : List ModB) (w : World) (hd : A.length + C.length ≤ d + 1) (hA0 : 2 ≤ A.length) (hC0 : 2 ≤ C.length) (hA : Rises O A) (hC : Rises O C) (hs : Each ok (P ++ A ++ C ++ S)) (hw : Work modR 41 w0 g c n w (P ++ A ++ C ++ S))
    (a m b mid : Nat) (ha : a = P.length) (hm : m = P.length + A.length) (hb : b = P.length + A.length + C.length) (hmid : mid = (a + b) / 2) (hbr : m ≤ mid) :
    Calls Tryz.prog 114 #[.slice (some ⟨g, 0, none⟩) n c, .int .i64 a, .int .i64 m, .int .i64 b, cmpVX] w (fun e w' => e = .returned (.tuple #[]) ∧ Came modR 41 O ok w0 g c n P (A ++ C) S w') := by
  have hlen := hw.len
  simp only [List.length_append] at hlen
  have hbn : b ≤ n := by omega
  have HW := Lib.hid hw
  have HCMP := Lib.hid hcmp
  clear hcmp
  have HSh := Lib.hid hs

  have hbo' : Bounds P.length (P.length + A.length) (P.length + A.length + C.length) mid a (m) := by
    rw [← hb, ← hm, ← ha]
    exact ⟨hmid, .inr ⟨hbr, rfl, rfl⟩⟩
  have HMo := Lib.hid (show ∀ q r, a ≤ q → q ≤ r → r < m → NotLess O (keyAt (P ++ A ++ C ++ S) (mid + m - 1 - r)) (keyAt (P ++ A ++ C ++ S) r) → NotLess O (keyAt (P ++ A ++ C ++ S) (mid + m - 1 - q)) (keyAt (P ++ A ++ C ++ S) q) by
    subst hm
    exact third_mono' (S := S) hA hC (by omega) (by omega) hbo')
  have HCu := Lib.hid (show ∀ st, Sk (fun q => NotLess O (keyAt (P ++ A ++ C ++ S) (mid + m - 1 - q)) (keyAt (P ++ A ++ C ++ S) q)) a (m) st st → ∃ A1 A2 C1 C2, Quart O A C A1 A2 C1 C2 ∧ P.length + A1.length = st ∧ P.length + A1.length + C1.length = mid ∧ st ≤ mid by
    intro st h
    subst hm
    exact third_parts (S := S) hA hC (by omega) (by omega) hbo' h)
  have hlo1 : a ≤ a := by omega
  have hlo2 : a ≤ m := by omega
  have HXS := Lib.hid (fun q => some_at (xs := P ++ A ++ C ++ S) (q := q))
  have HL := Lib.hid (show (P ++ A ++ C ++ S).length = n from hw.len)
  have HA := Lib.hid ha
  have HM := Lib.hid hm
  have HB := Lib.hid hb
  have HD := Lib.hid hd
  have HI := Lib.hid ih
  have ham : a + 2 ≤ m := by omega
  have hmb : m + 2 ≤ b := by omega
  have hm1 : a < mid := by omega
  have hm2 : mid < b := by omega
  obtain ⟨nn, hnn⟩ : ∃ nn, mid + m = nn := ⟨_, rfl⟩
  obtain ⟨pp, hpp⟩ : ∃ pp, nn - 1 = pp := ⟨_, rfl⟩
  rw [hnn, hpp] at HMo HCu
  have HT := Lib.hid (fun (A1 A2 C1 C2 : List ModB) (h : Quart O A C A1 A2 C1 C2) => h.turn P S)
  have hti : ((m : Int) - (a : Int) == 1) = false := by rw [beq_eq_false_iff_ne]; omega
  have htj : ((b : Int) - (m : Int) == 1) = false := by rw [beq_eq_false_iff_ne]; omega
  have htk : ((a : Int) + (b : Int)) / 2 = (mid : Int) := by omega
  have htl : (mid : Int) + (m : Int) = (nn : Int) := by omega
  have htn : (nn : Int) - 1 = (pp : Int) := by omega

  clear hw hlen ha hb hm hs hbo' hA hC hA0 hC0 hd ih hmid
  generalize P ++ A ++ C ++ S = xs at *
  unfold cmpVX
  go_enter Tryz.func114, Tryz.ntmps114
  go_wp2
  rw [show decide (mid < m) = false from decide_eq_false (Nat.not_lt.2 hbr)]
  go_loopw [20, 21] (fun i j wr => ∃ (k l : Nat), i = .int .i64 k ∧ j = .int .i64 l ∧ Sk (fun q => NotLess O (keyAt xs (pp - q)) (keyAt xs q)) a (m) k l ∧ Work modR 41 w0 g c n wr xs) (fun i j _ => (intOf j - intOf i).toNat)
  case atStart => exact ⟨a, m, rfl, rfl, Sk.start _ hlo2, HW.out⟩
  case round =>
    obtain ⟨k, l, rfl, rfl, hsk, hwk⟩ := hrel
    have hk1 := hsk.a
    have hk2 := hsk.b
    have hk3 := hsk.c
    by_cases hlt : k < l
    · obtain ⟨⟨z1, z2⟩, qz, ez⟩ := HXS.out ((k + l) / 2) (by rw [HL.out]; omega)
      obtain ⟨⟨y1, y2⟩, qy, ey⟩ := HXS.out (pp - (k + l) / 2) (by rw [HL.out]; omega)
      obtain ⟨q0, q1⟩ := wcellX hwk qz
      obtain ⟨r0, r1⟩ := wcellX hwk qy
      have sz : ok (z1, z2) := HSh.out _ (List.mem_of_getElem? qz)
      have sy : ok (y1, y2) := HSh.out _ (List.mem_of_getElem? qy)
      have hgz := hwk.lt
      have hb1 : (k + l) / 2 < n := by omega
      have hb3 : (0 : Int) ≤ ((k : Int) + (l : Int)) / 2 := by omega
      have hb4 : ((k : Int) + (l : Int)) / 2 < (n : Int) := by omega
      have hb6 : (((k : Int) + (l : Int)) / 2).toNat = (k + l) / 2 := by omega
      have HUp := Lib.hid (fun (e : ¬ O.c (keyAt xs (pp - (k + l) / 2)) (keyAt xs ((k + l) / 2)) < 0) => hsk.up HMo.out (h := (k + l) / 2) (by omega) (by omega) e)
      have HDn := Lib.hid (fun (e : O.c (keyAt xs (pp - (k + l) / 2)) (keyAt xs ((k + l) / 2)) < 0) => hsk.down HMo.out (h := (k + l) / 2) (by omega) (by omega) (fun hq => hq e))
      rw [← ez, ← ey] at HUp HDn
      obtain ⟨dd, hdd⟩ : ∃ dd, pp - (k + l) / 2 = dd := ⟨_, rfl⟩
      rw [hdd] at r0 r1
      have hb7 : (pp : Int) - ((k : Int) + (l : Int)) / 2 = (dd : Int) := by omega
      have hb8 : (dd : Int) < (n : Int) := by omega
      have hb9 : dd < n := by omega
      have hb10 : IntKind.i64.wrap (dd : Int) = (dd : Int) := IntWalk.i64_in _ (by omega)
      clear hsk qz ez qy ey hdd
      by_cases hcm : O.c (y1, y2) (z1, z2) < 0
      · have hcd : decide (O.c (y1, y2) (z1, z2) < 0) = true := decide_eq_true hcm
        have HCM := Lib.hid (HDn.out hcm)
        clear hcm HUp HDn
        go_wp2
        go_region_held3 (fun w' => w'.cell? ⟨g, (k + l) / 2 * 2, none⟩ = some (.string z1) ∧ w'.cell? ⟨g, (k + l) / 2 * 2 + 1, none⟩ = some (.string z2) ∧ w'.cell? ⟨g, dd * 2, none⟩ = some (.string y1) ∧ w'.cell? ⟨g, dd * 2 + 1, none⟩ = some (.string y2))
          (first | go_keep | with_reducible exact K2.out)
          (first | (go_at_call 26; refine (HCMP.out y1 y2 z1 z2 _ sy sz).mono ?_; rintro e w2 ⟨rfl, hb2'⟩; have hb2 := below_drewN' (n := 1) hb2'; have K2 := Lib.hid (And.intro ((hb2.cell (p := ⟨g, (k + l) / 2 * 2, none⟩) hgz).trans q0) (And.intro ((hb2.cell (p := ⟨g, (k + l) / 2 * 2 + 1, none⟩) hgz).trans q1) (And.intro ((hb2.cell (p := ⟨g, dd * 2, none⟩) hgz).trans r0) ((hb2.cell (p := ⟨g, dd * 2 + 1, none⟩) hgz).trans r1))))))
        rename_i hheld
        clear hheld K2 hb2'
        have hw2 := hwk.call hb2
        clear hb2 q0 q1 r0 r1 hgz hwk
        go_wp2
        go_roundw
        case rel => exact ⟨k, (k + l) / 2, rfl, by go_num, HCM.out, hw2⟩
        case measure => simp [intOf]; omega
      · have hcd : decide (O.c (y1, y2) (z1, z2) < 0) = false := decide_eq_false hcm
        have HCM := Lib.hid (HUp.out hcm)
        clear hcm HUp HDn
        go_wp2
        go_region_held3 (fun w' => w'.cell? ⟨g, (k + l) / 2 * 2, none⟩ = some (.string z1) ∧ w'.cell? ⟨g, (k + l) / 2 * 2 + 1, none⟩ = some (.string z2) ∧ w'.cell? ⟨g, dd * 2, none⟩ = some (.string y1) ∧ w'.cell? ⟨g, dd * 2 + 1, none⟩ = some (.string y2))
          (first | go_keep | with_reducible exact K2.out)
          (first | (go_at_call 26; refine (HCMP.out y1 y2 z1 z2 _ sy sz).mono ?_; rintro e w2 ⟨rfl, hb2'⟩; have hb2 := below_drewN' (n := 1) hb2'; have K2 := Lib.hid (And.intro ((hb2.cell (p := ⟨g, (k + l) / 2 * 2, none⟩) hgz).trans q0) (And.intro ((hb2.cell (p := ⟨g, (k + l) / 2 * 2 + 1, none⟩) hgz).trans q1) (And.intro ((hb2.cell (p := ⟨g, dd * 2, none⟩) hgz).trans r0) ((hb2.cell (p := ⟨g, dd * 2 + 1, none⟩) hgz).trans r1))))))
        rename_i hheld
        clear hheld K2 hb2'
        have hw2 := hwk.call hb2
        clear hb2 q0 q1 r0 r1 hgz hwk
        go_wp2
        go_roundw
        case rel => exact ⟨(k + l) / 2 + 1, l, by go_num, rfl, HCM.out, hw2⟩
        case measure => simp [intOf]; omega
    · obtain rfl : k = l := by omega
      obtain ⟨A1, A2, C1, C2, hq, l1, l2, l3⟩ := HCu.out k hsk
      have exs := HT.out _ _ _ _ hq
      have l4 := congrArg List.length hq.ha
      have l5 := congrArg List.length hq.hc
      rw [List.length_append] at l4 l5
      have l6 := HA.out
      have l7 := HM.out
      have l8 := HB.out
      have HQ := Lib.hid hq
      clear hsk hq
      obtain ⟨en, hen⟩ : ∃ en, nn - k = en := ⟨_, rfl⟩
      have hen' : (nn : Int) - (k : Int) = (en : Int) := by omega
      have hsh := HSh.out
      rw [exs] at hsh hwk
      have HS1 := Lib.hid (each_turn hsh)
      have HN := Lib.hid (show a = P.length ∧ m = P.length + A.length ∧ b = P.length + A.length + C.length ∧ P.length + A1.length = k ∧ P.length + A1.length + C1.length = mid ∧ A.length = A1.length + A2.length ∧ C.length = C1.length + C2.length ∧ A.length + C.length ≤ d + 1 from ⟨l6, l7, l8, l1, l2, l4, l5, HD.out⟩)
      clear hsh exs l1 l2 l4 l5 l6 l7 l8
      by_cases hy : k < mid
      · by_cases hx : k < m
        · have y1 : k < m := by omega
          have y2 : m < en := by omega
          have y3 : mid < en := by omega
          by_cases y4 : a < k
          · by_cases y5 : en < b
            · have HX := Lib.hid (rotate_anyX w0 g c n _ (P ++ A1) A2 C1 (C2 ++ S) hwk k m en (by have hx := HN.out; (try simp only [List.length_append]); omega) (by have hx := HN.out; (try simp only [List.length_append]); omega) (by have hx := HN.out; (try simp only [List.length_append]); omega) (by omega) (by omega) hn)
              clear hwk
              go_wp2_with fail
              refine HX.out.mono ?_
              rintro _ w1 ⟨rfl, hw1⟩
              rw [left_form] at hw1
              clear HX
              have HX2 := Lib.hid (HI.out P A1 C1 (A2 ++ C2 ++ S) _ (by have hx := HN.out; (try simp only [List.length_append]); omega) (by have hx := HN.out; (try simp only [List.length_append]); omega) (by have hx := HN.out; (try simp only [List.length_append]); omega) HQ.out.r1 HQ.out.r3 HS1.out hw1 a k mid (by have hx := HN.out; (try simp only [List.length_append]); omega) (by have hx := HN.out; (try simp only [List.length_append]); omega) (by have hx := HN.out; (try simp only [List.length_append]); omega))
              clear hw1
              go_wp2_with fail
              refine HX2.out.mono ?_
              rintro _ w2 ⟨rfl, hc2⟩
              clear HX2
              obtain ⟨ys, ⟨L, r1, r2, rfl⟩, r3, hw2⟩ := hc2
              have HR1 := Lib.hid r1
              have HR2 := Lib.hid r2
              have HK := Lib.hid (kept_len r2)
              clear r1 r2
              have er : P ++ L ++ (A2 ++ C2 ++ S) = P ++ L ++ A2 ++ C2 ++ S := by simp only [List.append_assoc]
              rw [er] at r3 hw2
              have HX3 := Lib.hid (HI.out (P ++ L) A2 C2 S _ (by have hx := HN.out; (try simp only [List.length_append]); omega) (by have hx := HN.out; (try simp only [List.length_append]); omega) (by have hx := HN.out; (try simp only [List.length_append]); omega) HQ.out.r2 HQ.out.r4 r3 hw2 mid en b (by have hx := HN.out; have hy := HK.out; simp only [List.length_append] at hy ⊢; omega) (by have hx := HN.out; have hy := HK.out; simp only [List.length_append] at hy ⊢; omega) (by have hx := HN.out; have hy := HK.out; simp only [List.length_append] at hy ⊢; omega))
              clear hw2 r3 er
              go_wp2_with fail
              refine HX3.out.mono ?_
              rintro _ w3 ⟨rfl, hc3⟩
              clear HX3
              have HC3 := Lib.hid hc3
              clear hc3
              go_wp2
              go_end0
              exact ⟨rfl, HQ.out.done HR1.out HR2.out HC3.out⟩
            · have HX := Lib.hid (rotate_anyX w0 g c n _ (P ++ A1) A2 C1 (C2 ++ S) hwk k m en (by have hx := HN.out; (try simp only [List.length_append]); omega) (by have hx := HN.out; (try simp only [List.length_append]); omega) (by have hx := HN.out; (try simp only [List.length_append]); omega) (by omega) (by omega) hn)
              clear hwk
              go_wp2_with fail
              refine HX.out.mono ?_
              rintro _ w1 ⟨rfl, hw1⟩
              rw [left_form] at hw1
              clear HX
              have HX2 := Lib.hid (HI.out P A1 C1 (A2 ++ C2 ++ S) _ (by have hx := HN.out; (try simp only [List.length_append]); omega) (by have hx := HN.out; (try simp only [List.length_append]); omega) (by have hx := HN.out; (try simp only [List.length_append]); omega) HQ.out.r1 HQ.out.r3 HS1.out hw1 a k mid (by have hx := HN.out; (try simp only [List.length_append]); omega) (by have hx := HN.out; (try simp only [List.length_append]); omega) (by have hx := HN.out; (try simp only [List.length_append]); omega))
              clear hw1
              go_wp2_with fail
              refine HX2.out.mono ?_
              rintro _ w2 ⟨rfl, hc2⟩
              clear HX2
              obtain ⟨ys, ⟨L, r1, r2, rfl⟩, r3, hw2⟩ := hc2
              have HR1 := Lib.hid r1
              have HR2 := Lib.hid r2
              have HK := Lib.hid (kept_len r2)
              clear r1 r2
              have hc3 := HQ.out.right (by have hx := HN.out; (try simp only [List.length_append]); omega) r3 hw2
              clear hw2 r3
              have HC3 := Lib.hid hc3
              clear hc3
              go_wp2
              go_end0
              exact ⟨rfl, HQ.out.done HR1.out HR2.out HC3.out⟩
          · by_cases y5 : en < b
            · have HX := Lib.hid (rotate_anyX w0 g c n _ (P ++ A1) A2 C1 (C2 ++ S) hwk k m en (by have hx := HN.out; (try simp only [List.length_append]); omega) (by have hx := HN.out; (try simp only [List.length_append]); omega) (by have hx := HN.out; (try simp only [List.length_append]); omega) (by omega) (by omega) hn)
              clear hwk
              go_wp2_with fail
              refine HX.out.mono ?_
              rintro _ w1 ⟨rfl, hw1⟩
              rw [left_form] at hw1
              clear HX
              have hc2 := HQ.out.left (by have hx := HN.out; (try simp only [List.length_append]); omega) HS1.out hw1
              clear hw1
              obtain ⟨ys, ⟨L, r1, r2, rfl⟩, r3, hw2⟩ := hc2
              have HR1 := Lib.hid r1
              have HR2 := Lib.hid r2
              have HK := Lib.hid (kept_len r2)
              clear r1 r2
              have er : P ++ L ++ (A2 ++ C2 ++ S) = P ++ L ++ A2 ++ C2 ++ S := by simp only [List.append_assoc]
              rw [er] at r3 hw2
              have HX3 := Lib.hid (HI.out (P ++ L) A2 C2 S _ (by have hx := HN.out; (try simp only [List.length_append]); omega) (by have hx := HN.out; (try simp only [List.length_append]); omega) (by have hx := HN.out; (try simp only [List.length_append]); omega) HQ.out.r2 HQ.out.r4 r3 hw2 mid en b (by have hx := HN.out; have hy := HK.out; simp only [List.length_append] at hy ⊢; omega) (by have hx := HN.out; have hy := HK.out; simp only [List.length_append] at hy ⊢; omega) (by have hx := HN.out; have hy := HK.out; simp only [List.length_append] at hy ⊢; omega))
              clear hw2 r3 er
              go_wp2_with fail
              refine HX3.out.mono ?_
              rintro _ w3 ⟨rfl, hc3⟩
              clear HX3
              have HC3 := Lib.hid hc3
              clear hc3
              go_wp2
              go_end0
              exact ⟨rfl, HQ.out.done HR1.out HR2.out HC3.out⟩
            · have HX := Lib.hid (rotate_anyX w0 g c n _ (P ++ A1) A2 C1 (C2 ++ S) hwk k m en (by have hx := HN.out; (try simp only [List.length_append]); omega) (by have hx := HN.out; (try simp only [List.length_append]); omega) (by have hx := HN.out; (try simp only [List.length_append]); omega) (by omega) (by omega) hn)
              clear hwk
              go_wp2_with fail
              refine HX.out.mono ?_
              rintro _ w1 ⟨rfl, hw1⟩
              rw [left_form] at hw1
              clear HX
              have hc2 := HQ.out.left (by have hx := HN.out; (try simp only [List.length_append]); omega) HS1.out hw1
              clear hw1
              obtain ⟨ys, ⟨L, r1, r2, rfl⟩, r3, hw2⟩ := hc2
              have HR1 := Lib.hid r1
              have HR2 := Lib.hid r2
              have HK := Lib.hid (kept_len r2)
              clear r1 r2
              have hc3 := HQ.out.right (by have hx := HN.out; (try simp only [List.length_append]); omega) r3 hw2
              clear hw2 r3
              have HC3 := Lib.hid hc3
              clear hc3
              go_wp2
              go_end0
              exact ⟨rfl, HQ.out.done HR1.out HR2.out HC3.out⟩
        · have x3 : a < k := by omega
          have x4 : ¬ mid < en := by omega
          have hw1 := hwk
          rw [no_turn (by have hx := HN.out; (try simp only [List.length_append]); omega)] at hw1
          clear hwk
          have HX2 := Lib.hid (HI.out P A1 C1 (A2 ++ C2 ++ S) _ (by have hx := HN.out; (try simp only [List.length_append]); omega) (by have hx := HN.out; (try simp only [List.length_append]); omega) (by have hx := HN.out; (try simp only [List.length_append]); omega) HQ.out.r1 HQ.out.r3 HS1.out hw1 a k mid (by have hx := HN.out; (try simp only [List.length_append]); omega) (by have hx := HN.out; (try simp only [List.length_append]); omega) (by have hx := HN.out; (try simp only [List.length_append]); omega))
          clear hw1
          go_wp2_with fail
          refine HX2.out.mono ?_
          rintro _ w2 ⟨rfl, hc2⟩
          clear HX2
          obtain ⟨ys, ⟨L, r1, r2, rfl⟩, r3, hw2⟩ := hc2
          have HR1 := Lib.hid r1
          have HR2 := Lib.hid r2
          have HK := Lib.hid (kept_len r2)
          clear r1 r2
          have hc3 := HQ.out.right (by have hx := HN.out; (try simp only [List.length_append]); omega) r3 hw2
          clear hw2 r3
          have HC3 := Lib.hid hc3
          clear hc3
          go_wp2
          go_end0
          exact ⟨rfl, HQ.out.done HR1.out HR2.out HC3.out⟩
      · have x1 : ¬ k < m := by omega
        have x3 : a < k := by omega
        have x4 : ¬ mid < en := by omega
        have hw1 := hwk
        rw [no_turn (by have hx := HN.out; (try simp only [List.length_append]); omega)] at hw1
        clear hwk
        have hc2 := HQ.out.left (by have hx := HN.out; (try simp only [List.length_append]); omega) HS1.out hw1
        clear hw1
        obtain ⟨ys, ⟨L, r1, r2, rfl⟩, r3, hw2⟩ := hc2
        have HR1 := Lib.hid r1
        have HR2 := Lib.hid r2
        have HK := Lib.hid (kept_len r2)
        clear r1 r2
        have hc3 := HQ.out.right (by have hx := HN.out; (try simp only [List.length_append]); omega) r3 hw2
        clear hw2 r3
        have HC3 := Lib.hid hc3
        clear hc3
        go_wp2
        go_end0
        exact ⟨rfl, HQ.out.done HR1.out HR2.out HC3.out⟩

theorem merges_allX (O : Ordr ModB) (ok : ModB → Prop) (hcmp : CmpOKX O ok) (w0 : World) (g c n : Nat) (hn : n ≤ 1000) : ∀ d, MergesX O ok w0 g c n d
  | 0 => fun P A C S w hd hA0 hC0 => by omega
  | d + 1 => fun P A C S w hd hA0 hC0 hA hC hs hw a m b ha hm hb => by
    by_cases h1 : A.length = 1
    · obtain ⟨x, rfl⟩ := List.length_eq_one_iff.1 h1
      exact merge_firstX O ok hcmp w0 g c n w P x C S hw hs hC a m b ha (by simpa using hm) (by simpa using hb) hn
    · by_cases h2 : C.length = 1
      · obtain ⟨y, rfl⟩ := List.length_eq_one_iff.1 h2
        exact merge_lastX O ok hcmp w0 g c n w P A y S hw hs hA h1 a m b ha hm (by simpa using hb) hn
      · by_cases h3 : (a + b) / 2 < m
        · exact merge_b1X O ok hcmp w0 g c n d (merges_allX O ok hcmp w0 g c n hn d) hn P A C S w hd (by omega) (by omega) hA hC hs hw a m b _ ha hm hb rfl h3
        · exact merge_b2X O ok hcmp w0 g c n d (merges_allX O ok hcmp w0 g c n hn d) hn P A C S w hd (by omega) (by omega) hA hC hs hw a m b _ ha hm hb rfl (by omega)

set_option maxRecDepth 100000 in
set_option maxHeartbeats 4000000 in
theorem stable_anyX (O : Ordr ModB) (ok : ModB → Prop) (hcmp : CmpOKX O ok) (w0 : World) (g c n : Nat) (w : World) (xs : List ModB) (hw : Work modR 41 w0 g c n w xs) (hs : Each ok xs) (hn : n ≤ 1000) :
    Calls Tryz.prog 69 #[.slice (some ⟨g, 0, none⟩) n c, .int .i64 n, cmpVX] w (fun e w' => e = .returned (.tuple #[]) ∧ ∃ ys, Rises O ys ∧ Kept O xs ys ∧ Work modR 41 w0 g c n w' ys) := by
  have HW := Lib.hid hw
  have HCMP := Lib.hid hcmp
  clear hcmp
  have HSh := Lib.hid hs
  have HL := Lib.hid hw.len
  clear hw hs
  unfold cmpVX
  go_enter Tryz.func69, Tryz.ntmps69
  go_wp2
  go_loopw [7, 8] (fun i j wr => ∃ (a b : Nat) (ys : List ModB), i = .int .i64 a ∧ j = .int .i64 b ∧ a + 20 = b ∧ a ≤ n ∧ Pass1 O xs a ys ∧ Each ok ys ∧ Work modR 41 w0 g c n wr ys) (fun i _ _ => n - (intOf i).toNat)
  case atStart => exact ⟨0, 20, xs, rfl, rfl, rfl, Nat.zero_le _, Pass1.start xs, HSh.out, HW.out⟩
  case round =>
    obtain ⟨a, b, ys, rfl, rfl, hab, han, hp, hsy, hwk⟩ := hrel
    have hlen := hwk.len
    by_cases hlt : b ≤ n
    · obtain ⟨P, A, S, rfl, e1, e2, hnx⟩ := hp.next (by omega)
      have HX := Lib.hid (insertion_anyX O ok HCMP.out w0 g c n _ P A S hwk hsy a b e1 (by omega) hn)
      have HN := Lib.hid hnx
      clear hnx hwk hsy e1 e2 hlen hp
      go_wp2_with fail
      refine HX.out.mono ?_
      rintro _ w1 ⟨rfl, zs, hpz, hsz, hw1⟩
      have HP := Lib.hid (HN.out zs hpz)
      have HZ := Lib.hid hsz
      clear HX HN hpz hsz
      go_wp2
      go_roundw
      case rel => exact ⟨b, b + 20, zs, rfl, by go_num, rfl, hlt, by rw [← hab]; exact HP.out, HZ.out, hw1⟩
      case measure => simp [intOf]; omega
    · obtain ⟨P, A, rfl, e1, e2, hnx⟩ := hp.done (by omega) (by omega)
      have HX := Lib.hid (insertion_anyX O ok HCMP.out w0 g c n _ P A [] hwk hsy a n e1 (by omega) hn)
      have HN := Lib.hid hnx
      clear hnx hwk hsy e1 e2 hlen hp
      go_wp2_with fail
      refine HX.out.mono ?_
      rintro _ w1 ⟨rfl, zs, hpz, hsz, hw1⟩
      have HP := Lib.hid (HN.out zs hpz)
      have HZ := Lib.hid hsz
      clear HX HN hpz hsz
      go_wp2
      go_loopw [6] (fun i wr => ∃ (z : Nat) (ys : List ModB), i = .int .i64 z ∧ 20 ≤ z ∧ z ≤ 4000 ∧ Runs O z ys ∧ Kept O xs ys ∧ Each ok ys ∧ Work modR 41 w0 g c n wr ys) (fun i _ => n - (intOf i).toNat)
      case atStart => exact ⟨20, zs, rfl, by omega, by omega, HP.out.1, HP.out.2, HZ.out, hw1⟩
      case round =>
        obtain ⟨z, ys, rfl, hz1, hz2, hr, hk, hsy, hwk⟩ := hrel
        by_cases hzn : z < n
        · have HSt := Lib.hid (Pass2.start hr hk)
          have HY := Lib.hid hsy
          clear hr hk hsy
          obtain ⟨zz, hzz⟩ : ∃ zz, 2 * z = zz := ⟨_, rfl⟩
          have tz : 2 * (z : Int) = (zz : Int) := by omega
          have tz' : (z : Int) * 2 = (zz : Int) := by omega
          have HZZ := Lib.hid hzz
          go_wp2
          go_loopw [7, 8] (fun i j wr => ∃ (a b : Nat) (ys : List ModB), i = .int .i64 a ∧ j = .int .i64 b ∧ a + zz = b ∧ a ≤ n ∧ Pass2 O xs z a ys ∧ Each ok ys ∧ Work modR 41 w0 g c n wr ys) (fun i _ _ => n - (intOf i).toNat)
          case atStart => exact ⟨0, zz, ys, rfl, by go_num, by omega, Nat.zero_le _, HSt.out, HY.out, hwk⟩
          case round =>
            obtain ⟨a, b, ys, rfl, rfl, hab, han, hp, hsy, hwk⟩ := hrel
            have hlen := hwk.len
            by_cases hlt : b ≤ n
            · obtain ⟨P, A, C, S, rfl, e1, e2, e3, r1, r2, hnx⟩ := hp.next (by omega)
              obtain ⟨m, hm⟩ : ∃ m, a + z = m := ⟨_, rfl⟩
              have tm : (a : Int) + (z : Int) = (m : Int) := by omega
              have HX := Lib.hid (merges_allX O ok HCMP.out w0 g c n hn _ P A C S _ (Nat.le_refl _) (by omega) (by omega) r1 r2 hsy hwk a m b e1 (by omega) (by omega))
              have HN := Lib.hid hnx
              clear hnx hwk hsy e1 e2 e3 hlen hp r1 r2 hm
              go_wp2_with fail
              refine HX.out.mono ?_
              rintro _ w1 ⟨rfl, zs, hpz, hsz, hw1⟩
              have HP := Lib.hid (HN.out zs hpz)
              have HZ := Lib.hid hsz
              clear HX HN hpz hsz
              go_wp2
              go_roundw
              case rel => exact ⟨b, b + zz, zs, rfl, by go_num, rfl, hlt, by rw [← hab, ← HZZ.out]; exact HP.out, HZ.out, hw1⟩
              case measure => simp [intOf]; omega
            · obtain ⟨m, hm⟩ : ∃ m, a + z = m := ⟨_, rfl⟩
              have tm : (a : Int) + (z : Int) = (m : Int) := by omega
              by_cases hmn : m < n
              · obtain ⟨P, A, C, rfl, e1, e2, e3, e4, r1, r2, hnx⟩ := hp.rest (by omega) (by omega)
                have HX := Lib.hid (merges_allX O ok HCMP.out w0 g c n hn _ P A C [] _ (Nat.le_refl _) (by omega) (by omega) r1 r2 hsy hwk a m n e1 (by omega) (by omega))
                have HN := Lib.hid hnx
                clear hnx hwk hsy e1 e2 e3 e4 hlen hp r1 r2 hm
                go_wp2_with fail
                refine HX.out.mono ?_
                rintro _ w1 ⟨rfl, zs, hpz, hsz, hw1⟩
                have HP := Lib.hid (HN.out zs hpz)
                have HZ := Lib.hid hsz
                clear HX HN hpz hsz
                go_wp2
                go_roundw
                case rel => exact ⟨zz, zs, by go_num, by omega, by omega, by rw [← HZZ.out]; exact HP.out.1, HP.out.2, HZ.out, hw1⟩
                case measure => simp [intOf]; omega
              · have HP := Lib.hid (hp.done (by omega))
                have HZ := Lib.hid hsy
                clear hp hsy hlen hm
                go_wp2
                go_roundw
                case rel => exact ⟨zz, ys, by go_num, by omega, by omega, by rw [← HZZ.out]; exact HP.out.1, HP.out.2, HZ.out, hwk⟩
                case measure => simp [intOf]; omega
        · have HR := Lib.hid (hr.rises (by rw [hwk.len]; omega))
          have HK := Lib.hid hk
          clear hr hk hsy
          go_wp2
          go_end0
          exact ⟨rfl, ys, HR.out, HK.out, hwk⟩

set_option maxRecDepth 100000 in
set_option maxHeartbeats 400000 in
theorem insertion_noneX (c : Nat) (w : World) : Calls Tryz.prog 113 #[.slice none 0 c, .int .i64 0, .int .i64 0, cmpVX] w (fun e w' => e = .returned (.tuple #[]) ∧ w' = w) := by
  unfold cmpVX
  go_enter Tryz.func113, Tryz.ntmps113
  go_wp2
  go_loopw [8] (fun i wr => i = .int .i64 1 ∧ wr = w) (fun _ _ => 0)
  case atStart => exact ⟨rfl, rfl⟩
  case round =>
    obtain ⟨rfl, rfl⟩ := hrel
    go_wp2
    go_end0
    exact ⟨rfl, rfl⟩

set_option maxRecDepth 100000 in
set_option maxHeartbeats 400000 in
theorem stable_noneX (c : Nat) (w : World) : Calls Tryz.prog 69 #[.slice none 0 c, .int .i64 0, cmpVX] w (fun e w' => e = .returned (.tuple #[]) ∧ w' = w) := by
  unfold cmpVX
  go_enter Tryz.func69, Tryz.ntmps69
  go_wp2
  go_loopw [7, 8] (fun i j wr => i = .int .i64 0 ∧ j = .int .i64 20 ∧ wr = w) (fun _ _ _ => 0)
  case atStart => exact ⟨rfl, rfl, rfl⟩
  case round =>
    obtain ⟨rfl, rfl, rfl⟩ := hrel
    go_wp2_with fail
    refine (insertion_noneX c _).mono ?_
    rintro _ w1 ⟨rfl, rfl⟩
    go_wp2
    go_loopw [6] (fun i wr => i = .int .i64 20 ∧ wr = w1) (fun _ _ => 0)
    case atStart => exact ⟨rfl, rfl⟩
    case round =>
      obtain ⟨rfl, rfl⟩ := hrel
      go_wp2
      go_end0
      exact ⟨rfl, rfl⟩

set_option maxRecDepth 100000 in
set_option maxHeartbeats 400000 in
theorem stableF_anyX (O : Ordr ModB) (ok : ModB → Prop) (hcmp : CmpOKX O ok) (w0 : World) (g c n : Nat) (w : World) (xs : List ModB) (hw : Work modR 41 w0 g c n w xs) (hs : Each ok xs) (hn : n ≤ 1000) :
    Calls Tryz.prog 27 #[.slice (some ⟨g, 0, none⟩) n c, cmpVX] w (fun e w' => e = .returned (.tuple #[]) ∧ ∃ ys, Rises O ys ∧ Kept O xs ys ∧ Work modR 41 w0 g c n w' ys) := by
  have HX := Lib.hid (stable_anyX O ok hcmp w0 g c n w xs hw hs hn)
  clear hw hs
  unfold cmpVX
  go_enter Tryz.func27, Tryz.ntmps27
  go_wp2_with fail
  refine HX.out.mono ?_
  rintro _ w1 ⟨rfl, ys, h1, h2, h3⟩
  have H1 := Lib.hid h1
  have H2 := Lib.hid h2
  clear h1 h2
  go_wp2
  go_end0
  exact ⟨rfl, ys, H1.out, H2.out, h3⟩

set_option maxRecDepth 100000 in
set_option maxHeartbeats 400000 in
theorem stableF_noneX (c : Nat) (w : World) : Calls Tryz.prog 27 #[.slice none 0 c, cmpVX] w (fun e w' => e = .returned (.tuple #[]) ∧ w' = w) := by
  unfold cmpVX
  go_enter Tryz.func27, Tryz.ntmps27
  go_wp2_with fail
  refine (stable_noneX c _).mono ?_
  rintro _ w1 ⟨rfl, rfl⟩
  go_wp2
  go_end0
  exact ⟨rfl, rfl⟩

end Go.Proofs.YtmdlmjcejeejfaaGreatDoor
