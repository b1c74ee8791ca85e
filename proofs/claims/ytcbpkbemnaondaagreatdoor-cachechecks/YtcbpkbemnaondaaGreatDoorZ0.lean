/-
  Plain facts, of no program: a list sorted by inserting, whatever is compared.
-/
import Derived.Test.YtcbpkbemnaondaaGreatDoorS1
namespace Go.Proofs.YtcbpkbemnaondaaGreatDoor

section
variable {α : Type} (c : α → α → Int)

def insC (f : α) : List α → List α
  | [] => [f]
  | g :: r => if c f g < 0 then f :: g :: r else g :: insC f r
def sortC (l : List α) : List α := l.foldl (fun acc f => insC c f acc) []
variable {c}
theorem sortC_snoc {l : List α} {k : Nat} (hk : k < l.length) : sortC c (l.take (k + 1)) = insC c l[k] (sortC c (l.take k)) := by
  unfold sortC
  rw [List.take_succ_eq_append_getElem hk, List.foldl_append]; rfl
theorem insC_perm (f : α) : ∀ l : List α, (insC c f l).Perm (f :: l)
  | [] => List.Perm.refl _
  | g :: r => by
    unfold insC
    split
    · exact List.Perm.refl _
    · exact ((insC_perm f r).cons g).trans (List.Perm.swap f g r)
theorem sortC_perm (l : List α) : ∀ k, k ≤ l.length → (sortC c (l.take k)).Perm (l.take k)
  | 0, _ => by simp [sortC]
  | k + 1, h => by
    rw [sortC_snoc (by omega), List.take_succ_eq_append_getElem (by omega)]
    exact ((insC_perm _ _).trans ((sortC_perm l k (by omega)).cons _)).trans (List.perm_append_singleton _ _).symm
theorem insC_len (f : α) (l : List α) : (insC c f l).length = l.length + 1 := by rw [(insC_perm f l).length_eq]; rfl
def RisesC (c : α → α → Int) (l : List α) : Prop := l.Pairwise fun a b => ¬ c b a < 0
theorem insC_rises (hc : Cmp c) (f : α) : ∀ {l : List α}, RisesC c l → RisesC c (insC c f l)
  | [], _ => by simp [insC, RisesC]
  | g :: r, h => by
    obtain ⟨h1, h2⟩ := List.pairwise_cons.1 h
    unfold insC
    split
    · rename_i hlt
      refine List.pairwise_cons.2 ⟨fun x hx => ?_, h⟩
      have n1 := hc.neg f x
      have n2 := hc.neg f g
      rcases List.mem_cons.1 hx with rfl | hx
      · omega
      · have h3 := h1 x hx
        have n3 := hc.neg g x
        have := (hc.trans f g x (by omega) (by omega)).1
        omega
    · rename_i hlt
      refine List.pairwise_cons.2 ⟨fun x hx => ?_, insC_rises hc f h2⟩
      rcases List.mem_cons.1 ((insC_perm f r).mem_iff.1 hx) with rfl | hx
      · exact hlt
      · exact h1 x hx
theorem sortC_rises (hc : Cmp c) (l : List α) : ∀ k, k ≤ l.length → RisesC c (sortC c (l.take k))
  | 0, _ => by simp [sortC, RisesC]
  | k + 1, h => by
    rw [sortC_snoc (by omega)]
    exact insC_rises hc _ (sortC_rises hc l k (by omega))

/-- How far an insertion has come. -/
def IC (c : α → α → Int) (xs : List α) (f : α) (k : Nat) (b : Bool) (acc : List α) : Prop :=
  (b = false ∧ acc = xs.take k ∧ insC c f xs = xs.take k ++ insC c f (xs.drop k)) ∨ (b = true ∧ acc ++ xs.drop k = insC c f xs)
theorem IC.start (xs : List α) (f : α) : IC c xs f 0 false [] := .inl ⟨rfl, rfl, rfl⟩
theorem IC.hit {xs : List α} {f : α} {k : Nat} {acc : List α} (h : IC c xs f k false acc) (hk : k < xs.length) (e : c f xs[k] < 0) : IC c xs f (k + 1) true (acc ++ [f] ++ [xs[k]]) := by
  rcases h with ⟨_, rfl, h⟩ | ⟨h, _⟩
  · refine .inr ⟨rfl, ?_⟩
    rw [h, List.drop_eq_getElem_cons hk, insC, if_pos e]; simp
  · cases h
theorem IC.pass {xs : List α} {f : α} {k : Nat} {acc : List α} (h : IC c xs f k false acc) (hk : k < xs.length) (e : ¬ c f xs[k] < 0) : IC c xs f (k + 1) false (acc ++ [xs[k]]) := by
  rcases h with ⟨_, rfl, h⟩ | ⟨h, _⟩
  · refine .inl ⟨rfl, (List.take_succ_eq_append_getElem hk).symm, ?_⟩
    rw [h, List.drop_eq_getElem_cons hk, insC, if_neg e, List.take_succ_eq_append_getElem hk, List.append_assoc]; rfl
  · cases h
theorem IC.on {xs : List α} {f : α} {k : Nat} {acc : List α} (h : IC c xs f k true acc) (hk : k < xs.length) : IC c xs f (k + 1) true (acc ++ [xs[k]]) := by
  rcases h with ⟨h, _⟩ | ⟨_, h⟩
  · cases h
  · refine .inr ⟨rfl, ?_⟩
    rw [← h, List.drop_eq_getElem_cons hk]; simp
theorem IC.len {xs : List α} {f : α} {k : Nat} {b : Bool} {acc : List α} (h : IC c xs f k b acc) : acc.length ≤ xs.length + 1 := by
  rcases h with ⟨_, rfl, _⟩ | ⟨_, h⟩
  · rw [List.length_take]; omega
  · have := congrArg List.length h
    rw [insC_len, List.length_append] at this; omega
theorem IC.done {xs : List α} {f : α} {k : Nat} {acc : List α} (h : IC c xs f k true acc) (hk : xs.length ≤ k) : acc = insC c f xs := by
  rcases h with ⟨h, _⟩ | ⟨_, h⟩
  · cases h
  · rw [← h, List.drop_of_length_le hk, List.append_nil]
theorem IC.last {xs : List α} {f : α} {k : Nat} {acc : List α} (h : IC c xs f k false acc) (hk : xs.length ≤ k) : acc ++ [f] = insC c f xs := by
  rcases h with ⟨_, rfl, h⟩ | ⟨h, _⟩
  · rw [h, List.drop_of_length_le hk]; rfl
  · cases h
end

end Go.Proofs.YtcbpkbemnaondaaGreatDoor
