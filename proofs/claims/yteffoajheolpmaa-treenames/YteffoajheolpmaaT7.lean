/-
  Plain facts on the names in a directory of a tree.
-/
import Derived.Test.YteffoajheolpmaaF11
import Derived.Test.YteffoajheolpmaaF12
import Derived.Test.YteffoajheolpmaaT3
namespace Go.Proofs.Yteffoajheolpmaa

/-- A path's first element, and whether there are more. -/
def headB (p : ByteArray) : ByteArray := (cutB p).1
def deepB (p : ByteArray) : Bool := (cutB p).2.2
theorem elems_head {p : ByteArray} (hp : ¬ p.toList = []) : ∃ r, elemsB p = headB p :: r ∧ (deepB p = true ↔ r ≠ []) := by
  rw [elemsB_ne hp]
  rcases index_cases p with h | ⟨k, h⟩
  · refine ⟨[], by rw [partsB_none h, headB, cutB_no h], ?_⟩
    rw [deepB, cutB_no h]; simp
  · obtain ⟨_, h2⟩ := partsB_cut h
    refine ⟨_, by rw [h2, headB, cutB_yes h], ?_⟩
    rw [deepB, cutB_yes h]
    simp [partsB_ne]

def filesL (s : List FileB) : List ByteArray := (s.filter fun f => !deepB f.1).map fun f => headB f.1
def dirStep (acc : List ByteArray) (x : ByteArray) : List ByteArray := if acc.getLast? = some x then acc else acc ++ [x]
def dirsL (s : List FileB) : List ByteArray := ((s.filter fun f => deepB f.1).map fun f => headB f.1).foldl dirStep []
theorem files_snoc {s : List FileB} {k : Nat} (hk : k < s.length) : filesL (s.take (k + 1)) = filesL (s.take k) ++ (if deepB s[k].1 then [] else [headB s[k].1]) := by
  unfold filesL
  rw [List.take_succ_eq_append_getElem hk, List.filter_append, List.map_append]
  congr 1
  cases h : deepB s[k].1 <;> simp [h]
theorem dirs_snoc {s : List FileB} {k : Nat} (hk : k < s.length) : dirsL (s.take (k + 1)) = if deepB s[k].1 then dirStep (dirsL (s.take k)) (headB s[k].1) else dirsL (s.take k) := by
  unfold dirsL
  rw [List.take_succ_eq_append_getElem hk, List.filter_append, List.map_append, List.foldl_append]
  cases h : deepB s[k].1 <;> simp [h]
theorem files_len (s : List FileB) : (filesL s).length ≤ s.length := by
  unfold filesL; rw [List.length_map]; exact List.length_filter_le _ _
theorem dirStep_len (acc : List ByteArray) (x : ByteArray) : (dirStep acc x).length ≤ acc.length + 1 := by
  unfold dirStep; split
  · omega
  · simp
theorem dirs_len_take (s : List FileB) : ∀ k, k ≤ s.length → (dirsL (s.take k)).length ≤ k
  | 0, _ => by simp [dirsL]
  | k + 1, h => by
    have ih := dirs_len_take s k (by omega)
    rw [dirs_snoc (by omega)]
    split
    · have := dirStep_len (dirsL (s.take k)) (headB (s[k]'(by omega)).1); omega
    · omega

/-- Files that rise, none of an empty path. -/
def Fine (s : List FileB) : Prop := Up s ∧ ∀ f ∈ s, ¬ f.1.toList = []
theorem head_le {s : List FileB} (h : Fine s) {i j : Nat} (hij : i < j) (hj : j < s.length) : cmp1 (headB s[i].1) (headB s[j].1) ≤ 0 ∧ (deepB s[i].1 = false → deepB s[j].1 = false → cmp1 (headB s[i].1) (headB s[j].1) = -1) := by
  have hc := up_at h.1 hij hj
  obtain ⟨r, e1, d1⟩ := elems_head (h.2 _ (List.getElem_mem (by omega : i < s.length)))
  obtain ⟨q, e2, d2⟩ := elems_head (h.2 _ (List.getElem_mem hj))
  unfold compareN at hc
  rw [e1, e2, cmpE] at hc
  by_cases e : cmp1 (headB s[i].1) (headB s[j].1) = 0
  · refine ⟨by omega, fun n1 n2 => ?_⟩
    rw [if_pos e] at hc
    have hr : r = [] := by
      apply Classical.byContradiction
      intro hn
      rw [d1.2 hn] at n1; cases n1
    have hq : q = [] := by
      apply Classical.byContradiction
      intro hn
      rw [d2.2 hn] at n2; cases n2
    rw [hr, hq] at hc
    cases hc
  · rw [if_neg e] at hc
    exact ⟨by omega, fun _ _ => hc⟩
theorem file_mem {s : List FileB} {k : Nat} {y : ByteArray} (h : y ∈ filesL (s.take k)) : ∃ i, ∃ hi : i < s.length, i < k ∧ deepB s[i].1 = false ∧ headB s[i].1 = y := by
  unfold filesL at h
  obtain ⟨f, hf, e⟩ := List.mem_map.1 h
  obtain ⟨h1, h2⟩ := List.mem_filter.1 hf
  obtain ⟨i, hi, rfl⟩ := List.mem_iff_getElem.1 h1
  rw [List.length_take] at hi
  rw [List.getElem_take] at h2 e
  exact ⟨i, by omega, by omega, by simpa using h2, e⟩
theorem files_below {s : List FileB} (h : Fine s) {k : Nat} (hk : k < s.length) (hd : deepB s[k].1 = false) : ∀ y ∈ filesL (s.take k), cmp1 y (headB s[k].1) = -1 := by
  intro y hy
  obtain ⟨i, hi, hik, hdi, rfl⟩ := file_mem hy
  exact (head_le h hik hk).2 hdi hd

def UpB (l : List ByteArray) : Prop := l.Pairwise fun a b => cmp1 a b = -1
theorem cmp1_lt_le {a b c : ByteArray} (h : cmp1 a b = -1) (k : cmp1 b c ≤ 0) : cmp1 a c = -1 := by
  obtain ⟨t1, t2⟩ := cmp1_trans (by omega : cmp1 a b ≤ 0) k
  rcases cmp1_range a c with r | r | r
  · exact r
  · have := (t2 r).1; omega
  · omega
theorem last_max {l : List ByteArray} (h : UpB l) {x : ByteArray} (hl : ∀ y ∈ l, cmp1 y x ≤ 0) (hn : ¬ l.getLast? = some x) : ∀ y ∈ l, cmp1 y x = -1 := by
  intro y hy
  obtain ⟨i, hi, rfl⟩ := List.mem_iff_getElem.1 hy
  have hlast : l.getLast? = some (l[l.length - 1]'(by omega)) := by
    rw [List.getLast?_eq_getElem?, List.getElem?_eq_getElem (by omega)]
  have hz : cmp1 (l[l.length - 1]'(by omega)) x = -1 := by
    have h1 := hl _ (List.getElem_mem (by omega : l.length - 1 < l.length))
    rcases cmp1_range (l[l.length - 1]'(by omega)) x with r | r | r
    · exact r
    · exact absurd (by rw [hlast, cmp1_eq.1 r]) hn
    · omega
  by_cases e : i = l.length - 1
  · subst e; exact hz
  · have := (List.pairwise_iff_getElem.1 h) i (l.length - 1) hi (by omega) (by omega)
    exact cmp1_lt_le this (by omega)
theorem dirs_up {s : List FileB} (h : Fine s) : ∀ k, k ≤ s.length → UpB (dirsL (s.take k)) ∧ ∀ y ∈ dirsL (s.take k), ∃ i, ∃ hi : i < s.length, i < k ∧ headB s[i].1 = y
  | 0, _ => ⟨List.Pairwise.nil, by simp [dirsL]⟩
  | k + 1, hk => by
    obtain ⟨h1, h2⟩ := dirs_up h k (by omega)
    have hk' : k < s.length := by omega
    rw [dirs_snoc hk']
    have hle : ∀ y ∈ dirsL (s.take k), cmp1 y (headB s[k].1) ≤ 0 := by
      intro y hy
      obtain ⟨i, hi, hik, rfl⟩ := h2 y hy
      exact (head_le h hik hk').1
    split
    · unfold dirStep
      split
      · exact ⟨h1, fun y hy => by obtain ⟨i, hi, hik, e⟩ := h2 y hy; exact ⟨i, hi, by omega, e⟩⟩
      · rename_i hn
        refine ⟨?_, fun y hy => ?_⟩
        · unfold UpB
          rw [List.pairwise_append]
          refine ⟨h1, List.pairwise_singleton _ _, fun y hy z hz => ?_⟩
          rw [List.mem_singleton.1 hz]
          exact last_max h1 hle hn y hy
        · rcases List.mem_append.1 hy with hy | hy
          · obtain ⟨i, hi, hik, e⟩ := h2 y hy; exact ⟨i, hi, by omega, e⟩
          · exact ⟨k, hk', by omega, (List.mem_singleton.1 hy).symm⟩
    · exact ⟨h1, fun y hy => by obtain ⟨i, hi, hik, e⟩ := h2 y hy; exact ⟨i, hi, by omega, e⟩⟩
theorem dirs_le {s : List FileB} (h : Fine s) {k : Nat} (hk : k < s.length) : ∀ y ∈ dirsL (s.take k), cmp1 y (headB s[k].1) ≤ 0 := by
  intro y hy
  obtain ⟨i, hi, hik, rfl⟩ := (dirs_up h k (by omega)).2 y hy
  exact (head_le h hik hk).1
/-- What the document's put comes to. -/
def putS (l : List ByteArray) (x : ByteArray) : List ByteArray := if hasS l x then l else l ++ [x]
theorem below_has {l : List ByteArray} {x : ByteArray} (h : ∀ y ∈ l, cmp1 y x = -1) : hasS l x = false := by
  cases e : hasS l x
  · rfl
  · have := h x (hasS_iff.1 e)
    rw [cmp1_eq.2 rfl] at this; cases this
theorem files_put {s : List FileB} (h : Fine s) {k : Nat} (hk : k < s.length) (hd : deepB s[k].1 = false) : putS (filesL (s.take k)) (headB s[k].1) = filesL (s.take (k + 1)) := by
  rw [files_snoc hk, hd]
  unfold putS
  rw [below_has (files_below h hk hd)]; rfl
theorem dirs_put {s : List FileB} (h : Fine s) {k : Nat} (hk : k < s.length) (hd : deepB s[k].1 = true) : putS (dirsL (s.take k)) (headB s[k].1) = dirsL (s.take (k + 1)) ∧ (hasS (dirsL (s.take k)) (headB s[k].1) = false → ∀ y ∈ dirsL (s.take k), cmp1 y (headB s[k].1) = -1) := by
  have hu := (dirs_up h k (by omega)).1
  have hle := dirs_le h hk
  rw [dirs_snoc hk, if_pos hd]
  unfold putS dirStep
  by_cases e : (dirsL (s.take k)).getLast? = some (headB s[k].1)
  · have hm : hasS (dirsL (s.take k)) (headB s[k].1) = true := hasS_iff.2 (List.mem_of_getLast? e)
    rw [if_pos e, hm, if_pos rfl]
    exact ⟨rfl, fun h => by cases h⟩
  · have hb := last_max hu hle e
    rw [if_neg e, below_has hb, if_neg (by decide)]
    exact ⟨rfl, fun _ => hb⟩
end Go.Proofs.Yteffoajheolpmaa
