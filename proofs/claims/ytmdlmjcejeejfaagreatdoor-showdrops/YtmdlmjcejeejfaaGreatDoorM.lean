/-
  Plain facts, of no program: the elements of a text (what stands between its slashes), as lists of bytes.
-/
import Derived.Lib.Strings
import Derived.Lib.Bytealg
import Derived.Lib.IndexLaws
namespace Go.Proofs.YtmdlmjcejeejfaaGreatDoor

def spl : List UInt8 → List (List UInt8)
  | [] => [[]]
  | c :: r => if c = 47 then [] :: spl r else match spl r with
    | [] => [[c]]
    | h :: t => (c :: h) :: t
def els (l : List UInt8) : List (List UInt8) := if l.isEmpty then [] else spl l
def mkB (l : List UInt8) : ByteArray := ⟨l.toArray⟩
def partsB (s : ByteArray) : List ByteArray := (spl s.data.toList).map mkB
def elemsB (s : ByteArray) : List ByteArray := (els s.data.toList).map mkB

theorem mkB_data (s : ByteArray) : mkB s.data.toList = s := rfl
theorem data_mkB (l : List UInt8) : (mkB l).data.toList = l := rfl
theorem mkB_inj {a b : List UInt8} (h : mkB a = mkB b) : a = b := by
  have := congrArg (fun s : ByteArray => s.data.toList) h
  simpa [data_mkB] using this

theorem spl_ne : ∀ l, spl l ≠ []
  | [] => by simp [spl]
  | c :: r => by
    unfold spl
    split
    · simp
    · split <;> simp

theorem spl_cons {c : UInt8} (h : c ≠ 47) (r : List UInt8) {p : List UInt8} {t : List (List UInt8)} (e : spl r = p :: t) : spl (c :: r) = (c :: p) :: t := by
  rw [spl, if_neg h, e]

theorem spl_none : ∀ {p : List UInt8}, (∀ c ∈ p, c ≠ 47) → spl p = [p]
  | [], _ => rfl
  | c :: r, h => spl_cons (h c (by simp)) r (spl_none fun x hx => h x (by simp [hx]))

theorem spl_slash : ∀ {p r : List UInt8}, (∀ c ∈ p, c ≠ 47) → spl (p ++ 47 :: r) = p :: spl r
  | [], r, _ => by simp [spl]
  | c :: p, r, h => spl_cons (h c (by simp)) (p ++ 47 :: r) (spl_slash fun x hx => h x (by simp [hx]))

/-- No element has a slash. -/
theorem spl_noslash : ∀ (l : List UInt8), ∀ e ∈ spl l, ∀ c ∈ e, c ≠ 47
  | [], e, he, c, hc => by simp [spl] at he; subst he; simp at hc
  | x :: r, e, he, c, hc => by
    have ih := spl_noslash r
    by_cases hx : x = 47
    · rw [spl, if_pos hx] at he
      rcases List.mem_cons.1 he with rfl | h
      · simp at hc
      · exact ih e h c hc
    · obtain ⟨p, t, ht⟩ : ∃ p t, spl r = p :: t := by
        cases h : spl r with
        | nil => exact absurd h (spl_ne r)
        | cons p t => exact ⟨p, t, rfl⟩
      rw [spl_cons hx r ht] at he
      rcases List.mem_cons.1 he with rfl | h
      · rcases List.mem_cons.1 hc with rfl | h'
        · exact hx
        · exact ih p (by rw [ht]; simp) c h'
      · exact ih e (by rw [ht]; simp [h]) c hc

/-- The elements with slashes between. -/
def joinL : List (List UInt8) → List UInt8
  | [] => []
  | [p] => p
  | p :: q :: t => p ++ 47 :: joinL (q :: t)

theorem joinL_cons (p : List UInt8) {t : List (List UInt8)} (h : t ≠ []) : joinL (p :: t) = p ++ 47 :: joinL t := by
  cases t with
  | nil => exact absurd rfl h
  | cons q t => rfl

theorem joinL_spl : ∀ l, joinL (spl l) = l
  | [] => rfl
  | c :: r => by
    have ih := joinL_spl r
    by_cases hc : c = 47
    · rw [spl, if_pos hc, joinL_cons _ (spl_ne r), ih, hc]; rfl
    · obtain ⟨p, t, ht⟩ : ∃ p t, spl r = p :: t := by
        cases h : spl r with
        | nil => exact absurd h (spl_ne r)
        | cons p t => exact ⟨p, t, rfl⟩
      rw [spl_cons hc r ht]
      rw [ht] at ih
      cases t with
      | nil => simpa [joinL] using ih
      | cons q t => rw [joinL_cons _ (by simp)] at ih ⊢; rw [← ih]; rfl

theorem joinL_els (l : List UInt8) : joinL (els l) = l := by
  unfold els
  cases l with
  | nil => rfl
  | cons c r => exact joinL_spl (c :: r)

theorem els_inj {a b : List UInt8} (h : els a = els b) : a = b := by rw [← joinL_els a, h, joinL_els]

theorem spl_len : ∀ l, ∀ e ∈ spl l, e.length ≤ l.length
  | [], e, he => by simp [spl] at he; subst he; simp
  | x :: r, e, he => by
    have ih := spl_len r
    by_cases hx : x = 47
    · rw [spl, if_pos hx] at he
      rcases List.mem_cons.1 he with rfl | h
      · simp
      · have := ih e h; simp; omega
    · obtain ⟨p, t, ht⟩ : ∃ p t, spl r = p :: t := by
        cases h : spl r with
        | nil => exact absurd h (spl_ne r)
        | cons p t => exact ⟨p, t, rfl⟩
      rw [spl_cons hx r ht] at he
      rcases List.mem_cons.1 he with rfl | h
      · have := ih p (by rw [ht]; simp); simp; omega
      · have := ih e (by rw [ht]; simp [h]); simp; omega

theorem spl_count : ∀ l, (spl l).length ≤ l.length + 1
  | [] => by simp [spl]
  | x :: r => by
    have ih := spl_count r
    by_cases hx : x = 47
    · rw [spl, if_pos hx]; simp; omega
    · obtain ⟨p, t, ht⟩ : ∃ p t, spl r = p :: t := by
        cases h : spl r with
        | nil => exact absurd h (spl_ne r)
        | cons p t => exact ⟨p, t, rfl⟩
      rw [spl_cons hx r ht]; rw [ht] at ih; simp at ih ⊢; omega

theorem size_data (s : ByteArray) : s.data.toList.length = s.size := (Lib.size_eq s).symm

theorem elemsB_size {s e : ByteArray} (h : e ∈ elemsB s) : e.size ≤ s.size := by
  simp only [elemsB, List.mem_map] at h
  obtain ⟨l, hl, rfl⟩ := h
  unfold els at hl
  split at hl
  · simp at hl
  · have := spl_len _ l hl
    rw [← size_data, ← size_data, data_mkB]; exact this

theorem elemsB_count (s : ByteArray) : (elemsB s).length ≤ s.size + 1 := by
  simp only [elemsB, List.length_map]
  unfold els
  split
  · simp
  · have := spl_count s.data.toList; rw [size_data] at this; exact this

theorem elemsB_nil {s : ByteArray} (h : s.toList = []) : elemsB s = [] := by
  rw [Lib.toList_data] at h
  simp [elemsB, els, h]
theorem elemsB_ne {s : ByteArray} (h : ¬ s.toList = []) : elemsB s = partsB s := by
  rw [Lib.toList_data] at h
  have : s.data.toList.isEmpty = false := by cases hh : s.data.toList <;> simp_all
  simp only [elemsB, els, this, partsB]; rfl

/-- As strings.Cut goes on. -/
theorem partsB_none {s : ByteArray} (h : Lib.indexByte s.data.toList 47 = -1) : partsB s = [s] := by
  have := Lib.indexByte_none h
  rw [partsB, spl_none]
  · rfl
  · intro c hc e
    obtain ⟨k, hk⟩ := List.mem_iff_getElem?.1 hc
    exact this k (by rw [hk, e])

theorem take_slash {l : List UInt8} {o : Nat} (h : l[o]? = some 47) : l = l.take o ++ 47 :: l.drop (o + 1) := by
  obtain ⟨hlt, he⟩ := List.getElem?_eq_some_iff.1 h
  conv => lhs; rw [← List.take_append_drop o l, List.drop_eq_getElem_cons hlt, he]

theorem partsB_cut {s : ByteArray} {o : Nat} (h : Lib.indexByte s.data.toList 47 = o) : o < s.size ∧ partsB s = s.extract 0 o :: partsB (s.extract (o + 1) s.size) := by
  obtain ⟨h1, h2⟩ := Lib.indexByte_some h
  obtain ⟨hlt, he⟩ := List.getElem?_eq_some_iff.1 h1
  rw [size_data] at hlt
  refine ⟨hlt, ?_⟩
  have hn : ∀ c ∈ s.data.toList.take o, c ≠ 47 := by
    intro c hc e
    obtain ⟨k, hk, hk'⟩ := List.mem_iff_getElem.1 hc
    rw [List.length_take, size_data] at hk
    rw [List.getElem_take] at hk'
    exact h2 k (by omega) (by rw [List.getElem?_eq_getElem (by rw [size_data]; omega), hk', e])
  have e : (s.data.toList.drop (o + 1)).take (s.size - (o + 1)) = s.data.toList.drop (o + 1) := List.take_of_length_le (by rw [List.length_drop, size_data]; omega)
  rw [partsB, partsB, Lib.extract_data, e, Lib.extract_eq]
  conv => lhs; rw [take_slash h1, spl_slash hn]
  rfl

end Go.Proofs.YtmdlmjcejeejfaaGreatDoor
