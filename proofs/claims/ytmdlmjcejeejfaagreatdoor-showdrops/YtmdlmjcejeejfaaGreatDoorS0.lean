/-
  Plain facts, of no program: what stands between the signs d of a text; the cut at the first one; numbers, identifiers, versions.
-/
import Derived.Test.YtmdlmjcejeejfaaGreatDoorM
namespace Go.Proofs.YtmdlmjcejeejfaaGreatDoor

def sp (d : UInt8) : List UInt8 → List (List UInt8)
  | [] => [[]]
  | c :: r => if c = d then [] :: sp d r else match sp d r with
    | [] => [[c]]
    | h :: t => (c :: h) :: t
def partsD (d : UInt8) (s : ByteArray) : List ByteArray := (sp d s.data.toList).map mkB

theorem sp_ne (d : UInt8) : ∀ l, sp d l ≠ []
  | [] => by simp [sp]
  | c :: r => by
    unfold sp
    split
    · simp
    · split <;> simp
theorem sp_ex (d : UInt8) (l : List UInt8) : ∃ p t, sp d l = p :: t := by
  cases h : sp d l with
  | nil => exact absurd h (sp_ne d l)
  | cons p t => exact ⟨p, t, rfl⟩
theorem sp_cons {d c : UInt8} (h : c ≠ d) (r : List UInt8) {p : List UInt8} {t : List (List UInt8)} (e : sp d r = p :: t) : sp d (c :: r) = (c :: p) :: t := by
  rw [sp, if_neg h, e]
theorem sp_none {d : UInt8} : ∀ {p : List UInt8}, (∀ c ∈ p, c ≠ d) → sp d p = [p]
  | [], _ => rfl
  | c :: r, h => sp_cons (h c (by simp)) r (sp_none fun x hx => h x (by simp [hx]))
theorem sp_at {d : UInt8} : ∀ {p r : List UInt8}, (∀ c ∈ p, c ≠ d) → sp d (p ++ d :: r) = p :: sp d r
  | [], r, _ => by simp [sp]
  | c :: p, r, h => sp_cons (h c (by simp)) (p ++ d :: r) (sp_at fun x hx => h x (by simp [hx]))
theorem sp_free {d : UInt8} : ∀ (l : List UInt8), ∀ e ∈ sp d l, ∀ c ∈ e, c ≠ d
  | [], e, he, c, hc => by simp [sp] at he; subst he; simp at hc
  | x :: r, e, he, c, hc => by
    have ih := sp_free (d := d) r
    by_cases hx : x = d
    · rw [sp, if_pos hx] at he
      rcases List.mem_cons.1 he with rfl | h
      · simp at hc
      · exact ih e h c hc
    · obtain ⟨p, t, ht⟩ := sp_ex d r
      rw [sp_cons hx r ht] at he
      rcases List.mem_cons.1 he with rfl | h
      · rcases List.mem_cons.1 hc with rfl | h'
        · exact hx
        · exact ih p (by rw [ht]; simp) c h'
      · exact ih e (by rw [ht]; simp [h]) c hc
theorem sp_sub {d : UInt8} : ∀ (l : List UInt8), ∀ e ∈ sp d l, ∀ c ∈ e, c ∈ l
  | [], e, he, c, hc => by simp [sp] at he; subst he; simp at hc
  | x :: r, e, he, c, hc => by
    have ih := sp_sub (d := d) r
    by_cases hx : x = d
    · rw [sp, if_pos hx] at he
      rcases List.mem_cons.1 he with rfl | h
      · simp at hc
      · exact List.mem_cons_of_mem _ (ih e h c hc)
    · obtain ⟨p, t, ht⟩ := sp_ex d r
      rw [sp_cons hx r ht] at he
      rcases List.mem_cons.1 he with rfl | h
      · rcases List.mem_cons.1 hc with rfl | h'
        · simp
        · exact List.mem_cons_of_mem _ (ih p (by rw [ht]; simp) c h')
      · exact List.mem_cons_of_mem _ (ih e (by rw [ht]; simp [h]) c hc)
theorem sp_len {d : UInt8} : ∀ (l : List UInt8), ∀ e ∈ sp d l, e.length ≤ l.length
  | [], e, he => by simp [sp] at he; subst he; simp
  | x :: r, e, he => by
    have ih := sp_len (d := d) r
    by_cases hx : x = d
    · rw [sp, if_pos hx] at he
      rcases List.mem_cons.1 he with rfl | h
      · simp
      · have := ih e h; simp; omega
    · obtain ⟨p, t, ht⟩ := sp_ex d r
      rw [sp_cons hx r ht] at he
      rcases List.mem_cons.1 he with rfl | h
      · have := ih p (by rw [ht]; simp); simp; omega
      · have := ih e (by rw [ht]; simp [h]); simp; omega
theorem sp_count (d : UInt8) : ∀ l, (sp d l).length = l.count d + 1
  | [] => by simp [sp]
  | x :: r => by
    have ih := sp_count d r
    by_cases hx : x = d
    · subst hx; rw [sp, if_pos rfl]; simp [ih]
    · obtain ⟨p, t, ht⟩ := sp_ex d r
      rw [sp_cons hx r ht, List.count_cons_of_ne hx, ← ih, ht]; simp
def joinD (d : UInt8) : List (List UInt8) → List UInt8
  | [] => []
  | [p] => p
  | p :: q :: t => p ++ d :: joinD d (q :: t)
theorem joinD_cons (d : UInt8) (p : List UInt8) {t : List (List UInt8)} (h : t ≠ []) : joinD d (p :: t) = p ++ d :: joinD d t := by
  cases t with
  | nil => exact absurd rfl h
  | cons q t => rfl
theorem joinD_sp (d : UInt8) : ∀ l, joinD d (sp d l) = l
  | [] => rfl
  | c :: r => by
    have ih := joinD_sp d r
    by_cases hc : c = d
    · rw [sp, if_pos hc, joinD_cons d _ (sp_ne d r), ih, hc]; rfl
    · obtain ⟨p, t, ht⟩ := sp_ex d r
      rw [sp_cons hc r ht]
      rw [ht] at ih
      cases t with
      | nil => simpa [joinD] using ih
      | cons q t => rw [joinD_cons d _ (by simp)] at ih ⊢; rw [← ih]; rfl
theorem sp_inj {d : UInt8} {a b : List UInt8} (h : sp d a = sp d b) : a = b := by rw [← joinD_sp d a, h, joinD_sp]

theorem partsD_size {d : UInt8} {s e : ByteArray} (h : e ∈ partsD d s) : e.size ≤ s.size := by
  simp only [partsD, List.mem_map] at h
  obtain ⟨l, hl, rfl⟩ := h
  have := sp_len _ l hl
  rw [← size_data, ← size_data, data_mkB]; exact this
theorem partsD_count (d : UInt8) (s : ByteArray) : (partsD d s).length ≤ s.size + 1 := by
  simp only [partsD, List.length_map, sp_count, ← size_data]
  have := List.count_le_length (a := d) (l := s.data.toList); omega

/-- As strings.Cut goes on. -/
theorem partsD_none {d : UInt8} {s : ByteArray} (h : Lib.indexByte s.data.toList d = -1) : partsD d s = [s] := by
  have := Lib.indexByte_none h
  rw [partsD, sp_none]
  · rfl
  · intro c hc e
    obtain ⟨k, hk⟩ := List.mem_iff_getElem?.1 hc
    exact this k (by rw [hk, e])
theorem take_at {d : UInt8} {l : List UInt8} {o : Nat} (h : l[o]? = some d) : l = l.take o ++ d :: l.drop (o + 1) := by
  obtain ⟨hlt, he⟩ := List.getElem?_eq_some_iff.1 h
  conv => lhs; rw [← List.take_append_drop o l, List.drop_eq_getElem_cons hlt, he]
theorem index_take {d : UInt8} {l : List UInt8} {o : Nat} (h : Lib.indexByte l d = o) : o < l.length ∧ l = l.take o ++ d :: l.drop (o + 1) ∧ ∀ c ∈ l.take o, c ≠ d := by
  obtain ⟨h1, h2⟩ := Lib.indexByte_some h
  obtain ⟨hlt, he⟩ := List.getElem?_eq_some_iff.1 h1
  refine ⟨hlt, take_at h1, ?_⟩
  intro c hc e
  obtain ⟨k, hk, hk'⟩ := List.mem_iff_getElem.1 hc
  rw [List.length_take] at hk
  rw [List.getElem_take] at hk'
  exact h2 k (by omega) (by rw [List.getElem?_eq_getElem (by omega), hk', e])
theorem extract_tail (s : ByteArray) (k : Nat) : (s.extract k s.size).data.toList = s.data.toList.drop k := by
  rw [Lib.extract_data, List.take_of_length_le (by rw [List.length_drop, size_data]; omega)]
theorem extract_front (s : ByteArray) (k : Nat) : (s.extract 0 k).data.toList = s.data.toList.take k := by
  rw [Lib.extract_data]; simp
theorem partsD_cut {d : UInt8} {s : ByteArray} {o : Nat} (h : Lib.indexByte s.data.toList d = o) : o < s.size ∧ partsD d s = s.extract 0 o :: partsD d (s.extract (o + 1) s.size) := by
  obtain ⟨h1, h2, h3⟩ := index_take h
  rw [size_data] at h1
  refine ⟨h1, ?_⟩
  rw [partsD, partsD, extract_tail]
  conv => lhs; rw [h2, sp_at h3]
  rw [List.map_cons, ← extract_front, mkB_data]

/-- The text ahead of the first d, and behind it. -/
def headL (d : UInt8) : List UInt8 → List UInt8
  | [] => []
  | c :: r => if c = d then [] else c :: headL d r
def restL (d : UInt8) : List UInt8 → List UInt8
  | [] => []
  | c :: r => if c = d then r else restL d r
def hasL (d : UInt8) : List UInt8 → Bool
  | [] => false
  | c :: r => if c = d then true else hasL d r
theorem headL_none {d : UInt8} : ∀ {l : List UInt8}, (∀ c ∈ l, c ≠ d) → headL d l = l ∧ restL d l = [] ∧ hasL d l = false
  | [], _ => ⟨rfl, rfl, rfl⟩
  | c :: r, h => by
    have ih := headL_none (d := d) (l := r) fun x hx => h x (by simp [hx])
    have hc := h c (by simp)
    simp [headL, restL, hasL, hc, ih]
theorem headL_at {d : UInt8} : ∀ {p r : List UInt8}, (∀ c ∈ p, c ≠ d) → headL d (p ++ d :: r) = p ∧ restL d (p ++ d :: r) = r ∧ hasL d (p ++ d :: r) = true
  | [], r, _ => by simp [headL, restL, hasL]
  | c :: p, r, h => by
    have ih := headL_at (d := d) (p := p) (r := r) fun x hx => h x (by simp [hx])
    have hc := h c (by simp)
    simp [headL, restL, hasL, hc, ih]
theorem headL_free {d : UInt8} : ∀ (l : List UInt8), ∀ c ∈ headL d l, c ≠ d
  | [], c, hc => by simp [headL] at hc
  | x :: r, c, hc => by
    unfold headL at hc
    split at hc
    · simp at hc
    · rcases List.mem_cons.1 hc with rfl | h
      · assumption
      · exact headL_free r c h
theorem headL_len {d : UInt8} : ∀ (l : List UInt8), (headL d l).length ≤ l.length
  | [] => by simp [headL]
  | x :: r => by
    have := headL_len (d := d) r
    unfold headL; split <;> simp; omega
theorem restL_len {d : UInt8} : ∀ (l : List UInt8), (restL d l).length ≤ l.length
  | [] => by simp [restL]
  | x :: r => by
    have := restL_len (d := d) r
    unfold restL; split <;> simp; omega
/-- A text is what stands ahead, the sign and what stands behind, if the sign is there. -/
theorem headL_whole {d : UInt8} : ∀ (l : List UInt8), l = headL d l ++ (if hasL d l then d :: restL d l else [])
  | [] => by simp [headL, hasL]
  | x :: r => by
    by_cases h : x = d
    · simp [headL, restL, hasL, h]
    · have ih := headL_whole (d := d) r
      simp only [headL, restL, hasL, h, if_false]
      conv => lhs; rw [ih]
      rfl
theorem hasL_no {d : UInt8} {l : List UInt8} (h : hasL d l = false) : headL d l = l ∧ restL d l = [] := by
  induction l with
  | nil => exact ⟨rfl, rfl⟩
  | cons c r ih =>
    unfold hasL at h
    split at h
    · cases h
    · rename_i hc
      have := ih h
      simp [headL, restL, hc, this]
theorem hasL_iff {d : UInt8} {l : List UInt8} : hasL d l = true ↔ d ∈ l := by
  induction l with
  | nil => simp [hasL]
  | cons c r ih =>
    unfold hasL
    by_cases h : c = d
    · simp [h]
    · rw [if_neg h, ih]; simp [Ne.symm h]

/-- What strings.Cut at one sign tells. -/
def cutD (d : UInt8) (s : ByteArray) : ByteArray × ByteArray × Bool := (mkB (headL d s.data.toList), mkB (restL d s.data.toList), hasL d s.data.toList)
theorem cutD_no {d : UInt8} {s : ByteArray} (h : Lib.indexByte s.data.toList d = -1) : cutD d s = (s, ⟨#[]⟩, false) := by
  have hn := Lib.indexByte_none h
  have := headL_none (d := d) (l := s.data.toList) (by
    intro c hc e
    obtain ⟨k, hk⟩ := List.mem_iff_getElem?.1 hc
    exact hn k (by rw [hk, e]))
  rw [cutD, this.1, this.2.1, this.2.2]; rfl
theorem cutD_yes {d : UInt8} {s : ByteArray} {k : Nat} (h : Lib.indexByte s.data.toList d = k) : cutD d s = (s.extract 0 k, s.extract (k + 1) s.size, true) := by
  obtain ⟨h1, h2, h3⟩ := index_take h
  have := headL_at (d := d) (r := s.data.toList.drop (k + 1)) h3
  rw [← h2] at this
  rw [cutD, this.1, this.2.1, this.2.2, ← extract_front, ← extract_tail, mkB_data, mkB_data]

/-! ### Signs, numbers, identifiers -/
def dig (c : UInt8) : Bool := decide (48 ≤ c.toNat) && decide (c.toNat ≤ 57)
def nam (c : UInt8) : Bool := dig c || decide (65 ≤ c.toNat) && decide (c.toNat ≤ 90) || decide (97 ≤ c.toNat) && decide (c.toNat ≤ 122) || decide (c.toNat = 45)
def hexS (c : UInt8) : Bool := dig c || decide (97 ≤ c.toNat) && decide (c.toNat ≤ 102)
def inSp : List UInt8 → UInt8 → Bool
  | a :: b :: r, c => decide (a.toNat ≤ c.toNat) && decide (c.toNat ≤ b.toNat) || inSp r c
  | _, _ => false
theorem inSp_dig (c : UInt8) : inSp [48, 57] c = dig c := by simp [inSp, dig]
theorem inSp_hex (c : UInt8) : inSp [48, 57, 97, 102] c = hexS c := by simp [inSp, hexS, dig]
theorem inSp_nam (c : UInt8) : inSp [48, 57, 65, 90, 97, 122, 45, 45] c = nam c := by
  have : (decide (45 ≤ c.toNat) && decide (c.toNat ≤ 45)) = decide (c.toNat = 45) := by
    rw [← Bool.decide_and]; congr 1; apply propext; omega
  simp [inSp, nam, dig, this, Bool.or_assoc]
def allL (p : UInt8 → Bool) (l : List UInt8) : Bool := !l.isEmpty && l.all p
def digs (l : List UInt8) : Bool := allL dig l
def idn (l : List UInt8) : Bool := allL nam l
def nought (l : List UInt8) : Bool := decide (1 < l.length) && (l.head? == some 48)
def preId (l : List UInt8) : Bool := idn l && !(digs l && nought l)
def numOk (l : List UInt8) : Bool := decide (l.length ≤ 9) && digs l && !nought l
def numV (l : List UInt8) : Nat := l.foldl (fun n c => 10 * n + (c.toNat - 48)) 0

structure Ver where
  ma : Int
  mi : Int
  pa : Int
  pre : ByteArray
  mta : ByteArray
deriving DecidableEq
def Ver.zero : Ver := ⟨0, 0, 0, ⟨#[]⟩, ⟨#[]⟩⟩

def coreOf (l : List UInt8) : List UInt8 := headL 45 (headL 43 l)
def preOf (l : List UInt8) : List UInt8 := restL 45 (headL 43 l)
def metaOf (l : List UInt8) : List UInt8 := restL 43 l
def numsIn : List UInt8 → List (List UInt8)
  | [] => []
  | c :: r => if c = 118 then sp 46 r else []
def numsOk (c : List UInt8) : Bool := decide ((numsIn c).length = 3) && (numsIn c).all numOk
def okV (l : List UInt8) : Bool := decide (l.length ≤ 60) && numsOk (coreOf l) && (!hasL 45 (headL 43 l) || (sp 46 (preOf l)).all preId) && (!hasL 43 l || (sp 46 (metaOf l)).all idn)
def nth (c : List UInt8) (k : Nat) : Nat := numV ((numsIn c).getD k [])
def verL (l : List UInt8) : Ver := if okV l then ⟨nth (coreOf l) 0, nth (coreOf l) 1, nth (coreOf l) 2, mkB (preOf l), mkB (metaOf l)⟩ else Ver.zero
def errL (l : List UInt8) : Int := if okV l then 0 else 30
end Go.Proofs.YtmdlmjcejeejfaaGreatDoor
