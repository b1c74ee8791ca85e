/-
  Plain facts, of no program: a release of Go, told by the version that is made of it.
-/
import Derived.Test.YtkciiicfdjoijaaDoorS2
namespace Go.Proofs.YtkciiicfdjoijaaDoor

def relL (l : List UInt8) : Bool := (l.take 2 == [49, 46]) && numOk (l.drop 2)
def relV (l : List UInt8) : List UInt8 := 118 :: (l ++ [46, 48])
def relOk (l : List UInt8) : Bool := okV (relV l) && decide ((verL (relV l)).ma = 1) && decide ((verL (relV l)).pa = 0) && decide ((verL (relV l)).pre = ⟨#[]⟩) && decide ((verL (relV l)).mta = ⟨#[]⟩)

theorem mkB_nil {l : List UInt8} (h : mkB l = ⟨#[]⟩) : l = [] := by
  have := congrArg (fun x : ByteArray => x.data.toList) h
  simpa [data_mkB] using this
theorem sp_nil_pre : (sp 46 []).all preId = false := by decide
theorem sp_nil_idn : (sp 46 []).all idn = false := by decide
theorem count_split {d : UInt8} : ∀ {l : List UInt8}, l.count d = 1 → ∃ a b, l = a ++ d :: b ∧ (∀ c ∈ a, c ≠ d) ∧ (∀ c ∈ b, c ≠ d)
  | [], h => by simp at h
  | x :: r, h => by
    by_cases hx : x = d
    · subst hx
      rw [List.count_cons_self] at h
      refine ⟨[], r, rfl, by simp, fun c hc e => ?_⟩
      subst e
      have := List.count_pos_iff.2 hc
      omega
    · rw [List.count_cons_of_ne hx] at h
      obtain ⟨a, b, rfl, ha, hb⟩ := count_split h
      refine ⟨x :: a, b, rfl, ?_, hb⟩
      intro c hc
      rcases List.mem_cons.1 hc with rfl | h'
      · exact hx
      · exact ha c h'
theorem dec_1 : Lib.decDigits 1 = [49] := by rw [dec_small (by decide)]; decide
theorem dec_0 : Lib.decDigits 0 = [48] := by rw [dec_small (by decide)]; decide

theorem rel_to {l : List UInt8} (h : relOk l = true) : relL l = true := by
  simp only [relOk, Bool.and_eq_true, decide_eq_true_eq] at h
  obtain ⟨⟨⟨⟨h1, h2⟩, h3⟩, h4⟩, h5⟩ := h
  simp only [verL, h1, if_true] at h2 h3 h4 h5
  have p := mkB_nil h4
  have m := mkB_nil h5
  simp only [okV, Bool.and_eq_true] at h1
  obtain ⟨⟨⟨_, n⟩, a⟩, b⟩ := h1
  rw [p, sp_nil_pre, Bool.or_false, Bool.not_eq_true'] at a
  rw [m, sp_nil_idn, Bool.or_false, Bool.not_eq_true'] at b
  have e1 := (hasL_no b).1
  rw [e1] at a
  have e2 : coreOf (relV l) = relV l := by rw [coreOf, e1, (hasL_no a).1]
  rw [e2] at n h2
  have e3 : numsIn (relV l) = sp 46 (l ++ [46, 48]) := by simp [numsIn, relV]
  simp only [numsOk, e3, Bool.and_eq_true, decide_eq_true_eq] at n
  obtain ⟨n1, n2⟩ := n
  have n3 : l.count 46 = 1 := by
    rw [sp_count, List.count_append] at n1
    simp at n1; exact n1
  obtain ⟨x, y, rfl, hx, hy⟩ := count_split n3
  have e4 : sp 46 ((x ++ 46 :: y) ++ [46, 48]) = [x, y, [48]] := by
    rw [List.append_assoc, List.cons_append, sp_at hx, sp_at hy]
    rfl
  simp only [nth, e3, e4] at h2
  rw [e4] at n2
  simp only [List.all_cons, Bool.and_eq_true] at n2
  have hx1 : numV x = 1 := by have : ((numV x : Nat) : Int) = 1 := by simpa using h2
                              omega
  have : x = [49] := by rw [← dec_ok n2.1, hx1, dec_1]
  subst this
  simp [relL, n2.2.1]

theorem rel_from {l : List UInt8} (h : relL l = true) : relOk l = true := by
  simp only [relL, Bool.and_eq_true, beq_iff_eq] at h
  obtain ⟨h1, h2⟩ := h
  have hl : l = [49, 46] ++ l.drop 2 := by rw [← h1, List.take_append_drop]
  generalize hb : l.drop 2 = b at *
  clear hb h1
  subst hl
  have hlen : b.length ≤ 9 := by simp [numOk] at h2; exact h2.1.1
  have e : relV ([49, 46] ++ b) = verT 1 (numV b) 0 [] := by
    rw [verT, dec_1, dec_0, dec_ok h2]; simp [relV]
  have := ver_plain (a := 1) (b := numV b) (c := 0) (by decide) (numV_lt h2) (by decide) [] rfl (.inl rfl) (by rw [← e]; simp [relV]; omega)
  rw [← e] at this
  rw [relOk, this.1, this.2]
  simp [restL]
  rfl
theorem rel_same (l : List UInt8) : relOk l = relL l := by
  cases h : relL l
  · cases k : relOk l
    · rfl
    · rw [rel_to k] at h; cases h
  · exact rel_from h
end Go.Proofs.YtkciiicfdjoijaaDoor
