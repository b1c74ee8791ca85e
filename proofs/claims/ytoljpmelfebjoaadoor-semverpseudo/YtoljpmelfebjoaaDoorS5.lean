/-
  Plain facts: what is made as a pseudo-version is one.
-/
import Derived.Test.YtoljpmelfebjoaaDoorS4
namespace Go.Proofs.YtoljpmelfebjoaaDoor
set_option linter.unusedVariables false

theorem tail_id {t r : List UInt8} (h1 : t.length = 14) (h3 : digs t = true) (h4 : hexL r = true) : preId (t ++ 45 :: r) = true := by
  have hd : digs (t ++ 45 :: r) = false := by
    unfold digs allL
    have : (t ++ 45 :: r).all dig = false := List.all_eq_false.2 ⟨45, by simp, by decide⟩
    rw [this]; simp
  have hi : idn (t ++ 45 :: r) = true := by
    unfold digs allL at h3
    unfold hexL allL at h4
    unfold idn allL
    simp only [Bool.and_eq_true, List.all_eq_true] at h3 h4 ⊢
    refine ⟨by cases t <;> simp, fun c hc => ?_⟩
    rcases List.mem_append.1 hc with h | h
    · have := h3.2 c h
      simp [nam, this]
    · rcases List.mem_cons.1 h with rfl | h
      · decide
      · have := h4.2 c h
        unfold hexS at this
        unfold nam
        simp only [Bool.or_eq_true, Bool.and_eq_true, decide_eq_true_eq] at this ⊢
        rcases this with k | ⟨k, k'⟩
        · exact .inl (.inl (.inl k))
        · exact .inl (.inr ⟨k, by omega⟩)
  unfold preId
  rw [hd, hi]; rfl
theorem made {C P t r : List UInt8} (Q : List (List UInt8)) (h1 : t.length = 14) (h2 : r.length = 12) (h3 : digs t = true) (h4 : hexL r = true) (hC : ∀ c ∈ C, c ≠ 45) (hC' : ∀ c ∈ C, c ≠ 43) (hP : ∀ c ∈ P, c ≠ 43) (hn : numsOk C = true) (hl : C.length + P.length ≤ 30) (hh : headOk P) (hs : sp 46 (P ++ (t ++ 45 :: r)) = Q ++ [t ++ 45 :: r]) (hQ : Q.all preId = true) : retQ (C ++ 45 :: (P ++ (t ++ 45 :: r))) = .tuple #[.string (mkB t), .string (mkB r), .bool true] := by
  have hfree : ∀ c ∈ C ++ 45 :: (P ++ (t ++ 45 :: r)), c ≠ 43 := by
    intro c hc
    rcases List.mem_append.1 hc with h | h
    · exact hC' c h
    · rcases List.mem_cons.1 h with rfl | h
      · decide
      · rcases List.mem_append.1 h with h | h
        · exact hP c h
        · rcases List.mem_append.1 h with h | h
          · exact dig_no h3 (by decide) c h
          · rcases List.mem_cons.1 h with rfl | h
            · decide
            · exact hex_no h4 (by decide) c h
  obtain ⟨a1, a2, a3⟩ := headL_none hfree
  obtain ⟨b1, b2, b3⟩ := headL_at (d := 45) (p := C) (r := P ++ (t ++ 45 :: r)) hC
  have hok : okV (C ++ 45 :: (P ++ (t ++ 45 :: r))) = true := by
    unfold okV coreOf preOf
    rw [a1, b1, b2, b3, a3, hn, hs, List.all_append, hQ]
    have : decide ((C ++ 45 :: (P ++ (t ++ 45 :: r))).length ≤ 60) = true := decide_eq_true (by simp [h1, h2]; omega)
    rw [this]
    simp [tail_id h1 h3 h4]
  rw [retQ_yes hok]
  have hp : (verL (C ++ 45 :: (P ++ (t ++ 45 :: r)))).pre.data.toList = P ++ (t ++ 45 :: r) := by
    simp only [verL, hok, if_true, data_mkB]
    unfold preOf
    rw [a1, b2]
  exact pseudo_ps (H := P) ⟨hp, h1, h2, h3, h4, hh⟩
theorem made0 {t r : List UInt8} (h1 : t.length = 14) (h2 : r.length = 12) (h3 : digs t = true) (h4 : hexL r = true) : retQ ([118, 48, 46, 48, 46, 48, 45] ++ t ++ [45] ++ r) = .tuple #[.string (mkB t), .string (mkB r), .bool true] := by
  have := made (C := [118, 48, 46, 48, 46, 48]) (P := []) [] h1 h2 h3 h4 (by decide) (by decide) (by decide) (by decide) (by decide) (.inl rfl) (tail_free h3 h4) rfl
  simpa using this
theorem made1 {t r : List UInt8} (h1 : t.length = 14) (h2 : r.length = 12) (h3 : digs t = true) (h4 : hexL r = true) : retQ ([118, 49, 46, 50, 46, 51, 45, 48, 46] ++ t ++ [45] ++ r) = .tuple #[.string (mkB t), .string (mkB r), .bool true] := by
  have := made (C := [118, 49, 46, 50, 46, 51]) (P := [48, 46]) [[48]] h1 h2 h3 h4 (by decide) (by decide) (by decide) (by decide) (by decide) (.inr (.inl rfl))
    (by have a := sp_app 46 [48] (t ++ 45 :: r); rw [tail_free h3 h4] at a; exact a) (by decide)
  simpa using this
theorem made2 {t r : List UInt8} (h1 : t.length = 14) (h2 : r.length = 12) (h3 : digs t = true) (h4 : hexL r = true) : retQ ([118, 49, 46, 50, 46, 51, 45, 114, 99, 46, 49, 46, 48, 46] ++ t ++ [45] ++ r) = .tuple #[.string (mkB t), .string (mkB r), .bool true] := by
  have := made (C := [118, 49, 46, 50, 46, 51]) (P := [114, 99, 46, 49, 46, 48, 46]) [[114, 99], [49], [48]] h1 h2 h3 h4 (by decide) (by decide) (by decide) (by decide) (by decide) (.inr (.inr ⟨by decide, by decide⟩))
    (by have a := sp_app 46 [114, 99, 46, 49, 46, 48] (t ++ 45 :: r); rw [tail_free h3 h4] at a; exact a) (by decide)
  simpa using this
theorem ten_piece' : ∀ k : Fin 10, ((⟨#[48, 49, 50, 51, 52, 53, 54, 55, 56, 57]⟩ : ByteArray).extract k.val (k.val + 1)).data.toList.all dig = true ∧ ((⟨#[48, 49, 50, 51, 52, 53, 54, 55, 56, 57]⟩ : ByteArray).extract k.val (k.val + 1)).size = 1 := by decide +kernel
theorem hex_piece' : ∀ k : Fin 16, ((⟨#[48, 49, 50, 51, 52, 53, 54, 55, 56, 57, 97, 98, 99, 100, 101, 102]⟩ : ByteArray).extract k.val (k.val + 1)).data.toList.all hexS = true ∧ ((⟨#[48, 49, 50, 51, 52, 53, 54, 55, 56, 57, 97, 98, 99, 100, 101, 102]⟩ : ByteArray).extract k.val (k.val + 1)).size = 1 := by decide +kernel
/-- k signs of one kind. -/
def Of (f : UInt8 → Bool) (k : Nat) (t : ByteArray) : Prop := t.size = k ∧ t.data.toList.all f = true
theorem Of.on {f : UInt8 → Bool} {k : Nat} {t x : ByteArray} (h : Of f k t) (hx : x.data.toList.all f = true ∧ x.size = 1) : Of f (k + 1) (x ++ t) := by
  refine ⟨by rw [ByteArray.size_append, h.1, hx.2]; omega, ?_⟩
  have : (x ++ t).data.toList = x.data.toList ++ t.data.toList := by simp
  rw [this, List.all_append, hx.1, h.2]; rfl
theorem Of.done {f : UInt8 → Bool} {k : Nat} {t : ByteArray} (h : Of f (k + 1) t) : allL f t.data.toList = true ∧ t.data.toList.length = k + 1 := by
  have hz : t.data.toList.length = k + 1 := by rw [size_data]; exact h.1
  refine ⟨?_, hz⟩
  unfold allL
  rw [h.2]
  cases hd : t.data.toList with
  | nil => rw [hd] at hz; simp at hz
  | cons => rfl
end Go.Proofs.YtoljpmelfebjoaaDoor
