/-
  Plain facts: the two ways of telling a pseudo-version are one.
-/
import Derived.Test.YtoljpmelfebjoaaDoorS3
namespace Go.Proofs.YtoljpmelfebjoaaDoor
set_option linter.unusedVariables false

theorem sp_app (d : UInt8) : ∀ (A B : List UInt8), sp d (A ++ d :: B) = sp d A ++ sp d B
  | [], B => by simp [sp]
  | c :: A, B => by
    have ih := sp_app d A B
    by_cases h : c = d
    · rw [List.cons_append, sp, if_pos h, ih, sp, if_pos h]; rfl
    · obtain ⟨p, t, e⟩ := sp_ex d A
      rw [e] at ih
      rw [List.cons_append, sp_cons h _ ih, sp_cons h _ e]; rfl
theorem joinD_app (d : UInt8) : ∀ (A B : List (List UInt8)), A ≠ [] → B ≠ [] → joinD d (A ++ B) = joinD d A ++ d :: joinD d B
  | [], _, h, _ => absurd rfl h
  | [a], B, _, hB => by rw [List.singleton_append, joinD_cons d a hB]; rfl
  | a :: b :: A, B, _, hB => by
    have ih := joinD_app d (b :: A) B (by simp) hB
    rw [List.cons_append, joinD_cons d a (by simp), ih, joinD_cons d a (by simp)]; simp
theorem dig_no {t : List UInt8} (h : digs t = true) {d : UInt8} (hd : dig d = false) : ∀ c ∈ t, c ≠ d := by
  intro c hc e
  unfold digs allL at h
  simp only [Bool.and_eq_true, List.all_eq_true] at h
  have := h.2 c hc
  rw [e, hd] at this; exact absurd this (by decide)
theorem hex_no {t : List UInt8} (h : hexL t = true) {d : UInt8} (hd : hexS d = false) : ∀ c ∈ t, c ≠ d := by
  intro c hc e
  unfold hexL allL at h
  simp only [Bool.and_eq_true, List.all_eq_true] at h
  have := h.2 c hc
  rw [e, hd] at this; exact absurd this (by decide)
theorem outQ_ps {x t r : List UInt8} (hx : x = t ++ 45 :: r) (h1 : t.length = 14) (h2 : r.length = 12) (h3 : digs t = true) (h4 : hexL r = true) : outQ (mkB x) = .tuple #[.string (mkB t), .string (mkB r), .bool true] := by
  obtain ⟨e1, e2, -⟩ := headL_at (d := 45) (p := t) (r := r) (dig_no h3 (by decide))
  refine outQ_5 ?_ ?_ ?_ ?_ ?_ ?_
  · unfold cutD; rw [data_mkB, hx, e1]
  · unfold cutD; rw [data_mkB, hx, e2]
  · rw [← size_data, data_mkB]; exact h1
  · rw [data_mkB]; exact h3
  · rw [← size_data, data_mkB]; exact h2
  · rw [data_mkB]; exact h4
theorem tail_free {t r : List UInt8} (h3 : digs t = true) (h4 : hexL r = true) : sp 46 (t ++ 45 :: r) = [t ++ 45 :: r] := by
  refine sp_none fun c hc => ?_
  rcases List.mem_append.1 hc with h | h
  · exact dig_no h3 (by decide) c h
  · rcases List.mem_cons.1 h with rfl | h
    · decide
    · exact hex_no h4 (by decide) c h
theorem pseudo_ps {p : ByteArray} {H t r : List UInt8} (h : Ps p.data.toList H t r) : pseudoR (partsD 46 p).reverse = .tuple #[.string (mkB t), .string (mkB r), .bool true] := by
  unfold partsD
  rw [h.whole]
  have ho := outQ_ps (x := t ++ 45 :: r) rfl h.time h.hash h.digits h.hex
  have hf := tail_free h.digits h.hex
  rcases h.head with e | e | ⟨hl, e⟩
  · rw [e, List.nil_append, hf]; exact ho
  · rw [e]
    have : sp 46 ([48, 46] ++ (t ++ 45 :: r)) = [[48], t ++ 45 :: r] := by
      have := sp_app 46 [48] (t ++ 45 :: r)
      rw [hf] at this
      exact this
    rw [this]
    show (if (mkB [48]).data.toList = [48] then outQ _ else noQ) = _
    rw [if_pos (data_mkB _)]; exact ho
  · have hH : H = H.take (H.length - 3) ++ [46, 48, 46] := by rw [← e, List.take_append_drop]
    rw [hH]
    have : sp 46 (H.take (H.length - 3) ++ [46, 48, 46] ++ (t ++ 45 :: r)) = sp 46 (H.take (H.length - 3)) ++ [[48], t ++ 45 :: r] := by
      have a := sp_app 46 (H.take (H.length - 3)) (48 :: 46 :: (t ++ 45 :: r))
      have b := sp_app 46 [48] (t ++ 45 :: r)
      rw [hf] at b
      rw [List.singleton_append] at b
      rw [b] at a
      rw [List.append_assoc]
      exact a
    rw [this]
    simp only [List.map_append, List.reverse_append, List.map_cons, List.map_nil, List.reverse_cons, List.reverse_nil, List.nil_append, List.cons_append]
    show (if (mkB [48]).data.toList = [48] then outQ _ else noQ) = _
    rw [if_pos (data_mkB _)]; exact ho
theorem outQ_no {x : List UInt8} (h : ∀ t r, x = t ++ 45 :: r → t.length = 14 → r.length = 12 → digs t = true → hexL r = true → False) : outQ (mkB x) = noQ := by
  unfold outQ
  split
  · rename_i k
    exfalso
    unfold stampOk cutD at k
    simp only [Bool.and_eq_true, decide_eq_true_eq, data_mkB, ← size_data] at k
    obtain ⟨k1, k2, k3, k4⟩ := k
    have hw := headL_whole (d := 45) x
    cases hh : hasL 45 x
    · rw [(hasL_no hh).2] at k3; simp at k3
    · rw [hh, if_pos rfl] at hw
      exact h _ _ hw k1 k3 k2 k4
  · rfl
theorem pseudo_no {p : ByteArray} (hv : p.data.toList = [] ∨ ∀ e ∈ sp 46 p.data.toList, e ≠ []) (h : ∀ H t r, ¬ Ps p.data.toList H t r) : pseudoR (partsD 46 p).reverse = noQ := by
  unfold partsD
  have hj := joinD_sp 46 p.data.toList
  generalize hs : sp 46 p.data.toList = xs at *
  generalize p.data.toList = L at *
  rcases List.eq_nil_or_concat xs with e | ⟨ys, x, e⟩
  · rw [e]; rfl
  · rcases List.eq_nil_or_concat ys with e' | ⟨zs, y, e'⟩
    · rw [e, e'] at hj ⊢
      have hL : x = L := hj
      exact outQ_no fun t r a b c d f => h [] t r ⟨by rw [← hL]; exact a, b, c, d, f, .inl rfl⟩
    · rw [e, e'] at hj ⊢ hv
      simp only [List.concat_eq_append, List.append_assoc, List.singleton_append] at hj hv ⊢
      simp only [List.map_append, List.reverse_append, List.map_cons, List.map_nil, List.reverse_cons, List.reverse_nil, List.nil_append, List.cons_append]
      show (if (mkB y).data.toList = [48] then outQ _ else noQ) = _
      rw [data_mkB]
      split
      · rename_i hy
        subst hy
        refine outQ_no fun t r a b c d f => ?_
        have hyx : joinD 46 [[48], x] = [48] ++ 46 :: x := joinD_cons 46 [48] (t := [x]) (by simp)
        by_cases hz : zs = []
        · rw [hz, List.nil_append, hyx] at hj
          exact h [48, 46] t r ⟨by rw [← hj, a]; rfl, b, c, d, f, .inr (.inl rfl)⟩
        · rw [joinD_app 46 zs _ hz (by simp), hyx] at hj
          refine h (joinD 46 zs ++ [46, 48, 46]) t r ⟨by rw [← hj, a]; simp, b, c, d, f, .inr (.inr ⟨?_, by simp⟩)⟩
          have : joinD 46 zs ≠ [] := by
            rcases hv with hv | hv
            · rw [hv] at hj; simp at hj
            · cases zs with
              | nil => exact absurd rfl hz
              | cons z zs =>
                have := hv z (by simp)
                cases zs with
                | nil => exact this
                | cons z' zs => rw [joinD_cons 46 z (by simp)]; simp
          have := List.length_pos_iff.2 this
          simp; omega
      · rfl
theorem pre_parts {l : List UInt8} (h : okV l = true) : preOf l = [] ∨ ∀ e ∈ sp 46 (preOf l), e ≠ [] := by
  unfold okV at h
  simp only [Bool.and_eq_true] at h
  cases hh : hasL 45 (headL 43 l)
  · exact .inl (hasL_no hh).2
  · have := h.1.2
    rw [hh] at this
    simp only [Bool.not_true, Bool.false_or, List.all_eq_true] at this
    refine .inr fun e he x => ?_
    have := this e he
    rw [x] at this; exact absurd this (by decide)
theorem pseudo_same (l : List UInt8) : retQ l = retS l := by
  cases h : okV l
  · rw [retQ_no h, retS_no h]
  · rw [retQ_yes h, retS_yes h]
    have hp : (verL l).pre.data.toList = preOf l := by simp only [verL, h, if_true, data_mkB]
    have hv := pre_parts h
    rw [← hp] at hv
    by_cases k : ∃ H t r, Ps (verL l).pre.data.toList H t r
    · obtain ⟨H, t, r, k⟩ := k
      rw [pseudo_ps k, outS_ps k]
    · rw [pseudo_no hv (fun H t r x => k ⟨H, t, r, x⟩), outS_no (fun H t r x => k ⟨H, t, r, x⟩)]
end Go.Proofs.YtoljpmelfebjoaaDoor
