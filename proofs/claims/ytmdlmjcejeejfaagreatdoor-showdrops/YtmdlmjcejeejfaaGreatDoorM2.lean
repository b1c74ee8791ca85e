/-
  Plain facts on joining, splitting and being within, for texts that may be paths.
-/
import Derived.Test.YtmdlmjcejeejfaaGreatDoorW7
namespace Go.Proofs.YtmdlmjcejeejfaaGreatDoor

abbrev slashB : ByteArray := ⟨#[47]⟩
theorem data_app (a b : ByteArray) : (a ++ b).data.toList = a.data.toList ++ b.data.toList := by simp
theorem data_ext {a b : ByteArray} (h : a.data.toList = b.data.toList) : a = b := by rw [← mkB_data a, h, mkB_data]
theorem size_app (a b : ByteArray) : (a ++ b).size = a.size + b.size := ByteArray.size_append

theorem spl_app (b : List UInt8) : ∀ a : List UInt8, spl (a ++ 47 :: b) = spl a ++ spl b
  | [] => by simp [spl]
  | c :: a => by
    have ih := spl_app b a
    by_cases hc : c = 47
    · rw [List.cons_append, spl, if_pos hc, ih, spl, if_pos hc]; rfl
    · obtain ⟨p, t, ht⟩ : ∃ p t, spl a = p :: t := by
        cases h : spl a with
        | nil => exact absurd h (spl_ne a)
        | cons p t => exact ⟨p, t, rfl⟩
      rw [List.cons_append, spl_cons hc a ht, spl_cons hc (a ++ 47 :: b) (p := p) (t := t ++ spl b) (by rw [ih, ht]; rfl)]
      rfl

theorem vElem_empty : vElem (mkB []) = false := by decide +kernel
theorem vElem_dot : vElem (mkB [46]) = false := by decide +kernel

theorem valid_elem {s : ByteArray} (h : validB s = true) : ∀ e ∈ spl s.data.toList, vElem (mkB e) = true := by
  simp only [validB, Bool.and_eq_true, decide_eq_true_eq] at h
  obtain ⟨⟨h1, _⟩, h3⟩ := h
  have hne : s.data.toList.isEmpty = false := by
    rw [← size_data] at h1
    cases hh : s.data.toList <;> simp_all
  intro e he
  have : mkB e ∈ elemsB s := by
    simp only [elemsB, els, hne]
    exact List.mem_map.2 ⟨e, he, rfl⟩
  exact List.all_eq_true.1 h3 _ this
theorem valid_size {s : ByteArray} (h : validB s = true) : 1 ≤ s.size ∧ s.size ≤ 60 := by
  simp only [validB, Bool.and_eq_true, decide_eq_true_eq] at h
  exact h.1
/-- A piece of a path, cut off at slashes, is not empty and is not a dot. -/
theorem piece_here {x : ByteArray} (h : ∀ e ∈ spl x.data.toList, vElem (mkB e) = true) : hereB x = false := by
  cases hh : hereB x
  · rfl
  · simp only [hereB, Bool.or_eq_true, List.isEmpty_iff, beq_iff_eq, Lib.toList_data] at hh
    rcases hh with e | e
    · have := h [] (by rw [e]; simp [spl])
      rw [vElem_empty] at this; cases this
    · have := h [46] (by rw [e]; simp [spl])
      rw [vElem_dot] at this; cases this
theorem valid_here {s : ByteArray} (h : validB s = true) : hereB s = false := piece_here (valid_elem h)
theorem valid_pieces {s a b : ByteArray} (h : validB s = true) (e : s = a ++ slashB ++ b) : hereB a = false ∧ hereB b = false := by
  have he := valid_elem h
  have hd : s.data.toList = a.data.toList ++ 47 :: b.data.toList := by rw [e, data_app, data_app]; simp
  rw [hd, spl_app] at he
  exact ⟨piece_here fun x hx => he x (List.mem_append.2 (.inl hx)), piece_here fun x hx => he x (List.mem_append.2 (.inr hx))⟩

theorem here_empty : hereB ⟨#[]⟩ = true := by decide +kernel
/-- What stands ahead of a slash, the slash, what stands behind it. -/
theorem cut_at {s : ByteArray} {k : Nat} (hk : s.data.toList[k]? = some 47) : s = s.extract 0 k ++ slashB ++ s.extract (k + 1) s.size := by
  apply data_ext
  rw [data_app, data_app, Lib.extract_data, Lib.extract_data]
  conv => lhs; rw [take_slash hk]
  have : (s.data.toList.drop (k + 1)).take (s.size - (k + 1)) = s.data.toList.drop (k + 1) := List.take_of_length_le (by rw [List.length_drop, size_data]; omega)
  rw [this]; simp

theorem last_at {s : ByteArray} {k : Nat} (h : Lib.lastIndexByte s 47 = k) : s.data.toList[k]? = some 47 := by
  rcases Lib.lastIndexByte_spec s 47 with ⟨e, _⟩ | ⟨i, hi, e, hc, _⟩
  · omega
  · obtain rfl : i = k := by omega
    rw [at_data s i hi] at hc
    rw [get_data s i hi]
    congr 1
    apply UInt8.toNat.inj
    show s[i].toNat = 47
    omega

theorem split_join {s : ByteArray} (h : validB s = true) : joinB (splitB s).1 (splitB s).2 = s := by
  rcases Lib.lastIndexByte_spec s 47 with ⟨e, _⟩ | ⟨i, hi, e, _⟩
  · rw [splitB_no (by omega)]
    exact joinB_1 here_empty
  · rw [splitB_yes e]
    have hc := cut_at (last_at e)
    obtain ⟨h1, h2⟩ := valid_pieces h hc
    rw [joinB_3 h1 h2]
    exact hc.symm

theorem app_extract (a b : ByteArray) : (a ++ b).extract a.size (a ++ b).size = b := by
  apply data_ext
  rw [Lib.extract_data, data_app, size_app]
  rw [← size_data a, List.drop_left, List.take_of_length_le (by rw [size_data]; omega)]
theorem app_pref (a b : ByteArray) : prefB (a ++ b) a = true := by
  have h1 : a.size ≤ (a ++ b).size := by rw [size_app]; omega
  have h2 : ((a ++ b).extract 0 a.size).toList = a.toList := by
    rw [Lib.extract_toList, data_app, Lib.toList_data, List.drop_zero, Nat.sub_zero, ← size_data a, List.take_left]
  rw [prefB, decide_eq_true h1, h2]; simp
theorem pref_app {s p : ByteArray} (h : prefB s p = true) : s = p ++ s.extract p.size s.size := by
  simp only [prefB, Bool.and_eq_true, decide_eq_true_eq, beq_iff_eq] at h
  obtain ⟨h1, h2⟩ := h
  rw [Lib.extract_toList, Lib.toList_data, List.drop_zero, Nat.sub_zero] at h2
  apply data_ext
  have e : (s.data.toList.drop p.size).take (s.size - p.size) = s.data.toList.drop p.size := List.take_of_length_le (by rw [List.length_drop, size_data]; omega)
  rw [data_app, Lib.extract_data, e, ← h2, List.take_append_drop]

theorem within_no {s d : ByteArray} (h : (withinB s d).2 = false) : (withinB s d).1 = ⟨#[]⟩ := by
  unfold withinB at h ⊢
  split at h
  · cases h
  · split at h
    · cases h
    · split at h
      · cases h
      · rename_i h1 h2 h3; rw [if_neg h1, if_neg h2, if_neg h3]
theorem within_join {s d : ByteArray} (hs : validB s = true) (hd : validB d = true) (h : (withinB s d).2 = true) : joinB d (withinB s d).1 = s := by
  have h0 := valid_here hd
  cases h1 : (s.toList == d.toList)
  · cases h2 : prefB s (d ++ slashB)
    · rw [withinB_4 h0 h1 h2] at h; cases h
    · rw [withinB_3 h0 h1 h2]
      have he := pref_app h2
      have hsz : (d ++ slashB).size = d.size + 1 := by rw [size_app]; rfl
      rw [hsz] at he
      obtain ⟨h3, h4⟩ := valid_pieces hs he
      rw [joinB_3 h3 h4]
      exact he.symm
  · rw [withinB_2 h0 h1, joinB_2 h0 here_empty]
    exact (toList_inj.1 (eq_of_beq h1)).symm

theorem valid_a : validB ⟨#[97]⟩ = true := by decide +kernel

/-! What PathsUnder asks. -/
theorem here_long {s : ByteArray} (h : 2 ≤ s.size) : hereB s = false := by
  cases hh : hereB s
  · rfl
  · simp only [hereB, Bool.or_eq_true, List.isEmpty_iff, beq_iff_eq, Lib.toList_data] at hh
    rw [← size_data] at h
    rcases hh with e | e <;> rw [e] at h <;> simp at h
theorem ne_size {a b : ByteArray} (h : a.size ≠ b.size) : (a.toList == b.toList) = false := by
  rw [beq_eq_false_iff_ne]
  intro e
  exact h (by rw [toList_inj.1 e])
theorem within_app {d t : ByteArray} (h : hereB d = false) : withinB (d ++ slashB ++ t) d = (t, true) := by
  rw [withinB_3 h (ne_size (by rw [size_app, size_app]; show d.size + 1 + t.size ≠ d.size; omega)) (app_pref _ _)]
  have : d.size + 1 = (d ++ slashB).size := by rw [size_app]; rfl
  rw [this, app_extract]
theorem within_up {d t : ByteArray} (h : 2 ≤ (d ++ slashB ++ t).size) : withinB d (d ++ slashB ++ t) = (⟨#[]⟩, false) := by
  have hsz : (d ++ slashB ++ t).size = d.size + 1 + t.size := by rw [size_app, size_app]; rfl
  refine withinB_4 (here_long h) (ne_size (by omega)) ?_
  have : ¬ (d ++ slashB ++ t ++ slashB).size ≤ d.size := by rw [size_app, hsz]; omega
  simp only [prefB, this, decide_false, Bool.false_and]
theorem slash_size : slashB.size = 1 := rfl
theorem app_assoc (a b c : ByteArray) : a ++ b ++ c = a ++ (b ++ c) := by
  apply data_ext; rw [data_app, data_app, data_app, data_app, List.append_assoc]
structure UnderFacts (a b c : ByteArray) : Prop where
  ab : joinB a b = a ++ slashB ++ b
  abc : joinB (a ++ slashB ++ b) c = a ++ slashB ++ b ++ slashB ++ c
  bc : joinB b c = b ++ slashB ++ c
  x : withinB (a ++ slashB ++ b ++ slashB ++ c) (a ++ slashB ++ b) = (c, true)
  y : withinB (a ++ slashB ++ b ++ slashB ++ c) a = (b ++ slashB ++ c, true)
  z : withinB (a ++ slashB ++ b) (a ++ slashB ++ b ++ slashB ++ c) = (⟨#[]⟩, false)
theorem under {a b c : ByteArray} (ha : validB a = true) (hb : validB b = true) (hc : validB c = true) : UnderFacts a b c := by
  have h1 := valid_here ha
  have h2 := valid_here hb
  have h3 := valid_here hc
  have s1 := valid_size ha
  have s2 := valid_size hb
  have s3 := valid_size hc
  have hl : hereB (a ++ slashB ++ b) = false := here_long (by rw [size_app, size_app, slash_size]; omega)
  refine ⟨joinB_3 h1 h2, joinB_3 hl h3, joinB_3 h2 h3, within_app hl, ?_, within_up (by rw [size_app, size_app, size_app, size_app, slash_size]; omega)⟩
  have : a ++ slashB ++ b ++ slashB ++ c = a ++ slashB ++ (b ++ slashB ++ c) := by
    rw [app_assoc (a ++ slashB), app_assoc (a ++ slashB)]
  rw [this]
  exact within_app h1
end Go.Proofs.YtmdlmjcejeejfaaGreatDoor
