/-
  Plain facts on cleaning: what is left of the elements, that what is clean stays, that a path that may be is clean.
-/
import Derived.Test.YtblahlljdmlodaaM3
namespace Go.Proofs.Ytblahlljdmlodaa

theorem isEmpty_no {l : List UInt8} (h : ¬ l = []) : l.isEmpty = false := by cases l with | nil => exact absurd rfl h | cons c l => rfl
def ddB (x : ByteArray) : Bool := x.toList == [46, 46]
def lastDD (L : List ByteArray) : Bool := match L.getLast? with
  | some x => !ddB x
  | none => false
/-- What is left when the element e has come behind L. -/
def stepL (r : Bool) (L : List ByteArray) (e : ByteArray) : List ByteArray :=
  if hereB e then L else if !ddB e then L ++ [e] else if lastDD L then L.dropLast else if r then L else L ++ [e]
def foldC (r : Bool) (L xs : List ByteArray) : List ByteArray := xs.foldl (stepL r) L
def joinBs (L : List ByteArray) : ByteArray := mkB (joinL (L.map fun x => x.data.toList))
def rootB (s : ByteArray) : Bool := prefB s slashB
def headB (r : Bool) : ByteArray := if r then slashB else ⟨#[]⟩
def bareB (s : ByteArray) : ByteArray := headB (rootB s) ++ joinBs (foldC (rootB s) [] (elemsB s))
def cleanB (s : ByteArray) : ByteArray := if (bareB s).toList.isEmpty then ⟨#[46]⟩ else bareB s

/-- Each '..' that is left has nothing but such ones ahead, and there is none in a path from the root on; no element that is left is empty, a dot, or has a slash. -/
structure Inv (r : Bool) (L : List ByteArray) : Prop where
  dots : ∀ A x B, L = A ++ x :: B → ddB x = true → r = false ∧ ∀ a ∈ A, ddB a = true
  good : ∀ x ∈ L, hereB x = false ∧ ∀ c ∈ x.data.toList, c ≠ 47

theorem Inv.nil (r : Bool) : Inv r [] := ⟨fun A x B h => by simp at h, fun x h => by simp at h⟩

theorem snoc_split {L A B : List ByteArray} {e x : ByteArray} (h : L ++ [e] = A ++ x :: B) : (B = [] ∧ A = L ∧ x = e) ∨ ∃ B', B = B' ++ [e] ∧ L = A ++ x :: B' := by
  rcases List.eq_nil_or_concat B with rfl | ⟨B', b, rfl⟩
  · have := List.append_inj' h rfl
    obtain ⟨rfl, h2⟩ := this
    simp at h2
    exact .inl ⟨rfl, rfl, h2.symm⟩
  · have h' : L ++ [e] = (A ++ x :: B') ++ [b] := by rw [h]; simp
    obtain ⟨h1, h2⟩ := List.append_inj' h' rfl
    simp at h2
    exact .inr ⟨B', by rw [h2]; simp, h1⟩

theorem lastDD_no {L : List ByteArray} (h : lastDD L = false) : L = [] ∨ ∃ L' x, L = L' ++ [x] ∧ ddB x = true := by
  rcases List.eq_nil_or_concat L with rfl | ⟨L', x, rfl⟩
  · exact .inl rfl
  · refine .inr ⟨L', x, by simp, ?_⟩
    simpa [lastDD] using h

theorem Inv.step {r : Bool} {L : List ByteArray} (h : Inv r L) {e : ByteArray} (he : ∀ c ∈ e.data.toList, c ≠ 47) : Inv r (stepL r L e) := by
  unfold stepL
  split
  · exact h
  · rename_i h0
    have h0 : hereB e = false := by simpa using h0
    have hgood : ∀ x ∈ L ++ [e], hereB x = false ∧ ∀ c ∈ x.data.toList, c ≠ 47 := by
      intro x hx
      rcases List.mem_append.1 hx with hx | hx
      · exact h.good x hx
      · simp at hx; subst hx; exact ⟨h0, he⟩
    split
    · rename_i h1
      refine ⟨fun A x B hA hx => ?_, hgood⟩
      rcases snoc_split hA with ⟨_, _, rfl⟩ | ⟨B', _, hL⟩
      · rw [hx] at h1; cases h1
      · exact h.dots A x B' hL hx
    · split
      · refine ⟨fun A x B hA hx => ?_, fun x hx => h.good x (List.dropLast_subset L hx)⟩
        rcases List.eq_nil_or_concat L with rfl | ⟨L', y, rfl⟩
        · simp at hA
        · rw [List.concat_eq_append, List.dropLast_concat] at hA
          exact h.dots A x (B ++ [y]) (by rw [List.concat_eq_append, hA]; simp) hx
      · rename_i h2
        have h2 : lastDD L = false := by simpa using h2
        split
        · exact h
        · rename_i h3
          have h3 : r = false := by simpa using h3
          refine ⟨fun A x B hA hx => ?_, hgood⟩
          rcases snoc_split hA with ⟨_, rfl, rfl⟩ | ⟨B', _, hL⟩
          · refine ⟨h3, ?_⟩
            rcases lastDD_no h2 with rfl | ⟨L', y, rfl, hy⟩
            · simp
            · intro a ha
              rcases List.mem_append.1 ha with ha | ha
              · exact (h.dots L' y [] rfl hy).2 a ha
              · simp at ha; subst ha; exact hy
          · exact h.dots A x B' hL hx

theorem Inv.fold {r : Bool} : ∀ (xs L : List ByteArray), Inv r L → (∀ x ∈ xs, ∀ c ∈ x.data.toList, c ≠ 47) → Inv r (foldC r L xs)
  | [], L, h, _ => h
  | x :: xs, L, h, hx => Inv.fold xs (stepL r L x) (h.step (hx x (by simp))) (fun y hy => hx y (by simp [hy]))

theorem fold_again {r : Bool} : ∀ (B A : List ByteArray), Inv r (A ++ B) → foldC r A B = A ++ B
  | [], A, _ => by simp [foldC]
  | x :: B, A, h => by
    have hx := h.good x (by simp)
    have hs : stepL r A x = A ++ [x] := by
      unfold stepL
      rw [if_neg (by simp [hx.1])]
      by_cases hd : ddB x = true
      · rw [if_neg (by simp [hd])]
        obtain ⟨hr, hA⟩ := h.dots A x B rfl hd
        have : lastDD A = false := by
          rcases List.eq_nil_or_concat A with rfl | ⟨A', y, rfl⟩
          · rfl
          · have := hA y (by simp)
            simp [lastDD, this]
        rw [if_neg (by simp [this]), if_neg (by simp [hr])]
      · rw [if_pos (by simpa using hd)]
    show foldC r (stepL r A x) B = _
    rw [hs]
    have := fold_again B (A ++ [x]) (by simpa using h)
    simpa using this

theorem spl_join : ∀ {L : List (List UInt8)}, L ≠ [] → (∀ x ∈ L, ∀ c ∈ x, c ≠ 47) → spl (joinL L) = L
  | [], h, _ => absurd rfl h
  | [p], _, h => spl_none (h p (by simp))
  | p :: q :: t, _, h => by
    rw [joinL_cons p (by simp), spl_slash (h p (by simp)), spl_join (by simp) (fun x hx => h x (by simp [hx]))]

theorem map_data (L : List ByteArray) : (L.map fun x => x.data.toList).map mkB = L := by
  rw [List.map_map]
  have : (mkB ∘ fun x : ByteArray => x.data.toList) = id := by funext x; exact mkB_data x
  rw [this, List.map_id]
theorem here_data {x : ByteArray} (h : hereB x = false) : x.data.toList ≠ [] := by
  intro e
  simp [hereB, Lib.toList_data, e] at h
theorem joinL_ne {L : List (List UInt8)} {p : List UInt8} {t : List (List UInt8)} (h : L = p :: t) (hp : p ≠ []) : joinL L ≠ [] := by
  subst h
  cases t with
  | nil => exact hp
  | cons q t => rw [joinL_cons p (by simp)]; simp

theorem joinBs_data (L : List ByteArray) : (joinBs L).data.toList = joinL (L.map fun x => x.data.toList) := rfl
theorem parts_join {r : Bool} {L : List ByteArray} (h : Inv r L) (hne : L ≠ []) : partsB (joinBs L) = L := by
  rw [partsB, joinBs_data, spl_join (by simpa using hne), map_data]
  intro x hx
  obtain ⟨y, hy, rfl⟩ := List.mem_map.1 hx
  exact (h.good y hy).2
theorem join_ne {r : Bool} {L : List ByteArray} (h : Inv r L) (hne : L ≠ []) : ¬ (joinBs L).toList = [] := by
  rw [Lib.toList_data, joinBs_data]
  cases L with
  | nil => exact absurd rfl hne
  | cons y t => exact joinL_ne (p := y.data.toList) (t := t.map fun x => x.data.toList) rfl (here_data (h.good y (by simp)).1)
theorem elems_noslash (s : ByteArray) : ∀ x ∈ elemsB s, ∀ c ∈ x.data.toList, c ≠ 47 := by
  intro x hx
  simp only [elemsB, List.mem_map] at hx
  obtain ⟨l, hl, rfl⟩ := hx
  unfold els at hl
  split at hl
  · simp at hl
  · exact fun c hc => spl_noslash _ l hl c hc
theorem inv_of (s : ByteArray) : Inv (rootB s) (foldC (rootB s) [] (elemsB s)) := Inv.fold _ _ (Inv.nil _) (elems_noslash s)

theorem empty_app (a : ByteArray) : (⟨#[]⟩ : ByteArray) ++ a = a := by apply data_ext; rw [data_app]; rfl
/-- A text without a slash ahead. -/
theorem root_join {r : Bool} {L : List ByteArray} (h : Inv r L) (hne : L ≠ []) : rootB (joinBs L) = false := by
  cases L with
  | nil => exact absurd rfl hne
  | cons y t =>
    have hy := h.good y (by simp)
    have hd := here_data hy.1
    have e : ∃ c l, (joinBs (y :: t)).data.toList = c :: l ∧ c ≠ 47 := by
      rw [joinBs_data, List.map_cons]
      cases hyd : y.data.toList with
      | nil => exact absurd hyd hd
      | cons c l =>
        refine ⟨c, ?_⟩
        have hc : c ≠ 47 := hy.2 c (by rw [hyd]; simp)
        cases t with
        | nil => exact ⟨l, rfl, hc⟩
        | cons z t => exact ⟨l ++ 47 :: joinL ((z :: t).map fun x => x.data.toList), rfl, hc⟩
    obtain ⟨c, l, e1, hc⟩ := e
    have e2 : slashB.toList = [47] := by rw [Lib.toList_data]
    have e3 : slashB.size = 1 := rfl
    rw [rootB, prefB, e2, e3, Lib.extract_toList, e1]
    simp [hc]
theorem dot_clean : cleanB ⟨#[46]⟩ = ⟨#[46]⟩ := by decide +kernel

theorem clean_again (s : ByteArray) : cleanB (cleanB s) = cleanB s := by
  have hI := inv_of s
  generalize hL : foldC (rootB s) [] (elemsB s) = L at hI
  have hb : bareB s = headB (rootB s) ++ joinBs L := by rw [bareB, hL]
  cases hr : rootB s
  · rw [hr] at hI hb
    have hb : bareB s = joinBs L := by rw [hb]; exact empty_app _
    by_cases hne : L = []
    · have : cleanB s = ⟨#[46]⟩ := by
        rw [cleanB, hb, hne]; decide +kernel
      rw [this, dot_clean]
    · have hj := join_ne hI hne
      have hj' : (joinBs L).toList.isEmpty = false := isEmpty_no hj
      have hc : cleanB s = joinBs L := by rw [cleanB, hb, hj']; rfl
      have hb2 : bareB (joinBs L) = joinBs L := by
        rw [bareB, root_join hI hne, elemsB_ne hj, parts_join hI hne, fold_again L [] hI]
        exact empty_app _
      rw [hc, cleanB, hb2, hj']; rfl
  · rw [hr] at hI hb
    have hb : bareB s = slashB ++ joinBs L := by rw [hb]; rfl
    have hd : (slashB ++ joinBs L).data.toList = 47 :: (joinBs L).data.toList := by rw [data_app]; rfl
    have hne1 : ¬ (slashB ++ joinBs L).toList = [] := by rw [Lib.toList_data, hd]; simp
    have hne' : (slashB ++ joinBs L).toList.isEmpty = false := isEmpty_no hne1
    have hc : cleanB s = slashB ++ joinBs L := by rw [cleanB, hb, hne']; rfl
    have hr2 : rootB (slashB ++ joinBs L) = true := app_pref _ _
    have hpb : partsB (slashB ++ joinBs L) = mkB [] :: partsB (joinBs L) := by
      rw [partsB, hd]
      have := spl_slash (p := []) (r := (joinBs L).data.toList) (by simp)
      rw [List.nil_append] at this
      rw [this]; rfl
    have hh : hereB (mkB []) = true := by decide +kernel
    have hf : foldC true [] (partsB (joinBs L)) = L := by
      by_cases hne : L = []
      · subst hne; decide +kernel
      · rw [parts_join hI hne, fold_again L [] hI]; rfl
    have hb2 : bareB (slashB ++ joinBs L) = slashB ++ joinBs L := by
      rw [bareB, hr2, elemsB_ne hne1, hpb]
      have : foldC true [] (mkB [] :: partsB (joinBs L)) = foldC true [] (partsB (joinBs L)) := by
        show foldC true (stepL true [] (mkB [])) _ = _
        rw [stepL, if_pos hh]
      rw [this, hf]; rfl
    rw [hc, cleanB, hb2, hne']; rfl

theorem clean_ne (s : ByteArray) : 0 < (cleanB s).size := by
  unfold cleanB
  split
  · decide
  · rename_i h
    rw [← size_data, ← Lib.toList_data]
    cases hh : (bareB s).toList with
    | nil => rw [hh] at h; simp at h
    | cons c l => simp

theorem vElem_dd {x : ByteArray} (h : vElem x = true) : ddB x = false := by
  simp only [vElem, Bool.and_eq_true, Bool.not_eq_true'] at h
  exact h.1.2
theorem vElem_here {x : ByteArray} (h : vElem x = true) : hereB x = false := by
  simp only [vElem, Bool.and_eq_true, Bool.not_eq_true', decide_eq_true_eq] at h
  have h1 := h.1.1.1.1
  rw [hereB, h.1.1.2, Bool.or_false]
  cases hh : x.toList with
  | nil => have h2 := size_of_list hh; rw [List.length_nil] at h2; omega
  | cons c l => rfl
theorem valid_inv {s : ByteArray} (h : validB s = true) (r : Bool) : Inv r (elemsB s) := by
  have he : ∀ x ∈ elemsB s, vElem x = true := by
    simp only [validB, Bool.and_eq_true, everyB] at h
    exact List.all_eq_true.1 h.2
  refine ⟨fun A x B hA hx => ?_, fun x hx => ⟨vElem_here (he x hx), elems_noslash s x hx⟩⟩
  have := vElem_dd (he x (by rw [hA]; simp))
  rw [this] at hx; cases hx
theorem valid_clean {s : ByteArray} (h : validB s = true) : cleanB s = s := by
  have hn : ¬ s.toList = [] := fun e => by
    have h1 := (valid_size h).1
    have h2 := size_of_list e
    rw [List.length_nil] at h2
    omega
  have hne : elemsB s ≠ [] := by rw [elemsB_ne hn]; exact partsB_ne s
  have hj : joinBs (elemsB s) = s := by
    apply data_ext
    rw [joinBs_data]
    have : (elemsB s).map (fun x => x.data.toList) = els s.data.toList := by simp [elemsB, Function.comp_def, data_mkB]
    rw [this, joinL_els]
  have hI := valid_inv h (rootB s)
  have hr : rootB s = false := by
    have := root_join hI hne
    rwa [hj] at this
  have hb : bareB s = s := by
    rw [bareB, fold_again (elemsB s) [] hI, hr]
    rw [List.nil_append, hj]
    exact empty_app s
  rw [cleanB, hb]
  have : s.toList.isEmpty = false := isEmpty_no hn
  rw [this]; rfl
end Go.Proofs.Ytblahlljdmlodaa
