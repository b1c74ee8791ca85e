/-
  Plain facts on the order of texts and of lists of texts.
-/
import Derived.Test.YtmdlmjcejeejfaaGreatDoorM2
namespace Go.Proofs.YtmdlmjcejeejfaaGreatDoor

def cmp1 (a b : ByteArray) : Int := if Op.bytesLess a.toList b.toList then -1 else if a.toList == b.toList then 0 else 1
theorem less_iff : ∀ x y : List UInt8, Op.bytesLess x y = true ↔ x < y
  | [], [] => by simp [Op.bytesLess]
  | _ :: _, [] => by simp [Op.bytesLess]
  | [], _ :: _ => by simp [Op.bytesLess]
  | a :: x, b :: y => by
    have ih := less_iff x y
    rw [Op.bytesLess, List.cons_lt_cons_iff]
    by_cases h1 : a < b
    · simp [h1]
    · by_cases h2 : a = b
      · subst h2; simp [ih]
      · simp [h1, h2]
theorem cmp1_lt {a b : ByteArray} : cmp1 a b = -1 ↔ a.toList < b.toList := by
  unfold cmp1
  by_cases h : Op.bytesLess a.toList b.toList = true
  · rw [if_pos h]; exact ⟨fun _ => (less_iff _ _).1 h, fun _ => rfl⟩
  · rw [if_neg h]
    refine ⟨fun e => ?_, fun e => absurd ((less_iff _ _).2 e) h⟩
    split at e <;> cases e
theorem lt_irrefl' (x : List UInt8) : ¬ x < x := List.lt_irrefl x
theorem cmp1_eq {a b : ByteArray} : cmp1 a b = 0 ↔ a = b := by
  unfold cmp1
  by_cases h : Op.bytesLess a.toList b.toList = true
  · rw [if_pos h]
    refine ⟨(fun e => by cases e), fun e => ?_⟩
    subst e
    exact absurd ((less_iff _ _).1 h) (lt_irrefl' _)
  · rw [if_neg h]
    by_cases e : a.toList = b.toList
    · simp [toList_inj.1 e]
    · have : ¬ a = b := fun h => e (by rw [h])
      simp [e, this]
theorem cmp1_range (a b : ByteArray) : cmp1 a b = -1 ∨ cmp1 a b = 0 ∨ cmp1 a b = 1 := by
  unfold cmp1
  split
  · exact .inl rfl
  · split
    · exact .inr (.inl rfl)
    · exact .inr (.inr rfl)
theorem lt_or {x y : List UInt8} (h : x ≠ y) : x < y ∨ y < x := by
  by_cases h1 : x < y
  · exact .inl h1
  · by_cases h2 : y < x
    · exact .inr h2
    · exact absurd (List.le_antisymm (List.not_lt.1 h2) (List.not_lt.1 h1)) h
theorem cmp1_gt {a b : ByteArray} : cmp1 a b = 1 ↔ b.toList < a.toList := by
  rcases cmp1_range a b with h | h | h
  · rw [h]
    refine ⟨(fun e => by cases e), fun e => ?_⟩
    exact absurd (List.lt_trans (cmp1_lt.1 h) e) (lt_irrefl' _)
  · rw [h]
    refine ⟨(fun e => by cases e), fun e => ?_⟩
    rw [cmp1_eq.1 h] at e
    exact absurd e (lt_irrefl' _)
  · rw [h]
    refine ⟨fun _ => ?_, fun _ => rfl⟩
    rcases lt_or (x := a.toList) (y := b.toList) (fun e => by rw [cmp1_eq.2 (toList_inj.1 e)] at h; cases h) with h' | h'
    · rw [cmp1_lt.2 h'] at h; cases h
    · exact h'
theorem cmp1_neg (a b : ByteArray) : cmp1 b a = -cmp1 a b := by
  rcases cmp1_range a b with h | h | h
  · rw [h, cmp1_gt.2 (cmp1_lt.1 h)]; rfl
  · rw [h, cmp1_eq.2 (cmp1_eq.1 h).symm]; rfl
  · rw [h, cmp1_lt.2 (cmp1_gt.1 h)]
theorem cmp1_trans {a b c : ByteArray} (h1 : cmp1 a b ≤ 0) (h2 : cmp1 b c ≤ 0) : cmp1 a c ≤ 0 ∧ (cmp1 a c = 0 → cmp1 a b = 0 ∧ cmp1 b c = 0) := by
  rcases cmp1_range a b with h | h | h
  · rcases cmp1_range b c with k | k | k
    · have := cmp1_lt.2 (List.lt_trans (cmp1_lt.1 h) (cmp1_lt.1 k))
      exact ⟨by omega, fun e => by omega⟩
    · have := cmp1_eq.1 k
      subst this
      exact ⟨h1, fun e => by omega⟩
    · omega
  · have := cmp1_eq.1 h
    subst this
    exact ⟨h2, fun e => ⟨h, e⟩⟩
  · omega

def cmpE : List ByteArray → List ByteArray → Int
  | [], [] => 0
  | [], _ :: _ => -1
  | _ :: _, [] => 1
  | x :: xs, y :: ys => if cmp1 x y = 0 then cmpE xs ys else cmp1 x y
theorem cmpE_range : ∀ xs ys, cmpE xs ys = -1 ∨ cmpE xs ys = 0 ∨ cmpE xs ys = 1
  | [], [] => by simp [cmpE]
  | [], _ :: _ => by simp [cmpE]
  | _ :: _, [] => by simp [cmpE]
  | x :: xs, y :: ys => by
    unfold cmpE
    split
    · exact cmpE_range xs ys
    · exact cmp1_range x y
theorem cmpE_self : ∀ xs, cmpE xs xs = 0
  | [] => rfl
  | x :: xs => by rw [cmpE, if_pos (cmp1_eq.2 rfl)]; exact cmpE_self xs
theorem cmpE_neg : ∀ xs ys, cmpE ys xs = -cmpE xs ys
  | [], [] => rfl
  | [], _ :: _ => rfl
  | _ :: _, [] => rfl
  | x :: xs, y :: ys => by
    unfold cmpE
    by_cases h : cmp1 x y = 0
    · rw [if_pos h, if_pos (by rw [cmp1_neg, h]; rfl)]; exact cmpE_neg xs ys
    · rw [if_neg h, if_neg (by rw [cmp1_neg]; omega)]; exact cmp1_neg x y
theorem cmpE_eq : ∀ xs ys, cmpE xs ys = 0 → xs = ys
  | [], [], _ => rfl
  | [], _ :: _, h => by simp [cmpE] at h
  | _ :: _, [], h => by simp [cmpE] at h
  | x :: xs, y :: ys, h => by
    unfold cmpE at h
    split at h
    · rename_i e; rw [cmp1_eq.1 e, cmpE_eq xs ys h]
    · contradiction
theorem cmpE_trans : ∀ xs ys zs, cmpE xs ys ≤ 0 → cmpE ys zs ≤ 0 → cmpE xs zs ≤ 0
  | [], _, [], _, _ => by simp [cmpE]
  | [], _, _ :: _, _, _ => by simp [cmpE]
  | _ :: _, [], _, h, _ => by simp [cmpE] at h
  | _ :: _, _ :: _, [], _, h => by simp [cmpE] at h
  | x :: xs, y :: ys, z :: zs, h1, h2 => by
    unfold cmpE at h1 h2 ⊢
    have e1 : cmp1 x y ≤ 0 := by split at h1 <;> omega
    have e2 : cmp1 y z ≤ 0 := by split at h2 <;> omega
    obtain ⟨t1, t2⟩ := cmp1_trans e1 e2
    by_cases h : cmp1 x z = 0
    · obtain ⟨u1, u2⟩ := t2 h
      rw [if_pos u1] at h1
      rw [if_pos u2] at h2
      rw [if_pos h]
      exact cmpE_trans xs ys zs h1 h2
    · rw [if_neg h]; exact t1
theorem cmpE_longer {t : List ByteArray} (ht : t ≠ []) : ∀ xs, cmpE xs (xs ++ t) = -1
  | [] => by
    cases t with
    | nil => exact absurd rfl ht
    | cons a t => rfl
  | x :: xs => by rw [List.cons_append, cmpE, if_pos (cmp1_eq.2 rfl)]; exact cmpE_longer ht xs
theorem cmpE_near {s t : List ByteArray} : ∀ p zs, cmpE (p ++ s) zs ≤ 0 → cmpE zs (p ++ t) ≤ 0 → p <+: zs
  | [], zs, _, _ => List.nil_prefix
  | x :: p, [], h, _ => by simp [cmpE] at h
  | x :: p, z :: zs, h1, h2 => by
    rw [List.cons_append, cmpE] at h1 h2
    have hn := cmp1_neg x z
    have e : cmp1 x z = 0 := by
      by_cases h : cmp1 x z = 0
      · exact h
      · rw [if_neg h] at h1
        have h' : ¬ cmp1 z x = 0 := by omega
        rw [if_neg h'] at h2
        omega
    rw [if_pos e] at h1
    rw [if_pos (by omega)] at h2
    obtain ⟨r, hr⟩ := cmpE_near p zs h1 h2
    rw [cmp1_eq.1 e]
    exact ⟨r, by rw [List.cons_append, hr]⟩

def compareN (a b : ByteArray) : Int := cmpE (elemsB a) (elemsB b)
theorem elemsB_inj {a b : ByteArray} (h : elemsB a = elemsB b) : a = b := by
  have h' : els a.data.toList = els b.data.toList := by
    unfold elemsB at h
    have : ∀ {x y : List (List UInt8)}, x.map mkB = y.map mkB → x = y := by
      intro x
      induction x with
      | nil => intro y h; cases y <;> simp_all
      | cons c x ih =>
        intro y h
        cases y with
        | nil => simp at h
        | cons d y => simp only [List.map_cons, List.cons.injEq] at h; rw [mkB_inj h.1, ih h.2]
    exact this h
  exact data_ext (els_inj h')
theorem compareN_eq {a b : ByteArray} (h : compareN a b = 0) : a = b := elemsB_inj (cmpE_eq _ _ h)

/-! A directory's own. -/
theorem elemsB_dir {d : ByteArray} (hd : ¬ d.toList = []) (a : ByteArray) : elemsB (d ++ slashB ++ a) = elemsB d ++ partsB a := by
  have e1 : (d ++ slashB ++ a).data.toList = d.data.toList ++ 47 :: a.data.toList := by rw [data_app, data_app]; simp
  have e2 : ¬ (d ++ slashB ++ a).toList = [] := by rw [Lib.toList_data, e1]; simp
  rw [elemsB_ne e2, elemsB_ne hd, partsB, e1, spl_app, List.map_append]; rfl
theorem partsB_ne (a : ByteArray) : partsB a ≠ [] := by
  have := spl_ne a.data.toList
  simp [partsB, this]
theorem near_dir {d a : ByteArray} (hd : ¬ d.toList = []) : compareN d (d ++ slashB ++ a) = -1 := by
  unfold compareN
  rw [elemsB_dir hd]
  exact cmpE_longer (partsB_ne a) _
theorem joinL_app {p r : List (List UInt8)} (hp : p ≠ []) (hr : r ≠ []) : joinL (p ++ r) = joinL p ++ 47 :: joinL r := by
  induction p with
  | nil => exact absurd rfl hp
  | cons x p ih =>
    cases p with
    | nil => rw [List.cons_append, List.nil_append, joinL_cons x hr]; rfl
    | cons y p =>
      rw [List.cons_append, joinL_cons x (by simp), joinL_cons x (by simp), ih (by simp)]
      simp
theorem near_within {d a b c : ByteArray} (hd : ¬ d.toList = []) (h1 : compareN (d ++ slashB ++ a) c ≤ 0) (h2 : compareN c (d ++ slashB ++ b) ≤ 0) : (withinB c d).2 = true := by
  unfold compareN at h1 h2
  rw [elemsB_dir hd] at h1 h2
  obtain ⟨r, hr⟩ := cmpE_near _ _ h1 h2
  cases h0 : hereB d
  · cases h3 : (c.toList == d.toList)
    · have hc : c.data.toList = d.data.toList ++ 47 :: joinL (r.map fun x => x.data.toList) := by
        have hk : (elemsB c).map (fun x => x.data.toList) = els c.data.toList := by
          simp [elemsB, Function.comp_def, data_mkB]
        have hk' : (elemsB d).map (fun x => x.data.toList) = els d.data.toList := by
          simp [elemsB, Function.comp_def, data_mkB]
        rw [← hr, List.map_append, hk'] at hk
        rw [← joinL_els c.data.toList, ← hk]
        by_cases hrn : r = []
        · subst hrn
          simp only [List.map_nil, List.append_nil] at hk
          have : c = d := by
            apply elemsB_inj; rw [← hr]; simp
          rw [this] at h3; simp at h3
        · rw [joinL_app, joinL_els]
          · intro e
            have : d.data.toList = [] := by rw [← joinL_els d.data.toList, e]; rfl
            exact hd (by rw [Lib.toList_data, this])
          · simpa using hrn
      have he : c = d ++ slashB ++ mkB (joinL (r.map fun x => x.data.toList)) := by
        apply data_ext; rw [hc, data_app, data_app, data_mkB]; simp
      rw [he, within_app h0]
    · rw [withinB_2 h0 h3]
  · rw [withinB_1 h0]
end Go.Proofs.YtmdlmjcejeejfaaGreatDoor
