/-
  Plain: a step at a place that is known; comments as they stand.
-/
import Derived.Test.YtinaeegijmkbhaaGreatDoorR2
set_option linter.unusedVariables false
namespace Go.Proofs.YtinaeegijmkbhaaGreatDoor

theorem line_app (x y : List UInt8) : lineL (x ++ y) + 1 = lineL x + lineL y := by
  induction x with
  | nil => show lineL y + 1 = 1 + lineL y; omega
  | cons c r ih => rw [List.cons_append, lineL, lineL]; split <;> omega
theorem line_none {x : List UInt8} (h : ∀ c ∈ x, c ≠ 10) : lineL x = 1 := by
  induction x with
  | nil => rfl
  | cons c r ih => rw [lineL, if_neg (h c (by simp)), ih (fun d hd => h d (by simp [hd]))]
theorem blanks_at {semi : Bool} {b r : List UInt8} (hb : b.all (blankB semi) = true) (hr : r = [] ∨ ∃ c r', r = c :: r' ∧ blankB semi c = false) : blanks semi (b ++ r) = b.length := by
  unfold blanks
  rw [takeWhile_split hb hr]
/-- The step at a place: blanks b behind it, and then r. -/
structure At (l a b r : List UInt8) (semi : Bool) : Prop where
  eq : l = a ++ b ++ r
  blank : b.all (blankB semi) = true
  stop : r = [] ∨ ∃ c r', r = c :: r' ∧ blankB semi c = false
theorem At.here {l a b r : List UInt8} {semi : Bool} (h : At l a b r semi) : a.length + blanks semi (l.drop a.length) = a.length + b.length := by
  rw [h.eq, List.append_assoc, List.drop_left, blanks_at h.blank h.stop]
theorem At.drop {l a b r : List UInt8} {semi : Bool} (h : At l a b r semi) : l.drop (a.length + b.length) = r := by
  rw [h.eq, ← List.length_append, List.drop_left]
theorem At.take {l a b r : List UInt8} {semi : Bool} (h : At l a b r semi) : l.take (a.length + b.length) = a ++ b := by
  rw [h.eq, ← List.length_append, List.take_left]
theorem At.feed {l a b r : List UInt8} (h : At l a b (10 :: r) true) : nextL l a.length true = ⟨some (3, [10]), lineL (a ++ b), a.length + b.length + 1, false⟩ := by
  rw [next_A h.here (by rw [h.drop]; rfl), h.take]
theorem At.tok {l a b r : List UInt8} {semi : Bool} (h : At l a b r semi) (h10 : semi = false ∨ r.head? ≠ some 10) {kd n : Nat} {t : List UInt8} (ht : tokL r = some (kd, t, n)) (hb : semi = false ∨ ¬ (kd = 0 ∨ (kd = 4 ∧ 1 < lineL t))) :
    nextL l a.length semi = ⟨some (kd, t), lineL (a ++ b), a.length + b.length + n, if kd = 4 then semi else ends kd t⟩ := by
  rw [next_C h.here (by rw [h.drop]; exact h10) (by rw [h.drop]; exact ht) hb, h.take]
theorem At.last {l a b : List UInt8} (h : At l a b [] true) : nextL l a.length true = ⟨some (3, [10]), lineL (a ++ b), a.length + b.length, false⟩ := by
  rw [next_B h.here (by rw [h.drop]; simp) (by rw [h.drop]; rfl) (.inl rfl), h.take]
/-- A source of bytes below 80 is well. -/
theorem bad_ascii : ∀ (l : List UInt8) (k : Nat), (∀ c ∈ l, 0 < c.toNat ∧ c.toNat < 128) → badL k l = none
  | [], k, _ => bad_nil k
  | c :: r, k, h => by
    have hc := h c (by simp)
    have hw : wideL (c :: r) = 1 := by rw [wideL, if_pos hc.2]
    rw [bad_on (by rw [hw]; rintro (e | e); · cases e
                   rw [e] at hc; simp at hc), hw]
    exact bad_ascii r (k + 1) fun d hd => h d (by simp [hd])

/-! Comments. -/
def remark (s : List UInt8) (wide : Bool) : List UInt8 := if wide then [47, 42] ++ s ++ [42, 47] else [47, 47] ++ s
def Plain (s : List UInt8) : Prop := ∀ c ∈ s, 32 ≤ c.toNat ∧ c.toNat ≤ 126 ∧ c ≠ 42
theorem takeWhile_upto {α : Type} {p : α → Bool} {a : List α} {c : α} {r : List α} (ha : ∀ x ∈ a, p x = true) (hc : p c = false) : (a ++ c :: r).takeWhile p = a :=
  takeWhile_split (List.all_eq_true.2 ha) (.inr ⟨c, r, rfl, hc⟩)
theorem remark_no10 {s : List UInt8} (h : Plain s) (wide : Bool) : ∀ c ∈ remark s wide, c ≠ 10 := by
  intro c hc
  unfold remark at hc
  rintro rfl
  split at hc
  · simp at hc
    have := h 10 hc
    simp at this
  · simp at hc
    have := h 10 hc
    simp at this
theorem com_plain : ∀ {s : List UInt8} (r : List UInt8), (∀ c ∈ s, c ≠ 42) → comL (s ++ 42 :: 47 :: r) = some s.length
  | [], r, _ => com_hit
  | [a], r, h => by
    show comL (a :: 42 :: 47 :: r) = _
    rw [com_on (fun x => absurd x.1 (h a (by simp))), com_hit]; rfl
  | a :: b :: s, r, h => by
    show comL (a :: b :: (s ++ 42 :: 47 :: r)) = _
    rw [com_on (fun x => absurd x.1 (h a (by simp)))]
    have := com_plain (s := b :: s) r (fun c hc => h c (by simp [List.mem_cons.1 hc]))
    rw [List.cons_append] at this
    rw [this]; rfl
theorem tok_remark {s : List UInt8} (h : Plain s) (wide : Bool) (r : List UInt8) : tokL (remark s wide ++ 10 :: r) = some (4, remark s wide, (remark s wide).length) := by
  cases wide with
  | true =>
    show tokL (47 :: 42 :: (s ++ [42, 47] ++ 10 :: r)) = _
    rw [tok_long, show s ++ [42, 47] ++ 10 :: r = s ++ 42 :: 47 :: (10 :: r) by simp, com_plain _ (fun c hc => (h c hc).2.2)]
    simp only
    have hl : (remark s true).length = s.length + 4 := by simp [remark]
    have e1 : (47 :: 42 :: (s ++ 42 :: 47 :: 10 :: r) : List UInt8) = remark s true ++ 10 :: r := by simp [remark]
    rw [hl, e1]
    have e2 : (remark s true ++ 10 :: r).take (s.length + 4) = remark s true := by rw [← hl, List.take_left]
    rw [e2]
  | false =>
    have hw : (47 :: 47 :: (s ++ 10 :: r) : List UInt8).takeWhile (fun x => decide (x ≠ 10)) = 47 :: 47 :: s := by
      have := takeWhile_upto (p := fun x : UInt8 => decide (x ≠ 10)) (a := 47 :: 47 :: s) (c := 10) (r := r) (fun x hx => by simpa using remark_no10 h false x hx) rfl
      simpa using this
    show tokL (47 :: 47 :: (s ++ 10 :: r)) = _
    rw [tok_line, hw, if_neg]
    · rfl
    · intro e
      have hm : (13 : UInt8) ∈ (47 :: 47 :: s : List UInt8) := List.mem_of_getLast? e
      simp at hm
      have := h 13 hm
      simp at this
def remarked (s : List UInt8) (wide : Bool) : List UInt8 := [97, 32] ++ remark s wide ++ [10, 98]
theorem remark_head (s : List UInt8) (wide : Bool) : ∃ r, remark s wide = 47 :: r := by
  cases wide
  · exact ⟨_, rfl⟩
  · exact ⟨_, rfl⟩
/-- The seven steps. -/
theorem remark_steps {s : List UInt8} (h : Plain s) (wide : Bool) :
    nextL (remarked s wide) 0 false = ⟨some (1, [97]), 1, 1, true⟩ ∧
    nextL (remarked s wide) 1 true = ⟨some (4, remark s wide), 1, (remark s wide).length + 2, true⟩ ∧
    nextL (remarked s wide) ((remark s wide).length + 2) true = ⟨some (3, [10]), 1, (remark s wide).length + 3, false⟩ ∧
    nextL (remarked s wide) ((remark s wide).length + 3) false = ⟨some (1, [98]), 2, (remark s wide).length + 4, true⟩ ∧
    nextL (remarked s wide) ((remark s wide).length + 4) true = ⟨some (3, [10]), 2, (remark s wide).length + 4, false⟩ ∧
    nextL (remarked s wide) ((remark s wide).length + 4) false = ⟨some (0, []), 2, (remark s wide).length + 4, false⟩ := by
  have hn := line_none (remark_no10 h wide)
  have hn2 : lineL ([97, 32] ++ remark s wide) = 1 := line_none (fun c hc => by
    rcases List.mem_append.1 hc with hc | hc
    · simp at hc; rcases hc with rfl | rfl <;> decide
    · exact remark_no10 h wide c hc)
  have hn3 : lineL ([97, 32] ++ remark s wide ++ [10]) = 2 := by have := line_app ([97, 32] ++ remark s wide) [10]; rw [hn2] at this; have e : lineL [10] = 2 := rfl; omega
  have hn4 : lineL ([97, 32] ++ remark s wide ++ [10, 98]) = 2 := by have := line_app ([97, 32] ++ remark s wide) [10, 98]; rw [hn2] at this; have e : lineL [10, 98] = 2 := rfl; omega
  obtain ⟨rr, hrr⟩ := remark_head s wide
  refine ⟨?_, ?_, ?_, ?_, ?_, ?_⟩
  · have a : At (remarked s wide) [] [] ([97, 32] ++ remark s wide ++ [10, 98]) false := ⟨rfl, rfl, .inr ⟨_, _, rfl, rfl⟩⟩
    have := a.tok (.inl rfl) (kd := 1) (t := [97]) (n := 1) (by
      show tokL (97 :: (32 :: (remark s wide ++ [10, 98]))) = _
      rw [tok_name (by decide)]; rfl) (.inl rfl)
    exact this
  · have a : At (remarked s wide) [97] [32] (remark s wide ++ [10, 98]) true := ⟨by simp [remarked], rfl, .inr ⟨47, rr ++ [10, 98], by rw [hrr]; rfl, rfl⟩⟩
    have := a.tok (.inr (by rw [hrr]; simp)) (tok_remark h wide [98]) (.inr (by rw [hn]; omega))
    rw [show ([97] : List UInt8).length = 1 from rfl] at this
    rw [this]
    simp [lineL]; omega
  · have a : At (remarked s wide) ([97, 32] ++ remark s wide) [] (10 :: [98]) true := ⟨by simp [remarked], rfl, .inr ⟨_, _, rfl, rfl⟩⟩
    have := a.feed
    rw [show (([97, 32] : List UInt8) ++ remark s wide).length = (remark s wide).length + 2 by simp] at this
    rw [this, List.append_nil, hn2]; rfl
  · have a : At (remarked s wide) ([97, 32] ++ remark s wide ++ [10]) [] [98] false := ⟨by simp [remarked], rfl, .inr ⟨_, _, rfl, rfl⟩⟩
    have := a.tok (.inl rfl) (kd := 1) (t := [98]) (n := 1) rfl (.inl rfl)
    rw [show ((([97, 32] : List UInt8) ++ remark s wide ++ ([10] : List UInt8)) : List UInt8).length = (remark s wide).length + 3 from by simp] at this
    rw [this, List.append_nil, hn3]; rfl
  · have a : At (remarked s wide) ([97, 32] ++ remark s wide ++ [10, 98]) [] [] true := ⟨by simp [remarked], rfl, .inl rfl⟩
    have := a.last
    rw [show ((([97, 32] : List UInt8) ++ remark s wide ++ ([10, 98] : List UInt8)) : List UInt8).length = (remark s wide).length + 4 from by simp] at this
    rw [this, List.append_nil, hn4]; rfl
  · have a : At (remarked s wide) ([97, 32] ++ remark s wide ++ [10, 98]) [] [] false := ⟨by simp [remarked], rfl, .inl rfl⟩
    have := a.tok (.inl rfl) (kd := 0) (t := []) (n := 0) rfl (.inl rfl)
    rw [show ((([97, 32] : List UInt8) ++ remark s wide ++ ([10, 98] : List UInt8)) : List UInt8).length = (remark s wide).length + 4 from by simp] at this
    rw [this, List.append_nil, hn4]; rfl
end Go.Proofs.YtinaeegijmkbhaaGreatDoor
