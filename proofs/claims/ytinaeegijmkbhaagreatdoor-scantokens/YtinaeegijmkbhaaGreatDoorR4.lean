/-
  Plain: names with blanks between; texts in quotes and in backquotes.
-/
import Derived.Test.YtinaeegijmkbhaaGreatDoorR3
import Derived.Test.YtinaeegijmkbhaaGreatDoorQ6
set_option linter.unusedVariables false
namespace Go.Proofs.YtinaeegijmkbhaaGreatDoor

/-! Names. -/
def namesL (g : List UInt8) (xs : List (List UInt8)) : List UInt8 := (xs.map fun n => n ++ g ++ [44]).flatten
def Name (n : List UInt8) : Prop := n ≠ [] ∧ ∀ c ∈ n, 97 ≤ c.toNat ∧ c.toNat ≤ 122
theorem names_app (g : List UInt8) (xs ys : List (List UInt8)) : namesL g (xs ++ ys) = namesL g xs ++ namesL g ys := by
  unfold namesL; rw [List.map_append, List.flatten_append]
theorem names_one (g n : List UInt8) : namesL g [n] = n ++ g ++ [44] := by unfold namesL; simp
theorem names_split (g : List UInt8) (xs : List (List UInt8)) {i : Nat} (hi : i < xs.length) : namesL g xs = namesL g (xs.take i) ++ (xs[i] ++ g ++ [44]) ++ namesL g (xs.drop (i + 1)) := by
  conv => lhs; rw [← List.take_append_drop i xs, List.drop_eq_getElem_cons hi]
  rw [names_app, show xs[i] :: xs.drop (i + 1) = [xs[i]] ++ xs.drop (i + 1) from rfl, names_app, names_one]
  simp only [List.append_assoc]
theorem names_next (g : List UInt8) (xs : List (List UInt8)) {i : Nat} (hi : i < xs.length) : namesL g (xs.take (i + 1)) = namesL g (xs.take i) ++ (xs[i] ++ g ++ [44]) := by
  rw [List.take_succ_eq_append_getElem hi, names_app, names_one]
theorem names_no10 {g : List UInt8} (hg : ∀ c ∈ g, c ≠ 10) {xs : List (List UInt8)} (hx : ∀ x ∈ xs, Name x) : ∀ c ∈ namesL g xs, c ≠ 10 := by
  intro c hc
  unfold namesL at hc
  obtain ⟨y, hy, hcy⟩ := List.mem_flatten.1 hc
  obtain ⟨x, hxm, rfl⟩ := List.mem_map.1 hy
  rcases List.mem_append.1 hcy with hcy | hcy
  · rcases List.mem_append.1 hcy with hcy | hcy
    · rintro rfl
      have := (hx x hxm).2 10 hcy
      simp at this
    · exact hg c hcy
  · rw [List.mem_singleton.1 hcy]; decide
theorem name_let {n : List UInt8} (h : Name n) : ∀ c ∈ n, letB c = true := by
  intro c hc
  have := h.2 c hc
  unfold letB
  simp [this.1, this.2]
theorem tok_nameL {n : List UInt8} (h : Name n) {r : List UInt8} (hr : ∃ c r', r = c :: r' ∧ nameB c = false) : tokL (n ++ r) = some (1, n, n.length) := by
  obtain ⟨c, r', rfl, hc⟩ := hr
  have hw := takeWhile_upto (p := nameB) (a := n) (c := c) (r := r') (fun x hx => by unfold nameB; rw [name_let h x hx]; rfl) hc
  cases n with
  | nil => exact absurd rfl h.1
  | cons d m =>
    rw [List.cons_append] at hw ⊢
    rw [tok_name (name_let h d (by simp)), hw]
theorem name_head {n : List UInt8} (h : Name n) (semi : Bool) (r : List UInt8) : ∃ c r', n ++ r = c :: r' ∧ blankB semi c = false ∧ c ≠ 10 := by
  cases n with
  | nil => exact absurd rfl h.1
  | cons d m =>
    refine ⟨d, m ++ r, rfl, ?_, ?_⟩
    · have := h.2 d (by simp)
      have n1 : (d == 32) = false := by rw [beq_eq_false_iff_ne]; rintro rfl; simp at this
      have n2 : (d == 9) = false := by rw [beq_eq_false_iff_ne]; rintro rfl; simp at this
      have n3 : (d == 13) = false := by rw [beq_eq_false_iff_ne]; rintro rfl; simp at this
      have n4 : (d == 10) = false := by rw [beq_eq_false_iff_ne]; rintro rfl; simp at this
      unfold blankB
      rw [n1, n2, n3, n4]; rfl
    · rintro rfl
      have := h.2 10 (by simp)
      simp at this
/-- A gap: blanks alone, or a comment. -/
inductive Gap (g : List UInt8) : Bool → Prop
  | blank (h : g.all (blankB true) = true) (h1 : ∃ c r, g = c :: r ∧ nameB c = false) (h2 : ∀ c ∈ g, c ≠ 10) : Gap g false
  | remark (h : g = [47, 42, 42, 47]) : Gap g true
theorem Gap.head {g : List UInt8} {b : Bool} (h : Gap g b) : ∃ c r, g = c :: r ∧ nameB c = false := by
  cases h with
  | blank _ h1 _ => exact h1
  | remark h => exact ⟨47, _, h, by decide⟩
theorem Gap.no10 {g : List UInt8} {b : Bool} (h : Gap g b) : ∀ c ∈ g, c ≠ 10 := by
  cases h with
  | blank _ _ h2 => exact h2
  | remark h => rw [h]; decide
theorem names_name {g : List UInt8} {b : Bool} (hg : Gap g b) {xs : List (List UInt8)} (hx : ∀ x ∈ xs, Name x) {i : Nat} (hi : i < xs.length) :
    nextL (namesL g xs) (namesL g (xs.take i)).length false = ⟨some (1, xs[i]), 1, (namesL g (xs.take i)).length + xs[i].length, true⟩ := by
  have hn := hx _ (List.getElem_mem hi)
  obtain ⟨c, r', h1, h2, h3⟩ := name_head hn false (g ++ [44] ++ namesL g (xs.drop (i + 1)))
  have a : At (namesL g xs) (namesL g (xs.take i)) [] (xs[i] ++ (g ++ [44] ++ namesL g (xs.drop (i + 1)))) false := ⟨by rw [names_split g xs hi]; simp, rfl, .inr ⟨c, r', h1, h2⟩⟩
  obtain ⟨d, r2, e1, e2⟩ := hg.head
  have := a.tok (.inl rfl) (tok_nameL hn ⟨d, r2 ++ [44] ++ namesL g (xs.drop (i + 1)), by rw [e1]; rfl, e2⟩) (.inl rfl)
  rw [List.append_nil, line_none (names_no10 hg.no10 (fun x h => hx x (List.mem_of_mem_take h)))] at this
  exact this
theorem names_comma {g : List UInt8} (hg : Gap g false) {xs : List (List UInt8)} (hx : ∀ x ∈ xs, Name x) {i : Nat} (hi : i < xs.length) :
    nextL (namesL g xs) ((namesL g (xs.take i)).length + xs[i].length) true = ⟨some (3, [44]), 1, (namesL g (xs.take (i + 1))).length, false⟩ := by
  have hb : g.all (blankB true) = true := by cases hg; assumption
  have a : At (namesL g xs) (namesL g (xs.take i) ++ xs[i]) g (44 :: namesL g (xs.drop (i + 1))) true := ⟨by rw [names_split g xs hi]; simp, hb, .inr ⟨_, _, rfl, by decide⟩⟩
  have := a.tok (.inr (by simp)) (tok_sign (by decide) (by decide) (by decide) (by simp) (by simp)) (.inr (by omega))
  rw [List.length_append] at this
  rw [this, line_none]
  · rw [names_next g xs hi]; simp [ends]; omega
  · intro c hc
    rcases List.mem_append.1 hc with hc | hc
    · rcases List.mem_append.1 hc with hc | hc
      · exact names_no10 hg.no10 (fun x h => hx x (List.mem_of_mem_take h)) c hc
      · rintro rfl
        have := (hx _ (List.getElem_mem hi)).2 10 hc
        simp at this
    · exact hg.no10 c hc
theorem names_remark {g : List UInt8} (hg : Gap g true) {xs : List (List UInt8)} (hx : ∀ x ∈ xs, Name x) {i : Nat} (hi : i < xs.length) :
    nextL (namesL g xs) ((namesL g (xs.take i)).length + xs[i].length) true = ⟨some (4, [47, 42, 42, 47]), 1, (namesL g (xs.take i)).length + xs[i].length + 4, true⟩ ∧
    nextL (namesL g xs) ((namesL g (xs.take i)).length + xs[i].length + 4) true = ⟨some (3, [44]), 1, (namesL g (xs.take (i + 1))).length, false⟩ := by
  have hno := hg.no10
  obtain rfl : g = [47, 42, 42, 47] := by cases hg; assumption
  have hn10 : ∀ c ∈ namesL [47, 42, 42, 47] (xs.take i) ++ xs[i], c ≠ 10 := by
    intro c hc
    rcases List.mem_append.1 hc with hc | hc
    · exact names_no10 hno (fun x h => hx x (List.mem_of_mem_take h)) c hc
    · rintro rfl
      have := (hx _ (List.getElem_mem hi)).2 10 hc
      simp at this
  constructor
  · have a : At (namesL [47, 42, 42, 47] xs) (namesL [47, 42, 42, 47] (xs.take i) ++ xs[i]) [] (47 :: 42 :: 42 :: 47 :: 44 :: namesL [47, 42, 42, 47] (xs.drop (i + 1))) true := ⟨by rw [names_split _ xs hi]; simp, rfl, .inr ⟨_, _, rfl, by decide⟩⟩
    have := a.tok (.inr (by simp)) (kd := 4) (t := [47, 42, 42, 47]) (n := 4) (by rw [tok_long, com_hit]; rfl) (.inr (by decide))
    rw [List.length_append, List.append_nil, line_none hn10] at this
    exact this
  · have a : At (namesL [47, 42, 42, 47] xs) (namesL [47, 42, 42, 47] (xs.take i) ++ xs[i] ++ [47, 42, 42, 47]) [] (44 :: namesL [47, 42, 42, 47] (xs.drop (i + 1))) true := ⟨by rw [names_split _ xs hi]; simp, rfl, .inr ⟨_, _, rfl, by decide⟩⟩
    have := a.tok (.inr (by simp)) (tok_sign (by decide) (by decide) (by decide) (by simp) (by simp)) (.inr (by omega))
    rw [List.append_nil, line_none (fun c hc => by
      rcases List.mem_append.1 hc with hc | hc
      · exact hn10 c hc
      · exact hno c hc)] at this
    rw [show (namesL [47, 42, 42, 47] (xs.take i) ++ xs[i] ++ ([47, 42, 42, 47] : List UInt8)).length = (namesL [47, 42, 42, 47] (xs.take i)).length + xs[i].length + 4 from by simp; omega] at this
    rw [this, names_next _ xs hi]; simp [ends]; omega
theorem names_end {g : List UInt8} {b : Bool} (hg : Gap g b) {xs : List (List UInt8)} (hx : ∀ x ∈ xs, Name x) :
    nextL (namesL g xs) (namesL g xs).length false = ⟨some (0, []), 1, (namesL g xs).length, false⟩ := by
  have a : At (namesL g xs) (namesL g xs) [] [] false := ⟨by simp, rfl, .inl rfl⟩
  have := a.tok (.inl rfl) (kd := 0) (t := []) (n := 0) rfl (.inl rfl)
  rw [List.append_nil, line_none (names_no10 hg.no10 hx)] at this
  exact this

/-! Texts. -/
def lowH (n : Nat) : UInt8 := if n < 10 then UInt8.ofNat (48 + n) else UInt8.ofNat (87 + n)
def uppH (n : Nat) : UInt8 := if n < 10 then UInt8.ofNat (48 + n) else UInt8.ofNat (55 + n)
def hexed (s : List UInt8) : List UInt8 := (s.map fun c => [92, 120, lowH (c.toNat / 16), uppH (c.toNat % 16)]).flatten
theorem hexed_cons (c : UInt8) (s : List UInt8) : hexed (c :: s) = 92 :: 120 :: lowH (c.toNat / 16) :: uppH (c.toNat % 16) :: hexed s := rfl
theorem lowH_v : ∀ n : Fin 16, hexV (lowH n.val) = (n.val : Int) ∧ (lowH n.val).toNat < 128 ∧ 34 < (lowH n.val).toNat ∧ lowH n.val ≠ 92 := by decide
theorem uppH_v : ∀ n : Fin 16, hexV (uppH n.val) = (n.val : Int) ∧ (uppH n.val).toNat < 128 ∧ 34 < (uppH n.val).toNat ∧ uppH n.val ≠ 92 := by decide
theorem num_hex (c : UInt8) (r : List UInt8) : numL 2 16 (lowH (c.toNat / 16) :: uppH (c.toNat % 16) :: r) = (c.toNat : Int) := by
  have hc := c.toNat_lt
  have h1 := (lowH_v ⟨c.toNat / 16, by omega⟩).1
  have h2 := (uppH_v ⟨c.toNat % 16, by omega⟩).1
  simp only at h1 h2
  unfold numL
  rw [if_neg (by simp)]
  simp only [List.take_succ_cons, List.take_zero, numF, h1, h2]
  rw [if_neg (by omega), if_neg (by omega)]
  omega
theorem unq_hex : ∀ s : List UInt8, unqL (hexed s) = some s
  | [] => unq_nil
  | c :: s => by
    have hn := num_hex c (hexed s)
    have he : escL (120 :: lowH (c.toNat / 16) :: uppH (c.toNat % 16) :: hexed s) = ([c], 3) := by
      rw [esc_3 (by rw [hn]; omega), hn]
      congr 2
      unfold oct8
      rw [Int.toNat_natCast]
      exact UInt8.ofNat_toNat
    rw [hexed_cons, unq_esc (by rw [he]; simp), he]
    show (unqL (hexed s)).map _ = _
    rw [unq_hex s]; rfl
theorem quo_hex : ∀ s : List UInt8, quoL (hexed s ++ [34]) = some (hexed s).length
  | [] => quo_34
  | c :: s => by
    have hc := c.toNat_lt
    have h1 := lowH_v ⟨c.toNat / 16, by omega⟩
    have h2 := uppH_v ⟨c.toNat % 16, by omega⟩
    simp only at h1 h2
    have ne (d : UInt8) (h : 34 < d.toNat) : d ≠ 10 ∧ d ≠ 34 := ⟨fun e => by rw [e] at h; simp at h, fun e => by rw [e] at h; simp at h⟩
    rw [hexed_cons, List.cons_append, List.cons_append, List.cons_append, List.cons_append, quo_92 (by decide), quo_on (ne _ h1.2.2.1).1 (ne _ h1.2.2.1).2 h1.2.2.2, quo_on (ne _ h2.2.2.1).1 (ne _ h2.2.2.1).2 h2.2.2.2, quo_hex s]
    rfl
theorem tok_hex (s : List UInt8) : tokL (34 :: (hexed s ++ [34])) = some (2, s, (hexed s).length + 2) := by
  rw [tok_quo, quo_hex]
  simp only
  rw [List.take_left, unq_hex]; rfl
theorem hex_ascii : ∀ s : List UInt8, ∀ c ∈ hexed s, 0 < c.toNat ∧ c.toNat < 128
  | [], c, h => by cases h
  | d :: s, c, h => by
    have hd := d.toNat_lt
    have h1 := lowH_v ⟨d.toNat / 16, by omega⟩
    have h2 := uppH_v ⟨d.toNat % 16, by omega⟩
    simp only at h1 h2
    rw [hexed_cons] at h
    rcases List.mem_cons.1 h with rfl | h
    · decide
    rcases List.mem_cons.1 h with rfl | h
    · decide
    rcases List.mem_cons.1 h with rfl | h
    · exact ⟨by omega, h1.2.1⟩
    rcases List.mem_cons.1 h with rfl | h
    · exact ⟨by omega, h2.2.1⟩
    exact hex_ascii s c h
theorem next_hex (s : List UInt8) : nextL (34 :: (hexed s ++ [34])) 0 false = ⟨some (2, s), 1, (hexed s).length + 2, true⟩ := by
  have a : At (34 :: (hexed s ++ [34])) [] [] (34 :: (hexed s ++ [34])) false := ⟨rfl, rfl, .inr ⟨_, _, rfl, rfl⟩⟩
  have := a.tok (.inl rfl) (tok_hex s) (.inl rfl)
  simpa [ends, lineL] using this
def RawS (s : List UInt8) : Prop := ∀ c ∈ s, 32 ≤ c.toNat ∧ c.toNat < 127 ∧ c ≠ 96
theorem tok_rawS {s : List UInt8} (h : RawS s) : tokL (96 :: (s ++ [96])) = some (2, s, s.length + 2) := by
  have hw : (s ++ [96]).takeWhile (fun x : UInt8 => decide (x ≠ 96)) = s := takeWhile_upto (fun x hx => by simpa using (h x hx).2.2) rfl
  rw [tok_raw, hw, if_neg (by simp)]
  have hf : s.filter (fun x : UInt8 => decide (x ≠ 13)) = s := List.filter_eq_self.2 fun x hx => by
    have := h x hx
    simp
    rintro rfl
    simp at this
  rw [hf]
theorem next_rawS {s : List UInt8} (h : RawS s) : nextL (96 :: (s ++ [96])) 0 false = ⟨some (2, s), 1, s.length + 2, true⟩ ∧ nextL (96 :: (s ++ [96])) (s.length + 2) true = ⟨some (3, [10]), 1, s.length + 2, false⟩ := by
  constructor
  · have a : At (96 :: (s ++ [96])) [] [] (96 :: (s ++ [96])) false := ⟨rfl, rfl, .inr ⟨_, _, rfl, rfl⟩⟩
    have := a.tok (.inl rfl) (tok_rawS h) (.inl rfl)
    simpa [ends, lineL] using this
  · have a : At (96 :: (s ++ [96])) (96 :: (s ++ [96])) [] [] true := ⟨by simp, rfl, .inl rfl⟩
    have := a.last
    rw [List.append_nil, line_none (fun c hc => by
      rcases List.mem_cons.1 hc with rfl | hc
      · decide
      · rcases List.mem_append.1 hc with hc | hc
        · rintro rfl
          have := h 10 hc
          simp at this
        · rw [List.mem_singleton.1 hc]; decide)] at this
    simpa using this
end Go.Proofs.YtinaeegijmkbhaaGreatDoor
