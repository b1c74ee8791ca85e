/-
  The program's scanner as the laws meet it: what a step is, by the document; New and Next behind other work.
-/
import Derived.Test.YtinaeegijmkbhaaGreatDoorA14
import Derived.Test.YtinaeegijmkbhaaGreatDoorR2
import Derived.Test.YtinaeegijmkbhaaGreatDoorR3
import Derived.Test.YtinaeegijmkbhaaGreatDoorR4
set_option linter.unusedVariables false
namespace Go.Proofs.YtinaeegijmkbhaaGreatDoor
open Go.RowKit Go.Shelf

theorem pieceL_lf {l : List UInt8} (h : l.head? = some 10) : pieceL true l = some (3, [10], 1) := by
  unfold pieceL
  rw [Bool.true_and, if_pos (endsB_lf h), if_pos h]
theorem tok_nil' : tokL [] = some (0, [], 0) := rfl
theorem pieceL_none {semi : Bool} {l : List UInt8} (e : semi = false ∨ l.head? ≠ some 10) (ht : tokL l = none) : pieceL semi l = none := by
  unfold pieceL
  rw [if_neg, ht]
  intro x
  rw [Bool.and_eq_true] at x
  obtain ⟨rfl, x⟩ := x
  have h1 := e.resolve_left (by simp)
  have h0 : l ≠ [] := by rintro rfl; rw [tok_nil'] at ht; cases ht
  rw [endsB_no h0 h1, ht] at x
  cases x
theorem pieceL_end {l t : List UInt8} {kd n : Nat} (e : l.head? ≠ some 10) (ht : tokL l = some (kd, t, n)) (hb : kd = 0 ∨ (kd = 4 ∧ 1 < lineL t)) : pieceL true l = some (3, [10], 0) := by
  unfold pieceL
  rw [Bool.true_and, if_pos, if_neg e]
  by_cases h0 : l = []
  · subst h0; rfl
  · rw [endsB_no h0 e, ht]
    rcases hb with rfl | ⟨rfl, h4⟩
    · exact absurd ((tok_fits ht).2.1 rfl).1 h0
    · simp [endsT, h4]
theorem pieceL_tok {semi : Bool} {l t : List UInt8} {kd n : Nat} (e : semi = false ∨ l.head? ≠ some 10) (ht : tokL l = some (kd, t, n)) (hb : semi = false ∨ ¬ (kd = 0 ∨ (kd = 4 ∧ 1 < lineL t))) : pieceL semi l = some (kd, t, n) := by
  unfold pieceL
  rw [if_neg, ht]
  intro x
  rw [Bool.and_eq_true] at x
  obtain ⟨rfl, x⟩ := x
  have h1 := e.resolve_left (by simp)
  have h2 := hb.resolve_left (by simp)
  have h0 : l ≠ [] := by
    rintro rfl
    rw [tok_nil'] at ht
    simp only [Option.some.injEq, Prod.mk.injEq] at ht
    exact h2 (.inl ht.1.symm)
  rw [endsB_no h0 h1, ht] at x
  simp only [endsT, Bool.and_eq_true, beq_iff_eq, decide_eq_true_eq] at x
  exact h2 (.inr x)
/-- A step is the document's; at a fault the blanks alone are passed. -/
theorem step_is (l : List UInt8) (pos : Nat) (semi : Bool) :
    ((nextL l pos semi).tok ≠ none ∧ stepP l pos semi = nextL l pos semi) ∨
    ((nextL l pos semi).tok = none ∧ stepP l pos semi = ⟨none, (nextL l pos semi).line, pos + blanks semi (l.drop pos), semi⟩) := by
  obtain ⟨k, hk⟩ : ∃ k, pos + blanks semi (l.drop pos) = k := ⟨_, rfl⟩
  by_cases hA : semi = true ∧ (l.drop k).head? = some 10
  · obtain ⟨rfl, hA⟩ := hA
    left
    rw [next_A hk hA]
    refine ⟨by simp, ?_⟩
    rw [stepP_some rfl (by rw [hk]; exact pieceL_lf hA), hk]
    rfl
  have hA' : semi = false ∨ (l.drop k).head? ≠ some 10 := by
    cases semi
    · exact .inl rfl
    · exact .inr fun x => hA ⟨rfl, x⟩
  cases ht : tokL (l.drop k) with
  | none =>
    right
    rw [next_N hk hA' ht]
    refine ⟨rfl, ?_⟩
    rw [stepP_none rfl (by rw [hk]; exact pieceL_none hA' ht), hk]
  | some y =>
    obtain ⟨kd, t, n⟩ := y
    left
    by_cases hB : semi = true ∧ (kd = 0 ∨ (kd = 4 ∧ 1 < lineL t))
    · obtain ⟨rfl, hB⟩ := hB
      rw [next_B hk (hA'.resolve_left (by simp)) ht hB]
      refine ⟨by simp, ?_⟩
      rw [stepP_some rfl (by rw [hk]; exact pieceL_end (hA'.resolve_left (by simp)) ht hB), hk]
      rfl
    · have hB' : semi = false ∨ ¬ (kd = 0 ∨ (kd = 4 ∧ 1 < lineL t)) := by
        cases semi
        · exact .inl rfl
        · exact .inr fun x => hB ⟨rfl, x⟩
      rw [next_C hk hA' ht hB']
      refine ⟨by simp, ?_⟩
      rw [stepP_some rfl (by rw [hk]; exact pieceL_tok hA' ht hB'), hk]
theorem step_tok {l : List UInt8} {pos : Nat} {semi : Bool} (h : (stepP l pos semi).tok ≠ none) : stepP l pos semi = nextL l pos semi := by
  rcases step_is l pos semi with ⟨-, e⟩ | ⟨-, e⟩
  · exact e
  · rw [e] at h; exact absurd rfl h
theorem step_same {l : List UInt8} {pos : Nat} {semi : Bool} : (stepP l pos semi).tok = (nextL l pos semi).tok ∧ (stepP l pos semi).line = (nextL l pos semi).line := by
  rcases step_is l pos semi with ⟨-, e⟩ | ⟨h, e⟩
  · rw [e]; exact ⟨rfl, rfl⟩
  · rw [e, h]; exact ⟨rfl, rfl⟩
theorem step_in {l : List UInt8} {pos : Nat} (semi : Bool) (h : pos ≤ l.length) : (stepP l pos semi).pos ≤ l.length := by
  rcases step_is l pos semi with ⟨-, e⟩ | ⟨-, e⟩
  · rw [e]; exact (next_goes semi h).high
  · rw [e]; exact blanks_le semi l pos h

theorem Only.below {p B : Nat} {w w' : World} (h : Only p w w') (hp : B ≤ p) (hB : B ≤ w.heap.size) : Below B w w' := ⟨h.os, h.tape, h.output, h.size, fun k hk => h.block k (by omega) (by omega)⟩
/-- A scanner that a law has made: where it is in its source. -/
structure LS (w0 W : World) (p : Nat) (s : ByteArray) (pos : Nat) (semi : Bool) : Prop where
  sc : ScanP W p (s.extract pos s.size) (lineL (s.data.toList.take pos)) semi
  bel : Below w0.heap.size w0 W
  new : w0.heap.size ≤ p
  env : Env W
  four : 4 ≤ w0.heap.size
  pos : pos ≤ s.size
theorem LS.on {w0 W W' : World} {p : Nat} {s : ByteArray} {pos : Nat} {semi : Bool} (h : LS w0 W p s pos semi) (b : Below W.heap.size W W') : LS w0 W' p s pos semi :=
  ⟨h.sc.below b, h.bel.trans (b.mono h.bel.size), h.new, h.env.on b, h.four, h.pos⟩
theorem LS.alloc {w0 W : World} {p : Nat} {s : ByteArray} {pos : Nat} {semi : Bool} (h : LS w0 W p s pos semi) (o : Obj) : LS w0 (W.alloc o) p s pos semi := h.on ((Below.refl _ _).alloc (Nat.le_refl _) o)
theorem LS.drew {w0 W : World} {p : Nat} {s : ByteArray} {pos : Nat} {semi : Bool} (h : LS w0 W p s pos semi) : LS w0 W.drew p s pos semi := h.on (Below.refl _ _).drew
theorem LS.drewN {w0 W : World} {p : Nat} {s : ByteArray} {pos : Nat} {semi : Bool} (h : LS w0 W p s pos semi) (n : Nat) : LS w0 (W.drewN n) p s pos semi := h.on (below_drewN (Below.refl _ _) n)
/-- Another scanner's step leaves this one where it is. -/
theorem LS.only {w0 W W' : World} {p q : Nat} {s : ByteArray} {pos : Nat} {semi : Bool} (h : LS w0 W p s pos semi) (o : Only q W W') (hq : w0.heap.size ≤ q) (hne : p ≠ q) : LS w0 W' p s pos semi :=
  ⟨h.sc.only o hne, h.bel.trans (o.below hq h.bel.size), h.new, h.env.only (Nat.le_trans h.four hq) o, h.four, h.pos⟩
theorem next_law (s : ByteArray) (hs : s.size ≤ 20400) {w0 W : World} {p pos : Nat} {semi : Bool} (h : LS w0 W p s pos semi) :
    Calls Tryz.prog 7 #[.pointer (some ⟨p, 0, none⟩)] W fun e w' => e = .returned (StepOut (stepP s.data.toList pos semi)) ∧ LS w0 w' p s (stepP s.data.toList pos semi).pos (stepP s.data.toList pos semi).semi ∧ Only p W w' := by
  refine (next_walk s hs p pos h.pos semi W h.env (Nat.le_trans h.four h.new) h.sc).mono ?_
  rintro e w' ⟨h1, h2, h3⟩
  have hin := step_in semi (l := s.data.toList) (pos := pos) (by rw [size_data]; exact h.pos)
  rw [size_data] at hin
  exact ⟨h1, ⟨h2, h.bel.trans (h3.below h.new h.bel.size), h.new, h.env.only (Nat.le_trans h.four h.new) h3, h.four, hin⟩, h3⟩
theorem bom_line (s : ByteArray) : lineL (s.data.toList.take (bomN s)) = 1 ∧ bomN s ≤ s.size := by
  unfold bomN
  split
  · rename_i h
    rw [h]
    refine ⟨rfl, ?_⟩
    have := congrArg List.length h
    rw [List.length_take, size_data] at this
    simp at this; omega
  · exact ⟨rfl, Nat.zero_le _⟩
/-- What New tells, in a law. -/
def NewLaw (s : ByteArray) (w0 W : World) (e : Ending) (w' : World) : Prop := Below W.heap.size W w' ∧
  ((∃ k, badL 0 s.data.toList = some k ∧ e = .returned (.tuple #[.pointer none, .agg #[.int .i64 100, .string ⟨#[]⟩, .int .i64 (lineL (s.data.toList.take k) : Nat)]])) ∨
   (badL 0 s.data.toList = none ∧ ∃ p, W.heap.size ≤ p ∧ e = .returned (.tuple #[.pointer (some ⟨p, 0, none⟩), .agg #[.int .i64 0, .string ⟨#[]⟩, .int .i64 0]]) ∧ LS w0 w' p s (bomN s) false))
theorem new_law (s : ByteArray) (hs : s.size ≤ 20400) {w0 W : World} (hB : Below w0.heap.size w0 W) (hE : Env w0) : Calls Tryz.prog 5 #[.string s] W (NewLaw s w0 W) := by
  refine (new_any s hs W).mono ?_
  rintro e w' ⟨h1, h2⟩
  refine ⟨h1, ?_⟩
  rcases h2 with h2 | ⟨h2, p, hp, he, hsc⟩
  · exact .inl h2
  · obtain ⟨hl, hb⟩ := bom_line s
    refine .inr ⟨h2, p, hp, he, ?_, hB.trans (h1.mono hB.size), Nat.le_trans hB.size hp, hE.on (hB.trans (h1.mono hB.size)), hE.size, hb⟩
    rw [hl]; exact hsc
end Go.Proofs.YtinaeegijmkbhaaGreatDoor
