/-
  The document's scanner as the law meets it.
-/
import Derived.Test.YtinaeegijmkbhaaGreatDoorZ0
import Derived.Test.YtinaeegijmkbhaaGreatDoorQ12
set_option linter.unusedVariables false
namespace Go.Proofs.YtinaeegijmkbhaaGreatDoor
open Go.RowKit Go.Shelf

/-- The document's scanner that the law has made. -/
structure LR (w0 W : World) (p : Nat) (s : ByteArray) (pos : Nat) (semi : Bool) : Prop where
  sc : ScanR W p s pos semi
  bel : Below w0.heap.size w0 W
  new : w0.heap.size ≤ p
  pos : pos ≤ s.size
theorem LR.lt {w0 W : World} {p : Nat} {s : ByteArray} {pos : Nat} {semi : Bool} (h : LR w0 W p s pos semi) : p < W.heap.size := (Array.getElem?_eq_some_iff.1 h.sc).1
theorem LR.on {w0 W W' : World} {p : Nat} {s : ByteArray} {pos : Nat} {semi : Bool} (h : LR w0 W p s pos semi) (b : Below W.heap.size W W') : LR w0 W' p s pos semi :=
  ⟨(b.block p h.lt).trans h.sc, h.bel.trans (b.mono h.bel.size), h.new, h.pos⟩
theorem LR.alloc {w0 W : World} {p : Nat} {s : ByteArray} {pos : Nat} {semi : Bool} (h : LR w0 W p s pos semi) (o : Obj) : LR w0 (W.alloc o) p s pos semi := h.on ((Below.refl _ _).alloc (Nat.le_refl _) o)
theorem LR.only {w0 W W' : World} {p q : Nat} {s : ByteArray} {pos : Nat} {semi : Bool} (h : LR w0 W p s pos semi) (o : Only q W W') (hq : w0.heap.size ≤ q) (hne : p ≠ q) : LR w0 W' p s pos semi :=
  ⟨(o.block p h.lt hne).trans h.sc, h.bel.trans (o.below hq h.bel.size), h.new, h.pos⟩
theorem rnext_law (s : ByteArray) (hs : s.size ≤ 20400) {w0 W : World} {p pos : Nat} {semi : Bool} (h : LR w0 W p s pos semi) :
    Calls Tryz.prog 8 #[.pointer (some ⟨p, 0, none⟩)] W fun e w' => e = .returned (StepOut (stepP s.data.toList pos semi)) ∧ LR w0 w' p s (nextL s.data.toList pos semi).pos (nextL s.data.toList pos semi).semi ∧ Only p W w' := by
  refine (rnext_any s hs p pos h.pos semi W h.sc).mono ?_
  rintro e w' ⟨h1, h2, h3⟩
  have hin := (next_goes semi (l := s.data.toList) (pos := pos) (by rw [size_data]; exact h.pos)).high
  rw [size_data] at hin
  refine ⟨?_, ⟨h2, h.bel.trans (h3.below h.new h.bel.size), h.new, hin⟩, h3⟩
  rw [h1]
  unfold StepOut
  rw [step_same.1, step_same.2]
theorem rnew_no (s : ByteArray) (hs : s.size ≤ 20400) {k : Nat} (h : badL 0 s.data.toList = some k) (W : World) :
    Calls Tryz.prog 6 #[.string s] W fun e w' => e = .returned (.tuple #[.pointer none, .agg #[.int .i64 100, .string ⟨#[]⟩, .int .i64 (lineL (s.data.toList.take k) : Nat)]]) ∧ Below W.heap.size W w' := by
  refine (rnew_any s hs W).mono ?_
  rintro e w' ⟨hB, (⟨j, hj, rfl⟩ | ⟨hj, -⟩)⟩
  · obtain rfl := Option.some.inj (h.symm.trans hj)
    exact ⟨rfl, hB⟩
  · rw [h] at hj; cases hj
theorem rnew_yes (s : ByteArray) (hs : s.size ≤ 20400) (h : badL 0 s.data.toList = none) {w0 : World} (W : World) (hW : Below w0.heap.size w0 W) :
    Calls Tryz.prog 6 #[.string s] W fun e w' => Below W.heap.size W w' ∧ ∃ p, W.heap.size ≤ p ∧ e = .returned (.tuple #[.pointer (some ⟨p, 0, none⟩), .agg #[.int .i64 0, .string ⟨#[]⟩, .int .i64 0]]) ∧ LR w0 w' p s (bomN s) false := by
  refine (rnew_any s hs W).mono ?_
  rintro e w' ⟨hB, (⟨j, hj, -⟩ | ⟨-, p, hp, he, hl⟩)⟩
  · rw [h] at hj; cases hj
  · exact ⟨hB, p, hp, he, hl, hW.trans (hB.mono hW.size), Nat.le_trans hW.size hp, (bom_line s).2⟩
end Go.Proofs.YtinaeegijmkbhaaGreatDoor
