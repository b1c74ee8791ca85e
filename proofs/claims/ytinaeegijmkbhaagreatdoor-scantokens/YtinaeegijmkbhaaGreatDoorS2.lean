/-
  New in a law: either there is no scanner, or there is one.
-/
import Derived.Test.YtinaeegijmkbhaaGreatDoorS1
set_option linter.unusedVariables false
namespace Go.Proofs.YtinaeegijmkbhaaGreatDoor
open Go.RowKit Go.Shelf

theorem new_no (s : ByteArray) (hs : s.size ≤ 20400) {k : Nat} (h : badL 0 s.data.toList = some k) (W : World) :
    Calls Tryz.prog 5 #[.string s] W fun e w' => e = .returned (.tuple #[.pointer none, .agg #[.int .i64 100, .string ⟨#[]⟩, .int .i64 (lineL (s.data.toList.take k) : Nat)]]) ∧ Below W.heap.size W w' := by
  refine (new_any s hs W).mono ?_
  rintro e w' ⟨hB, (⟨j, hj, rfl⟩ | ⟨hj, -⟩)⟩
  · obtain rfl := Option.some.inj (h.symm.trans hj)
    exact ⟨rfl, hB⟩
  · rw [h] at hj; cases hj
theorem new_yes (s : ByteArray) (hs : s.size ≤ 20400) (h : badL 0 s.data.toList = none) {w0 : World} (hE : Env w0) (W : World) (hW : Below w0.heap.size w0 W) :
    Calls Tryz.prog 5 #[.string s] W fun e w' => Below W.heap.size W w' ∧ ∃ p, W.heap.size ≤ p ∧ e = .returned (.tuple #[.pointer (some ⟨p, 0, none⟩), .agg #[.int .i64 0, .string ⟨#[]⟩, .int .i64 0]]) ∧ LS w0 w' p s (bomN s) false := by
  refine (new_law s hs hW hE).mono ?_
  rintro e w' ⟨hB, (⟨j, hj, -⟩ | ⟨-, p, hp, he, hl⟩)⟩
  · rw [h] at hj; cases hj
  · exact ⟨hB, p, hp, he, hl⟩
end Go.Proofs.YtinaeegijmkbhaaGreatDoor
