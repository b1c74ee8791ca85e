/-
  The laws' own helper: something is scanned.
-/
import Derived.Test.YtinaeegijmkbhaaGreatDoorA15
set_option linter.unusedVariables false
namespace Go.Proofs.YtinaeegijmkbhaaGreatDoor
open Go.RowKit Go.Shelf

theorem good_a : badL 0 [97] = none := bad_ascii _ _ (by decide)
theorem step_a : stepP [97] 0 false = ⟨some (1, [97]), 1, 1, true⟩ := by
  have e : nextL [97] 0 false = ⟨some (1, [97]), 1, 1, true⟩ := rfl
  rw [step_tok (by rw [step_same.1, e]; simp), e]
set_option maxRecDepth 100000 in
set_option maxHeartbeats 3200000 in
theorem shown_any (w : World) (hE : Env w) : Calls Tryz.prog 4 #[] w fun e w' => e = .returned (.bool true) ∧ Below w.heap.size w w' := by
  have HN := Lib.hid (fun (W : World) (hB : Below w.heap.size w W) => new_law ⟨#[97]⟩ (by decide) (w0 := w) (W := W) hB hE)
  have hNx : ∀ (W : World) (p : Nat), LS w W p ⟨#[97]⟩ (bomN ⟨#[97]⟩) false → Calls Tryz.prog 7 #[.pointer (some ⟨p, 0, none⟩)] W fun e w' => e = .returned (.tuple #[.agg #[.int .i64 1, .string ⟨#[97]⟩, .int .i64 1], .agg #[.int .i64 0, .string ⟨#[]⟩, .int .i64 0]]) ∧ Below w.heap.size w w' := fun W p h => by
    refine (next_law ⟨#[97]⟩ (by decide) h).mono ?_
    rintro e w' ⟨rfl, h2, -⟩
    refine ⟨?_, h2.bel⟩
    rw [show bomN ⟨#[97]⟩ = 0 from rfl, show (⟨#[97]⟩ : ByteArray).data.toList = [97] from rfl, step_a]
    rfl
  have HNx := Lib.hid hNx
  clear hNx
  go_enter Tryz.func4, Tryz.ntmps4
  go_wp2_with (first
    | (go_at_call 5; refine (HN.out _ (Below.refl _ _)).mono ?_; rintro e w1 ⟨hB, (⟨k, hk, -⟩ | ⟨-, p, hp, rfl, hL⟩)⟩; exact absurd (hk.symm.trans good_a) (by simp); have HL := Lib.hid (hL.alloc (.cells #[.int .i64 0, .string ⟨#[]⟩, .int .i64 0] 26)); clear hL)
    | (go_at_call 7; refine (HNx.out _ _ HL.out).mono ?_; rintro _ w2 ⟨rfl, hB2⟩; have HB2 := Lib.hid hB2; clear hB2))
  go_ret
  exact ⟨rfl, (HB2.out.alloc HB2.out.size _).alloc (by have := HB2.out.size; simp; omega) _⟩
end Go.Proofs.YtinaeegijmkbhaaGreatDoor
