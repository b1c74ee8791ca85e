/-
  The document's own scanner: letters; what is broken.
-/
import Derived.Test.YtinaeegijmkbhaaGreatDoorQ2
import Derived.Test.YtinaeegijmkbhaaGreatDoorQ3
set_option linter.unusedVariables false
namespace Go.Proofs.YtinaeegijmkbhaaGreatDoor
open Go.RowKit Go.Shelf

set_option maxRecDepth 100000 in
set_option maxHeartbeats 400000 in
theorem rlet_any (c : UInt8) (w : World) :
    Calls Tryz.prog 26 #[.int .u8 (c.toNat : Int)] w fun e w' => e = .returned (.bool (letB c)) ∧ w = w' := by
  go_enter Tryz.func26, Tryz.ntmps26
  go_wp2
  all_goals
    go_ret
    refine ⟨ret_bool ?_, rfl⟩
    rw [Bool.eq_iff_iff]
    simp [letB]
    try omega

set_option maxRecDepth 100000 in
set_option maxHeartbeats 400000 in
theorem rbroken_any (s : ByteArray) (hs : s.size ≤ 20400) (w : World) :
    Calls Tryz.prog 19 #[.string s] w fun e w' => e = .returned (.bool (decide (1 < lineL s.data.toList))) ∧ w = w' := by
  go_enter Tryz.func19, Tryz.ntmps19
  go_wp2_with fail
  refine (rline_any _ _ hs _).mono ?_
  rintro _ w' ⟨rfl, rfl⟩
  rw [show s.data.toList.take (s.size : Int).toNat = s.data.toList from List.take_of_length_le (by rw [size_data]; simp)]
  go_wp2
  go_ret
  refine ⟨ret_bool ?_, rfl⟩
  rw [Bool.eq_iff_iff]
  simp
  omega

/-! How wide a rune is. -/
end Go.Proofs.YtinaeegijmkbhaaGreatDoor
