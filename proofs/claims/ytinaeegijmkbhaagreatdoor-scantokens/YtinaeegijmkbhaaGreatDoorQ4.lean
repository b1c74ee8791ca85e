/-
  The document's own scanner: a rune in UTF-8.
-/
import Derived.Test.YtinaeegijmkbhaaGreatDoorQ2
import Derived.Laws.BytesArg
import Derived.RangeFuncRecord
set_option linter.unusedVariables false
namespace Go.Proofs.YtinaeegijmkbhaaGreatDoor
open Go.RowKit Go.Shelf

theorem cell_new (w : World) (cs : Array Value) (t i : Nat) : (w.alloc (.cells cs t)).cell? ⟨w.heap.size, i, none⟩ = cs[i]? := by
  unfold World.cell?
  dsimp only
  rw [World.alloc_heap_new]
  rfl
theorem conv_new (w : World) (cs : Array Value) (n : Nat) (xs : List Int) (hl : xs.length = n) (h : ∀ i, i < n → cs[i]? = some (.int .u8 (xs.getD i 0))) :
    Sem.run Tryz.prog (convert 72 9 (.slice (some ⟨w.heap.size, 0, none⟩) n n)) (w.alloc (.cells cs 5)) = .ok (.string (mkB (xs.map oct8))) (w.alloc (.cells cs 5)) := by
  refine (run_convert_bytes_arg (w.alloc (.cells cs 5)) 72 5 Tryz.underlying72 Tryz.underlying5 w.heap.size 0 n n xs hl (fun i hi => ?_) 9 Tryz.underlying9).trans ?_
  · rw [Nat.zero_add, cell_new]; exact h i hi
  · rfl

set_option maxRecDepth 100000 in
set_option maxHeartbeats 1600000 in
theorem rutf_any (r : Int) (hr : -1 ≤ r) (hr' : r < 16 ^ 8) (w : World) :
    Calls Tryz.prog 44 #[.int .i64 r] w fun e w' => e = .returned (.string (mkB (utfL r))) ∧ Below w.heap.size w w' := by
  by_cases h1 : r < 0 ∨ 1114111 < r ∨ (55296 ≤ r ∧ r < 57344)
  · have HH := Lib.hid (show utfL r = [] by unfold utfL; rw [if_pos h1])
    have h1' : r < 0 ∨ 1114111 < r ∨ (¬ r < 0 ∧ ¬ 1114111 < r ∧ 55296 ≤ r ∧ r < 57344) := by omega
    rcases h1' with h | h | ⟨h2, h3, h4, h5⟩
    all_goals
      go_enter Tryz.func44, Tryz.ntmps44
      go_wp2
      all_goals first | omega | skip
      all_goals
        go_ret
        exact ⟨by rw [HH.out]; rfl, Below.refl _ _⟩
  · by_cases c1 : r < 128
    · have HH := Lib.hid (show utfL r = [oct8 r] by unfold utfL; rw [if_neg h1, if_pos c1])
      have a0 : ¬ r < 0 := by omega
      have a1 : ¬ 1114111 < r := by omega
      have a2 : ¬ 55296 ≤ r := by omega
      clear h1
      go_enter Tryz.func44, Tryz.ntmps44
      go_wp2
      rw [conv_new w _ 1 [r] rfl (fun i hi => by obtain rfl : i = 0 := by omega
                                                 rfl)]
      go_wp2
      go_ret
      exact ⟨by rw [HH.out]; rfl, (Below.refl _ _).alloc (Nat.le_refl _) _⟩
    · by_cases c2 : r < 2048
      · have HH := Lib.hid (show utfL r = [oct8 (192 + r / 64), oct8 (128 + r % 64)] by unfold utfL; rw [if_neg h1, if_neg c1, if_pos c2])
        have a0 : ¬ r < 0 := by omega
        have a1 : ¬ 1114111 < r := by omega
        have a2 : ¬ 55296 ≤ r := by omega
        clear h1
        go_enter Tryz.func44, Tryz.ntmps44
        go_wp2
        rw [conv_new w _ 2 [192 + r / 64, 128 + r % 64] rfl (fun i hi => by rcases (show i = 0 ∨ i = 1 by omega) with rfl | rfl <;> rfl)]
        go_wp2
        go_ret
        exact ⟨by rw [HH.out]; rfl, (Below.refl _ _).alloc (Nat.le_refl _) _⟩
      · by_cases c3 : r < 65536
        · have HH := Lib.hid (show utfL r = [oct8 (224 + r / 4096), oct8 (128 + r / 64 % 64), oct8 (128 + r % 64)] by unfold utfL; rw [if_neg h1, if_neg c1, if_neg c2, if_pos c3])
          have a0 : ¬ r < 0 := by omega
          have a1 : ¬ 1114111 < r := by omega
          have a2 : ¬ 55296 ≤ r ∨ (55296 ≤ r ∧ ¬ r < 57344) := by omega
          clear h1
          rcases a2 with a2 | ⟨a2, a3⟩
          all_goals
            go_enter Tryz.func44, Tryz.ntmps44
            go_wp2
            rw [conv_new w _ 3 [224 + r / 4096, 128 + r / 64 % 64, 128 + r % 64] rfl (fun i hi => by rcases (show i = 0 ∨ i = 1 ∨ i = 2 by omega) with rfl | rfl | rfl <;> rfl)]
            go_wp2
            go_ret
            exact ⟨by rw [HH.out]; rfl, (Below.refl _ _).alloc (Nat.le_refl _) _⟩
        · have HH := Lib.hid (show utfL r = [oct8 (240 + r / 262144), oct8 (128 + r / 4096 % 64), oct8 (128 + r / 64 % 64), oct8 (128 + r % 64)] by unfold utfL; rw [if_neg h1, if_neg c1, if_neg c2, if_neg c3])
          have a0 : ¬ r < 0 := by omega
          have a1 : ¬ 1114111 < r := by omega
          have a2 : 55296 ≤ r := by omega
          have a3 : ¬ r < 57344 := by omega
          clear h1
          go_enter Tryz.func44, Tryz.ntmps44
          go_wp2
          rw [conv_new w _ 4 [240 + r / 262144, 128 + r / 4096 % 64, 128 + r / 64 % 64, 128 + r % 64] rfl (fun i hi => by rcases (show i = 0 ∨ i = 1 ∨ i = 2 ∨ i = 3 by omega) with rfl | rfl | rfl | rfl <;> rfl)]
          go_wp2
          go_ret
          exact ⟨by rw [HH.out]; rfl, (Below.refl _ _).alloc (Nat.le_refl _) _⟩
end Go.Proofs.YtinaeegijmkbhaaGreatDoor
