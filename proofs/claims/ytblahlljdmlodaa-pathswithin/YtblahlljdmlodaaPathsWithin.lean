/-
  For every two texts s and dir the Go function graftbedlaw01.PathsWithin returns true: what is within a directory is, joined with it, what it was; a path's directory and its name are joined to it (P1.3, P1.6). No condition.
-/
import Derived.Test.YtblahlljdmlodaaRows
import Derived.Test.YtblahlljdmlodaaM2
import Derived.WalkKit
import Derived.ProofKit
import Derived.OpenShut
import Derived.ShutString
import Derived.ChangeOld
import Derived.Below
namespace Go.Proofs.Ytblahlljdmlodaa.pathsWithin
open Go.ChangeShapes Go.WideShapes Go.ChangeAt Go.RowKit
open Go.ChangeMaps (open_string shut_string)
set_option linter.unusedVariables false

theorem own : ownKnob Try.prog.godebug = none := by kernel_rfl

theorem valid_a_any (w : World) : Calls Try.prog 15 #[.string ⟨#[97]⟩] w fun e w' => e = .returned (.bool true) ∧ Below w.heap.size w w' := by
  have := valid_any ⟨#[97]⟩ (by decide) w
  rwa [valid_a] at this
theorem splitB_size (s : ByteArray) : (splitB s).1.size ≤ s.size ∧ (splitB s).2.size ≤ s.size := by
  unfold splitB
  split
  · exact ⟨Nat.zero_le _, Nat.le_refl _⟩
  · exact ⟨Nat.le_trans (extract_size_le _ _ _) (by omega), Nat.le_trans (extract_size_le _ _ _) (by omega)⟩
theorem withinB_size (s d : ByteArray) : (withinB s d).1.size ≤ s.size := by
  unfold withinB
  split
  · exact Nat.le_refl _
  · split
    · exact Nat.zero_le _
    · split
      · exact Nat.le_trans (extract_size_le _ _ _) (by omega)
      · exact Nat.zero_le _
theorem empty_toList : (⟨#[]⟩ : ByteArray).toList = [] := by rw [Lib.toList_data]
theorem ne_self (l : List UInt8) : (l != l) = false := by simp
theorem eq_self' (l : List UInt8) : (l == l) = true := by simp
set_option maxRecDepth 100000 in
set_option maxHeartbeats 1000000 in
theorem walk (a0 : ByteArray) (a1 : ByteArray) (w0 : a0.size ≤ maxLen) (w1 : a1.size ≤ maxLen) (w : World) :
    Calls Try.prog 6 #[.string a0, .string a1] w fun e w' => e = .returned (.bool true) ∧ Below w.heap.size w w' := by
  have hB : Below w.heap.size w w := Below.refl _ _
  by_cases h0 : a0.size ≤ 2048
  · by_cases h1 : a1.size ≤ 2048
    · have z1 := splitB_size a0
      have z2 := withinB_size a0 a1
      cases hv : validB a0
      · cases hw : (withinB a0 a1).2
        · have HW := Lib.hid (within_no hw)
          go_enter Try.func6, Try.ntmps6
          go_wp2_with (first
            | (go_at_call 15; refine (valid_a_any _).mono ?_; rintro e w2 ⟨rfl, hb2⟩; replace hB := hB.trans (hb2.mono hB.size); clear hb2)
            | (go_at_call 23; refine (split_any _ _ (by omega)).mono ?_; rintro e w2 ⟨rfl, n2, rfl⟩; replace hB := below_drewN hB n2)
            | (go_at_call 16; refine (rvalid_any _ (by omega) _).mono ?_; rintro e w2 ⟨rfl, hb2⟩; replace hB := hB.trans (hb2.mono hB.size); clear hb2)
            | (go_at_call 25; refine (within_any _ _ _ (by omega)).mono ?_; rintro e w2 ⟨rfl, rfl⟩))
          go_ret
          exact ⟨ret_bool (by rw [HW.out, empty_toList]; rfl), hB⟩
        · go_enter Try.func6, Try.ntmps6
          go_wp2_with (first
            | (go_at_call 15; refine (valid_a_any _).mono ?_; rintro e w2 ⟨rfl, hb2⟩; replace hB := hB.trans (hb2.mono hB.size); clear hb2)
            | (go_at_call 23; refine (split_any _ _ (by omega)).mono ?_; rintro e w2 ⟨rfl, n2, rfl⟩; replace hB := below_drewN hB n2)
            | (go_at_call 16; refine (rvalid_any _ (by omega) _).mono ?_; rintro e w2 ⟨rfl, hb2⟩; replace hB := hB.trans (hb2.mono hB.size); clear hb2)
            | (go_at_call 25; refine (within_any _ _ _ (by omega)).mono ?_; rintro e w2 ⟨rfl, rfl⟩))
          go_ret
          exact ⟨rfl, hB⟩
      · have HS := Lib.hid (split_join hv)
        have hne : ((joinB (splitB a0).1 (splitB a0).2).toList == a0.toList) = true := by rw [HS.out]; exact eq_self' _
        cases hw : (withinB a0 a1).2
        · have HW := Lib.hid (within_no hw)
          go_enter Try.func6, Try.ntmps6
          go_wp2_with (first
            | (go_at_call 15; refine (valid_a_any _).mono ?_; rintro e w2 ⟨rfl, hb2⟩; replace hB := hB.trans (hb2.mono hB.size); clear hb2)
            | (go_at_call 23; refine (split_any _ _ (by omega)).mono ?_; rintro e w2 ⟨rfl, n2, rfl⟩; replace hB := below_drewN hB n2)
            | (go_at_call 16; refine (rvalid_any _ (by omega) _).mono ?_; rintro e w2 ⟨rfl, hb2⟩; replace hB := hB.trans (hb2.mono hB.size); clear hb2)
            | (go_at_call 27; refine (join_any _ _ _ (by omega) (by omega)).mono ?_; rintro e w2 ⟨rfl, rfl⟩)
            | (go_at_call 25; refine (within_any _ _ _ (by omega)).mono ?_; rintro e w2 ⟨rfl, rfl⟩))
          go_ret
          exact ⟨ret_bool (by rw [HW.out, empty_toList]; rfl), hB⟩
        · cases hd : validB a1
          · go_enter Try.func6, Try.ntmps6
            go_wp2_with (first
              | (go_at_call 15; refine (valid_a_any _).mono ?_; rintro e w2 ⟨rfl, hb2⟩; replace hB := hB.trans (hb2.mono hB.size); clear hb2)
              | (go_at_call 23; refine (split_any _ _ (by omega)).mono ?_; rintro e w2 ⟨rfl, n2, rfl⟩; replace hB := below_drewN hB n2)
              | (go_at_call 16; refine (rvalid_any _ (by omega) _).mono ?_; rintro e w2 ⟨rfl, hb2⟩; replace hB := hB.trans (hb2.mono hB.size); clear hb2)
              | (go_at_call 27; refine (join_any _ _ _ (by omega) (by omega)).mono ?_; rintro e w2 ⟨rfl, rfl⟩)
              | (go_at_call 25; refine (within_any _ _ _ (by omega)).mono ?_; rintro e w2 ⟨rfl, rfl⟩))
            go_ret
            exact ⟨rfl, hB⟩
          · have HJ := Lib.hid (within_join hv hd hw)
            go_enter Try.func6, Try.ntmps6
            go_wp2_with (first
              | (go_at_call 15; refine (valid_a_any _).mono ?_; rintro e w2 ⟨rfl, hb2⟩; replace hB := hB.trans (hb2.mono hB.size); clear hb2)
              | (go_at_call 23; refine (split_any _ _ (by omega)).mono ?_; rintro e w2 ⟨rfl, n2, rfl⟩; replace hB := below_drewN hB n2)
              | (go_at_call 16; refine (rvalid_any _ (by omega) _).mono ?_; rintro e w2 ⟨rfl, hb2⟩; replace hB := hB.trans (hb2.mono hB.size); clear hb2)
              | (go_at_call 27; refine (join_any _ _ _ (by omega) (by omega)).mono ?_; rintro e w2 ⟨rfl, rfl⟩)
              | (go_at_call 25; refine (within_any _ _ _ (by omega)).mono ?_; rintro e w2 ⟨rfl, rfl⟩))
            go_ret
            exact ⟨ret_bool (by rw [HJ.out]; exact eq_self' _), hB⟩
    · go_enter Try.func6, Try.ntmps6
      go_wp2_with (go_at_call 15; refine (valid_a_any _).mono ?_; rintro e w2 ⟨rfl, hb2⟩)
      go_ret
      exact ⟨rfl, hb2⟩
  · go_enter Try.func6, Try.ntmps6
    go_wp2_with (go_at_call 15; refine (valid_a_any _).mono ?_; rintro e w2 ⟨rfl, hb2⟩)
    go_ret
    exact ⟨rfl, hb2⟩

set_option maxRecDepth 100000 in
theorem lifted (os : Os) (started : os.Started) (H : Type) (enc : TypeId × Value → H) :
    ReturnsInHanded {} Try.checked os 6 .any (Rows.pathsWithinSpec.pre6 enc Try.prog Try.f6 Rows.pathsWithinRow.domain false) (Rows.pathsWithinSpec.post enc Try.prog Try.f6 false true false false) := by
  refine returnsInHanded_of_change (C := Try.checked) own started (by kernel_rfl) Try.func6
    (ChangeSpec.witness6 (enc := enc) (C := Try.checked) false ⟨#[], #[.string ByteArray.empty, .string ByteArray.empty], []⟩ 8 (by kernel_rfl) (by kernel_rfl) (by kernel_rfl) (by kernel_rfl)) ?_
  intro W base args ds gs before hval0 hW hcnd _
  have hval : ∀ (j : Nat) t v, Try.f6.params[j]? = some t → args[j]? = some v → Value.okWide Try.prog W .any base t v := hval0
  have hW' := hW
  obtain ⟨p, q, hA0, hV, rfl, hfz, hnd⟩ := hW
  have hA : DataW.TrodAll enc Try.prog W 0 (fun _ => true) true Try.f6.params.toList args.toList ds p := hA0
  rw [Try.params6] at hA hval
  obtain ⟨v0, vs0, d0, ds0, p0, q0, hargs, rfl, rfl, h0, r0⟩ := trodAll_cons hA
  obtain ⟨v1, vs1, d1, ds1, p1, q1, rfl, rfl, rfl, h1, r1⟩ := trodAll_cons r0
  obtain ⟨rfl, rfl, rfl⟩ := trodAll_nil r1
  obtain rfl : args = #[v0, v1] := by cases args; simp_all
  obtain ⟨rfl, rfl⟩ := trodVars_none hV
  obtain ⟨a0, rfl, rfl, rfl, w0⟩ := open_string Try.underlying9 (hval 0 9 v0 rfl rfl) h0
  obtain ⟨a1, rfl, rfl, rfl, w1⟩ := open_string Try.underlying9 (hval 1 9 v1 rfl rfl) h1
  clear hA0 hval0
  simp only [List.append_nil] at hW'
  refine (walk a0 a1 w0 w1 W).mono fun e W' ⟨he, bel⟩ => ?_
  subst he
  exact ⟨_, rfl, _, _, _, [], [], [], hW', trodAll_mk1 (shut_bool Try.underlying4 _), (trodAll_cons_mk (shut_string Try.underlying9 w0) (trodAll_cons_mk (shut_string Try.underlying9 w1) trodAll_mk0)), rfl, bel.frame _, fun h => by cases h⟩

theorem over : Rows.pathsWithinRow.holds Try.pinned (OpenSpec.ofChange Rows.pathsWithinSpec) :=
  OpenClaim.holds_of_wide 6 Try.f6 rfl rfl rfl rfl rfl rfl rfl ⟨rfl, rfl, rfl, rfl, rfl⟩ rfl rfl rfl rfl rfl (by kernel_rfl) Try.func6 (by kernel_rfl)
    (of_decide_eq_true (by kernel_rfl)) (by unfold Func.isWrapper; first | (rw [if_pos (by decide +kernel)]; kernel_rfl) | (rw [if_neg (by decide +kernel)]; exact ⟨rfl, rfl⟩))
    (fun os started H enc _ => lifted os started H enc)

theorem proved : Rows.PathsWithinSaid :=
  over
#print axioms proved
end Go.Proofs.Ytblahlljdmlodaa.pathsWithin
