/-
  For every text s the Go function graftbedlaw01.PathsTells returns true: its elements, and whether it may be a path, a module's, an import's, are told as the document's own functions tell them (P1.1, P1.4). No condition.
-/
import Derived.Test.YtblahlljdmlodaaRows
import Derived.Test.YtblahlljdmlodaaW10
import Derived.WalkKit
import Derived.ProofKit
import Derived.OpenShut
import Derived.ShutString
import Derived.ChangeOld
import Derived.Below
namespace Go.Proofs.Ytblahlljdmlodaa.pathsTells
open Go.ChangeShapes Go.WideShapes Go.ChangeAt Go.RowKit
open Go.ChangeMaps (open_string shut_string)
set_option linter.unusedVariables false

theorem own : ownKnob Try.prog.godebug = none := by kernel_rfl

theorem valid_a_any (w : World) : Calls Try.prog 15 #[.string ⟨#[97]⟩] w fun e w' => e = .returned (.bool true) ∧ Below w.heap.size w w' := by
  have := valid_any ⟨#[97]⟩ (by decide) w
  rwa [valid_a] at this
theorem same_self (xs : List ByteArray) : sameB xs xs = true := by simp [sameB]
theorem same_yes (xs : List ByteArray) (v u : Value) (w : World) (hv : Row w v xs) (hu : Row w u xs) (hx : xs.length ≤ 4300) :
    Calls Try.prog 12 #[v, u] w fun e w' => e = .returned (.bool true) ∧ ∃ n, w' = w.drewN n := by
  have := same_any xs xs v u w hv hu hx
  rwa [same_self] at this
set_option maxRecDepth 100000 in
set_option maxHeartbeats 1000000 in
theorem walk (a0 : ByteArray) (w0 : a0.size ≤ maxLen) (w : World) :
    Calls Try.prog 3 #[.string a0] w fun e w' => e = .returned (.bool true) ∧ Below w.heap.size w w' := by
  have hB : Below w.heap.size w w := Below.refl _ _
  by_cases h0 : a0.size ≤ 2048
  · have hcount := elemsB_count a0
    have hs : a0.size ≤ 4200 := by omega
    go_enter Try.func3, Try.ntmps3
    go_wp2_with fail
    refine (elems_any a0 hs _).mono ?_
    rintro _ w1 ⟨v, rfl, hrow, hb1⟩
    replace hB := hB.trans (hb1.mono hB.size)
    clear hb1
    go_wp2_with fail
    refine (relems_any a0 hs _).mono ?_
    rintro _ w2 ⟨u, rfl, hrow2, hb2⟩
    replace hrow := hrow.below hb2
    replace hB := hB.trans (hb2.mono hB.size)
    clear hb2
    go_wp2_with fail
    refine (same_yes _ _ _ _ hrow hrow2 (by omega)).mono ?_
    rintro _ w3 ⟨rfl, n3, rfl⟩
    replace hB := below_drewN hB n3
    clear hrow hrow2
    go_wp2_with fail
    refine (valid_any a0 hs _).mono ?_
    rintro _ w4 ⟨rfl, hb4⟩
    replace hB := hB.trans (hb4.mono hB.size)
    clear hb4
    go_wp2_with fail
    refine (rvalid_any a0 hs _).mono ?_
    rintro _ w5 ⟨rfl, hb4⟩
    replace hB := hB.trans (hb4.mono hB.size)
    clear hb4
    go_wp2_with fail
    refine (module_any a0 hs _).mono ?_
    rintro _ w6 ⟨rfl, hb4⟩
    replace hB := hB.trans (hb4.mono hB.size)
    clear hb4
    go_wp2_with fail
    refine (rmodule_any a0 hs _).mono ?_
    rintro _ w7 ⟨rfl, hb4⟩
    replace hB := hB.trans (hb4.mono hB.size)
    clear hb4
    go_wp2_with fail
    refine (import_any a0 hs _).mono ?_
    rintro _ w8 ⟨rfl, hb4⟩
    replace hB := hB.trans (hb4.mono hB.size)
    clear hb4
    go_wp2_with fail
    refine (rimport_any a0 hs _).mono ?_
    rintro _ w9 ⟨rfl, hb4⟩
    replace hB := hB.trans (hb4.mono hB.size)
    clear hb4
    go_wp2_with fail
    refine (valid_a_any _).mono ?_
    rintro _ w10 ⟨rfl, hb4⟩
    replace hB := hB.trans (hb4.mono hB.size)
    clear hb4
    go_wp2
    go_ret
    exact ⟨rfl, hB⟩
  · go_enter Try.func3, Try.ntmps3
    go_wp2
    go_ret
    exact ⟨rfl, hB⟩

set_option maxRecDepth 100000 in
theorem lifted (os : Os) (started : os.Started) (H : Type) (enc : TypeId × Value → H) :
    ReturnsInHanded {} Try.checked os 3 .any (Rows.pathsTellsSpec.pre6 enc Try.prog Try.f3 Rows.pathsTellsRow.domain false) (Rows.pathsTellsSpec.post enc Try.prog Try.f3 false true false false) := by
  refine returnsInHanded_of_change (C := Try.checked) own started (by kernel_rfl) Try.func3
    (ChangeSpec.witness6 (enc := enc) (C := Try.checked) false ⟨#[], #[.string ByteArray.empty], []⟩ 8 (by kernel_rfl) (by kernel_rfl) (by kernel_rfl) (by kernel_rfl)) ?_
  intro W base args ds gs before hval0 hW hcnd _
  have hval : ∀ (j : Nat) t v, Try.f3.params[j]? = some t → args[j]? = some v → Value.okWide Try.prog W .any base t v := hval0
  have hW' := hW
  obtain ⟨p, q, hA0, hV, rfl, hfz, hnd⟩ := hW
  have hA : DataW.TrodAll enc Try.prog W 0 (fun _ => true) true Try.f3.params.toList args.toList ds p := hA0
  rw [Try.params3] at hA hval
  obtain ⟨v0, vs0, d0, ds0, p0, q0, hargs, rfl, rfl, h0, r0⟩ := trodAll_cons hA
  obtain ⟨rfl, rfl, rfl⟩ := trodAll_nil r0
  obtain rfl : args = #[v0] := by cases args; simp_all
  obtain ⟨rfl, rfl⟩ := trodVars_none hV
  obtain ⟨a0, rfl, rfl, rfl, w0⟩ := open_string Try.underlying9 (hval 0 9 v0 rfl rfl) h0
  clear hA0 hval0
  simp only [List.append_nil] at hW'
  refine (walk a0 w0 W).mono fun e W' ⟨he, bel⟩ => ?_
  subst he
  exact ⟨_, rfl, _, _, _, [], [], [], hW', trodAll_mk1 (shut_bool Try.underlying4 _), (trodAll_cons_mk (shut_string Try.underlying9 w0) trodAll_mk0), rfl, bel.frame _, fun h => by cases h⟩

theorem over : Rows.pathsTellsRow.holds Try.pinned (OpenSpec.ofChange Rows.pathsTellsSpec) :=
  OpenClaim.holds_of_wide 3 Try.f3 rfl rfl rfl rfl rfl rfl rfl ⟨rfl, rfl, rfl, rfl, rfl⟩ rfl rfl rfl rfl rfl (by kernel_rfl) Try.func3 (by kernel_rfl)
    (of_decide_eq_true (by kernel_rfl)) (by unfold Func.isWrapper; first | (rw [if_pos (by decide +kernel)]; kernel_rfl) | (rw [if_neg (by decide +kernel)]; exact ⟨rfl, rfl⟩))
    (fun os started H enc _ => lifted os started H enc)

theorem proved : Rows.PathsTellsSaid :=
  over
#print axioms proved
end Go.Proofs.Ytblahlljdmlodaa.pathsTells
