/-
  For every three texts a, b and c the Go function graftbedlaw01.PathsUnder returns true: what is within a directory that is within another one is within that; paths that may be, joined, are split again (P1.3). No condition.
-/
import Derived.Test.YtblahlljdmlodaaRows
import Derived.Test.YtblahlljdmlodaaM2
import Derived.WalkKit
import Derived.ProofKit
import Derived.OpenShut
import Derived.ShutString
import Derived.ChangeOld
import Derived.Below
namespace Go.Proofs.Ytblahlljdmlodaa.pathsUnder
open Go.ChangeShapes Go.WideShapes Go.ChangeAt Go.RowKit
open Go.ChangeMaps (open_string shut_string)
set_option linter.unusedVariables false

theorem own : ownKnob Try.prog.godebug = none := by kernel_rfl

theorem valid_a_any (w : World) : Calls Try.prog 15 #[.string ⟨#[97]⟩] w fun e w' => e = .returned (.bool true) ∧ Below w.heap.size w w' := by
  have := valid_any ⟨#[97]⟩ (by decide) w
  rwa [valid_a] at this
theorem eq_self' (l : List UInt8) : (l == l) = true := by simp
theorem app_size {a b : ByteArray} {n m : Nat} (ha : a.size ≤ n) (hb : b.size ≤ m) : (a ++ slashB ++ b).size ≤ n + 1 + m := by
  rw [size_app, size_app, slash_size]; omega
theorem jn {a b c : ByteArray} (h : joinB a b = c) (ha : a.size ≤ 4200) (hb : b.size ≤ 4200) (w : World) : Calls Try.prog 27 #[.string a, .string b] w fun e w' => e = .returned (.string c) ∧ w = w' := by
  rw [← h]; exact join_any a b w ha hb
theorem wn {s d t : ByteArray} {b : Bool} (h : withinB s d = (t, b)) (hd : d.size ≤ 4100) (w : World) : Calls Try.prog 25 #[.string s, .string d] w fun e w' => e = .returned (.tuple #[.string t, .bool b]) ∧ w = w' := by
  have := within_any s d w hd
  rwa [h] at this
set_option maxRecDepth 100000 in
set_option maxHeartbeats 1000000 in
theorem walk (a0 : ByteArray) (a1 : ByteArray) (a2 : ByteArray) (w0 : a0.size ≤ maxLen) (w1 : a1.size ≤ maxLen) (w2 : a2.size ≤ maxLen) (w : World) :
    Calls Try.prog 11 #[.string a0, .string a1, .string a2] w fun e w' => e = .returned (.bool true) ∧ Below w.heap.size w w' := by
  have hB : Below w.heap.size w w := Below.refl _ _
  by_cases h0 : a0.size ≤ 1024
  · by_cases h1 : a1.size ≤ 1024
    · by_cases h2 : a2.size ≤ 1024
      · cases v0 : validB a0
        · go_enter Try.func11, Try.ntmps11
          go_wp2_with (first
            | (go_at_call 15; refine (valid_a_any _).mono ?_; rintro e w2 ⟨rfl, hb2⟩; replace hB := hB.trans (hb2.mono hB.size); clear hb2)
            | (go_at_call 16; refine (rvalid_any _ (by omega) _).mono ?_; rintro e w2 ⟨rfl, hb2⟩; replace hB := hB.trans (hb2.mono hB.size); clear hb2))
          go_ret
          exact ⟨rfl, hB⟩
        · cases v1 : validB a1
          · go_enter Try.func11, Try.ntmps11
            go_wp2_with (first
              | (go_at_call 15; refine (valid_a_any _).mono ?_; rintro e w2 ⟨rfl, hb2⟩; replace hB := hB.trans (hb2.mono hB.size); clear hb2)
              | (go_at_call 16; refine (rvalid_any _ (by omega) _).mono ?_; rintro e w2 ⟨rfl, hb2⟩; replace hB := hB.trans (hb2.mono hB.size); clear hb2))
            go_ret
            exact ⟨rfl, hB⟩
          · cases v2 : validB a2
            · go_enter Try.func11, Try.ntmps11
              go_wp2_with (first
                | (go_at_call 15; refine (valid_a_any _).mono ?_; rintro e w2 ⟨rfl, hb2⟩; replace hB := hB.trans (hb2.mono hB.size); clear hb2)
                | (go_at_call 16; refine (rvalid_any _ (by omega) _).mono ?_; rintro e w2 ⟨rfl, hb2⟩; replace hB := hB.trans (hb2.mono hB.size); clear hb2))
              go_ret
              exact ⟨rfl, hB⟩
            · have HU := Lib.hid (under v0 v1 v2)
              have z1 : (a0 ++ slashB ++ a1).size ≤ 2049 := app_size h0 h1
              have z2 : (a0 ++ slashB ++ a1 ++ slashB ++ a2).size ≤ 3074 := app_size z1 h2
              go_enter Try.func11, Try.ntmps11
              go_wp2_with (first
                | (go_at_call 15; refine (valid_a_any _).mono ?_; rintro e w2 ⟨rfl, hb2⟩; replace hB := hB.trans (hb2.mono hB.size); clear hb2)
                | (go_at_call 16; refine (rvalid_any _ (by omega) _).mono ?_; rintro e w2 ⟨rfl, hb2⟩; replace hB := hB.trans (hb2.mono hB.size); clear hb2)
                | fail)
              refine (jn HU.out.ab (by omega) (by omega) _).mono ?_
              rintro _ w3 ⟨rfl, rfl⟩
              go_wp2_with fail
              refine (jn HU.out.abc (by omega) (by omega) _).mono ?_
              rintro _ w3 ⟨rfl, rfl⟩
              go_wp2_with fail
              refine (wn HU.out.x (by omega) _).mono ?_
              rintro _ w3 ⟨rfl, rfl⟩
              go_wp2_with fail
              refine (wn HU.out.y (by omega) _).mono ?_
              rintro _ w3 ⟨rfl, rfl⟩
              go_wp2_with fail
              refine (wn HU.out.z (by omega) _).mono ?_
              rintro _ w3 ⟨rfl, rfl⟩
              go_wp2_with fail
              refine (jn HU.out.bc (by omega) (by omega) _).mono ?_
              rintro _ w3 ⟨rfl, rfl⟩
              go_wp2
              go_ret
              exact ⟨rfl, hB⟩
      · go_enter Try.func11, Try.ntmps11
        go_wp2_with (go_at_call 15; refine (valid_a_any _).mono ?_; rintro e w2 ⟨rfl, hb2⟩)
        go_ret
        exact ⟨rfl, hb2⟩
    · go_enter Try.func11, Try.ntmps11
      go_wp2_with (go_at_call 15; refine (valid_a_any _).mono ?_; rintro e w2 ⟨rfl, hb2⟩)
      go_ret
      exact ⟨rfl, hb2⟩
  · go_enter Try.func11, Try.ntmps11
    go_wp2_with (go_at_call 15; refine (valid_a_any _).mono ?_; rintro e w2 ⟨rfl, hb2⟩)
    go_ret
    exact ⟨rfl, hb2⟩

set_option maxRecDepth 100000 in
theorem lifted (os : Os) (started : os.Started) (H : Type) (enc : TypeId × Value → H) :
    ReturnsInHanded {} Try.checked os 11 .any (Rows.pathsUnderSpec.pre6 enc Try.prog Try.f11 Rows.pathsUnderRow.domain false) (Rows.pathsUnderSpec.post enc Try.prog Try.f11 false true false false) := by
  refine returnsInHanded_of_change (C := Try.checked) own started (by kernel_rfl) Try.func11
    (ChangeSpec.witness6 (enc := enc) (C := Try.checked) false ⟨#[], #[.string ByteArray.empty, .string ByteArray.empty, .string ByteArray.empty], []⟩ 8 (by kernel_rfl) (by kernel_rfl) (by kernel_rfl) (by kernel_rfl)) ?_
  intro W base args ds gs before hval0 hW hcnd _
  have hval : ∀ (j : Nat) t v, Try.f11.params[j]? = some t → args[j]? = some v → Value.okWide Try.prog W .any base t v := hval0
  have hW' := hW
  obtain ⟨p, q, hA0, hV, rfl, hfz, hnd⟩ := hW
  have hA : DataW.TrodAll enc Try.prog W 0 (fun _ => true) true Try.f11.params.toList args.toList ds p := hA0
  rw [Try.params11] at hA hval
  obtain ⟨v0, vs0, d0, ds0, p0, q0, hargs, rfl, rfl, h0, r0⟩ := trodAll_cons hA
  obtain ⟨v1, vs1, d1, ds1, p1, q1, rfl, rfl, rfl, h1, r1⟩ := trodAll_cons r0
  obtain ⟨v2, vs2, d2, ds2, p2, q2, rfl, rfl, rfl, h2, r2⟩ := trodAll_cons r1
  obtain ⟨rfl, rfl, rfl⟩ := trodAll_nil r2
  obtain rfl : args = #[v0, v1, v2] := by cases args; simp_all
  obtain ⟨rfl, rfl⟩ := trodVars_none hV
  obtain ⟨a0, rfl, rfl, rfl, w0⟩ := open_string Try.underlying9 (hval 0 9 v0 rfl rfl) h0
  obtain ⟨a1, rfl, rfl, rfl, w1⟩ := open_string Try.underlying9 (hval 1 9 v1 rfl rfl) h1
  obtain ⟨a2, rfl, rfl, rfl, w2⟩ := open_string Try.underlying9 (hval 2 9 v2 rfl rfl) h2
  clear hA0 hval0
  simp only [List.append_nil] at hW'
  refine (walk a0 a1 a2 w0 w1 w2 W).mono fun e W' ⟨he, bel⟩ => ?_
  subst he
  exact ⟨_, rfl, _, _, _, [], [], [], hW', trodAll_mk1 (shut_bool Try.underlying4 _), (trodAll_cons_mk (shut_string Try.underlying9 w0) (trodAll_cons_mk (shut_string Try.underlying9 w1) (trodAll_cons_mk (shut_string Try.underlying9 w2) trodAll_mk0))), rfl, bel.frame _, fun h => by cases h⟩

theorem over : Rows.pathsUnderRow.holds Try.pinned (OpenSpec.ofChange Rows.pathsUnderSpec) :=
  OpenClaim.holds_of_wide 11 Try.f11 rfl rfl rfl rfl rfl rfl rfl ⟨rfl, rfl, rfl, rfl, rfl⟩ rfl rfl rfl rfl rfl (by kernel_rfl) Try.func11 (by kernel_rfl)
    (of_decide_eq_true (by kernel_rfl)) (by unfold Func.isWrapper; first | (rw [if_pos (by decide +kernel)]; kernel_rfl) | (rw [if_neg (by decide +kernel)]; exact ⟨rfl, rfl⟩))
    (fun os started H enc _ => lifted os started H enc)

theorem proved : Rows.PathsUnderSaid :=
  over
#print axioms proved
end Go.Proofs.Ytblahlljdmlodaa.pathsUnder
