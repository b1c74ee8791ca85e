/-
  For every text s the Go function graftbedlaw01.PathsCleans returns true: s is cleaned as the document's own function cleans it, what is clean stays, a path that may be is clean, and what is clean is not empty (P1.2, P1.6). No condition.
-/
import Derived.Test.YtblahlljdmlodaaRows
import Derived.Test.YtblahlljdmlodaaW13
import Derived.WalkKit
import Derived.ProofKit
import Derived.OpenShut
import Derived.ShutString
import Derived.ChangeOld
import Derived.Below
namespace Go.Proofs.Ytblahlljdmlodaa.pathsCleans
open Go.ChangeShapes Go.WideShapes Go.ChangeAt Go.RowKit
open Go.ChangeMaps (open_string shut_string)
set_option linter.unusedVariables false

theorem own : ownKnob Try.prog.godebug = none := by kernel_rfl

theorem vN {s : ByteArray} {b : Bool} (h : validB s = b) (hs : s.size ≤ 4200) (w : World) : Calls Try.prog 15 #[.string s] w fun e w' => e = .returned (.bool b) ∧ Below w.heap.size w w' := by
  rw [← h]; exact valid_any s hs w
theorem cN {s c : ByteArray} (h : cleanB s = c) (hs : s.size ≤ 4200) (w : World) : Calls Try.prog 21 #[.string s] w fun e w' => e = .returned (.string c) ∧ Below w.heap.size w w' := by
  rw [← h]; exact clean_any s hs w
theorem rcN {s c : ByteArray} (h : cleanB s = c) (hs : s.size ≤ 4200) (w : World) : Calls Try.prog 22 #[.string s] w fun e w' => e = .returned (.string c) ∧ Below w.heap.size w w' := by
  rw [← h]; exact rclean_any s hs w
def mass : List ByteArray → Nat
  | [] => 0
  | x :: t => x.size + 1 + mass t
theorem mass_app (y : List ByteArray) : ∀ x, mass (x ++ y) = mass x + mass y
  | [] => by simp [mass]
  | a :: x => by rw [List.cons_append, mass, mass, mass_app y x]; omega
theorem mass_drop (L : List ByteArray) : mass L.dropLast ≤ mass L := by
  rcases List.eq_nil_or_concat L with rfl | ⟨L', y, rfl⟩
  · simp [mass]
  · rw [List.concat_eq_append, List.dropLast_concat, mass_app]; omega
theorem mass_step (r : Bool) (L : List ByteArray) (x : ByteArray) : mass (stepL r L x) ≤ mass L + (x.size + 1) := by
  have ha : mass (L ++ [x]) = mass L + (x.size + 1) := by rw [mass_app]; simp [mass]
  unfold stepL
  split
  · omega
  · split
    · omega
    · split
      · have := mass_drop L; omega
      · split <;> omega
theorem mass_fold (r : Bool) : ∀ (xs L : List ByteArray), mass (foldC r L xs) ≤ mass L + mass xs
  | [], L => by simp [foldC, mass]
  | x :: xs, L => by
    have h1 := mass_fold r xs (stepL r L x)
    have h2 := mass_step r L x
    have e : foldC r L (x :: xs) = foldC r (stepL r L x) xs := rfl
    rw [e, mass]; omega
theorem mass_join : ∀ X : List ByteArray, X ≠ [] → (joinL (X.map fun x => x.data.toList)).length + 1 = mass X
  | [], h => absurd rfl h
  | [x], _ => by simp [joinL, mass]
  | x :: y :: t, _ => by
    have ih := mass_join (y :: t) (by simp)
    rw [List.map_cons, joinL_cons _ (by simp), List.length_append, List.length_cons, mass, size_data]
    omega
theorem mass_elems (s : ByteArray) : mass (elemsB s) ≤ s.size + 1 := by
  by_cases h : elemsB s = []
  · rw [h]; simp [mass]
  · have := mass_join (elemsB s) h
    have e : (elemsB s).map (fun x => x.data.toList) = els s.data.toList := by simp [elemsB, Function.comp_def, data_mkB]
    rw [e, joinL_els, size_data] at this
    omega
theorem clean_size (s : ByteArray) : (cleanB s).size ≤ s.size + 2 := by
  unfold cleanB
  split
  · show 1 ≤ s.size + 2; omega
  · have h1 := mass_fold (rootB s) (elemsB s) []
    have h2 := mass_elems s
    have h3 : (headB (rootB s)).size ≤ 1 := by cases rootB s <;> decide
    rw [bareB, size_app]
    by_cases h : foldC (rootB s) [] (elemsB s) = []
    · rw [h]
      have : (joinBs []).size = 0 := rfl
      omega
    · have := mass_join _ h
      rw [← size_data (joinBs _), joinBs_data]
      simp only [mass] at h1
      omega
theorem eq_self' (l : List UInt8) : (l == l) = true := by simp
set_option maxRecDepth 100000 in
set_option maxHeartbeats 1000000 in
theorem walk (a0 : ByteArray) (w0 : a0.size ≤ maxLen) (w : World) :
    Calls Try.prog 4 #[.string a0] w fun e w' => e = .returned (.bool true) ∧ Below w.heap.size w w' := by
  have hB : Below w.heap.size w w := Below.refl _ _
  by_cases h0 : a0.size ≤ 2048
  · have hs : a0.size ≤ 4200 := by omega
    have hz := clean_size a0
    have hp := clean_ne a0
    have hg := clean_again a0
    obtain ⟨c, hc⟩ : ∃ c, cleanB a0 = c := ⟨_, rfl⟩
    rw [hc] at hz hp hg
    have HC := Lib.hid hc
    have HG := Lib.hid hg
    have hcs : c.size ≤ 4200 := by omega
    have hpi : (0 : Int) < c.size := by omega
    cases hv : validB a0
    · have HV := Lib.hid hv
      clear hc hg hv
      go_enter Try.func4, Try.ntmps4
      go_wp2_with fail
      refine (cN HC.out hs _).mono ?_
      rintro _ w1 ⟨rfl, hb⟩
      replace hB := hB.trans (hb.mono hB.size)
      clear hb
      go_wp2_with fail
      refine (rcN HC.out hs _).mono ?_
      rintro _ w1 ⟨rfl, hb⟩
      replace hB := hB.trans (hb.mono hB.size)
      clear hb
      go_wp2_with fail
      refine (cN HG.out hcs _).mono ?_
      rintro _ w1 ⟨rfl, hb⟩
      replace hB := hB.trans (hb.mono hB.size)
      clear hb
      go_wp2_with fail
      refine (vN HV.out hs _).mono ?_
      rintro _ w1 ⟨rfl, hb⟩
      replace hB := hB.trans (hb.mono hB.size)
      clear hb
      go_wp2
      go_ret
      exact ⟨rfl, hB⟩
    · have HV := Lib.hid hv
      obtain rfl : c = a0 := by rw [← hc]; exact valid_clean hv
      clear hc hg hv
      go_enter Try.func4, Try.ntmps4
      go_wp2_with fail
      refine (cN HC.out hs _).mono ?_
      rintro _ w1 ⟨rfl, hb⟩
      replace hB := hB.trans (hb.mono hB.size)
      clear hb
      go_wp2_with fail
      refine (rcN HC.out hs _).mono ?_
      rintro _ w1 ⟨rfl, hb⟩
      replace hB := hB.trans (hb.mono hB.size)
      clear hb
      go_wp2_with fail
      refine (cN HG.out hcs _).mono ?_
      rintro _ w1 ⟨rfl, hb⟩
      replace hB := hB.trans (hb.mono hB.size)
      clear hb
      go_wp2_with fail
      refine (vN HV.out hs _).mono ?_
      rintro _ w1 ⟨rfl, hb⟩
      replace hB := hB.trans (hb.mono hB.size)
      clear hb
      go_wp2
      go_ret
      exact ⟨rfl, hB⟩
  · go_enter Try.func4, Try.ntmps4
    go_wp2
    go_ret
    exact ⟨rfl, hB⟩

set_option maxRecDepth 100000 in
theorem lifted (os : Os) (started : os.Started) (H : Type) (enc : TypeId × Value → H) :
    ReturnsInHanded {} Try.checked os 4 .any (Rows.pathsCleansSpec.pre6 enc Try.prog Try.f4 Rows.pathsCleansRow.domain false) (Rows.pathsCleansSpec.post enc Try.prog Try.f4 false true false false) := by
  refine returnsInHanded_of_change (C := Try.checked) own started (by kernel_rfl) Try.func4
    (ChangeSpec.witness6 (enc := enc) (C := Try.checked) false ⟨#[], #[.string ByteArray.empty], []⟩ 8 (by kernel_rfl) (by kernel_rfl) (by kernel_rfl) (by kernel_rfl)) ?_
  intro W base args ds gs before hval0 hW hcnd _
  have hval : ∀ (j : Nat) t v, Try.f4.params[j]? = some t → args[j]? = some v → Value.okWide Try.prog W .any base t v := hval0
  have hW' := hW
  obtain ⟨p, q, hA0, hV, rfl, hfz, hnd⟩ := hW
  have hA : DataW.TrodAll enc Try.prog W 0 (fun _ => true) true Try.f4.params.toList args.toList ds p := hA0
  rw [Try.params4] at hA hval
  obtain ⟨v0, vs0, d0, ds0, p0, q0, hargs, rfl, rfl, h0, r0⟩ := trodAll_cons hA
  obtain ⟨rfl, rfl, rfl⟩ := trodAll_nil r0
  obtain rfl : args = #[v0] := by cases args; simp_all
  obtain ⟨rfl, rfl⟩ := trodVars_none hV
  obtain ⟨a0, rfl, rfl, rfl, w0⟩ := open_string Try.underlying9 (hval 0 9 v0 rfl rfl) h0
  clear hA0 hval0
  simp only [List.append_nil] at hW'
  refine (walk a0 w0 W).mono fun e W' ⟨he, bel⟩ => ?_
  subst he
  exact ⟨_, rfl, _, _, _, [], [], [], hW', trodAll_mk1 (shut_bool Try.underlying4 _), (trodAll_cons_mk (shut_string Try.underlying9 w0) trodAll_mk0), rfl, bel.frame _, fun h => by cases h⟩

theorem over : Rows.pathsCleansRow.holds Try.pinned (OpenSpec.ofChange Rows.pathsCleansSpec) :=
  OpenClaim.holds_of_wide 4 Try.f4 rfl rfl rfl rfl rfl rfl rfl ⟨rfl, rfl, rfl, rfl, rfl⟩ rfl rfl rfl rfl rfl (by kernel_rfl) Try.func4 (by kernel_rfl)
    (of_decide_eq_true (by kernel_rfl)) (by unfold Func.isWrapper; first | (rw [if_pos (by decide +kernel)]; kernel_rfl) | (rw [if_neg (by decide +kernel)]; exact ⟨rfl, rfl⟩))
    (fun os started H enc _ => lifted os started H enc)

theorem proved : Rows.PathsCleansSaid :=
  over
#print axioms proved
end Go.Proofs.Ytblahlljdmlodaa.pathsCleans
