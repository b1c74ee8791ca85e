/-
  For every text s the Go function graftbedlaw01.PathsKinds returns true: a module's path that may be, and an import's, is a path, and none of these has an odd element (P1.4). No condition.
-/
import Derived.Test.YtblahlljdmlodaaRows
import Derived.Test.YtblahlljdmlodaaW10
import Derived.WalkKit
import Derived.ProofKit
import Derived.OpenShut
import Derived.ShutString
import Derived.ChangeOld
import Derived.Below
namespace Go.Proofs.Ytblahlljdmlodaa.pathsKinds
open Go.ChangeShapes Go.WideShapes Go.ChangeAt Go.RowKit
open Go.ChangeMaps (open_string shut_string)
set_option linter.unusedVariables false

theorem own : ownKnob Try.prog.godebug = none := by kernel_rfl

theorem mod1 : moduleN ⟨#[97, 46, 98, 47, 99]⟩ = 0 := by decide +kernel
theorem imp1 : checkN ⟨#[65]⟩ iElem = 0 := by decide +kernel
theorem mod2 : moduleN ⟨#[97]⟩ = 10 := by decide +kernel
theorem mN {s : ByteArray} {n : Int} (h : moduleN s = n) (hs : s.size ≤ 4200) (w : World) : Calls Try.prog 17 #[.string s] w fun e w' => e = .returned (.int .i64 n) ∧ Below w.heap.size w w' := by
  rw [← h]; exact module_any s hs w
theorem iN {s : ByteArray} {n : Int} (h : checkN s iElem = n) (hs : s.size ≤ 4200) (w : World) : Calls Try.prog 19 #[.string s] w fun e w' => e = .returned (.int .i64 n) ∧ Below w.heap.size w w' := by
  rw [← h]; exact import_any s hs w
theorem riN {s : ByteArray} {n : Int} (h : checkN s iElem = n) (hs : s.size ≤ 4200) (w : World) : Calls Try.prog 20 #[.string s] w fun e w' => e = .returned (.int .i64 n) ∧ Below w.heap.size w w' := by
  rw [← h]; exact rimport_any s hs w
theorem vN {s : ByteArray} {b : Bool} (h : validB s = b) (hs : s.size ≤ 4200) (w : World) : Calls Try.prog 15 #[.string s] w fun e w' => e = .returned (.bool b) ∧ Below w.heap.size w w' := by
  rw [← h]; exact valid_any s hs w
theorem elem_ne {s : ByteArray} (h : validB s = true) {k : Nat} (hk : k < (elemsB s).length) : (elemsB s)[k].toList.isEmpty = false ∧ ((elemsB s)[k].toList == [46]) = false ∧ ((elemsB s)[k].toList == [46, 46]) = false := by
  have h1 := elem_size h hk
  simp only [validB, Bool.and_eq_true, everyB] at h
  have := List.all_eq_true.1 h.2 _ (List.getElem_mem hk)
  simp only [vElem, Bool.and_eq_true, decide_eq_true_eq, Bool.not_eq_true'] at this
  refine ⟨?_, this.1.1.2, this.1.2⟩
  cases hh : (elemsB s)[k].toList with
  | nil => have h2 := size_of_list hh; rw [List.length_nil] at h2; omega
  | cons c r => rfl
set_option maxRecDepth 100000 in
set_option maxHeartbeats 1000000 in
theorem walk (a0 : ByteArray) (w0 : a0.size ≤ maxLen) (w : World) :
    Calls Try.prog 9 #[.string a0] w fun e w' => e = .returned (.bool true) ∧ Below w.heap.size w w' := by
  have hB : Below w.heap.size w w := Below.refl _ _
  by_cases h0 : a0.size ≤ 2048
  · have hs : a0.size ≤ 4200 := by omega
    cases hv : validB a0
    · have HM := Lib.hid (moduleN_1 hv)
      have HI := Lib.hid (show checkN a0 iElem = 10 by simp [checkN, hv])
      have HV := Lib.hid hv
      clear hv
      go_enter Try.func9, Try.ntmps9
      go_wp2_with fail
      refine (mN HM.out hs _).mono ?_
      rintro _ w1 ⟨rfl, hb⟩
      replace hB := hB.trans (hb.mono hB.size)
      clear hb
      go_wp2_with fail
      refine (iN HI.out hs _).mono ?_
      rintro _ w1 ⟨rfl, hb⟩
      replace hB := hB.trans (hb.mono hB.size)
      clear hb
      go_wp2_with fail
      refine (vN HV.out hs _).mono ?_
      rintro _ w1 ⟨rfl, hb⟩
      replace hB := hB.trans (hb.mono hB.size)
      clear hb
      go_wp2_with fail
      refine (riN HI.out hs _).mono ?_
      rintro _ w1 ⟨rfl, hb⟩
      replace hB := hB.trans (hb.mono hB.size)
      clear hb
      go_wp2_with fail
      refine (mN mod1 (by decide) _).mono ?_
      rintro _ w1 ⟨rfl, hb⟩
      replace hB := hB.trans (hb.mono hB.size)
      clear hb
      go_wp2_with fail
      refine (iN imp1 (by decide) _).mono ?_
      rintro _ w1 ⟨rfl, hb⟩
      replace hB := hB.trans (hb.mono hB.size)
      clear hb
      go_wp2_with fail
      refine (mN mod2 (by decide) _).mono ?_
      rintro _ w1 ⟨rfl, hb⟩
      replace hB := hB.trans (hb.mono hB.size)
      clear hb
      go_wp2
      go_ret
      exact ⟨rfl, hB⟩
    · have HV := Lib.hid hv
      have hl0 := first_len (valid_ne hv)
      have hl0' : ((((elemsB a0).length : Nat) : Int) == 0) = false := by simp; intro e; rw [e] at hl0; simp at hl0
      have hcount := elemsB_count a0
      have HE := Lib.hid (fun k h => elem_ne hv (k := k) h)
      clear hv
      go_enter Try.func9, Try.ntmps9
      go_wp2_with fail
      refine (module_any a0 hs _).mono ?_
      rintro _ w1 ⟨rfl, hb⟩
      replace hB := hB.trans (hb.mono hB.size)
      clear hb
      go_wp2_with fail
      refine (import_any a0 hs _).mono ?_
      rintro _ w1 ⟨rfl, hb⟩
      replace hB := hB.trans (hb.mono hB.size)
      clear hb
      go_wp2_with fail
      refine (vN HV.out hs _).mono ?_
      rintro _ w1 ⟨rfl, hb⟩
      replace hB := hB.trans (hb.mono hB.size)
      clear hb
      go_upto_region 6 with fail
      go_cut [36] (fun s36 wx => s36 = .bool false ∧ Below w.heap.size w wx)
      case first =>
        cases hm : (moduleN a0 == 0) <;> cases hi : (checkN a0 iElem == 0)
        all_goals
          go_wp2_with (go_at_call 20; refine (rimport_any a0 hs _).mono ?_; rintro e w2 ⟨rfl, hb⟩; replace hB := hB.trans (hb.mono hB.size); clear hb)
          go_meet
          exact ⟨rfl, hB⟩
      case rest =>
        obtain ⟨rfl, hB⟩ := hcut
        go_wp2_with fail
        refine (elems_any a0 hs _).mono ?_
        rintro _ w2 ⟨v, rfl, ⟨a, cap, rfl, hc⟩, hb⟩
        replace hB := hB.trans (hb.mono hB.size)
        obtain ⟨g, rfl, hg, hcell⟩ := hc (by intro e; rw [e] at hl0; simp at hl0)
        have HC := Lib.hid hcell
        clear hb hc hcell
        go_wp2
        go_loop [7] (fun i => ∃ k : Nat, k ≤ (elemsB a0).length ∧ i = .int .i64 k) (fun i => (elemsB a0).length - (intOf i).toNat)
        case atStart => exact ⟨0, Nat.zero_le _, rfl⟩
        case round =>
          obtain ⟨k, hk, rfl⟩ := hrel
          by_cases hlt : k < (elemsB a0).length
          · have q1 := HC.out k hlt
            obtain ⟨t1, t2, t3⟩ := HE.out k hlt
            generalize (elemsB a0)[k] = x at *
            go_wp2
            go_round
            case rel => exact ⟨k + 1, by omega, by go_num⟩
            case measure => simp [intOf]; omega
          · go_wp2_with fail
            refine (mN mod1 (by decide) _).mono ?_
            rintro _ w3 ⟨rfl, hb⟩
            replace hB := hB.trans (hb.mono hB.size)
            clear hb
            go_wp2_with fail
            refine (iN imp1 (by decide) _).mono ?_
            rintro _ w4 ⟨rfl, hb⟩
            replace hB := hB.trans (hb.mono hB.size)
            clear hb
            go_wp2_with fail
            refine (mN mod2 (by decide) _).mono ?_
            rintro _ w5 ⟨rfl, hb⟩
            replace hB := hB.trans (hb.mono hB.size)
            clear hb
            go_wp2
            go_ret
            exact ⟨rfl, hB⟩
  · go_enter Try.func9, Try.ntmps9
    go_wp2
    go_ret
    exact ⟨rfl, hB⟩

set_option maxRecDepth 100000 in
theorem lifted (os : Os) (started : os.Started) (H : Type) (enc : TypeId × Value → H) :
    ReturnsInHanded {} Try.checked os 9 .any (Rows.pathsKindsSpec.pre6 enc Try.prog Try.f9 Rows.pathsKindsRow.domain false) (Rows.pathsKindsSpec.post enc Try.prog Try.f9 false true false false) := by
  refine returnsInHanded_of_change (C := Try.checked) own started (by kernel_rfl) Try.func9
    (ChangeSpec.witness6 (enc := enc) (C := Try.checked) false ⟨#[], #[.string ByteArray.empty], []⟩ 8 (by kernel_rfl) (by kernel_rfl) (by kernel_rfl) (by kernel_rfl)) ?_
  intro W base args ds gs before hval0 hW hcnd _
  have hval : ∀ (j : Nat) t v, Try.f9.params[j]? = some t → args[j]? = some v → Value.okWide Try.prog W .any base t v := hval0
  have hW' := hW
  obtain ⟨p, q, hA0, hV, rfl, hfz, hnd⟩ := hW
  have hA : DataW.TrodAll enc Try.prog W 0 (fun _ => true) true Try.f9.params.toList args.toList ds p := hA0
  rw [Try.params9] at hA hval
  obtain ⟨v0, vs0, d0, ds0, p0, q0, hargs, rfl, rfl, h0, r0⟩ := trodAll_cons hA
  obtain ⟨rfl, rfl, rfl⟩ := trodAll_nil r0
  obtain rfl : args = #[v0] := by cases args; simp_all
  obtain ⟨rfl, rfl⟩ := trodVars_none hV
  obtain ⟨a0, rfl, rfl, rfl, w0⟩ := open_string Try.underlying9 (hval 0 9 v0 rfl rfl) h0
  clear hA0 hval0
  simp only [List.append_nil] at hW'
  refine (walk a0 w0 W).mono fun e W' ⟨he, bel⟩ => ?_
  subst he
  exact ⟨_, rfl, _, _, _, [], [], [], hW', trodAll_mk1 (shut_bool Try.underlying4 _), (trodAll_cons_mk (shut_string Try.underlying9 w0) trodAll_mk0), rfl, bel.frame _, fun h => by cases h⟩

theorem over : Rows.pathsKindsRow.holds Try.pinned (OpenSpec.ofChange Rows.pathsKindsSpec) :=
  OpenClaim.holds_of_wide 9 Try.f9 rfl rfl rfl rfl rfl rfl rfl ⟨rfl, rfl, rfl, rfl, rfl⟩ rfl rfl rfl rfl rfl (by kernel_rfl) Try.func9 (by kernel_rfl)
    (of_decide_eq_true (by kernel_rfl)) (by unfold Func.isWrapper; first | (rw [if_pos (by decide +kernel)]; kernel_rfl) | (rw [if_neg (by decide +kernel)]; exact ⟨rfl, rfl⟩))
    (fun os started H enc _ => lifted os started H enc)

theorem proved : Rows.PathsKindsSaid :=
  over
#print axioms proved
end Go.Proofs.Ytblahlljdmlodaa.pathsKinds
