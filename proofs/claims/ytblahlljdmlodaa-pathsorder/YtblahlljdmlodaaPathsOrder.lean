/-
  For every three texts a, b and c the Go function graftbedlaw01.PathsOrder returns true: paths.Compare is the document's order, one way round and the other, and of three it goes on (P1.5, P1.6). No condition.
-/
import Derived.Test.YtblahlljdmlodaaRows
import Derived.Test.YtblahlljdmlodaaW8
import Derived.WalkKit
import Derived.ProofKit
import Derived.OpenShut
import Derived.ShutString
import Derived.ChangeOld
import Derived.Below
namespace Go.Proofs.Ytblahlljdmlodaa.pathsOrder
open Go.ChangeShapes Go.WideShapes Go.ChangeAt Go.RowKit
open Go.ChangeMaps (open_string shut_string)
set_option linter.unusedVariables false

theorem own : ownKnob Try.prog.godebug = none := by kernel_rfl

theorem cN {a b : ByteArray} {n : Int} (h : compareN a b = n) (ha : a.size ≤ 4200) (hb : b.size ≤ 4200) (w : World) : Calls Try.prog 29 #[.string a, .string b] w fun e w' => e = .returned (.int .i64 n) ∧ Below w.heap.size w w' := by
  rw [← h]; exact compare_any a b ha hb w
theorem rN {a b : ByteArray} {n : Int} (h : compareN a b = n) (ha : a.size ≤ 4200) (hb : b.size ≤ 4200) (w : World) : Calls Try.prog 30 #[.string a, .string b] w fun e w' => e = .returned (.int .i64 n) ∧ Below w.heap.size w w' := by
  rw [← h]; exact rcompare_any a b ha hb w
theorem c_lit : compareN ⟨#[97]⟩ ⟨#[97, 47, 98]⟩ = -1 := by decide +kernel
theorem neg_of {a b : ByteArray} {n m : Int} (h : compareN a b = n) (hm : m = -n) : compareN b a = m := by
  rw [hm, ← h]; exact cmpE_neg _ _
theorem self_of (a : ByteArray) : compareN a a = 0 := cmpE_self _
set_option maxRecDepth 100000 in
set_option maxHeartbeats 1000000 in
theorem walk (a0 : ByteArray) (a1 : ByteArray) (a2 : ByteArray) (w0 : a0.size ≤ maxLen) (w1 : a1.size ≤ maxLen) (w2 : a2.size ≤ maxLen) (w : World) :
    Calls Try.prog 7 #[.string a0, .string a1, .string a2] w fun e w' => e = .returned (.bool true) ∧ Below w.heap.size w w' := by
  have hB : Below w.heap.size w w := Below.refl _ _
  by_cases h0 : a0.size ≤ 1024
  · by_cases h1 : a1.size ≤ 1024
    · by_cases h2 : a2.size ≤ 1024
      · have HT := Lib.hid (fun h k => cmpE_trans (elemsB a0) (elemsB a1) (elemsB a2) h k)
        rcases cmpE_range (elemsB a0) (elemsB a1) with hn | hn | hn
        · have HN := Lib.hid (show compareN a0 a1 = -1 from hn)
          clear hn
          have HA := Lib.hid (neg_of (m := 1) HN.out (by decide))
          by_cases hm : compareN a1 a2 ≤ 0
          · have hk : compareN a0 a2 ≤ 0 := HT.out (by have := HN.out; unfold compareN at this; omega) hm
            go_enter Try.func7, Try.ntmps7
            go_wp2_with fail
            refine (cN HN.out (by first | omega | decide) (by first | omega | decide) _).mono ?_
            rintro _ w2 ⟨rfl, hb2⟩
            replace hB := hB.trans (hb2.mono hB.size)
            clear hb2
            go_wp2_with fail
            refine (rN HN.out (by first | omega | decide) (by first | omega | decide) _).mono ?_
            rintro _ w2 ⟨rfl, hb2⟩
            replace hB := hB.trans (hb2.mono hB.size)
            clear hb2
            go_wp2_with fail
            refine (cN HA.out (by first | omega | decide) (by first | omega | decide) _).mono ?_
            rintro _ w2 ⟨rfl, hb2⟩
            replace hB := hB.trans (hb2.mono hB.size)
            clear hb2
            go_wp2_with fail
            refine (cN (self_of a0) (by first | omega | decide) (by first | omega | decide) _).mono ?_
            rintro _ w2 ⟨rfl, hb2⟩
            replace hB := hB.trans (hb2.mono hB.size)
            clear hb2
            go_wp2_with fail
            refine (cN (a := a1) (b := a2) rfl (by first | omega | decide) (by first | omega | decide) _).mono ?_
            rintro _ w2 ⟨rfl, hb2⟩
            replace hB := hB.trans (hb2.mono hB.size)
            clear hb2
            go_wp2_with fail
            refine (cN (a := a0) (b := a2) rfl (by first | omega | decide) (by first | omega | decide) _).mono ?_
            rintro _ w2 ⟨rfl, hb2⟩
            replace hB := hB.trans (hb2.mono hB.size)
            clear hb2
            go_wp2_with fail
            refine (cN c_lit (by first | omega | decide) (by first | omega | decide) _).mono ?_
            rintro _ w2 ⟨rfl, hb2⟩
            replace hB := hB.trans (hb2.mono hB.size)
            clear hb2
            go_wp2
            go_ret
            exact ⟨rfl, hB⟩
          · have hm' : 0 < compareN a1 a2 := by omega
            clear hm
            go_enter Try.func7, Try.ntmps7
            go_wp2_with fail
            refine (cN HN.out (by first | omega | decide) (by first | omega | decide) _).mono ?_
            rintro _ w2 ⟨rfl, hb2⟩
            replace hB := hB.trans (hb2.mono hB.size)
            clear hb2
            go_wp2_with fail
            refine (rN HN.out (by first | omega | decide) (by first | omega | decide) _).mono ?_
            rintro _ w2 ⟨rfl, hb2⟩
            replace hB := hB.trans (hb2.mono hB.size)
            clear hb2
            go_wp2_with fail
            refine (cN HA.out (by first | omega | decide) (by first | omega | decide) _).mono ?_
            rintro _ w2 ⟨rfl, hb2⟩
            replace hB := hB.trans (hb2.mono hB.size)
            clear hb2
            go_wp2_with fail
            refine (cN (self_of a0) (by first | omega | decide) (by first | omega | decide) _).mono ?_
            rintro _ w2 ⟨rfl, hb2⟩
            replace hB := hB.trans (hb2.mono hB.size)
            clear hb2
            go_wp2_with fail
            refine (cN (a := a1) (b := a2) rfl (by first | omega | decide) (by first | omega | decide) _).mono ?_
            rintro _ w2 ⟨rfl, hb2⟩
            replace hB := hB.trans (hb2.mono hB.size)
            clear hb2
            go_wp2_with fail
            refine (cN c_lit (by first | omega | decide) (by first | omega | decide) _).mono ?_
            rintro _ w2 ⟨rfl, hb2⟩
            replace hB := hB.trans (hb2.mono hB.size)
            clear hb2
            go_wp2
            go_ret
            exact ⟨rfl, hB⟩
        · have HN := Lib.hid (show compareN a0 a1 = 0 from hn)
          obtain rfl := compareN_eq HN.out
          clear hn
          have HA := Lib.hid (neg_of (m := 0) HN.out (by decide))
          by_cases hm : compareN a0 a2 ≤ 0
          · have hk : compareN a0 a2 ≤ 0 := HT.out (by have := HN.out; unfold compareN at this; omega) hm
            go_enter Try.func7, Try.ntmps7
            go_wp2_with fail
            refine (cN (self_of a0) (by first | omega | decide) (by first | omega | decide) _).mono ?_
            rintro _ w2 ⟨rfl, hb2⟩
            replace hB := hB.trans (hb2.mono hB.size)
            clear hb2
            go_wp2_with fail
            refine (rN (self_of a0) (by first | omega | decide) (by first | omega | decide) _).mono ?_
            rintro _ w2 ⟨rfl, hb2⟩
            replace hB := hB.trans (hb2.mono hB.size)
            clear hb2
            go_wp2_with fail
            refine (cN (self_of a0) (by first | omega | decide) (by first | omega | decide) _).mono ?_
            rintro _ w2 ⟨rfl, hb2⟩
            replace hB := hB.trans (hb2.mono hB.size)
            clear hb2
            go_wp2_with fail
            refine (cN (self_of a0) (by first | omega | decide) (by first | omega | decide) _).mono ?_
            rintro _ w2 ⟨rfl, hb2⟩
            replace hB := hB.trans (hb2.mono hB.size)
            clear hb2
            go_wp2_with fail
            refine (cN (a := a0) (b := a2) rfl (by first | omega | decide) (by first | omega | decide) _).mono ?_
            rintro _ w2 ⟨rfl, hb2⟩
            replace hB := hB.trans (hb2.mono hB.size)
            clear hb2
            go_wp2_with fail
            refine (cN (a := a0) (b := a2) rfl (by first | omega | decide) (by first | omega | decide) _).mono ?_
            rintro _ w2 ⟨rfl, hb2⟩
            replace hB := hB.trans (hb2.mono hB.size)
            clear hb2
            go_wp2_with fail
            refine (cN c_lit (by first | omega | decide) (by first | omega | decide) _).mono ?_
            rintro _ w2 ⟨rfl, hb2⟩
            replace hB := hB.trans (hb2.mono hB.size)
            clear hb2
            go_wp2
            go_ret
            exact ⟨rfl, hB⟩
          · have hm' : 0 < compareN a0 a2 := by omega
            clear hm
            go_enter Try.func7, Try.ntmps7
            go_wp2_with fail
            refine (cN (self_of a0) (by first | omega | decide) (by first | omega | decide) _).mono ?_
            rintro _ w2 ⟨rfl, hb2⟩
            replace hB := hB.trans (hb2.mono hB.size)
            clear hb2
            go_wp2_with fail
            refine (rN (self_of a0) (by first | omega | decide) (by first | omega | decide) _).mono ?_
            rintro _ w2 ⟨rfl, hb2⟩
            replace hB := hB.trans (hb2.mono hB.size)
            clear hb2
            go_wp2_with fail
            refine (cN (self_of a0) (by first | omega | decide) (by first | omega | decide) _).mono ?_
            rintro _ w2 ⟨rfl, hb2⟩
            replace hB := hB.trans (hb2.mono hB.size)
            clear hb2
            go_wp2_with fail
            refine (cN (self_of a0) (by first | omega | decide) (by first | omega | decide) _).mono ?_
            rintro _ w2 ⟨rfl, hb2⟩
            replace hB := hB.trans (hb2.mono hB.size)
            clear hb2
            go_wp2_with fail
            refine (cN (a := a0) (b := a2) rfl (by first | omega | decide) (by first | omega | decide) _).mono ?_
            rintro _ w2 ⟨rfl, hb2⟩
            replace hB := hB.trans (hb2.mono hB.size)
            clear hb2
            go_wp2_with fail
            refine (cN c_lit (by first | omega | decide) (by first | omega | decide) _).mono ?_
            rintro _ w2 ⟨rfl, hb2⟩
            replace hB := hB.trans (hb2.mono hB.size)
            clear hb2
            go_wp2
            go_ret
            exact ⟨rfl, hB⟩
        · have HN := Lib.hid (show compareN a0 a1 = 1 from hn)
          clear hn
          have HA := Lib.hid (neg_of (m := -1) HN.out (by decide))
          go_enter Try.func7, Try.ntmps7
          go_wp2_with fail
          refine (cN HN.out (by first | omega | decide) (by first | omega | decide) _).mono ?_
          rintro _ w2 ⟨rfl, hb2⟩
          replace hB := hB.trans (hb2.mono hB.size)
          clear hb2
          go_wp2_with fail
          refine (rN HN.out (by first | omega | decide) (by first | omega | decide) _).mono ?_
          rintro _ w2 ⟨rfl, hb2⟩
          replace hB := hB.trans (hb2.mono hB.size)
          clear hb2
          go_wp2_with fail
          refine (cN HA.out (by first | omega | decide) (by first | omega | decide) _).mono ?_
          rintro _ w2 ⟨rfl, hb2⟩
          replace hB := hB.trans (hb2.mono hB.size)
          clear hb2
          go_wp2_with fail
          refine (cN (self_of a0) (by first | omega | decide) (by first | omega | decide) _).mono ?_
          rintro _ w2 ⟨rfl, hb2⟩
          replace hB := hB.trans (hb2.mono hB.size)
          clear hb2
          go_wp2_with fail
          refine (cN c_lit (by first | omega | decide) (by first | omega | decide) _).mono ?_
          rintro _ w2 ⟨rfl, hb2⟩
          replace hB := hB.trans (hb2.mono hB.size)
          clear hb2
          go_wp2
          go_ret
          exact ⟨rfl, hB⟩
      · go_enter Try.func7, Try.ntmps7
        go_wp2
        go_ret
        exact ⟨rfl, hB⟩
    · go_enter Try.func7, Try.ntmps7
      go_wp2
      go_ret
      exact ⟨rfl, hB⟩
  · go_enter Try.func7, Try.ntmps7
    go_wp2
    go_ret
    exact ⟨rfl, hB⟩

set_option maxRecDepth 100000 in
theorem lifted (os : Os) (started : os.Started) (H : Type) (enc : TypeId × Value → H) :
    ReturnsInHanded {} Try.checked os 7 .any (Rows.pathsOrderSpec.pre6 enc Try.prog Try.f7 Rows.pathsOrderRow.domain false) (Rows.pathsOrderSpec.post enc Try.prog Try.f7 false true false false) := by
  refine returnsInHanded_of_change (C := Try.checked) own started (by kernel_rfl) Try.func7
    (ChangeSpec.witness6 (enc := enc) (C := Try.checked) false ⟨#[], #[.string ByteArray.empty, .string ByteArray.empty, .string ByteArray.empty], []⟩ 8 (by kernel_rfl) (by kernel_rfl) (by kernel_rfl) (by kernel_rfl)) ?_
  intro W base args ds gs before hval0 hW hcnd _
  have hval : ∀ (j : Nat) t v, Try.f7.params[j]? = some t → args[j]? = some v → Value.okWide Try.prog W .any base t v := hval0
  have hW' := hW
  obtain ⟨p, q, hA0, hV, rfl, hfz, hnd⟩ := hW
  have hA : DataW.TrodAll enc Try.prog W 0 (fun _ => true) true Try.f7.params.toList args.toList ds p := hA0
  rw [Try.params7] at hA hval
  obtain ⟨v0, vs0, d0, ds0, p0, q0, hargs, rfl, rfl, h0, r0⟩ := trodAll_cons hA
  obtain ⟨v1, vs1, d1, ds1, p1, q1, rfl, rfl, rfl, h1, r1⟩ := trodAll_cons r0
  obtain ⟨v2, vs2, d2, ds2, p2, q2, rfl, rfl, rfl, h2, r2⟩ := trodAll_cons r1
  obtain ⟨rfl, rfl, rfl⟩ := trodAll_nil r2
  obtain rfl : args = #[v0, v1, v2] := by cases args; simp_all
  obtain ⟨rfl, rfl⟩ := trodVars_none hV
  obtain ⟨a0, rfl, rfl, rfl, w0⟩ := open_string Try.underlying9 (hval 0 9 v0 rfl rfl) h0
  obtain ⟨a1, rfl, rfl, rfl, w1⟩ := open_string Try.underlying9 (hval 1 9 v1 rfl rfl) h1
  obtain ⟨a2, rfl, rfl, rfl, w2⟩ := open_string Try.underlying9 (hval 2 9 v2 rfl rfl) h2
  clear hA0 hval0
  simp only [List.append_nil] at hW'
  refine (walk a0 a1 a2 w0 w1 w2 W).mono fun e W' ⟨he, bel⟩ => ?_
  subst he
  exact ⟨_, rfl, _, _, _, [], [], [], hW', trodAll_mk1 (shut_bool Try.underlying4 _), (trodAll_cons_mk (shut_string Try.underlying9 w0) (trodAll_cons_mk (shut_string Try.underlying9 w1) (trodAll_cons_mk (shut_string Try.underlying9 w2) trodAll_mk0))), rfl, bel.frame _, fun h => by cases h⟩

theorem over : Rows.pathsOrderRow.holds Try.pinned (OpenSpec.ofChange Rows.pathsOrderSpec) :=
  OpenClaim.holds_of_wide 7 Try.f7 rfl rfl rfl rfl rfl rfl rfl ⟨rfl, rfl, rfl, rfl, rfl⟩ rfl rfl rfl rfl rfl (by kernel_rfl) Try.func7 (by kernel_rfl)
    (of_decide_eq_true (by kernel_rfl)) (by unfold Func.isWrapper; first | (rw [if_pos (by decide +kernel)]; kernel_rfl) | (rw [if_neg (by decide +kernel)]; exact ⟨rfl, rfl⟩))
    (fun os started H enc _ => lifted os started H enc)

theorem proved : Rows.PathsOrderSaid :=
  over
#print axioms proved
end Go.Proofs.Ytblahlljdmlodaa.pathsOrder
