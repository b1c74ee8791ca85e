/-
  For every two lists of files the Go function graftbedlaw02.TreeChecks returns true: what is wrong with any files, and how they are sorted, is the document's; whether two are the same, too (P2.1, P2.5). No condition.
-/
import Derived.Test.YteffoajheolpmaaRows
import Derived.Test.YteffoajheolpmaaL0
import Derived.Test.YteffoajheolpmaaF29
import Derived.Test.YteffoajheolpmaaF15
import Derived.Test.YteffoajheolpmaaF18
namespace Go.Proofs.Yteffoajheolpmaa.treeChecks
open Go.ChangeShapes Go.WideShapes Go.ChangeAt Go.RowKit Go.Deep
open Go.ChangeMaps (open_string shut_string)
set_option linter.unusedVariables false

theorem sameF_self (a : List FileB) : sameF a a = true := by simp [sameF]
theorem same_out {b : Bool} {w : World} {e : Ending} {w' : World} (h : SameOut b w e w') : BoolOut b w e w' := by
  obtain ⟨rfl, n, rfl⟩ := h
  exact ⟨rfl, below_drewN (Below.refl _ _) n⟩
theorem rsame_b {xs ys : List FileB} {b : Bool} (h : sameF xs ys = b) (v u : Value) (w : World) (hv : FRow w v xs) (hu : FRow w u ys) (hx : xs.length ≤ 1000) :
    Calls Try.prog 17 #[v, u] w (BoolOut b w) := by rw [← h]; exact (rsame_any xs ys v u w hv hu hx).mono fun _ _ h => same_out h
theorem tsame_c {xs ys : List FileB} {b : Bool} (h : sameF xs ys = b) (v u : Value) (w : World) (hv : FRow w v xs) (hu : FRow w u ys) (hx : xs.length ≤ 1000) :
    Calls Try.prog 19 #[v, u] w (BoolOut b w) := by rw [← h]; exact (tsame_any xs ys v u w hv hu hx).mono fun _ _ h => same_out h
theorem sort_len (a : List FileB) : (sortB a).length = a.length := by
  have h := sort_len_take a a.length (Nat.le_refl _)
  rw [List.take_length] at h
  exact h
theorem tsort_z {xs zs : List FileB} (h : sortB xs = zs) (v : Value) (w : World) (hv : FRow w v xs) (h1 : Short xs) (hm : xs.length ≤ 160) : Calls Try.prog 14 #[v] w (LOut zs w) := by rw [← h]; exact tsort_any xs v w hv h1 hm
theorem rsort_z {xs zs : List FileB} (h : sortB xs = zs) (v : Value) (w : World) (hv : FRow w v xs) (h1 : Short xs) (hm : xs.length ≤ 200) : Calls Try.prog 18 #[v] w (LOut zs w) := by rw [← h]; exact rsort_any xs v w hv h1 hm
set_option maxRecDepth 100000 in
set_option maxHeartbeats 2000000 in
theorem walk (w : World) (v0 : Value) (a0 : List FileB) (r0 : FRow w v0 a0) (l0 : a0.length ≤ maxLen) (w0 : ∀ f ∈ a0, f.1.size ≤ maxLen ∧ f.2.size ≤ maxLen) (v1 : Value) (a1 : List FileB) (r1 : FRow w v1 a1) (l1 : a1.length ≤ maxLen) (w1 : ∀ f ∈ a1, f.1.size ≤ maxLen ∧ f.2.size ≤ maxLen) :
    Calls Try.prog 3 #[v0, v1] w fun e w' => e = .returned (.bool true) ∧ Below w.heap.size w w' := by
  have HW := Lib.hid r0
  have HW1 := Lib.hid r1
  have HSz := Lib.hid w0
  obtain ⟨va, vc, rfl, hlc, -⟩ := r0
  obtain ⟨ua, uc, rfl, hlu, -⟩ := r1
  clear w0 w1
  go_enter Try.func3, Try.ntmps3
  go_wp2_with fail
  refine (heavy_any a0 _ _ HW.out l0).mono ?_
  rintro _ w1 ⟨b, n, rfl, hli, rfl⟩
  have HLi := Lib.hid hli
  clear hli
  have hB : Below w.heap.size w (w.drewN n) := below_drewN (Below.refl _ _) n
  cases b
  · have HL := Lib.hid (HLi.out rfl)
    have h80 := HL.out.1
    go_wp2_with fail
    refine (heavy_any a1 _ _ (HW1.out.drew n) l1).mono ?_
    rintro _ w1 ⟨b, m, rfl, hli, rfl⟩
    have HLi2 := Lib.hid hli
    clear hli
    replace hB : Below w.heap.size w (w.drewN (n + m)) := below_drewN (Below.refl _ _) (n + m)
    cases b
    · have HL2 := Lib.hid (HLi2.out rfl)
      have hzl : (sortB a0).length ≤ 80 := by rw [sort_len]; exact h80
      generalize hz : sortB a0 = zs at hzl
      have HZ := Lib.hid hz
      clear hz
      go_wp2_with fail
      refine (tsort_z HZ.out _ _ (HW.out.below hB) (fun f hf => Nat.le_trans (HL.out.2 f hf).1 (by decide)) (by omega)).mono ?_
      rintro _ w2 ⟨A, c, rfl, hrow, hb2⟩
      replace hB := hB.trans (hb2.mono hB.size)
      have HR2 := Lib.hid hrow
      clear hrow hb2
      go_wp2_with fail
      refine (tcheck_any a0 _ _ (HW.out.below hB) HSz.out (by omega)).mono ?_
      rintro _ w3 ⟨rfl, hb3⟩
      replace hB := hB.trans (hb3.mono hB.size)
      have HR3 := Lib.hid (HR2.out.below hb3)
      clear hb3 HR2
      go_wp2_with fail
      refine (rcheck_any a0 _ _ (HW.out.below hB) HSz.out (by omega)).mono ?_
      rw [← check_same]
      rintro _ w4 ⟨rfl, hb4⟩
      replace hB := hB.trans (hb4.mono hB.size)
      have HR4 := Lib.hid (HR3.out.below hb4)
      clear hb4 HR3
      generalize checkB badT a0 = ff
      obtain ⟨f1, f2⟩ := ff
      go_wp2_with fail
      refine (rsort_z HZ.out _ _ (HW.out.below hB) (fun f hf => Nat.le_trans (HL.out.2 f hf).1 (by decide)) (by omega)).mono ?_
      rintro _ w5 ⟨A5, c5, rfl, hrow, hb5⟩
      replace hB := hB.trans (hb5.mono hB.size)
      have HR5 := Lib.hid (HR4.out.below hb5)
      have HS5 := Lib.hid hrow
      clear hb5 HR4 hrow
      go_wp2_with fail
      refine (rsame_b (sameF_self zs) _ _ _ HR5.out HS5.out (by omega)).mono ?_
      rintro _ w6 ⟨rfl, hb6⟩
      replace hB := hB.trans (hb6.mono hB.size)
      have HR6 := Lib.hid (HR5.out.below hb6)
      clear HR5 HS5 hb6
      obtain ⟨sb, hsb⟩ : ∃ sb, sameF a0 a1 = sb := ⟨_, rfl⟩
      have HSB := Lib.hid hsb
      clear hsb
      go_wp2_with fail
      refine (tsame_c HSB.out _ _ _ (HW.out.below hB) (HW1.out.below hB) (by omega)).mono ?_
      rintro _ w7 ⟨rfl, hb7⟩
      replace hB := hB.trans (hb7.mono hB.size)
      have HR7 := Lib.hid (HR6.out.below hb7)
      clear HR6 hb7
      go_wp2_with fail
      refine (rsame_b HSB.out _ _ _ (HW.out.below hB) (HW1.out.below hB) (by omega)).mono ?_
      rintro _ w8 ⟨rfl, hb8⟩
      replace hB := hB.trans (hb8.mono hB.size)
      have HR8 := Lib.hid (HR7.out.below hb8)
      clear HR7 hb8
      go_wp2_with fail
      refine (tsame_c (sameF_self zs) _ _ _ HR8.out HR8.out (by omega)).mono ?_
      rintro _ w9 ⟨rfl, hb9⟩
      replace hB := hB.trans (hb9.mono hB.size)
      go_wp2_with fail
      refine (shown_any _).mono ?_
      rintro _ w10 ⟨rfl, hb10⟩
      replace hB := hB.trans (hb10.mono hB.size)
      go_wp2
      go_ret
      exact ⟨rfl, hB⟩
    · go_wp2_with fail
      refine (shown_any _).mono ?_
      rintro _ w2 ⟨rfl, hb2⟩
      go_wp2
      go_ret
      exact ⟨rfl, hB.trans (hb2.mono hB.size)⟩
  · go_wp2_with fail
    refine (shown_any _).mono ?_
    rintro _ w2 ⟨rfl, hb2⟩
    go_wp2
    go_ret
    exact ⟨rfl, hB.trans (hb2.mono hB.size)⟩

set_option maxRecDepth 100000 in
theorem lifted (os : Os) (started : os.Started) (H : Type) (enc : TypeId × Value → H) :
    ReturnsInHanded {} Try.checked os 3 .any (Rows.treeChecksSpec.pre6 enc Try.prog Try.f3 Rows.treeChecksRow.domain false) (Rows.treeChecksSpec.post enc Try.prog Try.f3 false true false false) := by
  refine returnsInHanded_of_change (C := Try.checked) own started (by kernel_rfl) Try.func3
    (ChangeSpec.witness6 (enc := enc) (C := Try.checked) false ⟨#[], #[.slice none 0 0, .slice none 0 0], []⟩ 8 (by kernel_rfl) (by kernel_rfl) (by kernel_rfl) (by kernel_rfl)) ?_
  intro W base args ds gs before hval0 hW hcnd _
  have hval : ∀ (j : Nat) t v, Try.f3.params[j]? = some t → args[j]? = some v → Value.okWide Try.prog W .any base t v := hval0
  have hW' := hW
  obtain ⟨p, q, hA0, hV, rfl, hfz, hnd⟩ := hW
  have hA : DataW.TrodAll enc Try.prog W 0 (fun _ => true) true Try.f3.params.toList args.toList ds p := hA0
  rw [Try.params3] at hA hval
  obtain ⟨v0, vs0, d0, ds0, p0, q0, hargs, rfl, rfl, h0, r0⟩ := trodAll_cons hA
  obtain ⟨v1, vs1, d1, ds1, p1, q1, rfl, rfl, rfl, h1, r1⟩ := trodAll_cons r0
  obtain ⟨rfl, rfl, rfl⟩ := trodAll_nil r1
  obtain rfl : args = #[v0, v1] := by cases args; simp_all
  obtain ⟨rfl, rfl⟩ := trodVars_none hV
  obtain ⟨a0, g0, l0, w0, u0⟩ := open_files (hval 0 22 v0 rfl rfl) h0
  obtain ⟨a1, g1, l1, w1, u1⟩ := open_files (hval 1 22 v1 rfl rfl) h1
  clear hA0 hval0
  simp only [List.append_nil] at hW'
  refine (walk W v0 a0 g0 l0 w0 v1 a1 g1 l1 w1).mono fun e W' ⟨he, bel⟩ => ?_
  subst he
  refine ⟨_, rfl, _, _, _, [], _, [], hW', trodAll_mk1 (shut_bool Try.underlying4 _), (trodAll_cons_mk (u0 _ bel) (trodAll_cons_mk (u1 _ bel) trodAll_mk0)), rfl, bel.frame _, fun h => by cases h⟩

theorem over : Rows.treeChecksRow.holds Try.pinned (OpenSpec.ofChange Rows.treeChecksSpec) :=
  OpenClaim.holds_of_wide 3 Try.f3 rfl rfl rfl rfl rfl rfl rfl ⟨rfl, rfl, rfl, rfl, rfl⟩ rfl rfl rfl rfl rfl (by kernel_rfl) Try.func3 (by kernel_rfl)
    (of_decide_eq_true (by kernel_rfl)) (by unfold Func.isWrapper; first | (rw [if_pos (by decide +kernel)]; kernel_rfl) | (rw [if_neg (by decide +kernel)]; exact ⟨rfl, rfl⟩))
    (fun os started H enc _ => lifted os started H enc)

theorem proved : Rows.TreeChecksSaid :=
  over
#print axioms proved
end Go.Proofs.Yteffoajheolpmaa.treeChecks
