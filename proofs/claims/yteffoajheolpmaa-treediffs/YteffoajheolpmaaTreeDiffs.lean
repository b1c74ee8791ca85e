/-
  For every two lists of files the Go function graftbedlaw02.TreeDiffs returns true: in which paths any two trees are not alike is the document's; none, just if they are the same; one way round as the other (P2.5, P2.6). No condition.
-/
import Derived.Test.YteffoajheolpmaaRows
import Derived.Test.YteffoajheolpmaaL0
import Derived.Test.YteffoajheolpmaaF8
import Derived.Test.YteffoajheolpmaaT1
import Derived.Test.YteffoajheolpmaaF9
import Derived.Test.YteffoajheolpmaaT2
import Derived.Test.YteffoajheolpmaaF11
import Derived.Test.YteffoajheolpmaaF12
import Derived.Test.YteffoajheolpmaaF13
import Derived.Test.YteffoajheolpmaaT3
import Derived.Test.YteffoajheolpmaaF14
import Derived.Test.YteffoajheolpmaaT4
import Derived.Test.YteffoajheolpmaaF15
namespace Go.Proofs.Yteffoajheolpmaa.treeDiffs
open Go.ChangeShapes Go.WideShapes Go.ChangeAt Go.RowKit Go.Deep
open Go.ChangeMaps (open_string shut_string)
set_option linter.unusedVariables false

theorem diff_len {a b : List FileB} (ha : Tree a) (hb : Tree b) : (diffL a b).length ≤ 120 := by
  rw [← ded_diff ha.up hb.up]
  have h := (ded_spec (a := a) (b := b) (sort_le (a ++ b)) (sortB (a ++ b)).length (Nat.le_refl _)).2.2
  rw [List.take_length] at h
  have h2 := sort_len_take (a ++ b) (a ++ b).length (Nat.le_refl _)
  rw [List.take_length, List.length_append] at h2
  have := ha.few
  have := hb.few
  omega
theorem sameF_self (a : List FileB) : sameF a a = true := by simp [sameF]
set_option maxRecDepth 100000 in
set_option maxHeartbeats 2000000 in
theorem walk (w : World) (v0 : Value) (a0 : List FileB) (r0 : FRow w v0 a0) (l0 : a0.length ≤ maxLen) (w0 : ∀ f ∈ a0, f.1.size ≤ maxLen ∧ f.2.size ≤ maxLen) (v1 : Value) (a1 : List FileB) (r1 : FRow w v1 a1) (l1 : a1.length ≤ maxLen) (w1 : ∀ f ∈ a1, f.1.size ≤ maxLen ∧ f.2.size ≤ maxLen) :
    Calls Try.prog 8 #[v0, v1] w fun e w' => e = .returned (.bool true) ∧ Below w.heap.size w w' := by
  have HW := Lib.hid r0
  have HW1 := Lib.hid r1
  obtain ⟨va, vc, rfl, hlc, -⟩ := r0
  obtain ⟨ua, uc, rfl, hlu, -⟩ := r1
  clear w0 w1
  go_enter Try.func8, Try.ntmps8
  go_wp2_with fail
  refine (heavy_any a0 _ _ HW.out l0).mono ?_
  rintro _ w1 ⟨b, n, rfl, hli, rfl⟩
  have HLi := Lib.hid hli
  clear hli
  have hB : Below w.heap.size w (w.drewN n) := below_drewN (Below.refl _ _) n
  cases b
  · have HL := Lib.hid (HLi.out rfl)
    go_wp2_with fail
    refine (heavy_any a1 _ _ (HW1.out.drew n) l1).mono ?_
    rintro _ w1 ⟨b, m, rfl, hli, rfl⟩
    have HLi2 := Lib.hid hli
    clear hli
    replace hB : Below w.heap.size w (w.drewN (n + m)) := below_drewN (Below.refl _ _) (n + m)
    cases b
    · have HL2 := Lib.hid (HLi2.out rfl)
      go_wp2_with fail
      refine (shown_any _).mono ?_
      rintro _ w2 ⟨rfl, hb2⟩
      replace hB := hB.trans (hb2.mono hB.size)
      go_wp2_with fail
      refine (grown_any a0 _ _ (HW.out.below hB) HL.out).mono ?_
      rintro _ w3 ⟨A, c, t, rfl, hrow, ht, hb3⟩
      replace hB := hB.trans (hb3.mono hB.size)
      have HR3 := Lib.hid hrow
      have HT := Lib.hid ht
      have hfew := ht.few
      clear hrow ht hb3 hb2
      go_wp2_with fail
      refine (grown_any a1 _ _ (HW1.out.below hB) HL2.out).mono ?_
      rintro _ w4 ⟨A4, c4, s, rfl, hrow, hs, hb4⟩
      replace hB := hB.trans (hb4.mono hB.size)
      have HRt := Lib.hid (HR3.out.below hb4)
      have HRs := Lib.hid hrow
      have HS := Lib.hid hs
      have hfew2 := hs.few
      clear hrow hs hb4 HR3
      have HDC := Lib.hid (diff_comm HS.out.up HT.out.up)
      have hdl := diff_len HT.out HS.out
      have HDN := Lib.hid (diff_nil HT.out.up HS.out.up)
      go_wp2_with fail
      refine (tdiff_any t s _ _ _ HRt.out HRs.out HT.out HS.out).mono ?_
      rintro _ w5 ⟨v5, rfl, hrow5, hb5⟩
      replace hB := hB.trans (hb5.mono hB.size)
      have HRt5 := Lib.hid (HRt.out.below hb5)
      have HRs5 := Lib.hid (HRs.out.below hb5)
      have HD5 := Lib.hid hrow5
      obtain ⟨d1, d2, rfl, -⟩ := hrow5
      clear hb5 HRt HRs
      go_wp2_with fail
      refine (rdiff_any t s _ _ _ HRt5.out HRs5.out HT.out HS.out).mono ?_
      rintro _ w6 ⟨v6, rfl, hrow6, hb6⟩
      replace hB := hB.trans (hb6.mono hB.size)
      have HRt6 := Lib.hid (HRt5.out.below hb6)
      have HRs6 := Lib.hid (HRs5.out.below hb6)
      have HD6 := Lib.hid (HD5.out.below hb6)
      have HE6 := Lib.hid hrow6
      obtain ⟨e1, e2, rfl, -⟩ := hrow6
      clear hb6 HRt5 HRs5 HD5
      go_wp2_with fail
      refine (lsame_any _ _ _ _ HD6.out HE6.out (by omega)).mono ?_
      rintro _ w7 ⟨rfl, n7, rfl⟩
      replace hB := below_drewN hB n7
      go_wp2_with fail
      refine (tdiff_any s t _ _ _ (HRs6.out.drew n7) (HRt6.out.drew n7) HS.out HT.out).mono ?_
      rw [HDC.out]
      rintro _ w8 ⟨v8, rfl, hrow8, hb8⟩
      replace hB := hB.trans (hb8.mono hB.size)
      have HRt8 := Lib.hid ((HRt6.out.drew n7).below hb8)
      have HRs8 := Lib.hid ((HRs6.out.drew n7).below hb8)
      have HD8 := Lib.hid ((show Row (w6.drewN n7) _ _ from HD6.out).below hb8)
      have HE8 := Lib.hid hrow8
      obtain ⟨f1, f2, rfl, -⟩ := hrow8
      clear hb8 HRt6 HRs6 HD6 HE6
      go_wp2_with fail
      refine (lsame_any _ _ _ _ HD8.out HE8.out (by omega)).mono ?_
      rintro _ w9 ⟨rfl, n9, rfl⟩
      by_cases hts : t = s
      · have HSm := Lib.hid (show sameF t s = true by rw [hts]; exact sameF_self s)
        have hln : (diffL t s).length = 0 := by rw [HDN.out.2 hts]; rfl
        have hlb : (((diffL t s).length : Int) == 0) = true := by simp [hln]
        clear hts hln
        go_wp2_with fail
        refine (tsame_b HSm.out _ _ _ (HRt8.out.drew n9) (HRs8.out.drew n9) (by omega)).mono ?_
        rintro _ w10 ⟨rfl, n10, rfl⟩
        go_wp2_with fail
        refine (tsame_b (sameF_self t) _ _ _ (HRt8.out.drew _) (HRt8.out.drew _) (by omega)).mono ?_
        rintro _ w11 ⟨rfl, n11, rfl⟩
        go_wp2
        go_ret
        exact ⟨rfl, below_drewN hB _⟩
      · have HSm := Lib.hid (show sameF t s = false from decide_eq_false hts)
        have hln : ¬ (diffL t s).length = 0 := fun h => hts (HDN.out.1 (List.length_eq_zero_iff.1 h))
        have hlb : (((diffL t s).length : Int) == 0) = false := by simp; exact fun h => hln (by rw [h]; rfl)
        clear hts hln
        go_wp2_with fail
        refine (tsame_b HSm.out _ _ _ (HRt8.out.drew n9) (HRs8.out.drew n9) (by omega)).mono ?_
        rintro _ w10 ⟨rfl, n10, rfl⟩
        go_wp2_with fail
        refine (tsame_b (sameF_self t) _ _ _ (HRt8.out.drew _) (HRt8.out.drew _) (by omega)).mono ?_
        rintro _ w11 ⟨rfl, n11, rfl⟩
        go_wp2
        go_ret
        exact ⟨rfl, below_drewN hB _⟩
    · go_wp2_with fail
      refine (shown_any _).mono ?_
      rintro _ w2 ⟨rfl, hb2⟩
      go_wp2
      go_ret
      exact ⟨rfl, hB.trans (hb2.mono hB.size)⟩
  · go_wp2_with fail
    refine (shown_any _).mono ?_
    rintro _ w2 ⟨rfl, hb2⟩
    go_wp2
    go_ret
    exact ⟨rfl, hB.trans (hb2.mono hB.size)⟩

set_option maxRecDepth 100000 in
theorem lifted (os : Os) (started : os.Started) (H : Type) (enc : TypeId × Value → H) :
    ReturnsInHanded {} Try.checked os 8 .any (Rows.treeDiffsSpec.pre6 enc Try.prog Try.f8 Rows.treeDiffsRow.domain false) (Rows.treeDiffsSpec.post enc Try.prog Try.f8 false true false false) := by
  refine returnsInHanded_of_change (C := Try.checked) own started (by kernel_rfl) Try.func8
    (ChangeSpec.witness6 (enc := enc) (C := Try.checked) false ⟨#[], #[.slice none 0 0, .slice none 0 0], []⟩ 8 (by kernel_rfl) (by kernel_rfl) (by kernel_rfl) (by kernel_rfl)) ?_
  intro W base args ds gs before hval0 hW hcnd _
  have hval : ∀ (j : Nat) t v, Try.f8.params[j]? = some t → args[j]? = some v → Value.okWide Try.prog W .any base t v := hval0
  have hW' := hW
  obtain ⟨p, q, hA0, hV, rfl, hfz, hnd⟩ := hW
  have hA : DataW.TrodAll enc Try.prog W 0 (fun _ => true) true Try.f8.params.toList args.toList ds p := hA0
  rw [Try.params8] at hA hval
  obtain ⟨v0, vs0, d0, ds0, p0, q0, hargs, rfl, rfl, h0, r0⟩ := trodAll_cons hA
  obtain ⟨v1, vs1, d1, ds1, p1, q1, rfl, rfl, rfl, h1, r1⟩ := trodAll_cons r0
  obtain ⟨rfl, rfl, rfl⟩ := trodAll_nil r1
  obtain rfl : args = #[v0, v1] := by cases args; simp_all
  obtain ⟨rfl, rfl⟩ := trodVars_none hV
  obtain ⟨a0, g0, l0, w0, u0⟩ := open_files (hval 0 22 v0 rfl rfl) h0
  obtain ⟨a1, g1, l1, w1, u1⟩ := open_files (hval 1 22 v1 rfl rfl) h1
  clear hA0 hval0
  simp only [List.append_nil] at hW'
  refine (walk W v0 a0 g0 l0 w0 v1 a1 g1 l1 w1).mono fun e W' ⟨he, bel⟩ => ?_
  subst he
  refine ⟨_, rfl, _, _, _, [], _, [], hW', trodAll_mk1 (shut_bool Try.underlying4 _), (trodAll_cons_mk (u0 _ bel) (trodAll_cons_mk (u1 _ bel) trodAll_mk0)), rfl, bel.frame _, fun h => by cases h⟩

theorem over : Rows.treeDiffsRow.holds Try.pinned (OpenSpec.ofChange Rows.treeDiffsSpec) :=
  OpenClaim.holds_of_wide 8 Try.f8 rfl rfl rfl rfl rfl rfl rfl ⟨rfl, rfl, rfl, rfl, rfl⟩ rfl rfl rfl rfl rfl (by kernel_rfl) Try.func8 (by kernel_rfl)
    (of_decide_eq_true (by kernel_rfl)) (by unfold Func.isWrapper; first | (rw [if_pos (by decide +kernel)]; kernel_rfl) | (rw [if_neg (by decide +kernel)]; exact ⟨rfl, rfl⟩))
    (fun os started H enc _ => lifted os started H enc)

theorem proved : Rows.TreeDiffsSaid :=
  over
#print axioms proved
end Go.Proofs.Yteffoajheolpmaa.treeDiffs
