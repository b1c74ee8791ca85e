/-
  For every two lists of files the Go function graftbedlaw02.TreeMerges returns true: any two trees are merged, or not, as the document says; merged, each file of both is there, and none else (P2.4). No condition.
-/
import Derived.Test.YteffoajheolpmaaRows
import Derived.Test.YteffoajheolpmaaL0
import Derived.Test.YteffoajheolpmaaF8
import Derived.Test.YteffoajheolpmaaT1
import Derived.Test.YteffoajheolpmaaF9
import Derived.Test.YteffoajheolpmaaT2
import Derived.Test.YteffoajheolpmaaF11
import Derived.Test.YteffoajheolpmaaT3
import Derived.Test.YteffoajheolpmaaT5
import Derived.Test.YteffoajheolpmaaF16
import Derived.Test.YteffoajheolpmaaT6
namespace Go.Proofs.Yteffoajheolpmaa.treeMerges
open Go.ChangeShapes Go.WideShapes Go.ChangeAt Go.RowKit Go.Deep
open Go.ChangeMaps (open_string shut_string)
set_option linter.unusedVariables false

theorem tmerge_r {xs ys : List FileB} {r : List FileB × Int × ByteArray} (h : mergeR xs ys = r) (v u : Value) (w : World) (hv : FRow w v xs) (hu : FRow w u ys) (hx : Tree xs) (hy : Tree ys) :
    Calls Try.prog 35 #[v, u] w (MergeOut r w) := by rw [← h]; exact tmerge_any xs ys v u w hv hu hx hy
theorem rmerge_r {xs ys : List FileB} {r : List FileB × Int × ByteArray} (h : mergeR xs ys = r) (v u : Value) (w : World) (hv : FRow w v xs) (hu : FRow w u ys) (hx : Tree xs) (hy : Tree ys) :
    Calls Try.prog 36 #[v, u] w (MergeOut r w) := by rw [← h]; exact rmerge_any xs ys v u w hv hu hx hy
/-- A fault lies in that block. -/
def EBox (w : World) (B : Nat) (n : Int) (p : ByteArray) : Prop := B < w.heap.size ∧ w.cell? ⟨B, 0, none⟩ = some (.int .i64 n) ∧ w.cell? ⟨B, 1, none⟩ = some (.string p) ∧ w.cell? ⟨B, 2, none⟩ = some (.int .i64 0)
theorem EBox.new (w : World) (n : Int) (p : ByteArray) : EBox (w.alloc (.cells #[.int .i64 n, .string p, .int .i64 0] 28)) w.heap.size n p := ⟨by simp, cell_new _ _ _ 0, cell_new _ _ _ 1, cell_new _ _ _ 2⟩
theorem EBox.below {w w' : World} {B : Nat} {n : Int} {p : ByteArray} (h : EBox w B n p) (hb : Below w.heap.size w w') : EBox w' B n p :=
  ⟨Nat.lt_of_lt_of_le h.1 hb.size, (hb.cell (p := ⟨B, 0, none⟩) h.1).trans h.2.1, (hb.cell (p := ⟨B, 1, none⟩) h.1).trans h.2.2.1, (hb.cell (p := ⟨B, 2, none⟩) h.1).trans h.2.2.2⟩
theorem EBox.alloc {w : World} {B : Nat} {n : Int} {p : ByteArray} (h : EBox w B n p) (o : Obj) : EBox (w.alloc o) B n p := h.below ((Below.refl _ w).alloc (Nat.le_refl _) _)
theorem EBox.drewN {w : World} {B : Nat} {n : Int} {p : ByteArray} (h : EBox w B n p) (k : Nat) : EBox (w.drewN k) B n p := h
theorem FRow.alloc {w : World} {v : Value} {xs : List FileB} (h : FRow w v xs) (o : Obj) : FRow (w.alloc o) v xs := h.below ((Below.refl _ w).alloc (Nat.le_refl _) _)
theorem rfind_v {t : List FileB} {q d : ByteArray} {b : Bool} (h : findB t q = (d, b)) (v : Value) (w : World) (hv : FRow w v t) (hl : t.length ≤ 1000) :
    Calls Try.prog 24 #[v, .string q] w fun e w' => e = .returned (.tuple #[.string d, .bool b]) ∧ w = w' := by
  refine (rfind_any t v q w hv hl).mono ?_
  rintro e w' ⟨rfl, hb⟩
  exact ⟨by rw [h], hb⟩
set_option maxRecDepth 100000 in
set_option maxHeartbeats 2000000 in
theorem walk (w : World) (v0 : Value) (a0 : List FileB) (r0 : FRow w v0 a0) (l0 : a0.length ≤ maxLen) (w0 : ∀ f ∈ a0, f.1.size ≤ maxLen ∧ f.2.size ≤ maxLen) (v1 : Value) (a1 : List FileB) (r1 : FRow w v1 a1) (l1 : a1.length ≤ maxLen) (w1 : ∀ f ∈ a1, f.1.size ≤ maxLen ∧ f.2.size ≤ maxLen) :
    Calls Try.prog 7 #[v0, v1] w fun e w' => e = .returned (.bool true) ∧ Below w.heap.size w w' := by
  have HW := Lib.hid r0
  have HW1 := Lib.hid r1
  obtain ⟨va, vc, rfl, hlc, -⟩ := r0
  obtain ⟨ua, uc, rfl, hlu, -⟩ := r1
  clear w0 w1
  go_enter Try.func7, Try.ntmps7
  go_wp2_with fail
  refine (heavy_any a0 _ _ HW.out l0).mono ?_
  rintro _ w1 ⟨b, n, rfl, hli, rfl⟩
  have HLi := Lib.hid hli
  clear hli
  have hB : Below w.heap.size w (w.drewN n) := below_drewN (Below.refl _ _) n
  cases b
  · have HL := Lib.hid (HLi.out rfl)
    go_wp2_with fail
    refine (heavy_any a1 _ _ (HW1.out.drew n) l1).mono ?_
    rintro _ w1 ⟨b, m, rfl, hli, rfl⟩
    have HLi2 := Lib.hid hli
    clear hli
    replace hB : Below w.heap.size w (w.drewN (n + m)) := below_drewN (Below.refl _ _) (n + m)
    cases b
    · have HL2 := Lib.hid (HLi2.out rfl)
      go_wp2_with fail
      refine (shown_any _).mono ?_
      rintro _ w2 ⟨rfl, hb2⟩
      replace hB := hB.trans (hb2.mono hB.size)
      go_wp2_with fail
      refine (grown_any a0 _ _ (HW.out.below hB) HL.out).mono ?_
      rintro _ w3 ⟨A, c, t, rfl, hrow, ht, hb3⟩
      replace hB := hB.trans (hb3.mono hB.size)
      have HR3 := Lib.hid hrow
      have HT := Lib.hid ht
      have hfew := ht.few
      clear hrow ht hb3 hb2
      go_wp2_with fail
      refine (grown_any a1 _ _ (HW1.out.below hB) HL2.out).mono ?_
      rintro _ w4 ⟨A4, c4, s, rfl, hrow, hs, hb4⟩
      replace hB := hB.trans (hb4.mono hB.size)
      have HRt := Lib.hid (HR3.out.below hb4)
      have HRs := Lib.hid hrow
      have HS := Lib.hid hs
      have hfew2 := hs.few
      clear hrow hs hb4 HR3
      obtain ⟨⟨zs, en, ep⟩, hmr⟩ : ∃ r, mergeR t s = r := ⟨_, rfl⟩
      have HM := Lib.hid hmr
      clear hmr
      go_wp2_with fail
      refine (tmerge_r HM.out _ _ _ HRt.out HRs.out HT.out HS.out).mono ?_
      rintro _ w5 ⟨A5, c5, rfl, hrow5, hb5⟩
      replace hB := hB.trans (hb5.mono hB.size)
      have hA5 := hB.alloc hB.size (.cells #[.int .i64 en, .string ep, .int .i64 0] 28)
      have HRt5 := Lib.hid (FRow.alloc (HRt.out.below hb5) (.cells #[.int .i64 en, .string ep, .int .i64 0] 28))
      have HRs5 := Lib.hid (FRow.alloc (HRs.out.below hb5) (.cells #[.int .i64 en, .string ep, .int .i64 0] 28))
      have HZ5 := Lib.hid (FRow.alloc hrow5 (.cells #[.int .i64 en, .string ep, .int .i64 0] 28))
      have HE5 := Lib.hid (EBox.new w5 en ep)
      clear hb5 HRt HRs hrow5
      go_wp2_with fail
      refine (rmerge_r HM.out _ _ _ HRt5.out HRs5.out HT.out HS.out).mono ?_
      rintro _ w6 ⟨A6, c6, rfl, hrow6, hb6⟩
      replace hB := hA5.trans (hb6.mono hA5.size)
      have hA6 := hB.alloc hB.size (.cells #[.int .i64 en, .string ep, .int .i64 0] 28)
      have HRt6 := Lib.hid (FRow.alloc (HRt5.out.below hb6) (.cells #[.int .i64 en, .string ep, .int .i64 0] 28))
      have HRs6 := Lib.hid (FRow.alloc (HRs5.out.below hb6) (.cells #[.int .i64 en, .string ep, .int .i64 0] 28))
      have HZ6 := Lib.hid (FRow.alloc (HZ5.out.below hb6) (.cells #[.int .i64 en, .string ep, .int .i64 0] 28))
      have HY6 := Lib.hid (FRow.alloc hrow6 (.cells #[.int .i64 en, .string ep, .int .i64 0] 28))
      have HE6 := Lib.hid (EBox.alloc (HE5.out.below hb6) (.cells #[.int .i64 en, .string ep, .int .i64 0] 28))
      have HG6 := Lib.hid (EBox.new w6 en ep)
      clear hb6 HRt5 HRs5 HZ5 HE5 hrow6 hA5
      obtain ⟨-, e0, e1, e2⟩ := HE6.out
      obtain ⟨-, g0, g1, g2⟩ := HG6.out
      have hzl : zs.length ≤ 60 := by
        by_cases h0 : en = 0
        · subst h0; have h := merge_ok HM.out; rw [h.2.1]; exact h.2.2.1
        · rw [merge_err HM.out h0]; simp
      go_wp2_with fail
      refine (same_yes _ _ _ HZ6.out HY6.out (Nat.le_trans hzl (by decide))).mono ?_
      rintro _ w7 ⟨rfl, n7, rfl⟩
      have hB7 := below_drewN hA6 n7
      by_cases h0 : en = 0
      · subst h0
        have hmd := merged HT.out HS.out HM.out
        obtain ⟨-, -, -, hep⟩ := merge_ok HM.out
        subst hep
        have HMd := Lib.hid hmd
        clear hmd
        go_wp2_with fail
        refine (tmerge_r HMd.out.back _ _ _ (HRs6.out.drew n7) (HRt6.out.drew n7) HS.out HT.out).mono ?_
        rintro _ w8 ⟨A8, c8, rfl, hrow8, hb8⟩
        replace hB := hB7.trans (hb8.mono hB7.size)
        have hA8 := hB.alloc hB.size (.cells #[.int .i64 0, .string ⟨#[]⟩, .int .i64 0] 28)
        have HRt8 := Lib.hid (FRow.alloc ((HRt6.out.drew n7).below hb8) (.cells #[.int .i64 0, .string ⟨#[]⟩, .int .i64 0] 28))
        have HRs8 := Lib.hid (FRow.alloc ((HRs6.out.drew n7).below hb8) (.cells #[.int .i64 0, .string ⟨#[]⟩, .int .i64 0] 28))
        have HZ8 := Lib.hid (FRow.alloc ((HZ6.out.drew n7).below hb8) (.cells #[.int .i64 0, .string ⟨#[]⟩, .int .i64 0] 28))
        have hrow8' : FRow w8 (.slice A8 zs.length c8) zs := hrow8
        have HV8 := Lib.hid (FRow.alloc hrow8' (.cells #[.int .i64 0, .string ⟨#[]⟩, .int .i64 0] 28))
        have HE8 := Lib.hid (EBox.new w8 0 ⟨#[]⟩)
        clear hrow8 hrow8' hb8 e0 e1 e2 g0 g1 g2 HE6 HG6 HRt6 HRs6 HZ6 HY6 hA6 hB7
        go_wp2
        go_loop [13] (fun i => ∃ k : Nat, k ≤ zs.length ∧ i = .int .i64 k) (fun i => zs.length - (intOf i).toNat)
        case atStart => exact ⟨0, Nat.zero_le _, rfl⟩
        case round =>
          obtain ⟨k, hk, rfl⟩ := hrel
          by_cases hlt : k < zs.length
          · obtain ⟨a', c'', e', hl', hcl⟩ := HZ8.out
            cases e'
            obtain ⟨g, o, rfl, hg, hcell⟩ := hcl (by intro e; rw [e] at hlt; simp at hlt)
            obtain ⟨q1, q2⟩ := hcell k hlt
            have HIa := Lib.hid (HMd.out.inA _ (List.getElem_mem hlt))
            have HIb := Lib.hid (HMd.out.inB _ (List.getElem_mem hlt))
            have HIn := Lib.hid (HMd.out.any _ (List.getElem_mem hlt))
            clear hcell hcl
            generalize zs[k] = f at *
            obtain ⟨p, dd⟩ := f
            obtain ⟨⟨x, ba⟩, hfa⟩ : ∃ q, findB t p = q := ⟨_, rfl⟩
            obtain ⟨⟨y, bb⟩, hfb⟩ : ∃ q, findB s p = q := ⟨_, rfl⟩
            have HFa := Lib.hid hfa
            have HFb := Lib.hid hfb
            clear hfa hfb
            have d1 : (dd.toList == dd.toList) = true := by simp
            have d2 : (dd.toList != dd.toList) = false := by simp
            go_wp2_with fail
            refine (rfind_v HFa.out _ _ HRt8.out (by omega)).mono ?_
            rintro _ w9 ⟨rfl, rfl⟩
            go_wp2_with fail
            refine (rfind_v HFb.out _ _ HRs8.out (by omega)).mono ?_
            rintro _ w9 ⟨rfl, rfl⟩
            cases ba
            · cases bb
              · exact (HIn.out _ _ HFa.out HFb.out).elim
              · obtain rfl : y = dd := HIb.out _ _ HFb.out rfl
                go_wp2
                go_round
                case rel => exact ⟨k + 1, by omega, by go_num⟩
                case measure => simp [intOf]; omega
            · obtain rfl : x = dd := HIa.out _ _ HFa.out rfl
              cases bb
              · go_wp2
                go_round
                case rel => exact ⟨k + 1, by omega, by go_num⟩
                case measure => simp [intOf]; omega
              · obtain rfl : y = x := HIb.out _ _ HFb.out rfl
                go_wp2
                go_round
                case rel => exact ⟨k + 1, by omega, by go_num⟩
                case measure => simp [intOf]; omega
          · obtain ⟨-, e0, e1, e2⟩ := HE8.out
            have hlA := HMd.out.lenA
            have hlB := HMd.out.lenB
            have hlA' : (t.length : Int) ≤ (zs.length : Int) := by omega
            have hlB' : (s.length : Int) ≤ (zs.length : Int) := by omega
            go_wp2_with fail
            refine (same_yes _ _ _ HZ8.out HV8.out (by omega)).mono ?_
            rintro _ w9 ⟨rfl, n9, rfl⟩
            go_wp2_with fail
            refine (tcheck_tree HMd.out.tree _ _ (HZ8.out.drew n9)).mono ?_
            rintro _ w10 ⟨rfl, hb10⟩
            have hB10 := (below_drewN hA8 n9).trans (hb10.mono hA8.size)
            go_wp2
            go_ret
            exact ⟨rfl, hB10⟩
      · have hz : zs = [] := merge_err HM.out h0
        subst hz
        have h0' : (en == 0) = false := by simp [h0]
        have h0'' : ¬ en = 0 := h0
        go_wp2
        go_ret
        exact ⟨rfl, hB7⟩
    · go_wp2_with fail
      refine (shown_any _).mono ?_
      rintro _ w2 ⟨rfl, hb2⟩
      go_wp2
      go_ret
      exact ⟨rfl, hB.trans (hb2.mono hB.size)⟩
  · go_wp2_with fail
    refine (shown_any _).mono ?_
    rintro _ w2 ⟨rfl, hb2⟩
    go_wp2
    go_ret
    exact ⟨rfl, hB.trans (hb2.mono hB.size)⟩

set_option maxRecDepth 100000 in
theorem lifted (os : Os) (started : os.Started) (H : Type) (enc : TypeId × Value → H) :
    ReturnsInHanded {} Try.checked os 7 .any (Rows.treeMergesSpec.pre6 enc Try.prog Try.f7 Rows.treeMergesRow.domain false) (Rows.treeMergesSpec.post enc Try.prog Try.f7 false true false false) := by
  refine returnsInHanded_of_change (C := Try.checked) own started (by kernel_rfl) Try.func7
    (ChangeSpec.witness6 (enc := enc) (C := Try.checked) false ⟨#[], #[.slice none 0 0, .slice none 0 0], []⟩ 8 (by kernel_rfl) (by kernel_rfl) (by kernel_rfl) (by kernel_rfl)) ?_
  intro W base args ds gs before hval0 hW hcnd _
  have hval : ∀ (j : Nat) t v, Try.f7.params[j]? = some t → args[j]? = some v → Value.okWide Try.prog W .any base t v := hval0
  have hW' := hW
  obtain ⟨p, q, hA0, hV, rfl, hfz, hnd⟩ := hW
  have hA : DataW.TrodAll enc Try.prog W 0 (fun _ => true) true Try.f7.params.toList args.toList ds p := hA0
  rw [Try.params7] at hA hval
  obtain ⟨v0, vs0, d0, ds0, p0, q0, hargs, rfl, rfl, h0, r0⟩ := trodAll_cons hA
  obtain ⟨v1, vs1, d1, ds1, p1, q1, rfl, rfl, rfl, h1, r1⟩ := trodAll_cons r0
  obtain ⟨rfl, rfl, rfl⟩ := trodAll_nil r1
  obtain rfl : args = #[v0, v1] := by cases args; simp_all
  obtain ⟨rfl, rfl⟩ := trodVars_none hV
  obtain ⟨a0, g0, l0, w0, u0⟩ := open_files (hval 0 22 v0 rfl rfl) h0
  obtain ⟨a1, g1, l1, w1, u1⟩ := open_files (hval 1 22 v1 rfl rfl) h1
  clear hA0 hval0
  simp only [List.append_nil] at hW'
  refine (walk W v0 a0 g0 l0 w0 v1 a1 g1 l1 w1).mono fun e W' ⟨he, bel⟩ => ?_
  subst he
  refine ⟨_, rfl, _, _, _, [], _, [], hW', trodAll_mk1 (shut_bool Try.underlying4 _), (trodAll_cons_mk (u0 _ bel) (trodAll_cons_mk (u1 _ bel) trodAll_mk0)), rfl, bel.frame _, fun h => by cases h⟩

theorem over : Rows.treeMergesRow.holds Try.pinned (OpenSpec.ofChange Rows.treeMergesSpec) :=
  OpenClaim.holds_of_wide 7 Try.f7 rfl rfl rfl rfl rfl rfl rfl ⟨rfl, rfl, rfl, rfl, rfl⟩ rfl rfl rfl rfl rfl (by kernel_rfl) Try.func7 (by kernel_rfl)
    (of_decide_eq_true (by kernel_rfl)) (by unfold Func.isWrapper; first | (rw [if_pos (by decide +kernel)]; kernel_rfl) | (rw [if_neg (by decide +kernel)]; exact ⟨rfl, rfl⟩))
    (fun os started H enc _ => lifted os started H enc)

theorem proved : Rows.TreeMergesSaid :=
  over
#print axioms proved
end Go.Proofs.Yteffoajheolpmaa.treeMerges
