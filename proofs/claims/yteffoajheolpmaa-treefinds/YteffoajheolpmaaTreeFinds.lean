/-
  For every list of files and every text the Go function graftbedlaw02.TreeFinds returns true: a file of a tree is found under its path, with its bytes; under any other path there is none (P2.2). No condition.
-/
import Derived.Test.YteffoajheolpmaaRows
import Derived.Test.YteffoajheolpmaaL0
import Derived.Test.YteffoajheolpmaaF8
namespace Go.Proofs.Yteffoajheolpmaa.treeFinds
open Go.ChangeShapes Go.WideShapes Go.ChangeAt Go.RowKit Go.Deep
open Go.ChangeMaps (open_string shut_string)
set_option linter.unusedVariables false

theorem find_self {t : List FileB} (hu : Up t) {k : Nat} (hk : k < t.length) : findB t t[k].1 = (t[k].2, true) := by
  refine find_first hk (fun f hf e => ?_) rfl
  obtain ⟨j, hj, rfl⟩ := List.mem_iff_getElem.1 hf
  rw [List.length_take] at hj
  rw [List.getElem_take] at e
  have := up_at hu (i := j) (j := k) (by omega) hk
  rw [e, cmp_self] at this
  cases this
theorem find_has {t : List FileB} (hu : Up t) (q : ByteArray) : ∃ d, findB t q = (d, hasP t q) ∧ (hasP t q = false → d = ⟨#[]⟩) := by
  cases h : hasP t q
  · exact ⟨_, find_none h, fun _ => rfl⟩
  · obtain ⟨hp, _⟩ := has_place hu h
    exact ⟨_, find_place hu h hp, fun e => by cases e⟩
theorem has_snoc {t : List FileB} {k : Nat} (hk : k < t.length) (q : ByteArray) : hasP (t.take (k + 1)) q = (hasP (t.take k) q || (t[k].1.toList == q.toList)) := by
  unfold hasP
  rw [List.take_succ_eq_append_getElem hk, List.any_append]
  congr 1
  simp only [List.any_cons, List.any_nil, Bool.or_false]
  rw [Bool.eq_iff_iff, decide_eq_true_eq, cmp_zero, beq_iff_eq, toList_inj]
theorem tfind_v {t : List FileB} {q d : ByteArray} {b : Bool} (h : findB t q = (d, b)) (v : Value) (w : World) (hv : FRow w v t) (ht : Tree t) (h2 : q.size ≤ 20300) :
    Calls Try.prog 23 #[v, .string q] w fun e w' => e = .returned (.tuple #[.string d, .bool b]) ∧ Below w.heap.size w w' := by
  refine (tfind_any t v q w hv ht.short h2 ht.len ht.up).mono ?_
  rintro e w' ⟨rfl, hb⟩
  exact ⟨by rw [h], hb⟩
set_option maxRecDepth 100000 in
set_option maxHeartbeats 2000000 in
theorem walk (w : World) (v0 : Value) (a0 : List FileB) (r0 : FRow w v0 a0) (l0 : a0.length ≤ maxLen) (w0 : ∀ f ∈ a0, f.1.size ≤ maxLen ∧ f.2.size ≤ maxLen) (a1 : ByteArray) (w1 : a1.size ≤ maxLen) :
    Calls Try.prog 11 #[v0, .string a1] w fun e w' => e = .returned (.bool true) ∧ Below w.heap.size w w' := by
  go_enter Try.func11, Try.ntmps11
  have HW := Lib.hid r0
  obtain ⟨va, vc, rfl, hlc, -⟩ := r0
  clear w0
  go_wp2_with fail
  refine (heavy_any a0 _ _ HW.out l0).mono ?_
  rintro _ w1 ⟨b, n, rfl, hli, rfl⟩
  have HLi := Lib.hid hli
  clear hli
  have hB : Below w.heap.size w (w.drewN n) := below_drewN (Below.refl _ _) n
  cases b
  · have HL := Lib.hid (HLi.out rfl)
    by_cases h1 : a1.size ≤ 1024
    · go_wp2_with fail
      refine (shown_any _).mono ?_
      rintro _ w2 ⟨rfl, hb2⟩
      replace hB := hB.trans (hb2.mono hB.size)
      go_wp2_with fail
      refine (grown_any a0 _ _ (HW.out.below hB) HL.out).mono ?_
      rintro _ w3 ⟨A, c, t, rfl, hrow, ht, hb3⟩
      replace hB := hB.trans (hb3.mono hB.size)
      have HR := Lib.hid hrow
      have HT := Lib.hid ht
      have hfew := ht.few
      clear hrow ht hb3 hb2
      go_wp2
      go_loopw [6, 7] (fun th i wr => ∃ k : Nat, k ≤ t.length ∧ i = .int .i64 k ∧ th = .bool (hasP (t.take k) a1) ∧ Below w.heap.size w wr ∧ Below w3.heap.size w3 wr) (fun _ i _ => t.length - (intOf i).toNat)
      case atStart => exact ⟨0, Nat.zero_le _, rfl, rfl, hB, Below.refl _ _⟩
      case round =>
        obtain ⟨k, hk, rfl, rfl, hb, hb3⟩ := hrel
        by_cases hlt : k < t.length
        · have HR' := Lib.hid (HR.out.below hb3)
          obtain ⟨a', c'', e', hl', hcl⟩ := HR'.out
          cases e'
          obtain ⟨g, o, rfl, hg, hcell⟩ := hcl (by intro e; rw [e] at hlt; simp at hlt)
          obtain ⟨q1, q2⟩ := hcell k hlt
          have HF := Lib.hid (find_self HT.out.up hlt)
          have HS := Lib.hid (has_snoc hlt a1)
          have hsz : t[k].1.size ≤ 20300 := HT.out.short _ (List.getElem_mem hlt)
          clear hcell hcl
          generalize t[k] = x at *
          obtain ⟨x1, x2⟩ := x
          generalize hasP (t.take k) a1 = bh at *
          go_wp2_with fail
          refine (tfind_v HF.out _ _ HR'.out HT.out hsz).mono ?_
          rintro _ w4 ⟨rfl, hb4⟩
          have q1' := (hb4.cell (p := ⟨g, o + k * 2, none⟩) hg).trans q1
          have q2' := (hb4.cell (p := ⟨g, o + k * 2 + 1, none⟩) hg).trans q2
          have hb' := hb.trans (hb4.mono hb.size)
          have hb3' := hb3.trans (hb4.mono hb3.size)
          clear q1 q2 hb4
          cases bh
          · go_wp2
            go_roundw
            case rel => exact ⟨k + 1, by omega, by go_num, by rw [HS.out]; rfl, hb', hb3'⟩
            case measure => simp [intOf]; omega
          · go_wp2
            go_roundw
            case rel => exact ⟨k + 1, by omega, by go_num, by rw [HS.out]; rfl, hb', hb3'⟩
            case measure => simp [intOf]; omega
        · have hke : t.take k = t := List.take_of_length_le (by omega)
          rw [hke]
          clear hke
          obtain ⟨d, hf, hd⟩ := find_has HT.out.up a1
          have HD := Lib.hid hd
          have HF := Lib.hid hf
          clear hf hd
          generalize hasP t a1 = bh at *
          go_wp2_with fail
          refine (tfind_v HF.out _ _ (HR.out.below hb3) HT.out (by omega)).mono ?_
          rintro _ w4 ⟨rfl, hb4⟩
          have hb' := hb.trans (hb4.mono hb.size)
          cases bh
          · obtain rfl := HD.out rfl
            go_wp2
            go_ret
            exact ⟨rfl, hb'⟩
          · go_wp2
            go_ret
            exact ⟨rfl, hb'⟩
    · go_wp2_with fail
      refine (shown_any _).mono ?_
      rintro _ w2 ⟨rfl, hb2⟩
      go_wp2
      go_ret
      exact ⟨rfl, hB.trans (hb2.mono hB.size)⟩
  · go_wp2_with fail
    refine (shown_any _).mono ?_
    rintro _ w2 ⟨rfl, hb2⟩
    go_wp2
    go_ret
    exact ⟨rfl, hB.trans (hb2.mono hB.size)⟩

set_option maxRecDepth 100000 in
theorem lifted (os : Os) (started : os.Started) (H : Type) (enc : TypeId × Value → H) :
    ReturnsInHanded {} Try.checked os 11 .any (Rows.treeFindsSpec.pre6 enc Try.prog Try.f11 Rows.treeFindsRow.domain false) (Rows.treeFindsSpec.post enc Try.prog Try.f11 false true false false) := by
  refine returnsInHanded_of_change (C := Try.checked) own started (by kernel_rfl) Try.func11
    (ChangeSpec.witness6 (enc := enc) (C := Try.checked) false ⟨#[], #[.slice none 0 0, .string ByteArray.empty], []⟩ 8 (by kernel_rfl) (by kernel_rfl) (by kernel_rfl) (by kernel_rfl)) ?_
  intro W base args ds gs before hval0 hW hcnd _
  have hval : ∀ (j : Nat) t v, Try.f11.params[j]? = some t → args[j]? = some v → Value.okWide Try.prog W .any base t v := hval0
  have hW' := hW
  obtain ⟨p, q, hA0, hV, rfl, hfz, hnd⟩ := hW
  have hA : DataW.TrodAll enc Try.prog W 0 (fun _ => true) true Try.f11.params.toList args.toList ds p := hA0
  rw [Try.params11] at hA hval
  obtain ⟨v0, vs0, d0, ds0, p0, q0, hargs, rfl, rfl, h0, r0⟩ := trodAll_cons hA
  obtain ⟨v1, vs1, d1, ds1, p1, q1, rfl, rfl, rfl, h1, r1⟩ := trodAll_cons r0
  obtain ⟨rfl, rfl, rfl⟩ := trodAll_nil r1
  obtain rfl : args = #[v0, v1] := by cases args; simp_all
  obtain ⟨rfl, rfl⟩ := trodVars_none hV
  obtain ⟨a0, g0, l0, w0, u0⟩ := open_files (hval 0 22 v0 rfl rfl) h0
  obtain ⟨a1, rfl, rfl, rfl, w1⟩ := open_string Try.underlying9 (hval 1 9 v1 rfl rfl) h1
  clear hA0 hval0
  simp only [List.append_nil] at hW'
  refine (walk W v0 a0 g0 l0 w0 a1 w1).mono fun e W' ⟨he, bel⟩ => ?_
  subst he
  refine ⟨_, rfl, _, _, _, [], _, [], hW', trodAll_mk1 (shut_bool Try.underlying4 _), (trodAll_cons_mk (u0 _ bel) (trodAll_cons_mk (shut_string Try.underlying9 w1) trodAll_mk0)), rfl, bel.frame _, fun h => by cases h⟩

theorem over : Rows.treeFindsRow.holds Try.pinned (OpenSpec.ofChange Rows.treeFindsSpec) :=
  OpenClaim.holds_of_wide 11 Try.f11 rfl rfl rfl rfl rfl rfl rfl ⟨rfl, rfl, rfl, rfl, rfl⟩ rfl rfl rfl rfl rfl (by kernel_rfl) Try.func11 (by kernel_rfl)
    (of_decide_eq_true (by kernel_rfl)) (by unfold Func.isWrapper; first | (rw [if_pos (by decide +kernel)]; kernel_rfl) | (rw [if_neg (by decide +kernel)]; exact ⟨rfl, rfl⟩))
    (fun os started H enc _ => lifted os started H enc)

theorem proved : Rows.TreeFindsSaid :=
  over
#print axioms proved
end Go.Proofs.Yteffoajheolpmaa.treeFinds
