/-
  For every list of files and every two files the Go function graftbedlaw02.TreeTurned returns true: of two files that may both be put into a tree, one behind the other, it is the same in which order, if they have not one path (P2.2). No condition.
-/
import Derived.Test.YteffoajheolpmaaRows
import Derived.Test.YteffoajheolpmaaL0
import Derived.Test.YteffoajheolpmaaF8
import Derived.Test.YteffoajheolpmaaT1
namespace Go.Proofs.Yteffoajheolpmaa.treeTurned
open Go.ChangeShapes Go.WideShapes Go.ChangeAt Go.RowKit Go.Deep
open Go.ChangeMaps (open_string shut_string)
set_option linter.unusedVariables false

theorem row_two (w : World) (p d q e : ByteArray) : FRow (w.alloc (.cells #[.string p, .string d, .string q, .string e] 32)) (.slice (some ⟨w.heap.size, 0, none⟩) 2 2) [(p, d), (q, e)] := by
  refine ⟨_, 2, rfl, Nat.le_refl _, fun _ => ⟨w.heap.size, 0, rfl, by simp, fun i h => ?_⟩⟩
  match i, h with
  | 0, _ => exact ⟨cell_new _ _ _ 0, cell_new _ _ _ 1⟩
  | 1, _ => exact ⟨cell_new _ _ _ 2, cell_new _ _ _ 3⟩
theorem tput_n {t : List FileB} {f : FileB} {n : Int} {zs : List FileB} (he : putE t f = n) (hz : putR t f = zs) (ht : Tree t) (v : Value) (w : World) (hv : FRow w v t) (hf1 : f.1.size ≤ maxLen) (hf2 : f.2.size ≤ maxLen) :
    Calls Try.prog 21 #[v, fileV f] w (PutOut zs n w) := by rw [← he, ← hz]; exact tput_tree ht f v w hv hf1 hf2
set_option maxRecDepth 100000 in
set_option maxHeartbeats 2000000 in
theorem walk (w : World) (v0 : Value) (a0 : List FileB) (r0 : FRow w v0 a0) (l0 : a0.length ≤ maxLen) (w0 : ∀ f ∈ a0, f.1.size ≤ maxLen ∧ f.2.size ≤ maxLen) (a1 : FileB) (w1 : a1.1.size ≤ maxLen) (x1 : a1.2.size ≤ maxLen) (a2 : FileB) (w2 : a2.1.size ≤ maxLen) (x2 : a2.2.size ≤ maxLen) :
    Calls Try.prog 9 #[v0, fileV a1, fileV a2] w fun e w' => e = .returned (.bool true) ∧ Below w.heap.size w w' := by
  obtain ⟨p, d⟩ := a1
  obtain ⟨q, e⟩ := a2
  have HW := Lib.hid r0
  obtain ⟨va, vc, rfl, hlc, -⟩ := r0
  clear w0
  unfold fileV
  have hA1 : Below w.heap.size w (w.alloc (.cells #[.string p, .string d] 32)) := (Below.refl _ _).alloc (Nat.le_refl _) _
  have hA2 := hA1.alloc hA1.size (.cells #[.string q, .string e] 32)
  have hA3 := hA2.alloc hA2.size (.cells #[.string p, .string d, .string q, .string e] 32)
  have hBf := ((FBox.new w p d).alloc (.cells #[.string q, .string e] 32)).alloc (.cells #[.string p, .string d, .string q, .string e] 32)
  have hBg := (FBox.new (w.alloc (.cells #[.string p, .string d] 32)) q e).alloc (.cells #[.string p, .string d, .string q, .string e] 32)
  rw [World.size_alloc] at hBg
  have HBf := Lib.hid hBf
  have HBg := Lib.hid hBg
  have hTwo := row_two ((w.alloc (.cells #[.string p, .string d] 32)).alloc (.cells #[.string q, .string e] 32)) p d q e
  simp only [World.size_alloc] at hTwo
  have HTwo := Lib.hid hTwo
  clear hTwo
  clear hBf hBg
  go_enter Try.func9, Try.ntmps9
  go_wp2_with fail
  refine (heavy_any a0 _ _ (HW.out.below hA3) l0).mono ?_
  rintro _ w1 ⟨b, n, rfl, hli, rfl⟩
  have HLi := Lib.hid hli
  clear hli
  have hB := below_drewN hA3 n
  cases b
  · have HL := Lib.hid (HLi.out rfl)
    go_wp2_with fail
    refine (heavy_any [(p, d), (q, e)] _ _ (HTwo.out.drew n) (show 2 ≤ maxLen by decide)).mono ?_
    rintro _ w1 ⟨b, m, rfl, hli, rfl⟩
    have HLi2 := Lib.hid hli
    clear hli
    replace hB := below_drewN hA3 (n + m)
    cases b
    · have hl2 := (HLi2.out rfl).2
      have s1 : p.size ≤ 16384 ∧ d.size ≤ 16384 := hl2 (p, d) (by simp)
      have s2 : q.size ≤ 16384 ∧ e.size ≤ 16384 := hl2 (q, e) (by simp)
      clear hl2
      go_wp2_with fail
      refine (shown_any _).mono ?_
      rintro _ w2 ⟨rfl, hb2⟩
      replace hB := hB.trans (hb2.mono hB.size)
      have HF2 := Lib.hid ((HBf.out.drewN (n + m)).below hb2)
      have HG2 := Lib.hid ((HBg.out.drewN (n + m)).below hb2)
      obtain ⟨-, f0, f1⟩ := HF2.out
      obtain ⟨-, g0, g1⟩ := HG2.out
      change _ = some (Value.string p) at f0
      change _ = some (Value.string d) at f1
      change _ = some (Value.string q) at g0
      change _ = some (Value.string e) at g1
      by_cases hpq : p = q
      · have hq1 : (p.toList == q.toList) = true := by rw [hpq]; simp
        clear hpq
        go_wp2_with fail
        refine (shown_any _).mono ?_
        rintro _ w3 ⟨rfl, hb3⟩
        go_wp2
        go_ret
        exact ⟨rfl, hB.trans (hb3.mono hB.size)⟩
      · have hq1 : (p.toList == q.toList) = false := by
          rw [beq_eq_false_iff_ne]; intro h; exact hpq (toList_inj.1 h)
        have HPQ := Lib.hid hpq
        clear hpq
        go_wp2_with fail
        refine (grown_any a0 _ _ (HW.out.below hB) HL.out).mono ?_
        rintro _ w3 ⟨A, c, t, rfl, hrow, ht, hb3⟩
        replace hB := hB.trans (hb3.mono hB.size)
        have HR3 := Lib.hid hrow
        have HT := Lib.hid ht
        have HF3 := Lib.hid (HF2.out.below hb3)
        have HG3 := Lib.hid (HG2.out.below hb3)
        clear hrow ht hb3 hb2 f0 f1 g0 g1 HF2 HG2
        obtain ⟨-, f0, f1⟩ := HF3.out
        obtain ⟨-, g0, g1⟩ := HG3.out
        change _ = some (Value.string p) at f0
        change _ = some (Value.string d) at f1
        change _ = some (Value.string q) at g0
        change _ = some (Value.string e) at g1
        go_wp2_with fail
        refine (tput_tree HT.out (p, d) _ _ HR3.out (Nat.le_trans s1.1 (by decide)) (Nat.le_trans s1.2 (by decide))).mono ?_
        rintro _ w4 ⟨A4, c4, rfl, hrow4, hb4⟩
        replace hB := hB.trans (hb4.mono hB.size)
        have HR4 := Lib.hid (HR3.out.below hb4)
        have HP4 := Lib.hid hrow4
        have HF4 := Lib.hid (HF3.out.below hb4)
        have HG4 := Lib.hid (HG3.out.below hb4)
        clear hrow4 hb4 f0 f1 g0 g1 HF3 HG3 HR3
        obtain ⟨-, f0, f1⟩ := HF4.out
        obtain ⟨-, g0, g1⟩ := HG4.out
        change _ = some (Value.string p) at f0
        change _ = some (Value.string d) at f1
        change _ = some (Value.string q) at g0
        change _ = some (Value.string e) at g1
        go_wp2_with fail
        refine (tput_tree HT.out (q, e) _ _ HR4.out (Nat.le_trans s2.1 (by decide)) (Nat.le_trans s2.2 (by decide))).mono ?_
        rintro _ w5 ⟨A5, c5, rfl, hrow5, hb5⟩
        replace hB := hB.trans (hb5.mono hB.size)
        have HR5 := Lib.hid (HP4.out.below hb5)
        have HP5 := Lib.hid hrow5
        have HF5 := Lib.hid (HF4.out.below hb5)
        have HG5 := Lib.hid (HG4.out.below hb5)
        clear hrow5 hb5 f0 f1 g0 g1 HF4 HG4 HR4 HP4
        obtain ⟨-, f0, f1⟩ := HF5.out
        obtain ⟨-, g0, g1⟩ := HG5.out
        change _ = some (Value.string p) at f0
        change _ = some (Value.string d) at f1
        change _ = some (Value.string q) at g0
        change _ = some (Value.string e) at g1
        by_cases he1 : putE t (p, d) = 0
        · by_cases he2 : putE t (q, e) = 0
          · have HE := Lib.hid (turn_E HT.out.up (f := (p, d)) (g := (q, e)) HPQ.out he1 he2)
            have HRR := Lib.hid (turn_R HT.out.up (f := (p, d)) (g := (q, e)) HPQ.out he1 he2)
            have HT1 := Lib.hid (HT.out.put he1)
            have HT2 := Lib.hid (HT.out.put he2)
            have HR5' := Lib.hid HR5.out
            have HP5' := Lib.hid HP5.out
            rw [putR_yes he1] at HR5' ⊢
            rw [putR_yes he2] at HP5' ⊢
            rw [he1, he2]
            clear he1 he2 HR5 HP5
            generalize putL t (p, d) = t1 at *
            generalize putL t (q, e) = t2 at *
            go_wp2_with fail
            refine (tput_tree HT1.out (q, e) _ _ HR5'.out (Nat.le_trans s2.1 (by decide)) (Nat.le_trans s2.2 (by decide))).mono ?_
            rintro _ w6 ⟨A6, c6, rfl, hrow6, hb6⟩
            replace hB := hB.trans (hb6.mono hB.size)
            have HR6 := Lib.hid hrow6
            have HP6 := Lib.hid (HP5'.out.below hb6)
            have HF6 := Lib.hid (HF5.out.below hb6)
            clear hrow6 hb6 f0 f1 g0 g1 HF5 HG5 HR5' HP5'
            obtain ⟨-, f0, f1⟩ := HF6.out
            change _ = some (Value.string p) at f0
            change _ = some (Value.string d) at f1
            go_wp2_with fail
            refine (tput_tree HT2.out (p, d) _ _ HP6.out (Nat.le_trans s1.1 (by decide)) (Nat.le_trans s1.2 (by decide))).mono ?_
            rintro _ w7 ⟨A7, c7, rfl, hrow7, hb7⟩
            replace hB := hB.trans (hb7.mono hB.size)
            have HR7 := Lib.hid (HR6.out.below hb7)
            have HP7 := Lib.hid hrow7
            have hlen : (putR t1 (q, e)).length ≤ 1000 := by
              have h1 := (HT1.out).few
              unfold putR
              split
              · rename_i hh; have := (putE_zero hh).2.2.2; omega
              · simp
            rw [HE.out]
            clear hrow7 hb7 f0 f1
            generalize putE t2 (p, d) = ee at *
            have hee : (ee == ee) = true := by simp
            go_wp2_with fail
            refine (rsame_any _ _ _ _ _ HR7.out HP7.out hlen).mono ?_
            rintro _ w8 ⟨rfl, n8, rfl⟩
            have HSm := Lib.hid (show sameF (putR t1 (q, e)) (putR t2 (p, d)) = true by rw [HRR.out]; simp [sameF])
            rw [HSm.out]
            go_wp2
            go_ret
            exact ⟨rfl, below_drewN hB _⟩
          · have HZ := Lib.hid (show putR t (q, e) = [] from putR_no rfl he2)
            rw [HZ.out]
            rw [putR_yes he1, he1]
            have he2' : (putE t (q, e) == 0) = false := by simp [he2]
            have he2'' : (putE t (q, e) != 0) = true := by simp [he2]
            clear he1 he2
            go_wp2
            all_goals
              go_ret
              exact ⟨rfl, hB⟩
        · have HZ := Lib.hid (show putR t (p, d) = [] from putR_no rfl he1)
          rw [HZ.out]
          have he1' : (putE t (p, d) == 0) = false := by simp [he1]
          have he1'' : (putE t (p, d) != 0) = true := by simp [he1]
          clear he1
          go_wp2
          all_goals
            go_ret
            exact ⟨rfl, hB⟩
    · go_wp2_with fail
      refine (shown_any _).mono ?_
      rintro _ w2 ⟨rfl, hb2⟩
      go_wp2
      go_ret
      exact ⟨rfl, hB.trans (hb2.mono hB.size)⟩
  · go_wp2_with fail
    refine (shown_any _).mono ?_
    rintro _ w2 ⟨rfl, hb2⟩
    go_wp2
    go_ret
    exact ⟨rfl, hB.trans (hb2.mono hB.size)⟩

set_option maxRecDepth 100000 in
theorem lifted (os : Os) (started : os.Started) (H : Type) (enc : TypeId × Value → H) :
    ReturnsInHanded {} Try.checked os 9 .any (Rows.treeTurnedSpec.pre6 enc Try.prog Try.f9 Rows.treeTurnedRow.domain false) (Rows.treeTurnedSpec.post enc Try.prog Try.f9 false true false false) := by
  refine returnsInHanded_of_change (C := Try.checked) own started (by kernel_rfl) Try.func9
    (ChangeSpec.witness6 (enc := enc) (C := Try.checked) false ⟨#[], #[.slice none 0 0, .agg #[.string ByteArray.empty, .string ByteArray.empty], .agg #[.string ByteArray.empty, .string ByteArray.empty]], []⟩ 8 (by kernel_rfl) (by kernel_rfl) (by kernel_rfl) (by kernel_rfl)) ?_
  intro W base args ds gs before hval0 hW hcnd _
  have hval : ∀ (j : Nat) t v, Try.f9.params[j]? = some t → args[j]? = some v → Value.okWide Try.prog W .any base t v := hval0
  have hW' := hW
  obtain ⟨p, q, hA0, hV, rfl, hfz, hnd⟩ := hW
  have hA : DataW.TrodAll enc Try.prog W 0 (fun _ => true) true Try.f9.params.toList args.toList ds p := hA0
  rw [Try.params9] at hA hval
  obtain ⟨v0, vs0, d0, ds0, p0, q0, hargs, rfl, rfl, h0, r0⟩ := trodAll_cons hA
  obtain ⟨v1, vs1, d1, ds1, p1, q1, rfl, rfl, rfl, h1, r1⟩ := trodAll_cons r0
  obtain ⟨v2, vs2, d2, ds2, p2, q2, rfl, rfl, rfl, h2, r2⟩ := trodAll_cons r1
  obtain ⟨rfl, rfl, rfl⟩ := trodAll_nil r2
  obtain rfl : args = #[v0, v1, v2] := by cases args; simp_all
  obtain ⟨rfl, rfl⟩ := trodVars_none hV
  obtain ⟨a0, g0, l0, w0, u0⟩ := open_files (hval 0 22 v0 rfl rfl) h0
  obtain ⟨a1, rfl, w1, x1, u1⟩ := open_file (hval 1 32 v1 rfl rfl) h1
  obtain ⟨a2, rfl, w2, x2, u2⟩ := open_file (hval 2 32 v2 rfl rfl) h2
  clear hA0 hval0
  simp only [List.append_nil] at hW'
  refine (walk W v0 a0 g0 l0 w0 a1 w1 x1 a2 w2 x2).mono fun e W' ⟨he, bel⟩ => ?_
  subst he
  refine ⟨_, rfl, _, _, _, [], _, [], hW', trodAll_mk1 (shut_bool Try.underlying4 _), (trodAll_cons_mk (u0 _ bel) (trodAll_cons_mk (u1 _ _) (trodAll_cons_mk (u2 _ _) trodAll_mk0))), rfl, bel.frame _, fun h => by cases h⟩

theorem over : Rows.treeTurnedRow.holds Try.pinned (OpenSpec.ofChange Rows.treeTurnedSpec) :=
  OpenClaim.holds_of_wide 9 Try.f9 rfl rfl rfl rfl rfl rfl rfl ⟨rfl, rfl, rfl, rfl, rfl⟩ rfl rfl rfl rfl rfl (by kernel_rfl) Try.func9 (by kernel_rfl)
    (of_decide_eq_true (by kernel_rfl)) (by unfold Func.isWrapper; first | (rw [if_pos (by decide +kernel)]; kernel_rfl) | (rw [if_neg (by decide +kernel)]; exact ⟨rfl, rfl⟩))
    (fun os started H enc _ => lifted os started H enc)

theorem proved : Rows.TreeTurnedSaid :=
  over
#print axioms proved
end Go.Proofs.Yteffoajheolpmaa.treeTurned
