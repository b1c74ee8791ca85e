/-
  For every two texts, the first is made canonical as the document says, is alike and stays; two canonical versions that are alike are one but for what is incompatible; the variables that the row lists are as the program's own text lays them.
-/
import Derived.Test.YtoljpmelfebjoaaDoorRows
import Derived.Test.YtoljpmelfebjoaaDoorCards
import Derived.Test.YtoljpmelfebjoaaDoorTie
import Derived.Test.YtoljpmelfebjoaaDoorL0
import Derived.Test.YtoljpmelfebjoaaDoorP14
import Derived.Test.YtoljpmelfebjoaaDoorP15
import Derived.SevenTiedAt
import Derived.Lib.QuietBelow
import Derived.BigQuiet
namespace Go.Proofs.YtoljpmelfebjoaaDoor.semverCanonical
open Go.ChangeShapes Go.WideShapes Go.ChangeAt Go.RowKit Go.Shelf
open Go.ChangeMaps (open_string shut_string)
set_option linter.unusedVariables false

theorem canon_at (a : ByteArray) (ha : a.size ≤ 1024) {c : ByteArray} (h : canonS a = c) (w : World) :
    Calls Tryd.prog 19 #[.string a] w fun e w' => e = .returned (.string c) ∧ Below w.heap.size w w' :=
  (canon_any a (by omega) w).mono fun _ _ k => ⟨by rw [k.1, h], k.2⟩
theorem rcanon_at (a : ByteArray) (ha : a.size ≤ 1024) {c : ByteArray} (h : canonS a = c) (w : World) :
    Calls Tryd.prog 20 #[.string a] w fun e w' => e = .returned (.string c) ∧ Below w.heap.size w w' :=
  (rcanon_any a (by omega) w).mono fun _ _ k => ⟨by rw [k.1, h], k.2⟩
theorem compare_at (a b : ByteArray) (ha : a.size ≤ 1024) (hb : b.size ≤ 1024) {n : Int} (h : scmp a.data.toList b.data.toList = n) (w : World) :
    Calls Tryd.prog 15 #[.string a, .string b] w fun e w' => e = .returned (.int .i64 n) ∧ Below w.heap.size w w' :=
  (compare_any' a b (by omega) (by omega) w).mono fun _ _ k => ⟨by rw [k.1, h], k.2⟩
theorem example1 : canonS ⟨#[118, 49, 46, 50, 46, 51, 43, 120]⟩ = ⟨#[118, 49, 46, 50, 46, 51]⟩ := by decide +kernel
theorem example2 : okV (⟨#[118, 48, 46, 48, 46, 48, 45, 48]⟩ : ByteArray).data.toList = true := by decide +kernel
theorem full {a : ByteArray} (h : okV a.data.toList = true) : a.toList.isEmpty = false := by
  rw [Lib.toList_data]
  cases e : a.data.toList with
  | nil => exact absurd e (okV_ne h)
  | cons x r => rfl
theorem cmp_all {c d : ByteArray} (hc : okV c.data.toList = true) (hd : okV d.data.toList = true) {v u : Ver} (hv : v = verL c.data.toList) (hu : u = verL d.data.toList) :
    ((scmp c.data.toList d.data.toList == 0) = true ∧ (v.ma == u.ma) = true ∧ (v.mi == u.mi) = true ∧ (v.pa == u.pa) = true ∧ (v.pre.toList == u.pre.toList) = true) ∨
    ((scmp c.data.toList d.data.toList == 0) = false ∧ ((v.ma == u.ma) = false ∨ (v.ma == u.ma) = true ∧ ((v.mi == u.mi) = false ∨ (v.mi == u.mi) = true ∧ ((v.pa == u.pa) = false ∨ (v.pa == u.pa) = true ∧ (v.pre.toList == u.pre.toList) = false)))) := by
  have key : scmp c.data.toList d.data.toList = 0 ↔ v.ma = u.ma ∧ v.mi = u.mi ∧ v.pa = u.pa ∧ v.pre = u.pre := by rw [scmp_both hc hd, ← hv, ← hu, vcmp_zero]
  have pk : (v.pre.toList == u.pre.toList) = true ↔ v.pre = u.pre := by
    rw [beq_iff_eq, Lib.toList_data, Lib.toList_data]
    exact ⟨data_inj, fun h => by rw [h]⟩
  by_cases h : scmp c.data.toList d.data.toList = 0
  · obtain ⟨h0, h1, h2, h3⟩ := key.1 h
    exact .inl ⟨by simp [h], by simp [h0], by simp [h1], by simp [h2], pk.2 h3⟩
  · refine .inr ⟨by simp [h], ?_⟩
    by_cases h0 : v.ma = u.ma
    · refine .inr ⟨by simp [h0], ?_⟩
      by_cases h1 : v.mi = u.mi
      · refine .inr ⟨by simp [h1], ?_⟩
        by_cases h2 : v.pa = u.pa
        · refine .inr ⟨by simp [h2], ?_⟩
          cases h3 : (v.pre.toList == u.pre.toList)
          · rfl
          · exact absurd (key.2 ⟨h0, h1, h2, pk.1 h3⟩) h
        · exact .inl (by simp [h2])
      · exact .inl (by simp [h1])
    · exact .inl (by simp [h0])
set_option maxRecDepth 100000 in
set_option maxHeartbeats 4000000 in
theorem walk (w : World) (a0 : ByteArray) (w0 : a0.size ≤ maxLen) (a1 : ByteArray) (w1 : a1.size ≤ maxLen) :
    Calls Tryd.prog 6 #[.string a0, .string a1] w fun e w' => e = .returned (.bool true) ∧ Below w.heap.size w w' := by
  have hB := Below.refl w.heap.size w
  by_cases k0 : a0.size ≤ 1024
  · by_cases k1 : a1.size ≤ 1024
    · have y0 := canon_size a0
      have y1 := canon_size a1
      have OK0 := Lib.hid (fun h => canon_ok (s := a0) h)
      have OK1 := Lib.hid (fun h => canon_ok (s := a1) h)
      have CM := Lib.hid (fun h => canon_cmp (s := a0) h)
      have E0 := Lib.hid (fun h => canon_1 (s := a0) h)
      have E1 := Lib.hid (fun h => canon_1 (s := a1) h)
      have ID := Lib.hid (canon_idem a0)
      obtain ⟨c, hc⟩ : ∃ c, canonS a0 = c := ⟨_, rfl⟩
      obtain ⟨d, hd⟩ : ∃ d, canonS a1 = d := ⟨_, rfl⟩
      rw [hc] at y0 OK0 CM E0 ID
      rw [hd] at y1 OK1 E1
      have HC := Lib.hid hc
      have HD := Lib.hid hd
      clear hc hd
      go_enter Tryd.func6, Tryd.ntmps6
      go_wp2_with fail
      refine (canon_at a0 k0 HC.out _).mono ?_
      rintro _ w' ⟨rfl, hb'⟩
      replace hB := hB.trans (hb'.mono hB.size)
      clear hb'
      go_wp2_with fail
      refine (canon_at a1 k1 HD.out _).mono ?_
      rintro _ w' ⟨rfl, hb'⟩
      replace hB := hB.trans (hb'.mono hB.size)
      clear hb'
      go_wp2_with fail
      refine (rcanon_at a0 k0 HC.out _).mono ?_
      rintro _ w' ⟨rfl, hb'⟩
      replace hB := hB.trans (hb'.mono hB.size)
      clear hb'
      go_wp2_with fail
      refine (canon_at c (by omega) ID.out _).mono ?_
      rintro _ w' ⟨rfl, hb'⟩
      replace hB := hB.trans (hb'.mono hB.size)
      clear hb'
      go_wp2_with fail
      refine (canon_at _ (by decide) example1 _).mono ?_
      rintro _ w' ⟨rfl, hb'⟩
      replace hB := hB.trans (hb'.mono hB.size)
      clear hb'
      cases ea : okV a0.data.toList
      · have HE := E0.out ea
        have hce : c.toList.isEmpty = true := by rw [HE, Lib.toList_data]; rfl
        clear HE
        go_wp2_with fail
        refine (compare_at _ _ k0 (by decide) (scmp_left ea example2) _).mono ?_
        rintro _ w' ⟨rfl, hb'⟩
        replace hB := hB.trans (hb'.mono hB.size)
        clear hb'
        go_wp2
        go_ret
        exact ⟨rfl, hB⟩
      · have oc := OK0.out ea
        have HCM := Lib.hid (CM.out ea)
        have hce := full oc
        cases eb : okV a1.data.toList
        · have HE := E1.out eb
          have hde : d.toList.isEmpty = true := by rw [HE, Lib.toList_data]; rfl
          clear HE
          go_wp2
          go_ret
          exact ⟨rfl, hB⟩
        · have od := OK1.out eb
          have hde := full od
          clear ea eb
          go_wp2_with fail
          refine (rparse_any c (by omega) _).mono ?_
          rintro _ w1 ⟨rfl, hb1⟩
          replace hB := hB.trans (hb1.mono hB.size)
          clear hb1
          unfold retP verV
          obtain ⟨v, hv⟩ : ∃ v, v = verL c.data.toList := ⟨_, rfl⟩
          rw [← hv, err_yes oc]
          have HV := Lib.hid hv
          clear hv
          have hc1 := VerC.of w1 27 v
          replace hB := hB.alloc hB.size (.cells #[.int .i64 v.ma, .int .i64 v.mi, .int .i64 v.pa, .string v.pre, .string v.mta] 27)
          go_wp2_with fail
          generalize w1.alloc (.cells #[.int .i64 v.ma, .int .i64 v.mi, .int .i64 v.pa, .string v.pre, .string v.mta] 27) = w1' at *
          refine (rparse_any d (by omega) _).mono ?_
          rintro _ w2 ⟨rfl, hb2⟩
          unfold retP verV
          obtain ⟨u, hu⟩ : ∃ v, v = verL d.data.toList := ⟨_, rfl⟩
          rw [← hu, err_yes od]
          have HU := Lib.hid hu
          clear hu
          replace hc1 := hc1.below hb2
          replace hB := hB.trans (hb2.mono hB.size)
          have hc2 := VerC.of w2 27 u
          replace hc1 := hc1.kept (World.grownBy_alloc w2 (.cells #[.int .i64 u.ma, .int .i64 u.mi, .int .i64 u.pa, .string u.pre, .string u.mta] 27) none) (fun r e => by cases e)
          replace hB := hB.alloc hB.size (.cells #[.int .i64 u.ma, .int .i64 u.mi, .int .i64 u.pa, .string u.pre, .string u.mta] 27)
          have CA := Lib.hid (cmp_all oc od HV.out HU.out)
          clear hb2 oc od
          obtain ⟨m, hm⟩ : ∃ m, scmp c.data.toList d.data.toList = m := ⟨_, rfl⟩
          rw [hm] at CA
          have HM := Lib.hid hm
          clear hm
          go_wp2_with fail
          generalize w2.alloc (.cells #[.int .i64 u.ma, .int .i64 u.mi, .int .i64 u.pa, .string u.pre, .string u.mta] 27) = w3 at *
          have hz1 := World.block_lt_of_cell? _ _ hc1.c0.cell
          have hz2 := World.block_lt_of_cell? _ _ hc2.c0.cell
          dsimp only at hz1 hz2
          have q0 := hc1.c0.cell
          have q1 := hc1.c1.cell
          have q2 := hc1.c2.cell
          have q3 := hc1.c3.cell
          have r0 := hc2.c0.cell
          have r1 := hc2.c1.cell
          have r2 := hc2.c2.cell
          have r3 := hc2.c3.cell
          clear hc1 hc2
          have cA : ∀ d' os, Calls Tryd.prog 15 #[.string a0, .string c] (Sort.grow (redrawn w3 d') os) (fun e w'' => e = .returned (.int .i64 0) ∧ ∃ p : Regrown, w'' = Sort.grow (redrawn w3 p.d) p.os) := fun d' os => Calls.regrown_of (compare_at a0 c k0 (by omega) HCM.out _)
          have cB : ∀ d' os, Calls Tryd.prog 15 #[.string c, .string d] (Sort.grow (redrawn w3 d') os) (fun e w'' => e = .returned (.int .i64 m) ∧ ∃ p : Regrown, w'' = Sort.grow (redrawn w3 p.d) p.os) := fun d' os => Calls.regrown_of (compare_at c d (by omega) (by omega) HM.out _)
          have kq0 := cell_regrown q0
          have kq1 := cell_regrown q1
          have kq2 := cell_regrown q2
          have kq3 := cell_regrown q3
          have kr0 := cell_regrown r0
          have kr1 := cell_regrown r1
          have kr2 := cell_regrown r2
          have kr3 := cell_regrown r3
          clear q0 q1 q2 q3 r0 r1 r2 r3
          rcases CA.out with ⟨gn, g0, g1, g2, g3⟩ | ⟨gn, g0 | ⟨g0, g1 | ⟨g1, g2 | ⟨g2, g3⟩⟩⟩⟩
          · refine wp_region_quiet_below (by kernel_rfl) (by kernel_rfl) ?_
            repeat (go_big_quiet_step (first | with_reducible exact cA _ _ | with_reducible exact cB _ _))
            refine wpQuiet_nil ?_
            intro _ hw'
            obtain ⟨⟨dq, osq⟩, hw''⟩ := hw'
            subst hw''
            go_wp2
            go_ret
            exact ⟨rfl, hB.trans ((below_regrown w3 dq osq).mono hB.size)⟩
          · refine wp_region_quiet_below (by kernel_rfl) (by kernel_rfl) ?_
            repeat (go_big_quiet_step (first | with_reducible exact cA _ _ | with_reducible exact cB _ _))
            refine wpQuiet_nil ?_
            intro _ hw'
            obtain ⟨⟨dq, osq⟩, hw''⟩ := hw'
            subst hw''
            go_wp2
            go_ret
            exact ⟨rfl, hB.trans ((below_regrown w3 dq osq).mono hB.size)⟩
          · refine wp_region_quiet_below (by kernel_rfl) (by kernel_rfl) ?_
            repeat (go_big_quiet_step (first | with_reducible exact cA _ _ | with_reducible exact cB _ _))
            refine wpQuiet_nil ?_
            intro _ hw'
            obtain ⟨⟨dq, osq⟩, hw''⟩ := hw'
            subst hw''
            go_wp2
            go_ret
            exact ⟨rfl, hB.trans ((below_regrown w3 dq osq).mono hB.size)⟩
          · refine wp_region_quiet_below (by kernel_rfl) (by kernel_rfl) ?_
            repeat (go_big_quiet_step (first | with_reducible exact cA _ _ | with_reducible exact cB _ _))
            refine wpQuiet_nil ?_
            intro _ hw'
            obtain ⟨⟨dq, osq⟩, hw''⟩ := hw'
            subst hw''
            go_wp2
            go_ret
            exact ⟨rfl, hB.trans ((below_regrown w3 dq osq).mono hB.size)⟩
          · refine wp_region_quiet_below (by kernel_rfl) (by kernel_rfl) ?_
            repeat (go_big_quiet_step (first | with_reducible exact cA _ _ | with_reducible exact cB _ _))
            refine wpQuiet_nil ?_
            intro _ hw'
            obtain ⟨⟨dq, osq⟩, hw''⟩ := hw'
            subst hw''
            go_wp2
            go_ret
            exact ⟨rfl, hB.trans ((below_regrown w3 dq osq).mono hB.size)⟩
    · go_enter Tryd.func6, Tryd.ntmps6
      go_wp2
      go_ret
      exact ⟨rfl, Below.refl _ _⟩
  · go_enter Tryd.func6, Tryd.ntmps6
    go_wp2
    go_ret
    exact ⟨rfl, Below.refl _ _⟩

set_option maxRecDepth 100000 in
theorem lifted (os : Os) (started : os.Started) (H : Type) (enc : TypeId × Value → H) :
    ReturnsInHanded {} Tryd.checked os 6 .any (fun w args => (Rows.semverCanonicalSpec.pre enc Tryd.prog Tryd.f6 Rows.semverCanonicalRow.domain false w args ∧ laidMetH Tryd.prog laid0 w) ∧ sizedMet enc Tryd.prog Tryd.f6 (OpenSpec.ofChange Rows.semverCanonicalSpec) false w args)
      (Rows.semverCanonicalSpec.post enc Tryd.prog Tryd.f6 false true false false) := by
  refine returnsInHanded_of_change_and (C := Tryd.checked) (X := fun w _ => laidMetH Tryd.prog laid0 w) (fun _ _ _ hh h => h.of_heap hh) own started (by kernel_rfl) Tryd.func6
    (ChangeSpec.witness_shaped (enc := enc) (C := Tryd.checked) (os := os) (X := fun w _ => laidMetH Tryd.prog laid0 w) false (World.doorLaid Tryd.prog 62 os) #[.string ByteArray.empty, .string ByteArray.empty] 8 rfl (World.shaped_of_RefB (by kernel_rfl) (by kernel_rfl)) (by kernel_rfl) (by kernel_rfl) (by kernel_rfl) (door_met os _)) ?_
  intro W base args ds gs before hval0 hW _ _ hL _
  have hval : ∀ (j : Nat) t v, Tryd.f6.params[j]? = some t → args[j]? = some v → Value.okWide Tryd.prog W .any base t v := hval0
  have hW' := hW
  obtain ⟨p, q, hA0, hV, rfl, hfz, hnd⟩ := hW
  have hA : DataW.TrodAll enc Tryd.prog W 0 (fun _ => true) true Tryd.f6.params.toList args.toList ds p := hA0
  rw [Tryd.params6] at hA hval
  obtain ⟨v0, vs0, d0, ds0, p0, q0, hargs, rfl, rfl, h0, r0⟩ := trodAll_cons hA
  obtain ⟨v1, vs1, d1, ds1, p1, q1, rfl, rfl, rfl, h1, r1⟩ := trodAll_cons r0
  obtain ⟨rfl, rfl, rfl⟩ := trodAll_nil r1
  obtain rfl : args = #[v0, v1] := by cases args; simp_all
  obtain ⟨rfl, rfl⟩ := trodVars_none hV
  obtain ⟨a0, rfl, rfl, rfl, w0⟩ := open_string Tryd.underlying9 (hval 0 9 v0 rfl rfl) h0
  obtain ⟨a1, rfl, rfl, rfl, w1⟩ := open_string Tryd.underlying9 (hval 1 9 v1 rfl rfl) h1
  clear hA0 hval0
  simp only [List.append_nil] at hW'
  refine (walk W a0 w0 a1 w1).mono fun e W' ⟨he, bel⟩ => ?_
  subst he
  exact ⟨_, rfl, _, _, _, [], [], [], hW', trodAll_mk1 (shut_bool Tryd.underlying4 _), (trodAll_cons_mk (shut_string Tryd.underlying9 w0) (trodAll_cons_mk (shut_string Tryd.underlying9 w1) trodAll_mk0)), rfl, bel.frame _, fun h => by cases h⟩

theorem over : Rows.semverCanonicalRow.holds Tryd.pinned (OpenSpec.ofChange Rows.semverCanonicalSpec) :=
  OpenClaim.holds_of_wide 6 Tryd.f6 rfl rfl rfl rfl rfl rfl rfl ⟨rfl, rfl, rfl, rfl, rfl⟩ rfl rfl rfl rfl rfl (by kernel_rfl) Tryd.func6 (by kernel_rfl)
    (of_decide_eq_true (by kernel_rfl)) (by unfold Func.isWrapper; first | (rw [if_pos (by decide +kernel)]; kernel_rfl) | (rw [if_neg (by decide +kernel)]; exact ⟨rfl, rfl⟩))
    (fun os started H enc _ => lifted os started H enc)

theorem proved : Rows.SemverCanonicalCardSaid :=
  Claim7.holds_tied_plain_at .later [] [.data, .data, .data, .sentinel, .sentinel] true (true, "cad1ac15bbe0d173cc4ad633fce6cf0f3dc5bbd550a450317c015fae4feb8bb4") true
    over (fun _ h => by cases h) (by kernel_rfl) (fun _ h => by cases h) semverCanonical_row_tie rfl ⟨rfl, rfl⟩ (by kernel_rfl) rfl
    (fun f fn hf hfn => by
      obtain rfl : f = 6 := Option.some.inj ((show Tryd.prog.funcNamed "graftbed/graftbedlaw03.SemverCanonical" = some 6 by kernel_rfl).symm.trans hf) |>.symm
      obtain rfl : fn = Tryd.f6 := (Option.some.inj (Tryd.func6.symm.trans hfn)).symm
      exact ⟨by kernel_rfl, fun j t ht => by
        rw [Tryd.params6] at ht
        have hm : t ∈ [9, 9] := by simpa using Array.mem_of_getElem? ht
        have hall : ([9, 9].all fun u => !Tryd.prog.wantsStandIn u) = true := by kernel_rfl
        exact (show Tryd.prog.wantsStandIn t = false by simpa using List.all_eq_true.1 hall t hm)⟩)
    (by kernel_rfl)
#print axioms proved
end Go.Proofs.YtoljpmelfebjoaaDoor.semverCanonical
