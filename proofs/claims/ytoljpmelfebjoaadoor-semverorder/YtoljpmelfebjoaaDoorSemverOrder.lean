/-
  For every three texts, the order of versions and the greater one are the document's, one way round and the other, and of three it goes on; the variables that the row lists are as the program's own text lays them.
-/
import Derived.Test.YtoljpmelfebjoaaDoorRows
import Derived.Test.YtoljpmelfebjoaaDoorCards
import Derived.Test.YtoljpmelfebjoaaDoorTie
import Derived.Test.YtoljpmelfebjoaaDoorL0
import Derived.Test.YtoljpmelfebjoaaDoorP14
import Derived.SevenTiedAt
namespace Go.Proofs.YtoljpmelfebjoaaDoor.semverOrder
open Go.ChangeShapes Go.WideShapes Go.ChangeAt Go.RowKit Go.Shelf
open Go.ChangeMaps (open_string shut_string)
set_option linter.unusedVariables false

theorem compare_at (a b : ByteArray) (ha : a.size ≤ 1024) (hb : b.size ≤ 1024) {n : Int} (h : scmp a.data.toList b.data.toList = n) (w : World) :
    Calls Tryd.prog 15 #[.string a, .string b] w fun e w' => e = .returned (.int .i64 n) ∧ Below w.heap.size w w' :=
  (compare_any' a b (by omega) (by omega) w).mono fun _ _ k => ⟨by rw [k.1, h], k.2⟩
theorem rcompare_at (a b : ByteArray) (ha : a.size ≤ 1024) (hb : b.size ≤ 1024) {n : Int} (h : scmp a.data.toList b.data.toList = n) (w : World) :
    Calls Tryd.prog 17 #[.string a, .string b] w fun e w' => e = .returned (.int .i64 n) ∧ Below w.heap.size w w' :=
  (rcompare_any a b (by omega) (by omega) w).mono fun _ _ k => ⟨by rw [k.1, h], k.2⟩
theorem max_at (a b : ByteArray) (ha : a.size ≤ 1024) (hb : b.size ≤ 1024) {m : ByteArray} (h : maxS a b = m) (w : World) :
    Calls Tryd.prog 16 #[.string a, .string b] w fun e w' => e = .returned (.string m) ∧ Below w.heap.size w w' :=
  (max_any a b (by omega) (by omega) w).mono fun _ _ k => ⟨by rw [k.1, h], k.2⟩
theorem rmax_at (a b : ByteArray) (ha : a.size ≤ 1024) (hb : b.size ≤ 1024) {m : ByteArray} (h : maxS a b = m) (w : World) :
    Calls Tryd.prog 18 #[.string a, .string b] w fun e w' => e = .returned (.string m) ∧ Below w.heap.size w w' :=
  (rmax_any a b (by omega) (by omega) w).mono fun _ _ k => ⟨by rw [k.1, h], k.2⟩
theorem example1 : scmp (⟨#[118, 49, 46, 48, 46, 48, 45, 97]⟩ : ByteArray).data.toList (⟨#[118, 49, 46, 48, 46, 48]⟩ : ByteArray).data.toList = -1 := by decide +kernel
theorem back {a b : List UInt8} {n : Int} (h : scmp a b = n) : scmp b a = -n := by rw [scmp_cmp.neg a b, h]
theorem self (a : List UInt8) : scmp a a = 0 := scmp_cmp.self a
set_option maxRecDepth 100000 in
set_option maxHeartbeats 4000000 in
theorem walk (w : World) (a0 : ByteArray) (w0 : a0.size ≤ maxLen) (a1 : ByteArray) (w1 : a1.size ≤ maxLen) (a2 : ByteArray) (w2 : a2.size ≤ maxLen) :
    Calls Tryd.prog 5 #[.string a0, .string a1, .string a2] w fun e w' => e = .returned (.bool true) ∧ Below w.heap.size w w' := by
  by_cases k0 : a0.size ≤ 1024
  · by_cases k1 : a1.size ≤ 1024
    · by_cases k2 : a2.size ≤ 1024
      · have hB := Below.refl w.heap.size w
        have RC := Lib.hid (scmp_cmp.range a1.data.toList a2.data.toList)
        have TR := Lib.hid (scmp_cmp.trans a0.data.toList a1.data.toList a2.data.toList)
        have R0 := Lib.hid (scmp_cmp.range a0.data.toList a2.data.toList)
        rcases scmp_cmp.range a0.data.toList a1.data.toList with h | h | h
        · have HA := Lib.hid h
          have HBk := Lib.hid (back h)
          have HM := Lib.hid (max_1 (a := a0) (b := a1) (by rw [h]; decide))
          clear h
          go_enter Tryd.func5, Tryd.ntmps5
          go_wp2_with fail
          refine (compare_at a0 a1 k0 k1 HA.out _).mono ?_
          rintro _ w' ⟨rfl, hb'⟩
          replace hB := hB.trans (hb'.mono hB.size)
          clear hb'
          go_wp2_with fail
          refine (max_at a0 a1 k0 k1 HM.out _).mono ?_
          rintro _ w' ⟨rfl, hb'⟩
          replace hB := hB.trans (hb'.mono hB.size)
          clear hb'
          go_wp2_with fail
          refine (rcompare_at a0 a1 k0 k1 HA.out _).mono ?_
          rintro _ w' ⟨rfl, hb'⟩
          replace hB := hB.trans (hb'.mono hB.size)
          clear hb'
          go_wp2_with fail
          refine (compare_at a1 a0 k1 k0 HBk.out _).mono ?_
          rintro _ w' ⟨rfl, hb'⟩
          replace hB := hB.trans (hb'.mono hB.size)
          clear hb'
          go_wp2_with fail
          refine (compare_at a0 a0 k0 k0 (self _) _).mono ?_
          rintro _ w' ⟨rfl, hb'⟩
          replace hB := hB.trans (hb'.mono hB.size)
          clear hb'
          go_wp2_with fail
          refine (rmax_at a0 a1 k0 k1 HM.out _).mono ?_
          rintro _ w' ⟨rfl, hb'⟩
          replace hB := hB.trans (hb'.mono hB.size)
          clear hb'
          rcases RC.out with k | k | k
          · go_wp2_with fail
            refine (compare_at a1 a2 k1 k2 k _).mono ?_
            rintro _ w' ⟨rfl, hb'⟩
            replace hB := hB.trans (hb'.mono hB.size)
            clear hb'
            obtain ⟨x, hx⟩ : ∃ x, scmp a0.data.toList a2.data.toList = x := ⟨_, rfl⟩
            have hx0 : x ≤ 0 := by rw [← hx]; exact (TR.out (by rw [HA.out]; decide) (by rw [k]; decide)).1
            go_wp2_with fail
            refine (compare_at a0 a2 k0 k2 hx _).mono ?_
            rintro _ w' ⟨rfl, hb'⟩
            replace hB := hB.trans (hb'.mono hB.size)
            clear hb'
            clear hx
            go_wp2_with fail
            refine (compare_at a1 a0 k1 k0 HBk.out _).mono ?_
            rintro _ w' ⟨rfl, hb'⟩
            replace hB := hB.trans (hb'.mono hB.size)
            clear hb'
            go_wp2_with fail
            refine (compare_at a1 a1 k1 k1 (self _) _).mono ?_
            rintro _ w' ⟨rfl, hb'⟩
            replace hB := hB.trans (hb'.mono hB.size)
            clear hb'
            go_wp2_with fail
            refine (compare_at _ _ (by decide) (by decide) example1 _).mono ?_
            rintro _ w' ⟨rfl, hb'⟩
            replace hB := hB.trans (hb'.mono hB.size)
            clear hb'
            go_wp2
            go_ret
            exact ⟨rfl, hB⟩
          · go_wp2_with fail
            refine (compare_at a1 a2 k1 k2 k _).mono ?_
            rintro _ w' ⟨rfl, hb'⟩
            replace hB := hB.trans (hb'.mono hB.size)
            clear hb'
            obtain ⟨x, hx⟩ : ∃ x, scmp a0.data.toList a2.data.toList = x := ⟨_, rfl⟩
            have hx0 : x ≤ 0 := by rw [← hx]; exact (TR.out (by rw [HA.out]; decide) (by rw [k]; decide)).1
            go_wp2_with fail
            refine (compare_at a0 a2 k0 k2 hx _).mono ?_
            rintro _ w' ⟨rfl, hb'⟩
            replace hB := hB.trans (hb'.mono hB.size)
            clear hb'
            clear hx
            go_wp2_with fail
            refine (compare_at a1 a0 k1 k0 HBk.out _).mono ?_
            rintro _ w' ⟨rfl, hb'⟩
            replace hB := hB.trans (hb'.mono hB.size)
            clear hb'
            go_wp2_with fail
            refine (compare_at a1 a1 k1 k1 (self _) _).mono ?_
            rintro _ w' ⟨rfl, hb'⟩
            replace hB := hB.trans (hb'.mono hB.size)
            clear hb'
            go_wp2_with fail
            refine (compare_at _ _ (by decide) (by decide) example1 _).mono ?_
            rintro _ w' ⟨rfl, hb'⟩
            replace hB := hB.trans (hb'.mono hB.size)
            clear hb'
            go_wp2
            go_ret
            exact ⟨rfl, hB⟩
          · go_wp2_with fail
            refine (compare_at a1 a2 k1 k2 k _).mono ?_
            rintro _ w' ⟨rfl, hb'⟩
            replace hB := hB.trans (hb'.mono hB.size)
            clear hb'
            go_wp2_with fail
            refine (compare_at a1 a0 k1 k0 HBk.out _).mono ?_
            rintro _ w' ⟨rfl, hb'⟩
            replace hB := hB.trans (hb'.mono hB.size)
            clear hb'
            go_wp2_with fail
            refine (compare_at a1 a1 k1 k1 (self _) _).mono ?_
            rintro _ w' ⟨rfl, hb'⟩
            replace hB := hB.trans (hb'.mono hB.size)
            clear hb'
            go_wp2_with fail
            refine (compare_at _ _ (by decide) (by decide) example1 _).mono ?_
            rintro _ w' ⟨rfl, hb'⟩
            replace hB := hB.trans (hb'.mono hB.size)
            clear hb'
            go_wp2
            go_ret
            exact ⟨rfl, hB⟩
        · have HA := Lib.hid h
          have HBk := Lib.hid (back h)
          have HM := Lib.hid (max_2 (a := a0) (b := a1) (by rw [h]; decide))
          clear h
          go_enter Tryd.func5, Tryd.ntmps5
          go_wp2_with fail
          refine (compare_at a0 a1 k0 k1 HA.out _).mono ?_
          rintro _ w' ⟨rfl, hb'⟩
          replace hB := hB.trans (hb'.mono hB.size)
          clear hb'
          go_wp2_with fail
          refine (max_at a0 a1 k0 k1 HM.out _).mono ?_
          rintro _ w' ⟨rfl, hb'⟩
          replace hB := hB.trans (hb'.mono hB.size)
          clear hb'
          go_wp2_with fail
          refine (rcompare_at a0 a1 k0 k1 HA.out _).mono ?_
          rintro _ w' ⟨rfl, hb'⟩
          replace hB := hB.trans (hb'.mono hB.size)
          clear hb'
          go_wp2_with fail
          refine (compare_at a1 a0 k1 k0 HBk.out _).mono ?_
          rintro _ w' ⟨rfl, hb'⟩
          replace hB := hB.trans (hb'.mono hB.size)
          clear hb'
          go_wp2_with fail
          refine (compare_at a0 a0 k0 k0 (self _) _).mono ?_
          rintro _ w' ⟨rfl, hb'⟩
          replace hB := hB.trans (hb'.mono hB.size)
          clear hb'
          go_wp2_with fail
          refine (rmax_at a0 a1 k0 k1 HM.out _).mono ?_
          rintro _ w' ⟨rfl, hb'⟩
          replace hB := hB.trans (hb'.mono hB.size)
          clear hb'
          rcases RC.out with k | k | k
          · go_wp2_with fail
            refine (compare_at a1 a2 k1 k2 k _).mono ?_
            rintro _ w' ⟨rfl, hb'⟩
            replace hB := hB.trans (hb'.mono hB.size)
            clear hb'
            obtain ⟨x, hx⟩ : ∃ x, scmp a0.data.toList a2.data.toList = x := ⟨_, rfl⟩
            have hx0 : x ≤ 0 := by rw [← hx]; exact (TR.out (by rw [HA.out]; decide) (by rw [k]; decide)).1
            go_wp2_with fail
            refine (compare_at a0 a2 k0 k2 hx _).mono ?_
            rintro _ w' ⟨rfl, hb'⟩
            replace hB := hB.trans (hb'.mono hB.size)
            clear hb'
            clear hx
            go_wp2_with fail
            refine (compare_at a0 a0 k0 k0 (self _) _).mono ?_
            rintro _ w' ⟨rfl, hb'⟩
            replace hB := hB.trans (hb'.mono hB.size)
            clear hb'
            go_wp2_with fail
            refine (compare_at a0 a1 k0 k1 HA.out _).mono ?_
            rintro _ w' ⟨rfl, hb'⟩
            replace hB := hB.trans (hb'.mono hB.size)
            clear hb'
            go_wp2_with fail
            refine (compare_at _ _ (by decide) (by decide) example1 _).mono ?_
            rintro _ w' ⟨rfl, hb'⟩
            replace hB := hB.trans (hb'.mono hB.size)
            clear hb'
            go_wp2
            go_ret
            exact ⟨rfl, hB⟩
          · go_wp2_with fail
            refine (compare_at a1 a2 k1 k2 k _).mono ?_
            rintro _ w' ⟨rfl, hb'⟩
            replace hB := hB.trans (hb'.mono hB.size)
            clear hb'
            obtain ⟨x, hx⟩ : ∃ x, scmp a0.data.toList a2.data.toList = x := ⟨_, rfl⟩
            have hx0 : x ≤ 0 := by rw [← hx]; exact (TR.out (by rw [HA.out]; decide) (by rw [k]; decide)).1
            go_wp2_with fail
            refine (compare_at a0 a2 k0 k2 hx _).mono ?_
            rintro _ w' ⟨rfl, hb'⟩
            replace hB := hB.trans (hb'.mono hB.size)
            clear hb'
            clear hx
            go_wp2_with fail
            refine (compare_at a0 a0 k0 k0 (self _) _).mono ?_
            rintro _ w' ⟨rfl, hb'⟩
            replace hB := hB.trans (hb'.mono hB.size)
            clear hb'
            go_wp2_with fail
            refine (compare_at a0 a1 k0 k1 HA.out _).mono ?_
            rintro _ w' ⟨rfl, hb'⟩
            replace hB := hB.trans (hb'.mono hB.size)
            clear hb'
            go_wp2_with fail
            refine (compare_at _ _ (by decide) (by decide) example1 _).mono ?_
            rintro _ w' ⟨rfl, hb'⟩
            replace hB := hB.trans (hb'.mono hB.size)
            clear hb'
            go_wp2
            go_ret
            exact ⟨rfl, hB⟩
          · go_wp2_with fail
            refine (compare_at a1 a2 k1 k2 k _).mono ?_
            rintro _ w' ⟨rfl, hb'⟩
            replace hB := hB.trans (hb'.mono hB.size)
            clear hb'
            go_wp2_with fail
            refine (compare_at a0 a0 k0 k0 (self _) _).mono ?_
            rintro _ w' ⟨rfl, hb'⟩
            replace hB := hB.trans (hb'.mono hB.size)
            clear hb'
            go_wp2_with fail
            refine (compare_at a0 a1 k0 k1 HA.out _).mono ?_
            rintro _ w' ⟨rfl, hb'⟩
            replace hB := hB.trans (hb'.mono hB.size)
            clear hb'
            go_wp2_with fail
            refine (compare_at _ _ (by decide) (by decide) example1 _).mono ?_
            rintro _ w' ⟨rfl, hb'⟩
            replace hB := hB.trans (hb'.mono hB.size)
            clear hb'
            go_wp2
            go_ret
            exact ⟨rfl, hB⟩
        · have HA := Lib.hid h
          have HBk := Lib.hid (back h)
          have HM := Lib.hid (max_2 (a := a0) (b := a1) (by rw [h]; decide))
          clear h
          go_enter Tryd.func5, Tryd.ntmps5
          go_wp2_with fail
          refine (compare_at a0 a1 k0 k1 HA.out _).mono ?_
          rintro _ w' ⟨rfl, hb'⟩
          replace hB := hB.trans (hb'.mono hB.size)
          clear hb'
          go_wp2_with fail
          refine (max_at a0 a1 k0 k1 HM.out _).mono ?_
          rintro _ w' ⟨rfl, hb'⟩
          replace hB := hB.trans (hb'.mono hB.size)
          clear hb'
          go_wp2_with fail
          refine (rcompare_at a0 a1 k0 k1 HA.out _).mono ?_
          rintro _ w' ⟨rfl, hb'⟩
          replace hB := hB.trans (hb'.mono hB.size)
          clear hb'
          go_wp2_with fail
          refine (compare_at a1 a0 k1 k0 HBk.out _).mono ?_
          rintro _ w' ⟨rfl, hb'⟩
          replace hB := hB.trans (hb'.mono hB.size)
          clear hb'
          go_wp2_with fail
          refine (compare_at a0 a0 k0 k0 (self _) _).mono ?_
          rintro _ w' ⟨rfl, hb'⟩
          replace hB := hB.trans (hb'.mono hB.size)
          clear hb'
          go_wp2_with fail
          refine (rmax_at a0 a1 k0 k1 HM.out _).mono ?_
          rintro _ w' ⟨rfl, hb'⟩
          replace hB := hB.trans (hb'.mono hB.size)
          clear hb'
          go_wp2_with fail
          refine (compare_at a0 a0 k0 k0 (self _) _).mono ?_
          rintro _ w' ⟨rfl, hb'⟩
          replace hB := hB.trans (hb'.mono hB.size)
          clear hb'
          go_wp2_with fail
          refine (compare_at a0 a1 k0 k1 HA.out _).mono ?_
          rintro _ w' ⟨rfl, hb'⟩
          replace hB := hB.trans (hb'.mono hB.size)
          clear hb'
          go_wp2_with fail
          refine (compare_at _ _ (by decide) (by decide) example1 _).mono ?_
          rintro _ w' ⟨rfl, hb'⟩
          replace hB := hB.trans (hb'.mono hB.size)
          clear hb'
          go_wp2
          go_ret
          exact ⟨rfl, hB⟩
      · go_enter Tryd.func5, Tryd.ntmps5
        go_wp2
        go_ret
        exact ⟨rfl, Below.refl _ _⟩
    · go_enter Tryd.func5, Tryd.ntmps5
      go_wp2
      go_ret
      exact ⟨rfl, Below.refl _ _⟩
  · go_enter Tryd.func5, Tryd.ntmps5
    go_wp2
    go_ret
    exact ⟨rfl, Below.refl _ _⟩

set_option maxRecDepth 100000 in
theorem lifted (os : Os) (started : os.Started) (H : Type) (enc : TypeId × Value → H) :
    ReturnsInHanded {} Tryd.checked os 5 .any (fun w args => (Rows.semverOrderSpec.pre enc Tryd.prog Tryd.f5 Rows.semverOrderRow.domain false w args ∧ laidMetH Tryd.prog laid0 w) ∧ sizedMet enc Tryd.prog Tryd.f5 (OpenSpec.ofChange Rows.semverOrderSpec) false w args)
      (Rows.semverOrderSpec.post enc Tryd.prog Tryd.f5 false true false false) := by
  refine returnsInHanded_of_change_and (C := Tryd.checked) (X := fun w _ => laidMetH Tryd.prog laid0 w) (fun _ _ _ hh h => h.of_heap hh) own started (by kernel_rfl) Tryd.func5
    (ChangeSpec.witness_shaped (enc := enc) (C := Tryd.checked) (os := os) (X := fun w _ => laidMetH Tryd.prog laid0 w) false (World.doorLaid Tryd.prog 62 os) #[.string ByteArray.empty, .string ByteArray.empty, .string ByteArray.empty] 8 rfl (World.shaped_of_RefB (by kernel_rfl) (by kernel_rfl)) (by kernel_rfl) (by kernel_rfl) (by kernel_rfl) (door_met os _)) ?_
  intro W base args ds gs before hval0 hW _ _ hL _
  have hval : ∀ (j : Nat) t v, Tryd.f5.params[j]? = some t → args[j]? = some v → Value.okWide Tryd.prog W .any base t v := hval0
  have hW' := hW
  obtain ⟨p, q, hA0, hV, rfl, hfz, hnd⟩ := hW
  have hA : DataW.TrodAll enc Tryd.prog W 0 (fun _ => true) true Tryd.f5.params.toList args.toList ds p := hA0
  rw [Tryd.params5] at hA hval
  obtain ⟨v0, vs0, d0, ds0, p0, q0, hargs, rfl, rfl, h0, r0⟩ := trodAll_cons hA
  obtain ⟨v1, vs1, d1, ds1, p1, q1, rfl, rfl, rfl, h1, r1⟩ := trodAll_cons r0
  obtain ⟨v2, vs2, d2, ds2, p2, q2, rfl, rfl, rfl, h2, r2⟩ := trodAll_cons r1
  obtain ⟨rfl, rfl, rfl⟩ := trodAll_nil r2
  obtain rfl : args = #[v0, v1, v2] := by cases args; simp_all
  obtain ⟨rfl, rfl⟩ := trodVars_none hV
  obtain ⟨a0, rfl, rfl, rfl, w0⟩ := open_string Tryd.underlying9 (hval 0 9 v0 rfl rfl) h0
  obtain ⟨a1, rfl, rfl, rfl, w1⟩ := open_string Tryd.underlying9 (hval 1 9 v1 rfl rfl) h1
  obtain ⟨a2, rfl, rfl, rfl, w2⟩ := open_string Tryd.underlying9 (hval 2 9 v2 rfl rfl) h2
  clear hA0 hval0
  simp only [List.append_nil] at hW'
  refine (walk W a0 w0 a1 w1 a2 w2).mono fun e W' ⟨he, bel⟩ => ?_
  subst he
  exact ⟨_, rfl, _, _, _, [], [], [], hW', trodAll_mk1 (shut_bool Tryd.underlying4 _), (trodAll_cons_mk (shut_string Tryd.underlying9 w0) (trodAll_cons_mk (shut_string Tryd.underlying9 w1) (trodAll_cons_mk (shut_string Tryd.underlying9 w2) trodAll_mk0))), rfl, bel.frame _, fun h => by cases h⟩

theorem over : Rows.semverOrderRow.holds Tryd.pinned (OpenSpec.ofChange Rows.semverOrderSpec) :=
  OpenClaim.holds_of_wide 5 Tryd.f5 rfl rfl rfl rfl rfl rfl rfl ⟨rfl, rfl, rfl, rfl, rfl⟩ rfl rfl rfl rfl rfl (by kernel_rfl) Tryd.func5 (by kernel_rfl)
    (of_decide_eq_true (by kernel_rfl)) (by unfold Func.isWrapper; first | (rw [if_pos (by decide +kernel)]; kernel_rfl) | (rw [if_neg (by decide +kernel)]; exact ⟨rfl, rfl⟩))
    (fun os started H enc _ => lifted os started H enc)

theorem proved : Rows.SemverOrderCardSaid :=
  Claim7.holds_tied_plain_at .later [] [.data, .data, .data, .sentinel, .sentinel] true (true, "cad1ac15bbe0d173cc4ad633fce6cf0f3dc5bbd550a450317c015fae4feb8bb4") true
    over (fun _ h => by cases h) (by kernel_rfl) (fun _ h => by cases h) semverOrder_row_tie rfl ⟨rfl, rfl⟩ (by kernel_rfl) rfl
    (fun f fn hf hfn => by
      obtain rfl : f = 5 := Option.some.inj ((show Tryd.prog.funcNamed "graftbed/graftbedlaw03.SemverOrder" = some 5 by kernel_rfl).symm.trans hf) |>.symm
      obtain rfl : fn = Tryd.f5 := (Option.some.inj (Tryd.func5.symm.trans hfn)).symm
      exact ⟨by kernel_rfl, fun j t ht => by
        rw [Tryd.params5] at ht
        have hm : t ∈ [9, 9, 9] := by simpa using Array.mem_of_getElem? ht
        have hall : ([9, 9, 9].all fun u => !Tryd.prog.wantsStandIn u) = true := by kernel_rfl
        exact (show Tryd.prog.wantsStandIn t = false by simpa using List.all_eq_true.1 hall t hm)⟩)
    (by kernel_rfl)
#print axioms proved
end Go.Proofs.YtoljpmelfebjoaaDoor.semverOrder
