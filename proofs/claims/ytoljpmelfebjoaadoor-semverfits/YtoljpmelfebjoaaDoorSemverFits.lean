/-
  For every path, every version and every small number, whether the version fits to the path is the document's, and a path with one element more, v and a number from 2 on, takes just that major version; the variables that the row lists are as the program's own text lays them.
-/
import Derived.Test.YtoljpmelfebjoaaDoorRows
import Derived.Test.YtoljpmelfebjoaaDoorCards
import Derived.Test.YtoljpmelfebjoaaDoorTie
import Derived.Test.YtoljpmelfebjoaaDoorL0
import Derived.Test.YtoljpmelfebjoaaDoorP14
import Derived.Test.YtoljpmelfebjoaaDoorP15
import Derived.Test.YtoljpmelfebjoaaDoorP16
import Derived.Test.YtoljpmelfebjoaaDoorP17
import Derived.Test.YtoljpmelfebjoaaDoorP18
import Derived.SevenTiedAt
namespace Go.Proofs.YtoljpmelfebjoaaDoor.semverFits
open Go.ChangeShapes Go.WideShapes Go.ChangeAt Go.RowKit Go.Shelf
open Go.ChangeMaps (open_string shut_string)
set_option linter.unusedVariables false

theorem fits_at (p s : ByteArray) (hp : p.size ≤ 1024) (hs : s.size ≤ 1024) {n : Int} (h : fitN p s.data.toList = n) (w : World) :
    Calls Tryd.prog 23 #[.string p, .string s] w fun e w' => e = .returned (.int .i64 n) ∧ Below w.heap.size w w' :=
  (fits_any p s (by omega) (by omega) w).mono fun _ _ k => ⟨by rw [k.1, h], k.2⟩
theorem rfits_at (p s : ByteArray) (hp : p.size ≤ 1024) (hs : s.size ≤ 1024) {n : Int} (h : fitN p s.data.toList = n) (w : World) :
    Calls Tryd.prog 24 #[.string p, .string s] w fun e w' => e = .returned (.int .i64 n) ∧ Below w.heap.size w w' :=
  (rfits_any p s (by omega) (by omega) w).mono fun _ _ k => ⟨by rw [k.1, h], k.2⟩
theorem major_at (p : ByteArray) (hp : p.size ≤ 1024) {n : Int} (h : majorN p = n) (w : World) :
    Calls Tryd.prog 25 #[.string p] w fun e w' => e = .returned (.int .i64 n) ∧ Below w.heap.size w w' :=
  (major_any p (by omega) w).mono fun _ _ k => ⟨by rw [k.1, h], k.2⟩
theorem rmajor_at (p : ByteArray) (hp : p.size ≤ 1024) {n : Int} (h : majorN p = n) (w : World) :
    Calls Tryd.prog 26 #[.string p] w fun e w' => e = .returned (.int .i64 n) ∧ Below w.heap.size w w' :=
  (rmajor_any p (by omega) w).mono fun _ _ k => ⟨by rw [k.1, h], k.2⟩
theorem wf8 {a : Int} (h : (Lit.int .u8 a).wf = true) : ∃ n : Nat, a = n ∧ n < 256 := by
  simp [Lit.wf] at h
  have e1 : IntKind.u8.min = 0 := rfl
  have e2 : IntKind.u8.max = 255 := rfl
  rw [e1, e2] at h
  exact ⟨a.toNat, by omega, by omega⟩
theorem dz2 (n : Nat) : digZ (2 + (n : Int)) = Lib.decDigits (n + 2) := by
  unfold digZ; rw [if_neg (by omega)]; congr 1; omega
theorem app (x y : ByteArray) : (x ++ y).data.toList = x.data.toList ++ y.data.toList := by simp
theorem maj_made {n : Nat} (hn : n < 256) {p : ByteArray} (h : p.data.toList = [97, 46, 98, 47, 118] ++ Lib.decDigits (n + 2)) : majorN p = 2 + (n : Int) := by
  have hs : elemsB p = [mkB [97, 46, 98], mkB (118 :: Lib.decDigits (n + 2))] := by
    have e : ([97, 46, 98, 47, 118] ++ Lib.decDigits (n + 2) : List UInt8) = [97, 46, 98] ++ 47 :: (118 :: Lib.decDigits (n + 2)) := by simp
    unfold elemsB els
    rw [h, e, spl_slash (by decide), spl_none]
    · rfl
    · intro c hc
      rcases List.mem_cons.1 hc with k | k
      · rw [k]; decide
      · exact dec_free (n + 2) (by decide) c k
  rw [majorN, hs, show [mkB [97, 46, 98], mkB (118 :: Lib.decDigits (n + 2))] = [mkB [97, 46, 98]] ++ [mkB (118 :: Lib.decDigits (n + 2))] from rfl, maj_last (by simp), data_mkB]
  simp only [majL]
  rw [numV_dec, if_pos ⟨by trivial, numOk_dec (by omega), by omega⟩]
  omega
set_option maxRecDepth 100000 in
set_option maxHeartbeats 4000000 in
theorem walk (w : World) (a0 : ByteArray) (w0 : a0.size ≤ maxLen) (a1 : ByteArray) (w1 : a1.size ≤ maxLen) (a2 : Int) (w2 : (Lit.int .u8 a2).wf = true) :
    Calls Tryd.prog 8 #[.string a0, .string a1, .int .u8 a2] w fun e w' => e = .returned (.bool true) ∧ Below w.heap.size w w' := by
  obtain ⟨n, rfl, jn⟩ := wf8 w2
  clear w2
  have hB := Below.refl w.heap.size w
  by_cases k0 : a0.size ≤ 1024
  · by_cases k1 : a1.size ≤ 1024
    · obtain ⟨x, hx⟩ : ∃ x, fitN a0 a1.data.toList = x := ⟨_, rfl⟩
      have HX := Lib.hid hx
      clear hx
      obtain ⟨y, hy⟩ : ∃ y, majorN a0 = y := ⟨_, rfl⟩
      have HY := Lib.hid hy
      clear hy
      go_enter Tryd.func8, Tryd.ntmps8
      go_wp2_with fail
      refine (fits_at a0 a1 k0 k1 HX.out _).mono ?_
      rintro _ w' ⟨rfl, hb'⟩
      replace hB := hB.trans (hb'.mono hB.size)
      clear hb'
      go_wp2_with fail
      refine (rfits_at a0 a1 k0 k1 HX.out _).mono ?_
      rintro _ w' ⟨rfl, hb'⟩
      replace hB := hB.trans (hb'.mono hB.size)
      clear hb'
      go_wp2_with fail
      refine (major_at a0 k0 HY.out _).mono ?_
      rintro _ w' ⟨rfl, hb'⟩
      replace hB := hB.trans (hb'.mono hB.size)
      clear hb'
      go_wp2_with fail
      refine (rmajor_at a0 k0 HY.out _).mono ?_
      rintro _ w' ⟨rfl, hb'⟩
      replace hB := hB.trans (hb'.mono hB.size)
      clear hb'
      go_wp2_with fail
      refine (rdigitsZ_any _ (by omega) _).mono ?_
      rintro _ w' ⟨rfl, rfl⟩
      rw [dz2]
      obtain ⟨D, hD⟩ : ∃ x, x = mkB (Lib.decDigits (n + 2)) := ⟨_, rfl⟩
      rw [← hD]
      have zD : D.size ≤ 9 := by rw [hD, ← size_data, data_mkB]; exact len_dec 8 (n + 2) (by omega)
      have HD := Lib.hid (show D.data.toList = Lib.decDigits (n + 2) by rw [hD]; rfl)
      clear hD
      go_wp2_with fail
      obtain ⟨P, hP⟩ : ∃ x, x = (⟨#[97, 46, 98, 47, 118]⟩ ++ D : ByteArray) := ⟨_, rfl⟩
      rw [← hP]
      have HPm := Lib.hid (maj_made jn (show P.data.toList = [97, 46, 98, 47, 118] ++ Lib.decDigits (n + 2) by rw [hP, app, HD.out]))
      have zP : P.size ≤ 1024 := by rw [hP, ByteArray.size_append]; have : (⟨#[97, 46, 98, 47, 118]⟩ : ByteArray).size = 5 := rfl; omega
      clear hP
      refine (parse_any a1 (by omega) _).mono ?_
      rintro _ w3 ⟨rfl, hb'⟩
      replace hB := hB.trans (hb'.mono hB.size)
      clear hb'
      unfold retP verV
      have HFi := Lib.hid (show fitN P a1.data.toList = if okV a1.data.toList then fitZ (2 + (n : Int)) (verL a1.data.toList).ma ((verL a1.data.toList).mta.toList == [105, 110, 99, 111, 109, 112, 97, 116, 105, 98, 108, 101]) else 30 by rw [fitN, HPm.out]; rfl)
      have HEy := Lib.hid (fun h => err_yes (l := a1.data.toList) h)
      have HEn := Lib.hid (fun h => err_no (l := a1.data.toList) h)
      obtain ⟨v, hv⟩ : ∃ v, v = verL a1.data.toList := ⟨_, rfl⟩
      rw [← hv] at HFi ⊢
      clear hv
      have hc := VerC.of w3 23 v
      replace hB := hB.alloc hB.size (.cells #[.int .i64 v.ma, .int .i64 v.mi, .int .i64 v.pa, .string v.pre, .string v.mta] 23)
      cases e : okV a1.data.toList
      · have HF := Lib.hid (show fitN P a1.data.toList = 30 by rw [HFi.out, e]; rfl)
        rw [HEn.out e]
        clear e
        go_wp2_with fail
        refine (fits_at P a1 zP k1 HF.out _).mono ?_
        rintro _ w' ⟨rfl, hb'⟩
        replace hB := hB.trans (hb'.mono hB.size)
        clear hb'
        go_wp2_with fail
        refine (major_at P zP HPm.out _).mono ?_
        rintro _ w' ⟨rfl, hb'⟩
        replace hB := hB.trans (hb'.mono hB.size)
        clear hb'
        go_wp2
        go_ret
        exact ⟨rfl, hB⟩
      · have HF0 := Lib.hid (show fitN P a1.data.toList = fitZ (2 + (n : Int)) v.ma (v.mta.toList == [105, 110, 99, 111, 109, 112, 97, 116, 105, 98, 108, 101]) by rw [HFi.out, e]; rfl)
        rw [HEy.out e]
        clear e HFi
        obtain ⟨z, hz⟩ : ∃ z, fitN P a1.data.toList = z := ⟨_, rfl⟩
        rw [hz] at HF0
        have HZ := Lib.hid hz
        clear hz
        go_wp2_with fail
        generalize w3.alloc (.cells #[.int .i64 v.ma, .int .i64 v.mi, .int .i64 v.pa, .string v.pre, .string v.mta] 23) = w4 at *
        refine (fits_at P a1 zP k1 HZ.out _).mono ?_
        rintro _ w5 ⟨rfl, hb5⟩
        replace hB := hB.trans (hb5.mono hB.size)
        replace hc := hc.below hb5
        clear hb5
        go_wp2_with fail
        refine (major_at P zP HPm.out _).mono ?_
        rintro _ w6 ⟨rfl, hb6⟩
        replace hB := hB.trans (hb6.mono hB.size)
        replace hc := hc.below hb6
        clear hb6
        have q0 := hc.c0.cell
        have q4 := hc.c4.cell
        clear hc
        generalize v.ma = ma at *
        generalize v.mta = mt at *
        cases hi : (mt.toList == [105, 110, 99, 111, 109, 112, 97, 116, 105, 98, 108, 101])
        · rw [hi] at HF0
          by_cases hq : ma = 2 + (n : Int)
          · obtain rfl : z = 0 := by rw [HF0.out, hq]; exact fit_6 (by omega)
            have g : (ma == 2 + (n : Int)) = true := by rw [hq]; simp
            clear HF0 hq
            go_wp2
            go_ret
            exact ⟨rfl, hB⟩
          · obtain rfl : z = 31 := by rw [HF0.out]; exact fit_7 (by omega) hq
            have g : (ma == 2 + (n : Int)) = false := by rw [beq_eq_false_iff_ne]; exact hq
            clear HF0 hq
            go_wp2
            go_ret
            exact ⟨rfl, hB⟩
        · rw [hi] at HF0
          obtain rfl : z = 31 := by rw [HF0.out]; exact fit_5 (by omega)
          clear HF0
          cases g : (ma == 2 + (n : Int))
          · go_wp2
            go_ret
            exact ⟨rfl, hB⟩
          · go_wp2
            go_ret
            exact ⟨rfl, hB⟩
    · go_enter Tryd.func8, Tryd.ntmps8
      go_wp2
      go_ret
      exact ⟨rfl, Below.refl _ _⟩
  · go_enter Tryd.func8, Tryd.ntmps8
    go_wp2
    go_ret
    exact ⟨rfl, Below.refl _ _⟩

set_option maxRecDepth 100000 in
theorem lifted (os : Os) (started : os.Started) (H : Type) (enc : TypeId × Value → H) :
    ReturnsInHanded {} Tryd.checked os 8 .any (fun w args => (Rows.semverFitsSpec.pre enc Tryd.prog Tryd.f8 Rows.semverFitsRow.domain false w args ∧ laidMetH Tryd.prog laid0 w) ∧ sizedMet enc Tryd.prog Tryd.f8 (OpenSpec.ofChange Rows.semverFitsSpec) false w args)
      (Rows.semverFitsSpec.post enc Tryd.prog Tryd.f8 false true false false) := by
  refine returnsInHanded_of_change_and (C := Tryd.checked) (X := fun w _ => laidMetH Tryd.prog laid0 w) (fun _ _ _ hh h => h.of_heap hh) own started (by kernel_rfl) Tryd.func8
    (ChangeSpec.witness_shaped (enc := enc) (C := Tryd.checked) (os := os) (X := fun w _ => laidMetH Tryd.prog laid0 w) false (World.doorLaid Tryd.prog 62 os) #[.string ByteArray.empty, .string ByteArray.empty, .int .u8 0] 8 rfl (World.shaped_of_RefB (by kernel_rfl) (by kernel_rfl)) (by kernel_rfl) (by kernel_rfl) (by kernel_rfl) (door_met os _)) ?_
  intro W base args ds gs before hval0 hW _ _ hL _
  have hval : ∀ (j : Nat) t v, Tryd.f8.params[j]? = some t → args[j]? = some v → Value.okWide Tryd.prog W .any base t v := hval0
  have hW' := hW
  obtain ⟨p, q, hA0, hV, rfl, hfz, hnd⟩ := hW
  have hA : DataW.TrodAll enc Tryd.prog W 0 (fun _ => true) true Tryd.f8.params.toList args.toList ds p := hA0
  rw [Tryd.params8] at hA hval
  obtain ⟨v0, vs0, d0, ds0, p0, q0, hargs, rfl, rfl, h0, r0⟩ := trodAll_cons hA
  obtain ⟨v1, vs1, d1, ds1, p1, q1, rfl, rfl, rfl, h1, r1⟩ := trodAll_cons r0
  obtain ⟨v2, vs2, d2, ds2, p2, q2, rfl, rfl, rfl, h2, r2⟩ := trodAll_cons r1
  obtain ⟨rfl, rfl, rfl⟩ := trodAll_nil r2
  obtain rfl : args = #[v0, v1, v2] := by cases args; simp_all
  obtain ⟨rfl, rfl⟩ := trodVars_none hV
  obtain ⟨a0, rfl, rfl, rfl, w0⟩ := open_string Tryd.underlying9 (hval 0 9 v0 rfl rfl) h0
  obtain ⟨a1, rfl, rfl, rfl, w1⟩ := open_string Tryd.underlying9 (hval 1 9 v1 rfl rfl) h1
  obtain ⟨a2, rfl, rfl, rfl, w2⟩ := open_int Tryd.underlying5 (hval 2 5 v2 rfl rfl) h2
  clear hA0 hval0
  simp only [List.append_nil] at hW'
  refine (walk W a0 w0 a1 w1 a2 w2).mono fun e W' ⟨he, bel⟩ => ?_
  subst he
  exact ⟨_, rfl, _, _, _, [], [], [], hW', trodAll_mk1 (shut_bool Tryd.underlying4 _), (trodAll_cons_mk (shut_string Tryd.underlying9 w0) (trodAll_cons_mk (shut_string Tryd.underlying9 w1) (trodAll_cons_mk (shut_int Tryd.underlying5 w2) trodAll_mk0))), rfl, bel.frame _, fun h => by cases h⟩

theorem over : Rows.semverFitsRow.holds Tryd.pinned (OpenSpec.ofChange Rows.semverFitsSpec) :=
  OpenClaim.holds_of_wide 8 Tryd.f8 rfl rfl rfl rfl rfl rfl rfl ⟨rfl, rfl, rfl, rfl, rfl⟩ rfl rfl rfl rfl rfl (by kernel_rfl) Tryd.func8 (by kernel_rfl)
    (of_decide_eq_true (by kernel_rfl)) (by unfold Func.isWrapper; first | (rw [if_pos (by decide +kernel)]; kernel_rfl) | (rw [if_neg (by decide +kernel)]; exact ⟨rfl, rfl⟩))
    (fun os started H enc _ => lifted os started H enc)

theorem proved : Rows.SemverFitsCardSaid :=
  Claim7.holds_tied_plain_at .later [] [.data, .data, .data, .sentinel, .sentinel] true (true, "cad1ac15bbe0d173cc4ad633fce6cf0f3dc5bbd550a450317c015fae4feb8bb4") true
    over (fun _ h => by cases h) (by kernel_rfl) (fun _ h => by cases h) semverFits_row_tie rfl ⟨rfl, rfl⟩ (by kernel_rfl) rfl
    (fun f fn hf hfn => by
      obtain rfl : f = 8 := Option.some.inj ((show Tryd.prog.funcNamed "graftbed/graftbedlaw03.SemverFits" = some 8 by kernel_rfl).symm.trans hf) |>.symm
      obtain rfl : fn = Tryd.f8 := (Option.some.inj (Tryd.func8.symm.trans hfn)).symm
      exact ⟨by kernel_rfl, fun j t ht => by
        rw [Tryd.params8] at ht
        have hm : t ∈ [9, 9, 5] := by simpa using Array.mem_of_getElem? ht
        have hall : ([9, 9, 5].all fun u => !Tryd.prog.wantsStandIn u) = true := by kernel_rfl
        exact (show Tryd.prog.wantsStandIn t = false by simpa using List.all_eq_true.1 hall t hm)⟩)
    (by kernel_rfl)
#print axioms proved
end Go.Proofs.YtoljpmelfebjoaaDoor.semverFits
