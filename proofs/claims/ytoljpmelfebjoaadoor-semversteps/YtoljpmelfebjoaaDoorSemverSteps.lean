/-
  For every three small numbers and every text ahead, a version with a higher number of one place is higher, one with something ahead of it is lower, and Meta counts nothing; the variables that the row lists are as the program's own text lays them.
-/
import Derived.Test.YtoljpmelfebjoaaDoorRows
import Derived.Test.YtoljpmelfebjoaaDoorCards
import Derived.Test.YtoljpmelfebjoaaDoorTie
import Derived.Test.YtoljpmelfebjoaaDoorL0
import Derived.Test.YtoljpmelfebjoaaDoorP14
import Derived.Test.YtoljpmelfebjoaaDoorP15
import Derived.Test.YtoljpmelfebjoaaDoorP16
import Derived.SevenTiedAt
namespace Go.Proofs.YtoljpmelfebjoaaDoor.semverSteps
open Go.ChangeShapes Go.WideShapes Go.ChangeAt Go.RowKit Go.Shelf
open Go.ChangeMaps (open_string shut_string)
set_option linter.unusedVariables false

theorem compare_at (a b : ByteArray) (ha : a.size ≤ 1024) (hb : b.size ≤ 1024) {n : Int} (h : scmp a.data.toList b.data.toList = n) (w : World) :
    Calls Tryd.prog 15 #[.string a, .string b] w fun e w' => e = .returned (.int .i64 n) ∧ Below w.heap.size w w' :=
  (compare_any' a b (by omega) (by omega) w).mono fun _ _ k => ⟨by rw [k.1, h], k.2⟩
theorem wf16 {a : Int} (h : (Lit.int .u16 a).wf = true) : ∃ n : Nat, a = n ∧ n < 65536 := by
  simp [Lit.wf] at h
  have e1 : IntKind.u16.min = 0 := rfl
  have e2 : IntKind.u16.max = 65535 := rfl
  rw [e1, e2] at h
  exact ⟨a.toNat, by omega, by omega⟩
theorem dz (n : Nat) : digZ (n : Int) = Lib.decDigits n := by
  unfold digZ; rw [if_neg (by omega)]; simp
theorem dz1 (n : Nat) : digZ ((n : Int) + 1) = Lib.decDigits (n + 1) := by
  have := dz (n + 1)
  simpa using this
theorem size_dec {n : Nat} (h : n < 1000000000) : (mkB (Lib.decDigits n)).size ≤ 9 := by
  rw [← size_data, data_mkB]; exact len_dec 8 n (by simpa using h)
theorem lt_of {x y : List UInt8} {v u : Ver} (hx : okV x = true ∧ verL x = v) (hy : okV y = true ∧ verL y = u) : scmp x y = vcmp v u := by rw [scmp_both hx.1 hy.1, hx.2, hy.2]
theorem len_T {a b c : Nat} (ha : a < 1000000000) (hb : b < 1000000000) (hc : c < 1000000000) (t : List UInt8) : (verT a b c t).length ≤ 30 + t.length := by
  have h1 := len_dec 8 a (by simpa using ha)
  have h2 := len_dec 8 b (by simpa using hb)
  have h3 := len_dec 8 c (by simpa using hc)
  simp [verT]; omega
theorem plain {a b c : Nat} (ha : a < 65537) (hb : b < 65537) (hc : c < 65537) : okV (verT a b c []) = true ∧ verL (verT a b c []) = ⟨a, b, c, ⟨#[]⟩, ⟨#[]⟩⟩ :=
  ver_plain (by omega) (by omega) (by omega) [] rfl (.inl rfl) (by have := len_T (a := a) (b := b) (c := c) (by omega) (by omega) (by omega) []; simp at this; omega)
theorem c1 {a b c : Nat} (ha : a < 65536) (hb : b < 65536) (hc : c < 65536) : scmp (verT a b c []) (verT a b (c + 1) []) = -1 := by
  refine (lt_of (plain (by omega) (by omega) (by omega)) (plain (by omega) (by omega) (by omega))).trans ?_
  refine (vcmp_3 ?_ ?_ ?_).trans ?_
  · rfl
  · rfl
  · show ¬ ((c : Nat) : Int) = ((c + 1 : Nat) : Int)
    omega
  · show lessN (decide (((c : Nat) : Int) < ((c + 1 : Nat) : Int))) = -1
    rw [decide_eq_true (by omega)]; rfl
theorem c2 {a b c : Nat} (ha : a < 65536) (hb : b < 65536) (hc : c < 65536) : scmp (verT a b (c + 1) []) (verT a (b + 1) 0 []) = -1 := by
  refine (lt_of (plain (by omega) (by omega) (by omega)) (plain (by omega) (by omega) (by omega))).trans ?_
  refine (vcmp_2 ?_ ?_).trans ?_
  · rfl
  · show ¬ ((b : Nat) : Int) = ((b + 1 : Nat) : Int)
    omega
  · show lessN (decide (((b : Nat) : Int) < ((b + 1 : Nat) : Int))) = -1
    rw [decide_eq_true (by omega)]; rfl
theorem c3 {a b : Nat} (ha : a < 65536) (hb : b < 65536) : scmp (verT a (b + 1) 0 []) (verT (a + 1) 0 0 []) = -1 := by
  refine (lt_of (plain (by omega) (by omega) (by omega)) (plain (by omega) (by omega) (by omega))).trans ?_
  refine (vcmp_1 ?_).trans ?_
  · show ¬ ((a : Nat) : Int) = ((a + 1 : Nat) : Int)
    omega
  · show lessN (decide (((a : Nat) : Int) < ((a + 1 : Nat) : Int))) = -1
    rw [decide_eq_true (by omega)]; rfl
theorem c4 {a b c : Nat} (ha : a < 65536) (hb : b < 65536) (hc : c < 65536) : scmp (verT a b c []) (verT a b c [43, 109]) = 0 := by
  rw [lt_of (plain (by omega) (by omega) (by omega)) (ver_plain (by omega) (by omega) (by omega) [43, 109] rfl (.inr (by decide)) (by have := len_T (a := a) (b := b) (c := c) (by omega) (by omega) (by omega) [43, 109]; simp at this; omega)), vcmp_zero]
  exact ⟨rfl, rfl, rfl, rfl⟩
theorem pre_of {a b c : Nat} (ha : a < 65537) (hb : b < 65537) (hc : c < 65537) {p : List UInt8} (h : okV (verT a b c (45 :: p)) = true) : headL 43 p ≠ [] := by
  have := (ver_pre (a := a) (b := b) (c := c) (by omega) (by omega) (by omega) p).1
  rw [h, eq_comm, Bool.and_eq_true, Bool.and_eq_true] at this
  exact pre_ne this.1.2
theorem c5 {a b c : Nat} (ha : a < 65537) (hb : b < 65537) (hc : c < 65537) {p : List UInt8} (h : okV (verT a b c (45 :: p)) = true) : scmp (verT a b c (45 :: p)) (verT a b c []) = -1 := by
  refine (lt_of ⟨h, (ver_pre (by omega) (by omega) (by omega) p).2 h⟩ (plain (by omega) (by omega) (by omega))).trans ?_
  refine (vcmp_4 ?_ ?_ ?_).trans (pcmp_right ?_ ?_)
  · rfl
  · rfl
  · rfl
  · exact pre_of ha hb hc h
  · rfl
theorem c6 {a b c : Nat} (ha : a < 65536) (hb : b < 65536) (hc : c < 65536) {p : List UInt8} (h : okV (verT a b (c + 1) (45 :: p)) = true) : scmp (verT a b c []) (verT a b (c + 1) (45 :: p)) = -1 := by
  refine (lt_of (plain (by omega) (by omega) (by omega)) ⟨h, (ver_pre (by omega) (by omega) (by omega) p).2 h⟩).trans ?_
  refine (vcmp_3 ?_ ?_ ?_).trans ?_
  · rfl
  · rfl
  · show ¬ ((c : Nat) : Int) = ((c + 1 : Nat) : Int)
    omega
  · show lessN (decide (((c : Nat) : Int) < ((c + 1 : Nat) : Int))) = -1
    rw [decide_eq_true (by omega)]; rfl
theorem app (x y : ByteArray) : (x ++ y).data.toList = x.data.toList ++ y.data.toList := by simp
set_option maxRecDepth 100000 in
set_option maxHeartbeats 4000000 in
theorem walk (w : World) (a0 : Int) (w0 : (Lit.int .u16 a0).wf = true) (a1 : Int) (w1 : (Lit.int .u16 a1).wf = true) (a2 : Int) (w2 : (Lit.int .u16 a2).wf = true) (a3 : ByteArray) (w3 : a3.size ≤ maxLen) :
    Calls Tryd.prog 9 #[.int .u16 a0, .int .u16 a1, .int .u16 a2, .string a3] w fun e w' => e = .returned (.bool true) ∧ Below w.heap.size w w' := by
  obtain ⟨n0, rfl, j0⟩ := wf16 w0
  obtain ⟨n1, rfl, j1⟩ := wf16 w1
  obtain ⟨n2, rfl, j2⟩ := wf16 w2
  clear w0 w1 w2
  have hB := Below.refl w.heap.size w
  by_cases k : a3.size ≤ 100
  · go_enter Tryd.func9, Tryd.ntmps9
    go_wp2_with fail
    refine (rdigitsZ_any _ (by omega) _).mono ?_
    rintro _ w' ⟨rfl, rfl⟩
    rw [dz]
    have zA := size_dec (n := n0) (by omega)
    obtain ⟨A, hA⟩ : ∃ x, x = mkB (Lib.decDigits n0) := ⟨_, rfl⟩
    rw [← hA] at zA ⊢
    have HA := Lib.hid (show A.data.toList = Lib.decDigits n0 by rw [hA]; rfl)
    clear hA
    go_wp2_with fail
    refine (rdigitsZ_any _ (by omega) _).mono ?_
    rintro _ w' ⟨rfl, rfl⟩
    rw [dz]
    have zB := size_dec (n := n1) (by omega)
    obtain ⟨B, hB⟩ : ∃ x, x = mkB (Lib.decDigits n1) := ⟨_, rfl⟩
    rw [← hB] at zB ⊢
    have HB := Lib.hid (show B.data.toList = Lib.decDigits n1 by rw [hB]; rfl)
    clear hB
    go_wp2_with fail
    refine (rdigitsZ_any _ (by omega) _).mono ?_
    rintro _ w' ⟨rfl, rfl⟩
    rw [dz]
    have zC := size_dec (n := n2) (by omega)
    obtain ⟨C, hC⟩ : ∃ x, x = mkB (Lib.decDigits n2) := ⟨_, rfl⟩
    rw [← hC] at zC ⊢
    have HC := Lib.hid (show C.data.toList = Lib.decDigits n2 by rw [hC]; rfl)
    clear hC
    go_wp2_with fail
    refine (rdigitsZ_any _ (by omega) _).mono ?_
    rintro _ w' ⟨rfl, rfl⟩
    rw [dz1]
    have zE := size_dec (n := (n2 + 1)) (by omega)
    obtain ⟨E, hE⟩ : ∃ x, x = mkB (Lib.decDigits (n2 + 1)) := ⟨_, rfl⟩
    rw [← hE] at zE ⊢
    have HE := Lib.hid (show E.data.toList = Lib.decDigits (n2 + 1) by rw [hE]; rfl)
    clear hE
    go_wp2_with fail
    obtain ⟨s, hs⟩ : ∃ x, x = (⟨#[118]⟩ ++ A ++ ⟨#[46]⟩ ++ B ++ ⟨#[46]⟩ : ByteArray) ++ C := ⟨_, rfl⟩
    obtain ⟨u, hu⟩ : ∃ x, x = (⟨#[118]⟩ ++ A ++ ⟨#[46]⟩ ++ B ++ ⟨#[46]⟩ : ByteArray) ++ E := ⟨_, rfl⟩
    have HS := Lib.hid (show s.data.toList = verT n0 n1 n2 [] by rw [hs]; simp only [app, HA.out, HB.out, HC.out]; simp [verT])
    have HU := Lib.hid (show u.data.toList = verT n0 n1 (n2 + 1) [] by rw [hu]; simp only [app, HA.out, HB.out, HE.out]; simp [verT])
    have zs : s.size ≤ 40 := by rw [← size_data, HS.out]; have := len_T (a := n0) (b := n1) (c := n2) (by omega) (by omega) (by omega) []; simp at this; omega
    have zu : u.size ≤ 40 := by rw [← size_data, HU.out]; have := len_T (a := n0) (b := n1) (c := n2 + 1) (by omega) (by omega) (by omega) []; simp at this; omega
    rw [← hs, ← hu]
    clear hs hu
    refine (rdigitsZ_any _ (by omega) _).mono ?_
    rintro _ w' ⟨rfl, rfl⟩
    rw [dz]
    have zF := size_dec (n := n0) (by omega)
    obtain ⟨F, hF⟩ : ∃ x, x = mkB (Lib.decDigits n0) := ⟨_, rfl⟩
    rw [← hF] at zF ⊢
    have HF := Lib.hid (show F.data.toList = Lib.decDigits n0 by rw [hF]; rfl)
    clear hF
    go_wp2_with fail
    refine (rdigitsZ_any _ (by omega) _).mono ?_
    rintro _ w' ⟨rfl, rfl⟩
    rw [dz1]
    have zG := size_dec (n := (n1 + 1)) (by omega)
    obtain ⟨G, hG⟩ : ∃ x, x = mkB (Lib.decDigits (n1 + 1)) := ⟨_, rfl⟩
    rw [← hG] at zG ⊢
    have HG := Lib.hid (show G.data.toList = Lib.decDigits (n1 + 1) by rw [hG]; rfl)
    clear hG
    go_wp2_with fail
    refine (rdigitsZ_any _ (by omega) _).mono ?_
    rintro _ w' ⟨rfl, rfl⟩
    rw [dz1]
    have zH := size_dec (n := (n0 + 1)) (by omega)
    obtain ⟨H, hH⟩ : ∃ x, x = mkB (Lib.decDigits (n0 + 1)) := ⟨_, rfl⟩
    rw [← hH] at zH ⊢
    have HH := Lib.hid (show H.data.toList = Lib.decDigits (n0 + 1) by rw [hH]; rfl)
    clear hH
    go_wp2_with fail
    obtain ⟨mo, hmo⟩ : ∃ x, x = (⟨#[118]⟩ ++ F ++ ⟨#[46]⟩ ++ G ++ ⟨#[46, 48]⟩ : ByteArray) := ⟨_, rfl⟩
    obtain ⟨ms, hms⟩ : ∃ x, x = (⟨#[118]⟩ ++ H ++ ⟨#[46, 48, 46, 48]⟩ : ByteArray) := ⟨_, rfl⟩
    have HMO := Lib.hid (show mo.data.toList = verT n0 (n1 + 1) 0 [] by rw [hmo]; simp only [app, HF.out, HG.out]; simp [verT, dec_small (show 0 < 10 by decide)])
    have HMS := Lib.hid (show ms.data.toList = verT (n0 + 1) 0 0 [] by rw [hms]; simp only [app, HH.out]; simp [verT, dec_small (show 0 < 10 by decide)])
    have zmo : mo.size ≤ 40 := by rw [← size_data, HMO.out]; have := len_T (a := n0) (b := n1 + 1) (c := 0) (by omega) (by omega) (by omega) []; simp at this; omega
    have zms : ms.size ≤ 40 := by rw [← size_data, HMS.out]; have := len_T (a := n0 + 1) (b := 0) (c := 0) (by omega) (by omega) (by omega) []; simp at this; omega
    rw [← hmo, ← hms]
    clear hmo hms
    have K1 := Lib.hid (show scmp s.data.toList u.data.toList = -1 by rw [HS.out, HU.out]; exact c1 j0 j1 j2)
    have K2 := Lib.hid (show scmp u.data.toList mo.data.toList = -1 by rw [HU.out, HMO.out]; exact c2 j0 j1 j2)
    have K3 := Lib.hid (show scmp mo.data.toList ms.data.toList = -1 by rw [HMO.out, HMS.out]; exact c3 j0 j1)
    have eSM : (s ++ ⟨#[43, 109]⟩ : ByteArray).data.toList = verT n0 n1 n2 [43, 109] := by rw [app, HS.out]; simp [verT]
    have K4 := Lib.hid (show scmp s.data.toList (s ++ ⟨#[43, 109]⟩ : ByteArray).data.toList = 0 by rw [eSM, HS.out]; exact c4 j0 j1 j2)
    have zsm : (s ++ ⟨#[43, 109]⟩ : ByteArray).size ≤ 1024 := by rw [← size_data, eSM]; have := len_T (a := n0) (b := n1) (c := n2) (by omega) (by omega) (by omega) [43, 109]; simp at this; omega
    clear eSM
    have HP := Lib.hid (show (u ++ ⟨#[45]⟩ ++ a3).data.toList = verT n0 n1 (n2 + 1) (45 :: a3.data.toList) by rw [app, app, HU.out]; simp [verT])
    have zp : (u ++ ⟨#[45]⟩ ++ a3 : ByteArray).size ≤ 1024 := by rw [← size_data, HP.out]; have := len_T (a := n0) (b := n1) (c := n2 + 1) (by omega) (by omega) (by omega) (45 :: a3.data.toList); rw [List.length_cons, size_data] at this; omega
    refine (compare_at _ _ (by omega) (by omega) K1.out _).mono ?_
    rintro _ w' ⟨rfl, hb'⟩
    replace hB := hB.trans (hb'.mono hB.size)
    clear hb'
    go_wp2_with fail
    refine (compare_at _ _ (by omega) (by omega) K2.out _).mono ?_
    rintro _ w' ⟨rfl, hb'⟩
    replace hB := hB.trans (hb'.mono hB.size)
    clear hb'
    go_wp2_with fail
    refine (compare_at _ _ (by omega) (by omega) K3.out _).mono ?_
    rintro _ w' ⟨rfl, hb'⟩
    replace hB := hB.trans (hb'.mono hB.size)
    clear hb'
    go_wp2_with fail
    refine (compare_at _ _ (by omega) zsm K4.out _).mono ?_
    rintro _ w' ⟨rfl, hb'⟩
    replace hB := hB.trans (hb'.mono hB.size)
    clear hb'
    go_wp2_with fail
    obtain ⟨up, hup⟩ : ∃ x, x = (u ++ ⟨#[45]⟩ ++ a3 : ByteArray) := ⟨_, rfl⟩
    rw [← hup] at HP zp ⊢
    have HUP := Lib.hid hup
    clear hup
    refine (parse_any up (by omega) _).mono ?_
    rintro _ w' ⟨rfl, hb'⟩
    replace hB := hB.trans (hb'.mono hB.size)
    clear hb'
    unfold retP verV
    obtain ⟨vv, hvv⟩ : ∃ v, v = verL up.data.toList := ⟨_, rfl⟩
    rw [← hvv]
    have HVV := Lib.hid hvv
    clear hvv
    have hB2 := hB.alloc hB.size (.cells #[.int .i64 vv.ma, .int .i64 vv.mi, .int .i64 vv.pa, .string vv.pre, .string vv.mta] 23)
    clear hB
    go_wp2_with fail
    rw [← HUP.out]
    refine (rparse_any up (by omega) _).mono ?_
    rintro _ w2 ⟨rfl, hb'⟩
    have hB := hB2.trans (hb'.mono hB2.size)
    clear hb' hB2
    unfold retP verV
    rw [← HVV.out]
    replace hB := hB.alloc hB.size (.cells #[.int .i64 vv.ma, .int .i64 vv.mi, .int .i64 vv.pa, .string vv.pre, .string vv.mta] 27)
    cases e : okV up.data.toList
    · rw [err_no e]
      go_wp2
      go_ret
      exact ⟨rfl, hB⟩
    · have K5 := Lib.hid (show scmp up.data.toList u.data.toList = -1 by rw [HP.out] at e ⊢; rw [HU.out]; exact c5 (by omega) (by omega) (by omega) e)
      have K6 := Lib.hid (show scmp s.data.toList up.data.toList = -1 by rw [HP.out] at e ⊢; rw [HS.out]; exact c6 j0 j1 j2 e)
      rw [err_yes e]
      clear e
      go_wp2_with fail
      rw [← HUP.out]
      refine (compare_at _ _ (by omega) (by omega) K5.out _).mono ?_
      rintro _ w' ⟨rfl, hb'⟩
      replace hB := hB.trans (hb'.mono hB.size)
      clear hb'
      go_wp2_with fail
      rw [← HUP.out]
      refine (compare_at _ _ (by omega) (by omega) K6.out _).mono ?_
      rintro _ w' ⟨rfl, hb'⟩
      replace hB := hB.trans (hb'.mono hB.size)
      clear hb'
      go_wp2
      go_ret
      exact ⟨rfl, hB⟩
  · go_enter Tryd.func9, Tryd.ntmps9
    go_wp2
    go_ret
    exact ⟨rfl, Below.refl _ _⟩

set_option maxRecDepth 100000 in
theorem lifted (os : Os) (started : os.Started) (H : Type) (enc : TypeId × Value → H) :
    ReturnsInHanded {} Tryd.checked os 9 .any (fun w args => (Rows.semverStepsSpec.pre enc Tryd.prog Tryd.f9 Rows.semverStepsRow.domain false w args ∧ laidMetH Tryd.prog laid0 w) ∧ sizedMet enc Tryd.prog Tryd.f9 (OpenSpec.ofChange Rows.semverStepsSpec) false w args)
      (Rows.semverStepsSpec.post enc Tryd.prog Tryd.f9 false true false false) := by
  refine returnsInHanded_of_change_and (C := Tryd.checked) (X := fun w _ => laidMetH Tryd.prog laid0 w) (fun _ _ _ hh h => h.of_heap hh) own started (by kernel_rfl) Tryd.func9
    (ChangeSpec.witness_shaped (enc := enc) (C := Tryd.checked) (os := os) (X := fun w _ => laidMetH Tryd.prog laid0 w) false (World.doorLaid Tryd.prog 62 os) #[.int .u16 0, .int .u16 0, .int .u16 0, .string ByteArray.empty] 8 rfl (World.shaped_of_RefB (by kernel_rfl) (by kernel_rfl)) (by kernel_rfl) (by kernel_rfl) (by kernel_rfl) (door_met os _)) ?_
  intro W base args ds gs before hval0 hW _ _ hL _
  have hval : ∀ (j : Nat) t v, Tryd.f9.params[j]? = some t → args[j]? = some v → Value.okWide Tryd.prog W .any base t v := hval0
  have hW' := hW
  obtain ⟨p, q, hA0, hV, rfl, hfz, hnd⟩ := hW
  have hA : DataW.TrodAll enc Tryd.prog W 0 (fun _ => true) true Tryd.f9.params.toList args.toList ds p := hA0
  rw [Tryd.params9] at hA hval
  obtain ⟨v0, vs0, d0, ds0, p0, q0, hargs, rfl, rfl, h0, r0⟩ := trodAll_cons hA
  obtain ⟨v1, vs1, d1, ds1, p1, q1, rfl, rfl, rfl, h1, r1⟩ := trodAll_cons r0
  obtain ⟨v2, vs2, d2, ds2, p2, q2, rfl, rfl, rfl, h2, r2⟩ := trodAll_cons r1
  obtain ⟨v3, vs3, d3, ds3, p3, q3, rfl, rfl, rfl, h3, r3⟩ := trodAll_cons r2
  obtain ⟨rfl, rfl, rfl⟩ := trodAll_nil r3
  obtain rfl : args = #[v0, v1, v2, v3] := by cases args; simp_all
  obtain ⟨rfl, rfl⟩ := trodVars_none hV
  obtain ⟨a0, rfl, rfl, rfl, w0⟩ := open_int Tryd.underlying49 (hval 0 49 v0 rfl rfl) h0
  obtain ⟨a1, rfl, rfl, rfl, w1⟩ := open_int Tryd.underlying49 (hval 1 49 v1 rfl rfl) h1
  obtain ⟨a2, rfl, rfl, rfl, w2⟩ := open_int Tryd.underlying49 (hval 2 49 v2 rfl rfl) h2
  obtain ⟨a3, rfl, rfl, rfl, w3⟩ := open_string Tryd.underlying9 (hval 3 9 v3 rfl rfl) h3
  clear hA0 hval0
  simp only [List.append_nil] at hW'
  refine (walk W a0 w0 a1 w1 a2 w2 a3 w3).mono fun e W' ⟨he, bel⟩ => ?_
  subst he
  exact ⟨_, rfl, _, _, _, [], [], [], hW', trodAll_mk1 (shut_bool Tryd.underlying4 _), (trodAll_cons_mk (shut_int Tryd.underlying49 w0) (trodAll_cons_mk (shut_int Tryd.underlying49 w1) (trodAll_cons_mk (shut_int Tryd.underlying49 w2) (trodAll_cons_mk (shut_string Tryd.underlying9 w3) trodAll_mk0)))), rfl, bel.frame _, fun h => by cases h⟩

theorem over : Rows.semverStepsRow.holds Tryd.pinned (OpenSpec.ofChange Rows.semverStepsSpec) :=
  OpenClaim.holds_of_wide 9 Tryd.f9 rfl rfl rfl rfl rfl rfl rfl ⟨rfl, rfl, rfl, rfl, rfl⟩ rfl rfl rfl rfl rfl (by kernel_rfl) Tryd.func9 (by kernel_rfl)
    (of_decide_eq_true (by kernel_rfl)) (by unfold Func.isWrapper; first | (rw [if_pos (by decide +kernel)]; kernel_rfl) | (rw [if_neg (by decide +kernel)]; exact ⟨rfl, rfl⟩))
    (fun os started H enc _ => lifted os started H enc)

theorem proved : Rows.SemverStepsCardSaid :=
  Claim7.holds_tied_plain_at .later [] [.data, .data, .data, .sentinel, .sentinel] true (true, "cad1ac15bbe0d173cc4ad633fce6cf0f3dc5bbd550a450317c015fae4feb8bb4") true
    over (fun _ h => by cases h) (by kernel_rfl) (fun _ h => by cases h) semverSteps_row_tie rfl ⟨rfl, rfl⟩ (by kernel_rfl) rfl
    (fun f fn hf hfn => by
      obtain rfl : f = 9 := Option.some.inj ((show Tryd.prog.funcNamed "graftbed/graftbedlaw03.SemverSteps" = some 9 by kernel_rfl).symm.trans hf) |>.symm
      obtain rfl : fn = Tryd.f9 := (Option.some.inj (Tryd.func9.symm.trans hfn)).symm
      exact ⟨by kernel_rfl, fun j t ht => by
        rw [Tryd.params9] at ht
        have hm : t ∈ [49, 49, 49, 9] := by simpa using Array.mem_of_getElem? ht
        have hall : ([49, 49, 49, 9].all fun u => !Tryd.prog.wantsStandIn u) = true := by kernel_rfl
        exact (show Tryd.prog.wantsStandIn t = false by simpa using List.all_eq_true.1 hall t hm)⟩)
    (by kernel_rfl)
#print axioms proved
end Go.Proofs.YtoljpmelfebjoaaDoor.semverSteps
