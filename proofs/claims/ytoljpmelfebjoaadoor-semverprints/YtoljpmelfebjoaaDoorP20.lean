/-
  The document's own Print; it is the program's.
-/
import Derived.Test.YtoljpmelfebjoaaDoorP19
import Derived.Test.YtoljpmelfebjoaaDoorP16
namespace Go.Proofs.YtoljpmelfebjoaaDoor
open Go.RowKit Go.Shelf

theorem digZ_below (n : Int) (h1 : n ≤ 9223372036854775807) (w : World) :
    Calls Tryd.prog 27 #[.int .i64 n] w fun e w' => e = .returned (.string (mkB (digZ n))) ∧ Below w.heap.size w w' :=
  (rdigitsZ_any n (by omega) w).mono fun _ _ ⟨h, e⟩ => ⟨h, by rw [← e]; exact Below.refl _ _⟩
theorem digZ_len (n : Int) (h1 : n ≤ 9223372036854775807) : (digZ n).length ≤ 21 := by
  unfold digZ
  split
  · simp
  · have := len_dec 19 n.toNat (by omega)
    omega
/-- The text that the document's Print tries. -/
def printZ (v : Ver) : ByteArray :=
  let s : ByteArray := ⟨#[118]⟩ ++ mkB (digZ v.ma) ++ ⟨#[46]⟩ ++ mkB (digZ v.mi) ++ ⟨#[46]⟩ ++ mkB (digZ v.pa)
  let t : ByteArray := if v.pre.toList.isEmpty then s else s ++ ⟨#[45]⟩ ++ v.pre
  if v.mta.toList.isEmpty then t else t ++ ⟨#[43]⟩ ++ v.mta
def qOk (v : Ver) : Bool := okV (printZ v).data.toList && decide (verL (printZ v).data.toList = v)
def retZ (v : Ver) : Value := .tuple #[.string (if qOk v then printZ v else ⟨#[]⟩), .int .i64 (if qOk v then 0 else 30)]
theorem retZ_no {v : Ver} (h : qOk v = false) : Ending.returned (.tuple #[.string ⟨#[]⟩, .int .i64 30]) = .returned (retZ v) := by simp [retZ, h]
theorem retZ_yes {v : Ver} {x : ByteArray} (hx : x = printZ v) (h : qOk v = true) : Ending.returned (.tuple #[.string x, .int .i64 0]) = .returned (retZ v) := by simp [retZ, h, hx]
theorem qOk_1 {v : Ver} {x : ByteArray} (hx : x = printZ v) (h : okV x.data.toList = false) : qOk v = false := by rw [hx] at h; simp [qOk, h]
theorem qOk_2 {v u : Ver} {x : ByteArray} (hx : x = printZ v) (hu : u = verL x.data.toList) (h : ¬ u = v) : qOk v = false := by
  rw [hx] at hu; rw [hu] at h; simp [qOk, h]
theorem qOk_3 {v : Ver} {x : ByteArray} (hx : x = printZ v) (ho : okV x.data.toList = true) (hu : v = verL x.data.toList) : qOk v = true := by
  rw [hx] at hu ho; unfold qOk; rw [ho, ← hu]; simp
theorem ver_nat (l : List UInt8) : 0 ≤ (verL l).ma ∧ 0 ≤ (verL l).mi ∧ 0 ≤ (verL l).pa := by
  cases h : okV l
  · simp [verL, h, Ver.zero]
  · simp only [verL, h, if_true]; omega
theorem digZ_itoa {n : Int} (h : 0 ≤ n) : digZ n = Lib.itoa n := by
  unfold digZ Lib.itoa; rw [if_neg (by omega), if_neg (by omega)]
theorem bapp (x y z : ByteArray) : x ++ y ++ z = x ++ (y ++ z) := by
  apply data_inj; simp
theorem ret_same (v : Ver) : retZ v = retR v := by
  by_cases h : 0 ≤ v.ma ∧ 0 ≤ v.mi ∧ 0 ≤ v.pa
  · have e : printZ v = printB v := by
      unfold printZ printB
      rw [digZ_itoa h.1, digZ_itoa h.2.1, digZ_itoa h.2.2]
      simp only [bapp]
    unfold retZ retR qOk pOk
    rw [e]
  · have h1 : qOk v = false := by
      unfold qOk
      rw [Bool.and_eq_false_iff]
      refine .inr (decide_eq_false fun e => h ?_)
      rw [← e]; exact ver_nat _
    have h2 : pOk v = false := by
      unfold pOk
      rw [Bool.and_eq_false_iff]
      refine .inr (decide_eq_false fun e => h ?_)
      rw [← e]; exact ver_nat _
    simp [retZ, retR, h1, h2]

set_option maxRecDepth 100000 in
set_option maxHeartbeats 2000000 in
theorem rprint_any (v : Ver) (h0 : -9223372036854775808 ≤ v.ma ∧ v.ma ≤ 9223372036854775807) (h1 : -9223372036854775808 ≤ v.mi ∧ v.mi ≤ 9223372036854775807) (h2 : -9223372036854775808 ≤ v.pa ∧ v.pa ≤ 9223372036854775807) (hp : v.pre.size ≤ 1024) (hm : v.mta.size ≤ 1024) (w : World) :
    Calls Tryd.prog 14 #[verV v] w fun e w' => e = .returned (retZ v) ∧ Below w.heap.size w w' := by
  have hc := VerC.of w 27 v
  have hB : Below w.heap.size w (w.alloc (.cells #[.int .i64 v.ma, .int .i64 v.mi, .int .i64 v.pa, .string v.pre, .string v.mta] 27)) := (Below.refl _ w).alloc (Nat.le_refl _) _
  unfold verV
  go_enter Tryd.func14, Tryd.ntmps14
  go_wp2
  generalize w.alloc (.cells #[.int .i64 v.ma, .int .i64 v.mi, .int .i64 v.pa, .string v.pre, .string v.mta] 27) = w1 at *
  have cA : ∀ d os, Calls Tryd.prog 27 #[.int .i64 v.ma] (Sort.grow (redrawn w1 d) os) (fun e w'' => e = .returned (.string (mkB (digZ v.ma))) ∧ ∃ p : Regrown, w'' = Sort.grow (redrawn w1 p.d) p.os) := fun d os => Calls.regrown_of (digZ_below v.ma h0.2 _)
  have cB : ∀ d os, Calls Tryd.prog 27 #[.int .i64 v.mi] (Sort.grow (redrawn w1 d) os) (fun e w'' => e = .returned (.string (mkB (digZ v.mi))) ∧ ∃ p : Regrown, w'' = Sort.grow (redrawn w1 p.d) p.os) := fun d os => Calls.regrown_of (digZ_below v.mi h1.2 _)
  have cC : ∀ d os, Calls Tryd.prog 27 #[.int .i64 v.pa] (Sort.grow (redrawn w1 d) os) (fun e w'' => e = .returned (.string (mkB (digZ v.pa))) ∧ ∃ p : Regrown, w'' = Sort.grow (redrawn w1 p.d) p.os) := fun d os => Calls.regrown_of (digZ_below v.pa h2.2 _)
  have zA : (mkB (digZ v.ma)).size ≤ 21 := by rw [← size_data, data_mkB]; exact digZ_len _ h0.2
  have zB : (mkB (digZ v.mi)).size ≤ 21 := by rw [← size_data, data_mkB]; exact digZ_len _ h1.2
  have zC : (mkB (digZ v.pa)).size ≤ 21 := by rw [← size_data, data_mkB]; exact digZ_len _ h2.2
  have k0 := cell_regrown hc.c0.cell
  have k1 := cell_regrown hc.c1.cell
  have k2 := cell_regrown hc.c2.cell
  have HC := Lib.hid hc
  clear hc h0 h1 h2
  obtain ⟨A, hA⟩ : ∃ x, x = mkB (digZ v.ma) := ⟨_, rfl⟩
  obtain ⟨Bm, hBm⟩ : ∃ x, x = mkB (digZ v.mi) := ⟨_, rfl⟩
  obtain ⟨C, hC⟩ : ∃ x, x = mkB (digZ v.pa) := ⟨_, rfl⟩
  rw [← hA] at cA zA
  rw [← hBm] at cB zB
  rw [← hC] at cC zC
  have HA := Lib.hid (And.intro hA (And.intro hBm hC))
  clear hA hBm hC
  refine wp_region_quiet_below (by kernel_rfl) (by kernel_rfl) ?_
  repeat (go_big_quiet_step (first | with_reducible exact cA _ _ | with_reducible exact cB _ _ | with_reducible exact cC _ _))
  refine wpQuiet_nil ?_
  intro _ hw'
  obtain ⟨⟨dq, osq⟩, hw''⟩ := hw'
  subst hw''
  have hbr := below_regrown w1 dq osq
  have hB2 := hB.trans (hbr.mono hB.size)
  have hV2 := HC.out.below hbr
  clear k0 k1 k2 cA cB cC hB
  obtain ⟨s0, hs0⟩ : ∃ x, x = (⟨#[118]⟩ ++ A ++ ⟨#[46]⟩ ++ Bm ++ ⟨#[46]⟩ ++ C : ByteArray) := ⟨_, rfl⟩
  have z0 : s0.size ≤ 100 := by
    rw [hs0]; simp only [ByteArray.size_append]
    have e1 : (⟨#[118]⟩ : ByteArray).size = 1 := rfl
    have e2 : (⟨#[46]⟩ : ByteArray).size = 1 := rfl
    omega
  rw [← hs0]
  have HS := Lib.hid hs0
  clear hs0 hbr
  dsimp only
  generalize Sort.grow (redrawn w1 dq) osq = w2 at *
  have q3 := hV2.c3.cell
  have q4 := hV2.c4.cell
  cases e3 : v.pre.toList.isEmpty
  · cases e4 : v.mta.toList.isEmpty
    · go_wp2_with fail
      obtain ⟨x, hx⟩ : ∃ x, x = (s0 ++ ⟨#[45]⟩ ++ v.pre ++ ⟨#[43]⟩ ++ v.mta : ByteArray) := ⟨_, rfl⟩
      have HX := Lib.hid (show x = printZ v by rw [hx, HS.out, HA.out.1, HA.out.2.1, HA.out.2.2]; simp only [printZ, e3, e4]; rfl)
      have zx : x.size ≤ 4000 := by rw [hx]; (try simp only [ByteArray.size_append]); have e1 : (⟨#[45]⟩ : ByteArray).size = 1 := rfl; have e2 : (⟨#[43]⟩ : ByteArray).size = 1 := rfl; omega
      rw [← hx]
      clear hx
      refine (rparse_any x (by omega) _).mono ?_
      rintro _ w3 ⟨rfl, hb3⟩
      unfold retP verV
      have hV3 := hV2.below hb3
      have hB3 := hB2.trans (hb3.mono hB2.size)
      obtain ⟨u, hu⟩ : ∃ u, u = verL x.data.toList := ⟨_, rfl⟩
      rw [← hu]
      have HU := Lib.hid hu
      clear hu
      have hB4 := hB3.alloc hB3.size (.cells #[.int .i64 u.ma, .int .i64 u.mi, .int .i64 u.pa, .string u.pre, .string u.mta] 27)
      have hV4 := hV3.kept (World.grownBy_alloc w3 (.cells #[.int .i64 u.ma, .int .i64 u.mi, .int .i64 u.pa, .string u.pre, .string u.mta] 27) none) (fun r e => by cases e)
      have a0 := hV4.c0.cell
      have a1 := hV4.c1.cell
      have a2 := hV4.c2.cell
      have a3 := hV4.c3.cell
      have a4 := hV4.c4.cell
      clear q3 q4 hV2 hV3 hV4 hb3 e3 e4 hB2
      cases eo : okV x.data.toList
      · have H := Lib.hid (qOk_1 HX.out eo)
        rw [err_no eo]
        clear eo
        go_wp2
        go_ret2
        exact ⟨retZ_no H.out, hB4⟩
      · rw [err_yes eo]
        by_cases huv : u = v
        · have H := Lib.hid (qOk_3 HX.out eo (huv ▸ HU.out))
          clear eo
          subst huv
          go_wp2
          go_ret2
          exact ⟨retZ_yes HX.out H.out, hB4⟩
        · have H := Lib.hid (qOk_2 HX.out HU.out huv)
          have HV := Lib.hid huv
          clear eo huv
          go_wp2
          all_goals first | (exact absurd (ver_ext (by assumption) (by assumption) (by assumption) (by assumption) (by assumption)) HV.out) | (go_ret2; exact ⟨retZ_no H.out, hB3.alloc hB3.size _⟩)
    · go_wp2_with fail
      obtain ⟨x, hx⟩ : ∃ x, x = (s0 ++ ⟨#[45]⟩ ++ v.pre : ByteArray) := ⟨_, rfl⟩
      have HX := Lib.hid (show x = printZ v by rw [hx, HS.out, HA.out.1, HA.out.2.1, HA.out.2.2]; simp only [printZ, e3, e4]; rfl)
      have zx : x.size ≤ 4000 := by rw [hx]; (try simp only [ByteArray.size_append]); have e1 : (⟨#[45]⟩ : ByteArray).size = 1 := rfl; have e2 : (⟨#[43]⟩ : ByteArray).size = 1 := rfl; omega
      rw [← hx]
      clear hx
      refine (rparse_any x (by omega) _).mono ?_
      rintro _ w3 ⟨rfl, hb3⟩
      unfold retP verV
      have hV3 := hV2.below hb3
      have hB3 := hB2.trans (hb3.mono hB2.size)
      obtain ⟨u, hu⟩ : ∃ u, u = verL x.data.toList := ⟨_, rfl⟩
      rw [← hu]
      have HU := Lib.hid hu
      clear hu
      have hB4 := hB3.alloc hB3.size (.cells #[.int .i64 u.ma, .int .i64 u.mi, .int .i64 u.pa, .string u.pre, .string u.mta] 27)
      have hV4 := hV3.kept (World.grownBy_alloc w3 (.cells #[.int .i64 u.ma, .int .i64 u.mi, .int .i64 u.pa, .string u.pre, .string u.mta] 27) none) (fun r e => by cases e)
      have a0 := hV4.c0.cell
      have a1 := hV4.c1.cell
      have a2 := hV4.c2.cell
      have a3 := hV4.c3.cell
      have a4 := hV4.c4.cell
      clear q3 q4 hV2 hV3 hV4 hb3 e3 e4 hB2
      cases eo : okV x.data.toList
      · have H := Lib.hid (qOk_1 HX.out eo)
        rw [err_no eo]
        clear eo
        go_wp2
        go_ret2
        exact ⟨retZ_no H.out, hB4⟩
      · rw [err_yes eo]
        by_cases huv : u = v
        · have H := Lib.hid (qOk_3 HX.out eo (huv ▸ HU.out))
          clear eo
          subst huv
          go_wp2
          go_ret2
          exact ⟨retZ_yes HX.out H.out, hB4⟩
        · have H := Lib.hid (qOk_2 HX.out HU.out huv)
          have HV := Lib.hid huv
          clear eo huv
          go_wp2
          all_goals first | (exact absurd (ver_ext (by assumption) (by assumption) (by assumption) (by assumption) (by assumption)) HV.out) | (go_ret2; exact ⟨retZ_no H.out, hB3.alloc hB3.size _⟩)
  · cases e4 : v.mta.toList.isEmpty
    · go_wp2_with fail
      obtain ⟨x, hx⟩ : ∃ x, x = (s0 ++ ⟨#[43]⟩ ++ v.mta : ByteArray) := ⟨_, rfl⟩
      have HX := Lib.hid (show x = printZ v by rw [hx, HS.out, HA.out.1, HA.out.2.1, HA.out.2.2]; simp only [printZ, e3, e4]; rfl)
      have zx : x.size ≤ 4000 := by rw [hx]; (try simp only [ByteArray.size_append]); have e1 : (⟨#[45]⟩ : ByteArray).size = 1 := rfl; have e2 : (⟨#[43]⟩ : ByteArray).size = 1 := rfl; omega
      rw [← hx]
      clear hx
      refine (rparse_any x (by omega) _).mono ?_
      rintro _ w3 ⟨rfl, hb3⟩
      unfold retP verV
      have hV3 := hV2.below hb3
      have hB3 := hB2.trans (hb3.mono hB2.size)
      obtain ⟨u, hu⟩ : ∃ u, u = verL x.data.toList := ⟨_, rfl⟩
      rw [← hu]
      have HU := Lib.hid hu
      clear hu
      have hB4 := hB3.alloc hB3.size (.cells #[.int .i64 u.ma, .int .i64 u.mi, .int .i64 u.pa, .string u.pre, .string u.mta] 27)
      have hV4 := hV3.kept (World.grownBy_alloc w3 (.cells #[.int .i64 u.ma, .int .i64 u.mi, .int .i64 u.pa, .string u.pre, .string u.mta] 27) none) (fun r e => by cases e)
      have a0 := hV4.c0.cell
      have a1 := hV4.c1.cell
      have a2 := hV4.c2.cell
      have a3 := hV4.c3.cell
      have a4 := hV4.c4.cell
      clear q3 q4 hV2 hV3 hV4 hb3 e3 e4 hB2
      cases eo : okV x.data.toList
      · have H := Lib.hid (qOk_1 HX.out eo)
        rw [err_no eo]
        clear eo
        go_wp2
        go_ret2
        exact ⟨retZ_no H.out, hB4⟩
      · rw [err_yes eo]
        by_cases huv : u = v
        · have H := Lib.hid (qOk_3 HX.out eo (huv ▸ HU.out))
          clear eo
          subst huv
          go_wp2
          go_ret2
          exact ⟨retZ_yes HX.out H.out, hB4⟩
        · have H := Lib.hid (qOk_2 HX.out HU.out huv)
          have HV := Lib.hid huv
          clear eo huv
          go_wp2
          all_goals first | (exact absurd (ver_ext (by assumption) (by assumption) (by assumption) (by assumption) (by assumption)) HV.out) | (go_ret2; exact ⟨retZ_no H.out, hB3.alloc hB3.size _⟩)
    · go_wp2_with fail
      obtain ⟨x, hx⟩ : ∃ x, x = (s0 : ByteArray) := ⟨_, rfl⟩
      have HX := Lib.hid (show x = printZ v by rw [hx, HS.out, HA.out.1, HA.out.2.1, HA.out.2.2]; simp only [printZ, e3, e4]; rfl)
      have zx : x.size ≤ 4000 := by rw [hx]; (try simp only [ByteArray.size_append]); have e1 : (⟨#[45]⟩ : ByteArray).size = 1 := rfl; have e2 : (⟨#[43]⟩ : ByteArray).size = 1 := rfl; omega
      rw [← hx]
      clear hx
      refine (rparse_any x (by omega) _).mono ?_
      rintro _ w3 ⟨rfl, hb3⟩
      unfold retP verV
      have hV3 := hV2.below hb3
      have hB3 := hB2.trans (hb3.mono hB2.size)
      obtain ⟨u, hu⟩ : ∃ u, u = verL x.data.toList := ⟨_, rfl⟩
      rw [← hu]
      have HU := Lib.hid hu
      clear hu
      have hB4 := hB3.alloc hB3.size (.cells #[.int .i64 u.ma, .int .i64 u.mi, .int .i64 u.pa, .string u.pre, .string u.mta] 27)
      have hV4 := hV3.kept (World.grownBy_alloc w3 (.cells #[.int .i64 u.ma, .int .i64 u.mi, .int .i64 u.pa, .string u.pre, .string u.mta] 27) none) (fun r e => by cases e)
      have a0 := hV4.c0.cell
      have a1 := hV4.c1.cell
      have a2 := hV4.c2.cell
      have a3 := hV4.c3.cell
      have a4 := hV4.c4.cell
      clear q3 q4 hV2 hV3 hV4 hb3 e3 e4 hB2
      cases eo : okV x.data.toList
      · have H := Lib.hid (qOk_1 HX.out eo)
        rw [err_no eo]
        clear eo
        go_wp2
        go_ret2
        exact ⟨retZ_no H.out, hB4⟩
      · rw [err_yes eo]
        by_cases huv : u = v
        · have H := Lib.hid (qOk_3 HX.out eo (huv ▸ HU.out))
          clear eo
          subst huv
          go_wp2
          go_ret2
          exact ⟨retZ_yes HX.out H.out, hB4⟩
        · have H := Lib.hid (qOk_2 HX.out HU.out huv)
          have HV := Lib.hid huv
          clear eo huv
          go_wp2
          all_goals first | (exact absurd (ver_ext (by assumption) (by assumption) (by assumption) (by assumption) (by assumption)) HV.out) | (go_ret2; exact ⟨retZ_no H.out, hB3.alloc hB3.size _⟩)
end Go.Proofs.YtoljpmelfebjoaaDoor
