/-
  semver.Print.
-/
import Derived.Test.YtoljpmelfebjoaaDoorP14
import Derived.Test.YtoljpmelfebjoaaDoorS2
import Derived.Lib.QuietBelow
import Derived.BigQuiet
import Derived.Lib.AppendIntMem
import Derived.Lib.ItoaLen
namespace Go.Proofs.YtoljpmelfebjoaaDoor
open Go.RowKit Go.Shelf

def Tab (w : World) : Prop := Lib.TabIs Tryd.prog w "internal/strconv.uint64pow10" .u64 Lib.pow10Tab
theorem gPow : Tryd.prog.globalNamed "internal/strconv.uint64pow10" = some 1 := by kernel_rfl
theorem itoa_below (n : Int) (h0 : -9223372036854775808 ≤ n) (h1 : n ≤ 9223372036854775807) (w : World) (ht : Tab w) :
    Calls Tryd.prog 38 #[.int .i64 n] w fun e w' => e = .returned (.string (mkB (Lib.itoa n))) ∧ Below w.heap.size w w' :=
  (Tryd.strconv_Itoa n h0 h1 w ht).mono fun _ _ ⟨h, k, os, e⟩ => ⟨h, by rw [e]; exact Lib.below_grow _ _ (Nat.le_refl _) _ _⟩
theorem Tab.below {w w' : World} (h : Tab w) (hb : Below w.heap.size w w') : Tab w' := by
  have key : ∀ W : World, W.heap[1]? = w.heap[1]? → W.var? Tryd.prog "internal/strconv.uint64pow10" = w.var? Tryd.prog "internal/strconv.uint64pow10" := by
    intro W e
    unfold World.var?
    rw [gPow]
    simp only [Option.bind_some, e]
  unfold Tab Lib.TabIs at h ⊢
  have hlt : 1 < w.heap.size := by
    by_cases k : 1 < w.heap.size
    · exact k
    · unfold World.var? at h
      rw [gPow] at h
      simp only [Option.bind_some] at h
      rw [Array.getElem?_eq_none (by omega)] at h; cases h
  rw [key w' (hb.block 1 hlt)]; exact h

/-- The text that Print tries. -/
def printB (v : Ver) : ByteArray :=
  let s : ByteArray := ⟨#[118]⟩ ++ mkB (Lib.itoa v.ma) ++ ⟨#[46]⟩ ++ mkB (Lib.itoa v.mi) ++ ⟨#[46]⟩ ++ mkB (Lib.itoa v.pa)
  let t : ByteArray := if v.pre.toList.isEmpty then s else s ++ (⟨#[45]⟩ ++ v.pre)
  if v.mta.toList.isEmpty then t else t ++ (⟨#[43]⟩ ++ v.mta)

def pOk (v : Ver) : Bool := okV (printB v).data.toList && decide (verL (printB v).data.toList = v)
def retR (v : Ver) : Value := .tuple #[.string (if pOk v then printB v else ⟨#[]⟩), .int .i64 (if pOk v then 0 else 30)]
theorem retR_no {v : Ver} (h : pOk v = false) : Ending.returned (.tuple #[.string ⟨#[]⟩, .int .i64 30]) = .returned (retR v) := by simp [retR, h]
theorem retR_yes {v : Ver} {x : ByteArray} (hx : x = printB v) (h : pOk v = true) : Ending.returned (.tuple #[.string x, .int .i64 0]) = .returned (retR v) := by simp [retR, h, hx]
theorem pOk_1 {v : Ver} {x : ByteArray} (hx : x = printB v) (h : okV x.data.toList = false) : pOk v = false := by rw [hx] at h; simp [pOk, h]
theorem pOk_2 {v u : Ver} {x : ByteArray} (hx : x = printB v) (hu : u = verL x.data.toList) (h : ¬ u = v) : pOk v = false := by
  rw [hx] at hu; rw [hu] at h; simp [pOk, h]
theorem pOk_3 {v : Ver} {x : ByteArray} (hx : x = printB v) (ho : okV x.data.toList = true) (hu : v = verL x.data.toList) : pOk v = true := by
  rw [hx] at hu ho; unfold pOk; rw [ho, ← hu]; simp
theorem ver_ext {u v : Ver} (h0 : u.ma = v.ma) (h1 : u.mi = v.mi) (h2 : u.pa = v.pa) (h3 : u.pre.toList = v.pre.toList) (h4 : u.mta.toList = v.mta.toList) : u = v := by
  rw [Lib.toList_data, Lib.toList_data] at h3 h4
  cases u; cases v
  simp only at h0 h1 h2 h3 h4
  rw [h0, h1, h2, data_inj h3, data_inj h4]

set_option maxRecDepth 100000 in
set_option maxHeartbeats 2000000 in
theorem print_any (v : Ver) (h0 : -9223372036854775808 ≤ v.ma ∧ v.ma ≤ 9223372036854775807) (h1 : -9223372036854775808 ≤ v.mi ∧ v.mi ≤ 9223372036854775807) (h2 : -9223372036854775808 ≤ v.pa ∧ v.pa ≤ 9223372036854775807) (hp : v.pre.size ≤ 1024) (hm : v.mta.size ≤ 1024) (w : World) (ht : Tab w) :
    Calls Tryd.prog 13 #[verV v] w fun e w' => e = .returned (retR v) ∧ Below w.heap.size w w' := by
  have hc := VerC.of w 23 v
  have hB : Below w.heap.size w (w.alloc (.cells #[.int .i64 v.ma, .int .i64 v.mi, .int .i64 v.pa, .string v.pre, .string v.mta] 23)) := (Below.refl _ w).alloc (Nat.le_refl _) _
  have HT := Lib.hid (ht.below hB)
  unfold verV
  go_enter Tryd.func13, Tryd.ntmps13
  go_wp2
  generalize w.alloc (.cells #[.int .i64 v.ma, .int .i64 v.mi, .int .i64 v.pa, .string v.pre, .string v.mta] 23) = w1 at *
  have cA : ∀ d os, Calls Tryd.prog 38 #[.int .i64 v.ma] (Sort.grow (redrawn w1 d) os) (fun e w'' => e = .returned (.string (mkB (Lib.itoa v.ma))) ∧ ∃ p : Regrown, w'' = Sort.grow (redrawn w1 p.d) p.os) := fun d os => Calls.regrown_of (itoa_below v.ma h0.1 h0.2 _ (HT.out.below (below_regrown w1 d os)))
  have cB : ∀ d os, Calls Tryd.prog 38 #[.int .i64 v.mi] (Sort.grow (redrawn w1 d) os) (fun e w'' => e = .returned (.string (mkB (Lib.itoa v.mi))) ∧ ∃ p : Regrown, w'' = Sort.grow (redrawn w1 p.d) p.os) := fun d os => Calls.regrown_of (itoa_below v.mi h1.1 h1.2 _ (HT.out.below (below_regrown w1 d os)))
  have cC : ∀ d os, Calls Tryd.prog 38 #[.int .i64 v.pa] (Sort.grow (redrawn w1 d) os) (fun e w'' => e = .returned (.string (mkB (Lib.itoa v.pa))) ∧ ∃ p : Regrown, w'' = Sort.grow (redrawn w1 p.d) p.os) := fun d os => Calls.regrown_of (itoa_below v.pa h2.1 h2.2 _ (HT.out.below (below_regrown w1 d os)))
  have zA : (mkB (Lib.itoa v.ma)).size ≤ 21 := by rw [← size_data, data_mkB]; exact Lib.itoa_length_le _ h0.1 h0.2
  have zB : (mkB (Lib.itoa v.mi)).size ≤ 21 := by rw [← size_data, data_mkB]; exact Lib.itoa_length_le _ h1.1 h1.2
  have zC : (mkB (Lib.itoa v.pa)).size ≤ 21 := by rw [← size_data, data_mkB]; exact Lib.itoa_length_le _ h2.1 h2.2
  have k0 := cell_regrown hc.c0.cell
  have k1 := cell_regrown hc.c1.cell
  have k2 := cell_regrown hc.c2.cell
  have HC := Lib.hid hc
  clear hc h0 h1 h2
  obtain ⟨A, hA⟩ : ∃ x, x = mkB (Lib.itoa v.ma) := ⟨_, rfl⟩
  obtain ⟨Bm, hBm⟩ : ∃ x, x = mkB (Lib.itoa v.mi) := ⟨_, rfl⟩
  obtain ⟨C, hC⟩ : ∃ x, x = mkB (Lib.itoa v.pa) := ⟨_, rfl⟩
  rw [← hA] at cA zA
  rw [← hBm] at cB zB
  rw [← hC] at cC zC
  have HA := Lib.hid (And.intro hA (And.intro hBm hC))
  clear hA hBm hC
  refine wp_region_quiet_below (by kernel_rfl) (by kernel_rfl) ?_
  repeat (go_big_quiet_step (first | with_reducible exact cA _ _ | with_reducible exact cB _ _ | with_reducible exact cC _ _))
  refine wpQuiet_nil ?_
  intro _ hw'
  obtain ⟨⟨dq, osq⟩, hw''⟩ := hw'
  subst hw''
  have hbr := below_regrown w1 dq osq
  have hB2 := hB.trans (hbr.mono hB.size)
  have hV2 := HC.out.below hbr
  clear k0 k1 k2 cA cB cC hB
  obtain ⟨s0, hs0⟩ : ∃ x, x = (⟨#[118]⟩ ++ A ++ ⟨#[46]⟩ ++ Bm ++ ⟨#[46]⟩ ++ C : ByteArray) := ⟨_, rfl⟩
  have z0 : s0.size ≤ 100 := by
    rw [hs0]; simp only [ByteArray.size_append]
    have e1 : (⟨#[118]⟩ : ByteArray).size = 1 := rfl
    have e2 : (⟨#[46]⟩ : ByteArray).size = 1 := rfl
    omega
  rw [← hs0]
  have HS := Lib.hid hs0
  clear hs0 hbr
  dsimp only
  generalize Sort.grow (redrawn w1 dq) osq = w2 at *
  have q3 := hV2.c3.cell
  have q4 := hV2.c4.cell
  cases e3 : v.pre.toList.isEmpty
  · cases e4 : v.mta.toList.isEmpty
    · go_wp2_with fail
      obtain ⟨x, hx⟩ : ∃ x, x = (s0 ++ (⟨#[45]⟩ ++ v.pre) ++ (⟨#[43]⟩ ++ v.mta) : ByteArray) := ⟨_, rfl⟩
      have HX := Lib.hid (show x = printB v by rw [hx, HS.out, HA.out.1, HA.out.2.1, HA.out.2.2]; simp only [printB, e3, e4]; rfl)
      have zx : x.size ≤ 4000 := by rw [hx]; (try simp only [ByteArray.size_append]); have e1 : (⟨#[45]⟩ : ByteArray).size = 1 := rfl; have e2 : (⟨#[43]⟩ : ByteArray).size = 1 := rfl; omega
      rw [← hx]
      clear hx
      refine (parse_any x (by omega) _).mono ?_
      rintro _ w3 ⟨rfl, hb3⟩
      unfold retP verV
      have hV3 := hV2.below hb3
      have hB3 := hB2.trans (hb3.mono hB2.size)
      obtain ⟨u, hu⟩ : ∃ u, u = verL x.data.toList := ⟨_, rfl⟩
      rw [← hu]
      have HU := Lib.hid hu
      clear hu
      have hB4 := hB3.alloc hB3.size (.cells #[.int .i64 u.ma, .int .i64 u.mi, .int .i64 u.pa, .string u.pre, .string u.mta] 23)
      have hV4 := hV3.kept (World.grownBy_alloc w3 (.cells #[.int .i64 u.ma, .int .i64 u.mi, .int .i64 u.pa, .string u.pre, .string u.mta] 23) none) (fun r e => by cases e)
      have a0 := hV4.c0.cell
      have a1 := hV4.c1.cell
      have a2 := hV4.c2.cell
      have a3 := hV4.c3.cell
      have a4 := hV4.c4.cell
      clear q3 q4 hV2 hV3 hV4 hb3 e3 e4 hB2
      cases eo : okV x.data.toList
      · have H := Lib.hid (pOk_1 HX.out eo)
        rw [err_no eo]
        clear eo
        go_wp2
        go_ret2
        exact ⟨retR_no H.out, hB4⟩
      · rw [err_yes eo]
        by_cases huv : u = v
        · have H := Lib.hid (pOk_3 HX.out eo (huv ▸ HU.out))
          clear eo
          subst huv
          go_wp2
          go_ret2
          exact ⟨retR_yes HX.out H.out, hB4⟩
        · have H := Lib.hid (pOk_2 HX.out HU.out huv)
          have HV := Lib.hid huv
          clear eo huv
          go_wp2
          all_goals first | (exact absurd (ver_ext (by assumption) (by assumption) (by assumption) (by assumption) (by assumption)) HV.out) | (go_ret2; exact ⟨retR_no H.out, hB3.alloc hB3.size _⟩)
    · go_wp2_with fail
      obtain ⟨x, hx⟩ : ∃ x, x = (s0 ++ (⟨#[45]⟩ ++ v.pre) : ByteArray) := ⟨_, rfl⟩
      have HX := Lib.hid (show x = printB v by rw [hx, HS.out, HA.out.1, HA.out.2.1, HA.out.2.2]; simp only [printB, e3, e4]; rfl)
      have zx : x.size ≤ 4000 := by rw [hx]; (try simp only [ByteArray.size_append]); have e1 : (⟨#[45]⟩ : ByteArray).size = 1 := rfl; have e2 : (⟨#[43]⟩ : ByteArray).size = 1 := rfl; omega
      rw [← hx]
      clear hx
      refine (parse_any x (by omega) _).mono ?_
      rintro _ w3 ⟨rfl, hb3⟩
      unfold retP verV
      have hV3 := hV2.below hb3
      have hB3 := hB2.trans (hb3.mono hB2.size)
      obtain ⟨u, hu⟩ : ∃ u, u = verL x.data.toList := ⟨_, rfl⟩
      rw [← hu]
      have HU := Lib.hid hu
      clear hu
      have hB4 := hB3.alloc hB3.size (.cells #[.int .i64 u.ma, .int .i64 u.mi, .int .i64 u.pa, .string u.pre, .string u.mta] 23)
      have hV4 := hV3.kept (World.grownBy_alloc w3 (.cells #[.int .i64 u.ma, .int .i64 u.mi, .int .i64 u.pa, .string u.pre, .string u.mta] 23) none) (fun r e => by cases e)
      have a0 := hV4.c0.cell
      have a1 := hV4.c1.cell
      have a2 := hV4.c2.cell
      have a3 := hV4.c3.cell
      have a4 := hV4.c4.cell
      clear q3 q4 hV2 hV3 hV4 hb3 e3 e4 hB2
      cases eo : okV x.data.toList
      · have H := Lib.hid (pOk_1 HX.out eo)
        rw [err_no eo]
        clear eo
        go_wp2
        go_ret2
        exact ⟨retR_no H.out, hB4⟩
      · rw [err_yes eo]
        by_cases huv : u = v
        · have H := Lib.hid (pOk_3 HX.out eo (huv ▸ HU.out))
          clear eo
          subst huv
          go_wp2
          go_ret2
          exact ⟨retR_yes HX.out H.out, hB4⟩
        · have H := Lib.hid (pOk_2 HX.out HU.out huv)
          have HV := Lib.hid huv
          clear eo huv
          go_wp2
          all_goals first | (exact absurd (ver_ext (by assumption) (by assumption) (by assumption) (by assumption) (by assumption)) HV.out) | (go_ret2; exact ⟨retR_no H.out, hB3.alloc hB3.size _⟩)
  · cases e4 : v.mta.toList.isEmpty
    · go_wp2_with fail
      obtain ⟨x, hx⟩ : ∃ x, x = (s0 ++ (⟨#[43]⟩ ++ v.mta) : ByteArray) := ⟨_, rfl⟩
      have HX := Lib.hid (show x = printB v by rw [hx, HS.out, HA.out.1, HA.out.2.1, HA.out.2.2]; simp only [printB, e3, e4]; rfl)
      have zx : x.size ≤ 4000 := by rw [hx]; (try simp only [ByteArray.size_append]); have e1 : (⟨#[45]⟩ : ByteArray).size = 1 := rfl; have e2 : (⟨#[43]⟩ : ByteArray).size = 1 := rfl; omega
      rw [← hx]
      clear hx
      refine (parse_any x (by omega) _).mono ?_
      rintro _ w3 ⟨rfl, hb3⟩
      unfold retP verV
      have hV3 := hV2.below hb3
      have hB3 := hB2.trans (hb3.mono hB2.size)
      obtain ⟨u, hu⟩ : ∃ u, u = verL x.data.toList := ⟨_, rfl⟩
      rw [← hu]
      have HU := Lib.hid hu
      clear hu
      have hB4 := hB3.alloc hB3.size (.cells #[.int .i64 u.ma, .int .i64 u.mi, .int .i64 u.pa, .string u.pre, .string u.mta] 23)
      have hV4 := hV3.kept (World.grownBy_alloc w3 (.cells #[.int .i64 u.ma, .int .i64 u.mi, .int .i64 u.pa, .string u.pre, .string u.mta] 23) none) (fun r e => by cases e)
      have a0 := hV4.c0.cell
      have a1 := hV4.c1.cell
      have a2 := hV4.c2.cell
      have a3 := hV4.c3.cell
      have a4 := hV4.c4.cell
      clear q3 q4 hV2 hV3 hV4 hb3 e3 e4 hB2
      cases eo : okV x.data.toList
      · have H := Lib.hid (pOk_1 HX.out eo)
        rw [err_no eo]
        clear eo
        go_wp2
        go_ret2
        exact ⟨retR_no H.out, hB4⟩
      · rw [err_yes eo]
        by_cases huv : u = v
        · have H := Lib.hid (pOk_3 HX.out eo (huv ▸ HU.out))
          clear eo
          subst huv
          go_wp2
          go_ret2
          exact ⟨retR_yes HX.out H.out, hB4⟩
        · have H := Lib.hid (pOk_2 HX.out HU.out huv)
          have HV := Lib.hid huv
          clear eo huv
          go_wp2
          all_goals first | (exact absurd (ver_ext (by assumption) (by assumption) (by assumption) (by assumption) (by assumption)) HV.out) | (go_ret2; exact ⟨retR_no H.out, hB3.alloc hB3.size _⟩)
    · go_wp2_with fail
      obtain ⟨x, hx⟩ : ∃ x, x = (s0 : ByteArray) := ⟨_, rfl⟩
      have HX := Lib.hid (show x = printB v by rw [hx, HS.out, HA.out.1, HA.out.2.1, HA.out.2.2]; simp only [printB, e3, e4]; rfl)
      have zx : x.size ≤ 4000 := by rw [hx]; (try simp only [ByteArray.size_append]); have e1 : (⟨#[45]⟩ : ByteArray).size = 1 := rfl; have e2 : (⟨#[43]⟩ : ByteArray).size = 1 := rfl; omega
      rw [← hx]
      clear hx
      refine (parse_any x (by omega) _).mono ?_
      rintro _ w3 ⟨rfl, hb3⟩
      unfold retP verV
      have hV3 := hV2.below hb3
      have hB3 := hB2.trans (hb3.mono hB2.size)
      obtain ⟨u, hu⟩ : ∃ u, u = verL x.data.toList := ⟨_, rfl⟩
      rw [← hu]
      have HU := Lib.hid hu
      clear hu
      have hB4 := hB3.alloc hB3.size (.cells #[.int .i64 u.ma, .int .i64 u.mi, .int .i64 u.pa, .string u.pre, .string u.mta] 23)
      have hV4 := hV3.kept (World.grownBy_alloc w3 (.cells #[.int .i64 u.ma, .int .i64 u.mi, .int .i64 u.pa, .string u.pre, .string u.mta] 23) none) (fun r e => by cases e)
      have a0 := hV4.c0.cell
      have a1 := hV4.c1.cell
      have a2 := hV4.c2.cell
      have a3 := hV4.c3.cell
      have a4 := hV4.c4.cell
      clear q3 q4 hV2 hV3 hV4 hb3 e3 e4 hB2
      cases eo : okV x.data.toList
      · have H := Lib.hid (pOk_1 HX.out eo)
        rw [err_no eo]
        clear eo
        go_wp2
        go_ret2
        exact ⟨retR_no H.out, hB4⟩
      · rw [err_yes eo]
        by_cases huv : u = v
        · have H := Lib.hid (pOk_3 HX.out eo (huv ▸ HU.out))
          clear eo
          subst huv
          go_wp2
          go_ret2
          exact ⟨retR_yes HX.out H.out, hB4⟩
        · have H := Lib.hid (pOk_2 HX.out HU.out huv)
          have HV := Lib.hid huv
          clear eo huv
          go_wp2
          all_goals first | (exact absurd (ver_ext (by assumption) (by assumption) (by assumption) (by assumption) (by assumption)) HV.out) | (go_ret2; exact ⟨retR_no H.out, hB3.alloc hB3.size _⟩)
end Go.Proofs.YtoljpmelfebjoaaDoor
