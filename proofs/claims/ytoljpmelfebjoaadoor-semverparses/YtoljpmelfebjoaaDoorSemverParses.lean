/-
  Any text is the document's version or none, and what is parsed is printed; the variables that the row lists are as the program's own text lays them.
-/
import Derived.Test.YtoljpmelfebjoaaDoorRows
import Derived.Test.YtoljpmelfebjoaaDoorCards
import Derived.Test.YtoljpmelfebjoaaDoorTie
import Derived.Test.YtoljpmelfebjoaaDoorL0
import Derived.Test.YtoljpmelfebjoaaDoorP14
import Derived.Test.YtoljpmelfebjoaaDoorP15
import Derived.Test.YtoljpmelfebjoaaDoorP19
import Derived.Test.YtoljpmelfebjoaaDoorL1
import Derived.SevenTiedAt
namespace Go.Proofs.YtoljpmelfebjoaaDoor.semverParses
open Go.ChangeShapes Go.WideShapes Go.ChangeAt Go.RowKit Go.Shelf
open Go.ChangeMaps (open_string shut_string)
set_option linter.unusedVariables false

theorem ok_parts {l : List UInt8} (h : okV l = true) : ∃ a b c, numOk a = true ∧ numOk b = true ∧ numOk c = true ∧ coreOf l = 118 :: (a ++ 46 :: (b ++ 46 :: c)) ∧ numsIn (coreOf l) = [a, b, c] := by
  unfold okV numsOk at h
  simp only [Bool.and_eq_true, decide_eq_true_eq] at h
  obtain ⟨⟨⟨_, h3, hall⟩, _⟩, _⟩ := h
  cases hc : coreOf l with
  | nil => rw [hc] at h3; simp [numsIn] at h3
  | cons x r =>
    rw [hc] at h3 hall
    by_cases hx : x = 118
    · subst hx
      simp only [numsIn, if_true] at h3 hall ⊢
      obtain ⟨a, b, c, e⟩ : ∃ a b c, sp 46 r = [a, b, c] := by
        match hs : sp 46 r, h3 with
        | [a, b, c], _ => exact ⟨a, b, c, rfl⟩
      have hj := joinD_sp 46 r
      rw [e] at hj hall
      simp only [List.all_cons, Bool.and_eq_true] at hall
      refine ⟨a, b, c, hall.1, hall.2.1, hall.2.2.1, ?_, e⟩
      rw [← hj]; rfl
    · simp [numsIn, hx] at h3
theorem itoa_num {a : List UInt8} (h : numOk a = true) : Lib.itoa (numV a : Int) = a := by
  unfold Lib.itoa
  rw [if_neg (by omega)]
  have : ((numV a : Int)).toNat = numV a := by omega
  rw [this]; exact dec_ok h
theorem app (x y : ByteArray) : (x ++ y).data.toList = x.data.toList ++ y.data.toList := by simp
def optL (d : UInt8) (p : List UInt8) : List UInt8 := if p.isEmpty then [] else d :: p
theorem print_list (v : Ver) : (printB v).data.toList = 118 :: (Lib.itoa v.ma ++ 46 :: (Lib.itoa v.mi ++ 46 :: Lib.itoa v.pa)) ++ optL 45 v.pre.data.toList ++ optL 43 v.mta.data.toList := by
  unfold printB optL
  rw [Lib.toList_data, Lib.toList_data]
  cases h1 : v.pre.data.toList.isEmpty <;> cases h2 : v.mta.data.toList.isEmpty <;> simp [mkB]
theorem print_parse {s : ByteArray} (h : okV s.data.toList = true) : printB (verL s.data.toList) = s := by
  apply data_inj
  rw [print_list]
  obtain ⟨a, b, c, ha, hb, hc, hco, hn⟩ := ok_parts h
  have hw := headL_whole (d := 43) s.data.toList
  have hw2 := headL_whole (d := 45) (headL 43 s.data.toList)
  have hv : verL s.data.toList = ⟨numV a, numV b, numV c, mkB (preOf s.data.toList), mkB (metaOf s.data.toList)⟩ := by
    simp only [verL, h, if_true, nth, hn]; rfl
  rw [hv]
  simp only [itoa_num ha, itoa_num hb, itoa_num hc, data_mkB]
  rw [← hco]
  unfold okV at h
  simp only [Bool.and_eq_true] at h
  have e1 : optL 45 (preOf s.data.toList) = (if hasL 45 (headL 43 s.data.toList) then 45 :: restL 45 (headL 43 s.data.toList) else []) := by
    cases hh : hasL 45 (headL 43 s.data.toList)
    · rw [show preOf s.data.toList = [] from (hasL_no hh).2]; rfl
    · have := h.1.2
      rw [hh] at this
      have hne : preOf s.data.toList ≠ [] := by
        intro e; rw [e] at this; exact absurd this (by decide)
      unfold optL; rw [if_neg (by simpa using hne)]; rfl
  have e2 : optL 43 (metaOf s.data.toList) = (if hasL 43 s.data.toList then 43 :: restL 43 s.data.toList else []) := by
    cases hh : hasL 43 s.data.toList
    · rw [show metaOf s.data.toList = [] from (hasL_no hh).2]; rfl
    · have := h.2
      rw [hh] at this
      have hne : metaOf s.data.toList ≠ [] := by
        intro e; rw [e] at this; exact absurd this (by decide)
      unfold optL; rw [if_neg (by simpa using hne)]; rfl
  rw [e1, e2]
  conv => rhs; rw [hw, hw2]
  rfl
theorem nth_lt {l : List UInt8} (h : okV l = true) (k : Nat) : nth (coreOf l) k < 1000000000 := by
  obtain ⟨a, b, c, ha, hb, hc, hco, hn⟩ := ok_parts h
  unfold nth
  rw [hn]
  match k with
  | 0 => exact numV_lt ha
  | 1 => exact numV_lt hb
  | 2 => exact numV_lt hc
  | k + 3 => simp [numV]
theorem ver_range (l : List UInt8) : (0 ≤ (verL l).ma ∧ (verL l).ma < 1000000000) ∧ (0 ≤ (verL l).mi ∧ (verL l).mi < 1000000000) ∧ (0 ≤ (verL l).pa ∧ (verL l).pa < 1000000000) := by
  cases h : okV l
  · simp [verL, h, Ver.zero]
  · have h0 := nth_lt h 0
    have h1 := nth_lt h 1
    have h2 := nth_lt h 2
    simp only [verL, h, if_true]
    omega
theorem mta_size (s : ByteArray) : (verL s.data.toList).mta.size ≤ s.size := by
  unfold verL
  split
  · rw [← size_data, ← size_data, data_mkB]
    exact restL_len _
  · exact Nat.zero_le _
theorem pOk_parse {s : ByteArray} (h : okV s.data.toList = true) : pOk (verL s.data.toList) = true := by
  unfold pOk; rw [print_parse h, h]; simp
theorem ret_empty : retP (⟨#[]⟩ : ByteArray).data.toList = .tuple #[.agg #[.int .i64 0, .int .i64 0, .int .i64 0, .string ⟨#[]⟩, .string ⟨#[]⟩], .int .i64 30] := by
  have : okV (⟨#[]⟩ : ByteArray).data.toList = false := by decide
  simp only [retP, verL, errL, this]; rfl
set_option maxRecDepth 100000 in
set_option maxHeartbeats 4000000 in
theorem walk (w : World) (hT : Lib.TabIs Tryd.prog w "internal/strconv.uint64pow10" .u64 Lib.pow10Tab) (a0 : ByteArray) (w0 : a0.size ≤ maxLen) :
    Calls Tryd.prog 3 #[.string a0] w fun e w' => e = .returned (.bool true) ∧ Below w.heap.size w w' := by
  by_cases k : a0.size ≤ 1024
  · have hB := Below.refl w.heap.size w
    have hrg := ver_range a0.data.toList
    have hps := pre_size a0
    have hms := mta_size a0
    have HPO := Lib.hid (fun h => pOk_parse (s := a0) h)
    have HPR := Lib.hid (fun h => print_parse (s := a0) h)
    go_enter Tryd.func3, Tryd.ntmps3
    go_wp2_with fail
    refine (parse_any a0 (by omega) _).mono ?_
    rintro _ w1 ⟨rfl, hb1⟩
    replace hB := hB.trans (hb1.mono hB.size)
    clear hb1
    unfold retP verV
    obtain ⟨v, hv⟩ : ∃ v, v = verL a0.data.toList := ⟨_, rfl⟩
    rw [← hv] at hrg hps hms HPO HPR ⊢
    have HV := Lib.hid hv
    clear hv
    obtain ⟨er, her⟩ : ∃ v, v = errL a0.data.toList := ⟨_, rfl⟩
    rw [← her]
    have HER := Lib.hid her
    clear her
    have hc := VerC.of w1 23 v
    replace hB := hB.alloc hB.size (.cells #[.int .i64 v.ma, .int .i64 v.mi, .int .i64 v.pa, .string v.pre, .string v.mta] 23)
    go_wp2_with fail
    generalize w1.alloc (.cells #[.int .i64 v.ma, .int .i64 v.mi, .int .i64 v.pa, .string v.pre, .string v.mta] 23) = w1' at *
    refine (rparse_any a0 (by omega) _).mono ?_
    rintro _ w2 ⟨rfl, hb2⟩
    replace hB := hB.trans (hb2.mono hB.size)
    replace hc := hc.below hb2
    clear hb2
    unfold retP verV
    rw [← HV.out, ← HER.out]
    have hd := VerC.of w2 27 v
    replace hc := hc.kept (World.grownBy_alloc w2 (.cells #[.int .i64 v.ma, .int .i64 v.mi, .int .i64 v.pa, .string v.pre, .string v.mta] 27) none) (fun r e => by cases e)
    replace hB := hB.alloc hB.size (.cells #[.int .i64 v.ma, .int .i64 v.mi, .int .i64 v.pa, .string v.pre, .string v.mta] 27)
    go_wp2_with fail
    generalize w2.alloc (.cells #[.int .i64 v.ma, .int .i64 v.mi, .int .i64 v.pa, .string v.pre, .string v.mta] 27) = w2' at *
    refine (parse_any ⟨#[]⟩ (by decide) _).mono ?_
    rintro _ w3 ⟨rfl, hb3⟩
    rw [ret_empty]
    replace hB := hB.trans (hb3.mono hB.size)
    replace hc := hc.below hb3
    replace hd := hd.below hb3
    clear hb3
    replace hc := hc.kept (World.grownBy_alloc w3 (.cells #[.int .i64 0, .int .i64 0, .int .i64 0, .string ⟨#[]⟩, .string ⟨#[]⟩] 23) none) (fun r e => by cases e)
    replace hd := hd.kept (World.grownBy_alloc w3 (.cells #[.int .i64 0, .int .i64 0, .int .i64 0, .string ⟨#[]⟩, .string ⟨#[]⟩] 23) none) (fun r e => by cases e)
    replace hB := hB.alloc hB.size (.cells #[.int .i64 0, .int .i64 0, .int .i64 0, .string ⟨#[]⟩, .string ⟨#[]⟩] 23)
    have q0 := hc.c0.cell
    have q1 := hc.c1.cell
    have q2 := hc.c2.cell
    have q3 := hc.c3.cell
    have q4 := hc.c4.cell
    have r0 := hd.c0.cell
    have r1 := hd.c1.cell
    have r2 := hd.c2.cell
    have r3 := hd.c3.cell
    have r4 := hd.c4.cell
    have HTB := Lib.hid (Tab.below hT hB)
    clear hc hd
    go_wp2_with fail
    have hpr := print_any v ⟨by omega, by omega⟩ ⟨by omega, by omega⟩ ⟨by omega, by omega⟩ (by omega) (by omega) _ HTB.out
    unfold verV at hpr
    refine hpr.mono ?_
    clear hpr
    rintro _ w5 ⟨rfl, hb5⟩
    replace hB := hB.trans (hb5.mono hB.size)
    clear hb5
    unfold retR
    cases e : okV a0.data.toList
    · obtain rfl : er = 30 := by rw [HER.out]; exact err_no e
      clear e
      generalize (if pOk v then printB v else ⟨#[]⟩ : ByteArray) = x1
      generalize (if pOk v then (0 : Int) else 30) = x2
      go_wp2
      go_ret
      exact ⟨rfl, hB⟩
    · obtain rfl : er = 0 := by rw [HER.out]; exact err_yes e
      rw [HPO.out e, if_pos rfl, if_pos rfl, HPR.out e]
      clear e
      go_wp2
      go_ret
      exact ⟨rfl, hB⟩
  · go_enter Tryd.func3, Tryd.ntmps3
    go_wp2
    go_ret
    exact ⟨rfl, Below.refl _ _⟩

set_option maxRecDepth 100000 in
theorem lifted (os : Os) (started : os.Started) (H : Type) (enc : TypeId × Value → H) :
    ReturnsInHanded {} Tryd.checked os 3 .any (fun w args => (Rows.semverParsesSpec.pre enc Tryd.prog Tryd.f3 Rows.semverParsesRow.domain false w args ∧ laidMetH Tryd.prog laid0 w) ∧ sizedMet enc Tryd.prog Tryd.f3 (OpenSpec.ofChange Rows.semverParsesSpec) false w args)
      (Rows.semverParsesSpec.post enc Tryd.prog Tryd.f3 false true false false) := by
  refine returnsInHanded_of_change_and (C := Tryd.checked) (X := fun w _ => laidMetH Tryd.prog laid0 w) (fun _ _ _ hh h => h.of_heap hh) own started (by kernel_rfl) Tryd.func3
    (ChangeSpec.witness_shaped (enc := enc) (C := Tryd.checked) (os := os) (X := fun w _ => laidMetH Tryd.prog laid0 w) false (World.doorLaid Tryd.prog 62 os) #[.string ByteArray.empty] 8 rfl (World.shaped_of_RefB (by kernel_rfl) (by kernel_rfl)) (by kernel_rfl) (by kernel_rfl) (by kernel_rfl) (door_met os _)) ?_
  intro W base args ds gs before hval0 hW _ _ hL _
  have hval : ∀ (j : Nat) t v, Tryd.f3.params[j]? = some t → args[j]? = some v → Value.okWide Tryd.prog W .any base t v := hval0
  have hW' := hW
  obtain ⟨p, q, hA0, hV, rfl, hfz, hnd⟩ := hW
  have hA : DataW.TrodAll enc Tryd.prog W 0 (fun _ => true) true Tryd.f3.params.toList args.toList ds p := hA0
  rw [Tryd.params3] at hA hval
  obtain ⟨v0, vs0, d0, ds0, p0, q0, hargs, rfl, rfl, h0, r0⟩ := trodAll_cons hA
  obtain ⟨rfl, rfl, rfl⟩ := trodAll_nil r0
  obtain rfl : args = #[v0] := by cases args; simp_all
  obtain ⟨rfl, rfl⟩ := trodVars_none hV
  obtain ⟨a0, rfl, rfl, rfl, w0⟩ := open_string Tryd.underlying9 (hval 0 9 v0 rfl rfl) h0
  clear hA0 hval0
  simp only [List.append_nil] at hW'
  refine (walk W (tab0 hL) a0 w0).mono fun e W' ⟨he, bel⟩ => ?_
  subst he
  exact ⟨_, rfl, _, _, _, [], [], [], hW', trodAll_mk1 (shut_bool Tryd.underlying4 _), (trodAll_cons_mk (shut_string Tryd.underlying9 w0) trodAll_mk0), rfl, bel.frame _, fun h => by cases h⟩

theorem over : Rows.semverParsesRow.holds Tryd.pinned (OpenSpec.ofChange Rows.semverParsesSpec) :=
  OpenClaim.holds_of_wide 3 Tryd.f3 rfl rfl rfl rfl rfl rfl rfl ⟨rfl, rfl, rfl, rfl, rfl⟩ rfl rfl rfl rfl rfl (by kernel_rfl) Tryd.func3 (by kernel_rfl)
    (of_decide_eq_true (by kernel_rfl)) (by unfold Func.isWrapper; first | (rw [if_pos (by decide +kernel)]; kernel_rfl) | (rw [if_neg (by decide +kernel)]; exact ⟨rfl, rfl⟩))
    (fun os started H enc _ => lifted os started H enc)

theorem proved : Rows.SemverParsesCardSaid :=
  Claim7.holds_tied_plain_at .later [] [.data, .data, .data, .sentinel, .sentinel] true (true, "cad1ac15bbe0d173cc4ad633fce6cf0f3dc5bbd550a450317c015fae4feb8bb4") true
    over (fun _ h => by cases h) (by kernel_rfl) (fun _ h => by cases h) semverParses_row_tie rfl ⟨rfl, rfl⟩ (by kernel_rfl) rfl
    (fun f fn hf hfn => by
      obtain rfl : f = 3 := Option.some.inj ((show Tryd.prog.funcNamed "graftbed/graftbedlaw03.SemverParses" = some 3 by kernel_rfl).symm.trans hf) |>.symm
      obtain rfl : fn = Tryd.f3 := (Option.some.inj (Tryd.func3.symm.trans hfn)).symm
      exact ⟨by kernel_rfl, fun j t ht => by
        rw [Tryd.params3] at ht
        have hm : t ∈ [9] := by simpa using Array.mem_of_getElem? ht
        have hall : ([9].all fun u => !Tryd.prog.wantsStandIn u) = true := by kernel_rfl
        exact (show Tryd.prog.wantsStandIn t = false by simpa using List.all_eq_true.1 hall t hm)⟩)
    (by kernel_rfl)
#print axioms proved
end Go.Proofs.YtoljpmelfebjoaaDoor.semverParses
