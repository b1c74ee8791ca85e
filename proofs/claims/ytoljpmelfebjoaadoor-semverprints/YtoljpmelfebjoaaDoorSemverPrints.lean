/-
  SemverPrints: any parts are printed as the document says, or refused; what is printed is parsed again.
-/
import Derived.Test.YtoljpmelfebjoaaDoorRows
import Derived.Test.YtoljpmelfebjoaaDoorCards
import Derived.Test.YtoljpmelfebjoaaDoorTie
import Derived.Test.YtoljpmelfebjoaaDoorL0
import Derived.Test.YtoljpmelfebjoaaDoorP14
import Derived.Test.YtoljpmelfebjoaaDoorP15
import Derived.Test.YtoljpmelfebjoaaDoorP16
import Derived.Test.YtoljpmelfebjoaaDoorP19
import Derived.Test.YtoljpmelfebjoaaDoorP20
import Derived.Test.YtoljpmelfebjoaaDoorL1
import Derived.Test.YtoljpmelfebjoaaDoorL2
import Derived.SevenTiedAt
namespace Go.Proofs.YtoljpmelfebjoaaDoor.semverPrints
open Go.ChangeShapes Go.WideShapes Go.ChangeAt Go.RowKit Go.Shelf
open Go.ChangeMaps (open_string shut_string)
set_option linter.unusedVariables false

def optL (d : UInt8) (p : List UInt8) : List UInt8 := if p.isEmpty then [] else d :: p
theorem print_list (v : Ver) : (printB v).data.toList = 118 :: (Lib.itoa v.ma ++ 46 :: (Lib.itoa v.mi ++ 46 :: Lib.itoa v.pa)) ++ optL 45 v.pre.data.toList ++ optL 43 v.mta.data.toList := by
  unfold printB optL
  rw [Lib.toList_data, Lib.toList_data]
  cases h1 : v.pre.data.toList.isEmpty <;> cases h2 : v.mta.data.toList.isEmpty <;> simp [mkB]
theorem optL_len (d : UInt8) (p : ByteArray) : (optL d p.data.toList).length ≤ p.size + 1 := by
  unfold optL
  split
  · simp
  · rw [List.length_cons, size_data]; omega
theorem print_size {v : Ver} (h : verOk v) (hp : v.pre.size ≤ 1024) (hm : v.mta.size ≤ 1024) : (printB v).size ≤ 4000 := by
  rw [← size_data, print_list]
  have a := Lib.itoa_length_le v.ma h.1.1 h.1.2
  have b := Lib.itoa_length_le v.mi h.2.1.1 h.2.1.2
  have c := Lib.itoa_length_le v.pa h.2.2.1.1 h.2.2.1.2
  have d := optL_len 45 v.pre
  have e := optL_len 43 v.mta
  simp only [List.length_append, List.length_cons]
  omega
theorem ret_yes {v : Ver} (h : pOk v = true) : retP (printB v).data.toList = .tuple #[.agg #[.int .i64 v.ma, .int .i64 v.mi, .int .i64 v.pa, .string v.pre, .string v.mta], .int .i64 0] := by
  unfold pOk at h
  simp only [Bool.and_eq_true, decide_eq_true_eq] at h
  simp only [retP, h.2, err_yes h.1]; rfl
theorem ret_empty : retP (⟨#[]⟩ : ByteArray).data.toList = .tuple #[.agg #[.int .i64 0, .int .i64 0, .int .i64 0, .string ⟨#[]⟩, .string ⟨#[]⟩], .int .i64 30] := by
  have : okV (⟨#[]⟩ : ByteArray).data.toList = false := by decide
  simp only [retP, verL, errL, this]; rfl
set_option maxRecDepth 100000 in
set_option maxHeartbeats 4000000 in
theorem walk (w : World) (hT : Lib.TabIs Tryd.prog w "internal/strconv.uint64pow10" .u64 Lib.pow10Tab) (a0 : Ver) (w0 : verOk a0) :
    Calls Tryd.prog 4 #[verV a0] w fun e w' => e = .returned (.bool true) ∧ Below w.heap.size w w' := by
  have hw := w0
  unfold verOk i64Ok at hw
  have hc := VerC.of w 23 a0
  have hB : Below w.heap.size w (w.alloc (.cells #[.int .i64 a0.ma, .int .i64 a0.mi, .int .i64 a0.pa, .string a0.pre, .string a0.mta] 23)) := (Below.refl _ w).alloc (Nat.le_refl _) _
  have HTB := Lib.hid (Tab.below hT hB)
  have HW := Lib.hid w0
  clear w0
  unfold verV
  have q3 := hc.c3.cell
  have q4 := hc.c4.cell
  by_cases k : a0.pre.size ≤ 1024
  · by_cases k' : a0.mta.size ≤ 1024
    · go_enter Tryd.func4, Tryd.ntmps4
      go_wp2_with fail
      have hpr := print_any a0 (by omega) (by omega) (by omega) k k' _ HTB.out
      unfold verV at hpr
      refine hpr.mono ?_
      clear hpr q3 q4
      rintro _ w1 ⟨rfl, hb1⟩
      replace hB := hB.trans (hb1.mono hB.size)
      replace hc := hc.below hb1
      clear hb1
      have HRS := Lib.hid (ret_same a0)
      have HSZ := Lib.hid (print_size HW.out k k')
      have q0 := hc.c0.cell
      have q1 := hc.c1.cell
      have q2 := hc.c2.cell
      have q3 := hc.c3.cell
      have q4 := hc.c4.cell
      unfold retR
      generalize w.alloc (.cells #[.int .i64 a0.ma, .int .i64 a0.mi, .int .i64 a0.pa, .string a0.pre, .string a0.mta] 23) = w0' at *
      cases e : pOk a0
      · have HRZ : retZ a0 = .tuple #[.string ⟨#[]⟩, .int .i64 30] := by rw [HRS.out]; simp [retR, e]
        rw [if_neg Bool.false_ne_true, if_neg Bool.false_ne_true]
        replace HRZ := Lib.hid HRZ
        clear e HRS
        go_wp2_with fail
        have hrp := rprint_any a0 (by omega) (by omega) (by omega) k k' w1
        rw [HRZ.out] at hrp
        unfold verV at hrp
        refine hrp.mono ?_
        clear hrp q0 q1 q2 q3 q4 HTB
        rintro _ w2 ⟨rfl, hb2⟩
        replace hB := hB.trans (hb2.mono hB.size)
        replace hc := hc.below hb2
        clear hb2
        go_wp2_with fail
        refine (parse_any ⟨#[]⟩ (by decide) _).mono ?_
        rintro _ w3 ⟨rfl, hb3⟩
        rw [ret_empty]
        replace hB := hB.trans (hb3.mono hB.size)
        replace hc := hc.below hb3
        clear hb3
        replace hc := hc.kept (World.grownBy_alloc w3 (.cells #[.int .i64 0, .int .i64 0, .int .i64 0, .string ⟨#[]⟩, .string ⟨#[]⟩] 23) none) (fun r e => by cases e)
        replace hB := hB.alloc hB.size (.cells #[.int .i64 0, .int .i64 0, .int .i64 0, .string ⟨#[]⟩, .string ⟨#[]⟩] 23)
        go_wp2_with fail
        generalize w3.alloc (.cells #[.int .i64 0, .int .i64 0, .int .i64 0, .string ⟨#[]⟩, .string ⟨#[]⟩] 23) = w3' at *
        refine (parse_any ⟨#[]⟩ (by decide) _).mono ?_
        rintro _ w4 ⟨rfl, hb4⟩
        rw [ret_empty]
        replace hB := hB.trans (hb4.mono hB.size)
        replace hc := hc.below hb4
        clear hb4
        replace hB := hB.alloc hB.size (.cells #[.int .i64 0, .int .i64 0, .int .i64 0, .string ⟨#[]⟩, .string ⟨#[]⟩] 23)
        replace hc := hc.kept (World.grownBy_alloc w4 (.cells #[.int .i64 0, .int .i64 0, .int .i64 0, .string ⟨#[]⟩, .string ⟨#[]⟩] 23) none) (fun r e => by cases e)
        have q0 := hc.c0.cell
        have q1 := hc.c1.cell
        have q2 := hc.c2.cell
        have q3 := hc.c3.cell
        have q4 := hc.c4.cell
        clear hc
        go_wp2
        go_ret
        exact ⟨rfl, hB⟩
      · have HRY := Lib.hid (ret_yes e)
        have HRZ : retZ a0 = .tuple #[.string (printB a0), .int .i64 0] := by rw [HRS.out]; simp [retR, e]
        rw [if_pos rfl, if_pos rfl]
        obtain ⟨x, hx⟩ : ∃ x, x = printB a0 := ⟨_, rfl⟩
        rw [← hx] at HRY HRZ HSZ ⊢
        clear hx
        replace HRZ := Lib.hid HRZ
        clear e HRS
        go_wp2_with fail
        have hrp := rprint_any a0 (by omega) (by omega) (by omega) k k' w1
        rw [HRZ.out] at hrp
        unfold verV at hrp
        refine hrp.mono ?_
        clear hrp q0 q1 q2 q3 q4 HTB
        rintro _ w2 ⟨rfl, hb2⟩
        replace hB := hB.trans (hb2.mono hB.size)
        replace hc := hc.below hb2
        clear hb2
        go_wp2_with fail
        refine (parse_any x (by have := HSZ.out; omega) _).mono ?_
        rintro _ w3 ⟨rfl, hb3⟩
        rw [HRY.out]
        replace hB := hB.trans (hb3.mono hB.size)
        replace hc := hc.below hb3
        clear hb3
        have hd := VerC.of w3 23 a0
        replace hc := hc.kept (World.grownBy_alloc w3 (.cells #[.int .i64 a0.ma, .int .i64 a0.mi, .int .i64 a0.pa, .string a0.pre, .string a0.mta] 23) none) (fun r e => by cases e)
        replace hB := hB.alloc hB.size (.cells #[.int .i64 a0.ma, .int .i64 a0.mi, .int .i64 a0.pa, .string a0.pre, .string a0.mta] 23)
        go_wp2_with fail
        generalize w3.alloc (.cells #[.int .i64 a0.ma, .int .i64 a0.mi, .int .i64 a0.pa, .string a0.pre, .string a0.mta] 23) = w3' at *
        refine (parse_any ⟨#[]⟩ (by decide) _).mono ?_
        rintro _ w4 ⟨rfl, hb4⟩
        rw [ret_empty]
        replace hB := hB.trans (hb4.mono hB.size)
        replace hc := hc.below hb4
        replace hd := hd.below hb4
        clear hb4
        replace hB := hB.alloc hB.size (.cells #[.int .i64 0, .int .i64 0, .int .i64 0, .string ⟨#[]⟩, .string ⟨#[]⟩] 23)
        replace hc := hc.kept (World.grownBy_alloc w4 (.cells #[.int .i64 0, .int .i64 0, .int .i64 0, .string ⟨#[]⟩, .string ⟨#[]⟩] 23) none) (fun r e => by cases e)
        replace hd := hd.kept (World.grownBy_alloc w4 (.cells #[.int .i64 0, .int .i64 0, .int .i64 0, .string ⟨#[]⟩, .string ⟨#[]⟩] 23) none) (fun r e => by cases e)
        have q0 := hc.c0.cell
        have q1 := hc.c1.cell
        have q2 := hc.c2.cell
        have q3 := hc.c3.cell
        have q4 := hc.c4.cell
        have r0 := hd.c0.cell
        have r1 := hd.c1.cell
        have r2 := hd.c2.cell
        have r3 := hd.c3.cell
        have r4 := hd.c4.cell
        clear hc hd
        go_wp2
        go_ret
        exact ⟨rfl, hB⟩
    · go_enter Tryd.func4, Tryd.ntmps4
      go_wp2
      go_ret
      exact ⟨rfl, hB⟩
  · go_enter Tryd.func4, Tryd.ntmps4
    go_wp2
    go_ret
    exact ⟨rfl, hB⟩

set_option maxRecDepth 100000 in
theorem lifted (os : Os) (started : os.Started) (H : Type) (enc : TypeId × Value → H) :
    ReturnsInHanded {} Tryd.checked os 4 .any (fun w args => (Rows.semverPrintsSpec.pre enc Tryd.prog Tryd.f4 Rows.semverPrintsRow.domain false w args ∧ laidMetH Tryd.prog laid0 w) ∧ sizedMet enc Tryd.prog Tryd.f4 (OpenSpec.ofChange Rows.semverPrintsSpec) false w args)
      (Rows.semverPrintsSpec.post enc Tryd.prog Tryd.f4 false true false false) := by
  refine returnsInHanded_of_change_and (C := Tryd.checked) (X := fun w _ => laidMetH Tryd.prog laid0 w) (fun _ _ _ hh h => h.of_heap hh) own started (by kernel_rfl) Tryd.func4
    (ChangeSpec.witness_shaped (enc := enc) (C := Tryd.checked) (os := os) (X := fun w _ => laidMetH Tryd.prog laid0 w) false (World.doorLaid Tryd.prog 62 os) #[.agg #[.int .i64 0, .int .i64 0, .int .i64 0, .string ByteArray.empty, .string ByteArray.empty]] 8 rfl (World.shaped_of_RefB (by kernel_rfl) (by kernel_rfl)) (by kernel_rfl) (by kernel_rfl) (by kernel_rfl) (door_met os _)) ?_
  intro W base args ds gs before hval0 hW _ _ hL _
  have hval : ∀ (j : Nat) t v, Tryd.f4.params[j]? = some t → args[j]? = some v → Value.okWide Tryd.prog W .any base t v := hval0
  have hW' := hW
  obtain ⟨p, q, hA0, hV, rfl, hfz, hnd⟩ := hW
  have hA : DataW.TrodAll enc Tryd.prog W 0 (fun _ => true) true Tryd.f4.params.toList args.toList ds p := hA0
  rw [Tryd.params4] at hA hval
  obtain ⟨v0, vs0, d0, ds0, p0, q0, hargs, rfl, rfl, h0, r0⟩ := trodAll_cons hA
  obtain ⟨rfl, rfl, rfl⟩ := trodAll_nil r0
  obtain rfl : args = #[v0] := by cases args; simp_all
  obtain ⟨rfl, rfl⟩ := trodVars_none hV
  obtain ⟨a0, rfl, w0, u0⟩ := open_ver (hval 0 23 v0 rfl rfl) h0
  clear hA0 hval0
  simp only [List.append_nil] at hW'
  refine (walk W (tab0 hL) a0 w0).mono fun e W' ⟨he, bel⟩ => ?_
  subst he
  exact ⟨_, rfl, _, _, _, [], _, [], hW', trodAll_mk1 (shut_bool Tryd.underlying4 _), (trodAll_cons_mk (u0 _ _) trodAll_mk0), rfl, bel.frame _, fun h => by cases h⟩

theorem over : Rows.semverPrintsRow.holds Tryd.pinned (OpenSpec.ofChange Rows.semverPrintsSpec) :=
  OpenClaim.holds_of_wide 4 Tryd.f4 rfl rfl rfl rfl rfl rfl rfl ⟨rfl, rfl, rfl, rfl, rfl⟩ rfl rfl rfl rfl rfl (by kernel_rfl) Tryd.func4 (by kernel_rfl)
    (of_decide_eq_true (by kernel_rfl)) (by unfold Func.isWrapper; first | (rw [if_pos (by decide +kernel)]; kernel_rfl) | (rw [if_neg (by decide +kernel)]; exact ⟨rfl, rfl⟩))
    (fun os started H enc _ => lifted os started H enc)

theorem proved : Rows.SemverPrintsCardSaid :=
  Claim7.holds_tied_plain_at .later [] [.data, .data, .data, .sentinel, .sentinel] true (true, "cad1ac15bbe0d173cc4ad633fce6cf0f3dc5bbd550a450317c015fae4feb8bb4") true
    over (fun _ h => by cases h) (by kernel_rfl) (fun _ h => by cases h) semverPrints_row_tie rfl ⟨rfl, rfl⟩ (by kernel_rfl) rfl
    (fun f fn hf hfn => by
      obtain rfl : f = 4 := Option.some.inj ((show Tryd.prog.funcNamed "graftbed/graftbedlaw03.SemverPrints" = some 4 by kernel_rfl).symm.trans hf) |>.symm
      obtain rfl : fn = Tryd.f4 := (Option.some.inj (Tryd.func4.symm.trans hfn)).symm
      exact ⟨by kernel_rfl, fun j t ht => by
        rw [Tryd.params4] at ht
        have hm : t ∈ [23] := by simpa using Array.mem_of_getElem? ht
        have hall : ([23].all fun u => !Tryd.prog.wantsStandIn u) = true := by kernel_rfl
        exact (show Tryd.prog.wantsStandIn t = false by simpa using List.all_eq_true.1 hall t hm)⟩)
    (by kernel_rfl)
#print axioms proved
end Go.Proofs.YtoljpmelfebjoaaDoor.semverPrints
