/-
  ScanRest: the walk.
-/
import Derived.Test.YtinaeegijmkbhaaDoorS2
set_option linter.unusedVariables false
namespace Go.Proofs.YtinaeegijmkbhaaDoor
open Go.RowKit Go.Shelf

theorem bom_rest (X Y : ByteArray) (t : List UInt8) (h : Y.data.toList = X.data.toList ++ t) (hf : X.data.toList.getLast? = some 10) : bomN Y = bomN X := by
  have key : Y.data.toList.take 3 = [239, 187, 191] ↔ X.data.toList.take 3 = [239, 187, 191] := by
    rw [h]
    generalize X.data.toList = l at *
    match l, hf with
    | [a], hf => simp at hf; subst hf; simp
    | [a, b], hf => simp at hf; subst hf; simp
    | a :: b :: c :: r, hf => simp
  unfold bomN
  by_cases e : X.data.toList.take 3 = [239, 187, 191]
  · rw [if_pos e, if_pos (key.2 e)]
  · rw [if_neg e, if_neg (fun x => e (key.1 x))]
set_option maxRecDepth 100000 in
set_option maxHeartbeats 6400000 in
theorem rest_walk (s : ByteArray) (hm : s.size ≤ maxLen) (t : ByteArray) (hm2 : t.size ≤ maxLen) (w : World) (hE : Env w) : Calls Tryd.prog 6 #[.string s, .string t] w fun e w' => e = .returned (.bool true) ∧ Below w.heap.size w w' := by
  have HSh := Lib.hid (fun (W : World) (b : Below w.heap.size w W) => shown_any W (hE.on b))
  by_cases hbig : 512 < s.size
  · have i1 : (512 : Int) < (s.size : Int) := by omega
    go_enter Tryd.func6, Tryd.ntmps6
    go_wp2_with (go_at_call 13; refine (HSh.out _ (Below.refl _ _)).mono ?_; rintro _ w1 ⟨rfl, hB⟩)
    go_ret
    exact ⟨rfl, hB⟩
  by_cases hbig2 : 512 < t.size
  · have i1 : ¬ (512 : Int) < (s.size : Int) := by omega
    have i2 : (512 : Int) < (t.size : Int) := by omega
    go_enter Tryd.func6, Tryd.ntmps6
    go_wp2_with (go_at_call 13; refine (HSh.out _ (Below.refl _ _)).mono ?_; rintro _ w1 ⟨rfl, hB⟩)
    go_ret
    exact ⟨rfl, hB⟩
  have i1 : ¬ (512 : Int) < (s.size : Int) := by omega
  have i2 : ¬ (512 : Int) < (t.size : Int) := by omega
  obtain ⟨X, hX⟩ : ∃ X, s ++ (⟨#[10]⟩ : ByteArray) = X := ⟨_, rfl⟩
  obtain ⟨Y, hY⟩ : ∃ Y, X ++ t = Y := ⟨_, rfl⟩
  have hXl : X.data.toList = s.data.toList ++ [10] := by rw [← hX]; simp
  have hYl : Y.data.toList = X.data.toList ++ t.data.toList := by rw [← hY]; simp
  have hXs : X.size = s.size + 1 := by rw [← size_data X, hXl, List.length_append, size_data]; rfl
  have hYs : Y.size = X.size + t.size := by rw [← size_data Y, hYl, List.length_append, size_data, size_data]
  have hXz : X.size ≤ 20400 := by omega
  have hYz : Y.size ≤ 20400 := by omega
  have HXs := Lib.hid hXs
  have hcat : ¬ 9223372036854775807 < X.size + t.size := by omega
  clear hbig hbig2
  cases hx : badL 0 X.data.toList with
  | some k =>
    have HN := Lib.hid (new_no X hXz hx)
    generalize lineL (X.data.toList.take k) = K at *
    cases hy : badL 0 Y.data.toList with
    | some j =>
      have HM := Lib.hid (new_no Y hYz hy)
      generalize lineL (Y.data.toList.take j) = J at *
      clear hx hy hXl hYl hXs hYs hXz hYz
      go_enter Tryd.func6, Tryd.ntmps6
      go_wp2_with (first
        | (go_at_call 13; refine (HSh.out _ (Below.refl _ _)).mono ?_; rintro _ w1 ⟨rfl, hB⟩; have HB1 := Lib.hid hB; clear hB)
        | (go_at_call 14; (with_reducible refine (HN.out _).mono ?_); rintro _ w2 ⟨rfl, hB⟩; have HB2 := Lib.hid (HB1.out.trans (hB.mono HB1.out.size)); clear hB)
        | (go_at_call 14; (with_reducible refine (HM.out _).mono ?_); rintro _ w3 ⟨rfl, hB⟩; have HB3 := Lib.hid ((HB2.out.alloc HB2.out.size (.cells #[.int .i64 100, .string ⟨#[]⟩, .int .i64 (K : Int)] 30)).trans (hB.mono (by have := HB2.out.size; simp; omega))); have gB := (GBlk.new w2 30 #[.int .i64 100, .string ⟨#[]⟩, .int .i64 (K : Int)]).below hB; have b0 : ∀ o, (w3.alloc o).cell? ⟨w2.heap.size, 0, none⟩ = some (.int .i64 100) := fun o => (gB.alloc o).cell 0; have b1 : ∀ o, (w3.alloc o).cell? ⟨w2.heap.size, 1, none⟩ = some (.string ⟨#[]⟩) := fun o => (gB.alloc o).cell 1; have b2 : ∀ o, (w3.alloc o).cell? ⟨w2.heap.size, 2, none⟩ = some (.int .i64 (K : Int)) := fun o => (gB.alloc o).cell 2; clear hB gB))
      go_ret
      exact ⟨rfl, HB3.out.alloc HB3.out.size _⟩
    | none =>
      have HM := Lib.hid (fun W hW => new_yes Y hYz hy hE W hW)
      clear hx hy hXl hYl hXs hYs hXz hYz
      go_enter Tryd.func6, Tryd.ntmps6
      go_wp2_with (first
        | (go_at_call 13; refine (HSh.out _ (Below.refl _ _)).mono ?_; rintro _ w1 ⟨rfl, hB⟩; have HB1 := Lib.hid hB; clear hB)
        | (go_at_call 14; (with_reducible refine (HN.out _).mono ?_); rintro _ w2 ⟨rfl, hB⟩; have HB2 := Lib.hid (HB1.out.trans (hB.mono HB1.out.size)); have HB2a := Lib.hid (HB2.out.alloc HB2.out.size (.cells #[.int .i64 100, .string ⟨#[]⟩, .int .i64 (K : Int)] 30)); clear hB)
        | (go_at_call 14; (with_reducible refine (HM.out _ HB2a.out).mono ?_); rintro _ w3 ⟨hB, q, -, rfl, hL⟩; have HB3 := Lib.hid (HB2a.out.trans (hB.mono (by have := HB2.out.size; simp; omega))); have gB := (GBlk.new w2 30 #[.int .i64 100, .string ⟨#[]⟩, .int .i64 (K : Int)]).below hB; have b0 : ∀ o, (w3.alloc o).cell? ⟨w2.heap.size, 0, none⟩ = some (.int .i64 100) := fun o => (gB.alloc o).cell 0; have b1 : ∀ o, (w3.alloc o).cell? ⟨w2.heap.size, 1, none⟩ = some (.string ⟨#[]⟩) := fun o => (gB.alloc o).cell 1; have b2 : ∀ o, (w3.alloc o).cell? ⟨w2.heap.size, 2, none⟩ = some (.int .i64 (K : Int)) := fun o => (gB.alloc o).cell 2; clear hB gB hL))
      go_ret
      exact ⟨rfl, HB3.out.alloc HB3.out.size _⟩
  | none =>
    have HN := Lib.hid (fun W hW => new_yes X hXz hx hE W hW)
    cases hy : badL 0 Y.data.toList with
    | some j =>
      have HM := Lib.hid (new_no Y hYz hy)
      generalize lineL (Y.data.toList.take j) = J at *
      clear hx hy hXl hYl hXs hYs hXz hYz
      go_enter Tryd.func6, Tryd.ntmps6
      go_wp2_with (first
        | (go_at_call 13; refine (HSh.out _ (Below.refl _ _)).mono ?_; rintro _ w1 ⟨rfl, hB⟩; have HB1 := Lib.hid hB; clear hB)
        | (go_at_call 14; (with_reducible refine (HN.out _ HB1.out).mono ?_); rintro _ w2 ⟨hB, p, -, rfl, hL⟩; have HB2 := Lib.hid (HB1.out.trans (hB.mono HB1.out.size)); clear hB hL)
        | (go_at_call 14; (with_reducible refine (HM.out _).mono ?_); rintro _ w3 ⟨rfl, hB⟩; have HB3 := Lib.hid ((HB2.out.alloc HB2.out.size (.cells #[.int .i64 0, .string ⟨#[]⟩, .int .i64 0] 30)).trans (hB.mono (by have := HB2.out.size; simp; omega))); have gB := (GBlk.new w2 30 #[.int .i64 0, .string ⟨#[]⟩, .int .i64 0]).below hB; have b0 : ∀ o, (w3.alloc o).cell? ⟨w2.heap.size, 0, none⟩ = some (.int .i64 0) := fun o => (gB.alloc o).cell 0; have b1 : ∀ o, (w3.alloc o).cell? ⟨w2.heap.size, 1, none⟩ = some (.string ⟨#[]⟩) := fun o => (gB.alloc o).cell 1; have b2 : ∀ o, (w3.alloc o).cell? ⟨w2.heap.size, 2, none⟩ = some (.int .i64 0) := fun o => (gB.alloc o).cell 2; clear hB gB))
      go_ret
      exact ⟨rfl, HB3.out.alloc HB3.out.size _⟩
    | none =>
      have HM := Lib.hid (fun W hW => new_yes Y hYz hy hE W hW)
      have HNx := Lib.hid (fun (W : World) (p pos : Nat) (semi : Bool) (h : LS w W p X pos semi) => next_law X hXz h)
      have HNy := Lib.hid (fun (W : World) (p pos : Nat) (semi : Bool) (h : LS w W p Y pos semi) => next_law Y hYz h)
      have hlast : X.data.toList.getLast? = some 10 := by rw [hXl]; simp
      have hbom := bom_rest X Y t.data.toList hYl hlast
      have hfeed : Feed X.data.toList := hlast
      have HRest := Lib.hid (fun (pos : Nat) (semi : Bool) (hc : Calm X.data.toList pos semi) (kd : Nat) (tx : List UInt8) (h : (nextL X.data.toList pos semi).tok = some (kd, tx)) (hk0 : kd ≠ 0) => next_rest hfeed t.data.toList hc h hk0)
      rw [← hYl] at HRest
      rw [hbom] at HM
      have hbl := (bom_line X).2
      clear hx hy hXl hYl hYs hlast hfeed hbom
      go_enter Tryd.func6, Tryd.ntmps6
      go_wp2_with (first
        | (go_at_call 13; refine (HSh.out _ (Below.refl _ _)).mono ?_; rintro _ w1 ⟨rfl, hB⟩; have HB1 := Lib.hid hB; clear hB)
        | (go_at_call 14; (with_reducible refine (HN.out _ HB1.out).mono ?_); rintro _ w2 ⟨hB, p, -, rfl, hL⟩; have HL2 := Lib.hid (hL.alloc (.cells #[.int .i64 0, .string ⟨#[]⟩, .int .i64 0] 30)); clear hB hL)
        | (go_at_call 14; (with_reducible refine (HM.out _ HL2.out.bel).mono ?_); rintro _ w3 ⟨hB, q, hq, rfl, hL⟩; have hpq : p ≠ q := (by have := HL2.out.sc.lt; omega); have HM3 := Lib.hid (hL.alloc (.cells #[.int .i64 0, .string ⟨#[]⟩, .int .i64 0] 30)); have HL3 := Lib.hid ((HL2.out.on hB).alloc (.cells #[.int .i64 0, .string ⟨#[]⟩, .int .i64 0] 30)); have gB := (GBlk.new w2 30 #[.int .i64 0, .string ⟨#[]⟩, .int .i64 0]).below hB; have b0 : ∀ o, (w3.alloc o).cell? ⟨w2.heap.size, 0, none⟩ = some (.int .i64 0) := fun o => (gB.alloc o).cell 0; have b1 : ∀ o, (w3.alloc o).cell? ⟨w2.heap.size, 1, none⟩ = some (.string ⟨#[]⟩) := fun o => (gB.alloc o).cell 1; have b2 : ∀ o, (w3.alloc o).cell? ⟨w2.heap.size, 2, none⟩ = some (.int .i64 0) := fun o => (gB.alloc o).cell 2; clear hB gB hL hq))
      have H0 := Lib.hid (show Calm X.data.toList (bomN X) false ∧ 0 + 2 * (X.size - bomN X) + false.toNat ≤ 2 * X.size from ⟨⟨by rw [size_data]; exact hbl, fun _ => rfl⟩, by simp; omega⟩)
      go_loopw [9] (fun i wr => ∃ k pos : Nat, ∃ semi : Bool, i = .int .i64 k ∧ Hid (Calm X.data.toList pos semi ∧ k + 2 * (X.size - pos) + semi.toNat ≤ 2 * X.size) ∧ Hid (LS w wr p X pos semi ∧ LS w wr q Y pos semi)) (fun i _ => 2 * s.size + 4 - (intOf i).toNat)
      case atStart => exact ⟨0, bomN X, false, rfl, H0, Lib.hid ⟨HL3.out, HM3.out⟩⟩
      case round =>
        obtain ⟨k, pos, semi, rfl, HT, HW⟩ := hrel
        clear HL3 HL2 HN HM HM3 HSh b0 b1 b2 H0 HB1 hcat
        have hk := HT.out.2
        have hXn := HXs.out
        have i2 : (k : Int) < 2 * (s.size : Int) + 4 := by omega
        have HX := Lib.hid (HNx.out _ _ _ _ HW.out.1)
        have hG := next_goes semi (l := X.data.toList) (pos := pos) (by rw [size_data]; exact HW.out.1.pos)
        have HQ := HW.out.2
        have hnw := HW.out.1.new
        cases hx : (stepP X.data.toList pos semi).tok with
        | none =>
          have hv : StepOut (stepP X.data.toList pos semi) = .tuple #[.agg #[.int .i64 0, .string ⟨#[]⟩, .int .i64 0], .agg #[.int .i64 100, .string ⟨#[]⟩, .int .i64 ((stepP X.data.toList pos semi).line : Nat)]] := by unfold StepOut; rw [hx]
          rw [hv] at HX
          generalize (stepP X.data.toList pos semi).line = ln at *
          clear hv hx HT HW hG HRest HNx HNy HQ
          go_wp2_with (go_at_call 16; refine HX.out.mono ?_; rintro _ w4 ⟨rfl, hL4, -⟩; have HL4 := Lib.hid (((hL4.alloc (.cells #[.int .i64 0, .string ⟨#[]⟩, .int .i64 0] 37)).alloc (.cells #[.int .i64 100, .string ⟨#[]⟩, .int .i64 (ln : Int)] 30))); clear hL4)
          go_ret
          exact ⟨rfl, HL4.out.bel⟩
        | some y =>
          obtain ⟨kd, t'⟩ := y
          have hv : StepOut (stepP X.data.toList pos semi) = .tuple #[.agg #[.int .i64 (kd : Nat), .string (mkB t'), .int .i64 ((stepP X.data.toList pos semi).line : Nat)], .agg #[.int .i64 0, .string ⟨#[]⟩, .int .i64 0]] := by unfold StepOut; rw [hx]
          have hst := step_tok (l := X.data.toList) (pos := pos) (semi := semi) (by rw [hx]; simp)
          rw [hst] at hx
          rw [hv, hst] at HX
          have HY := Lib.hid (fun (hk : kd ≠ 0) => show nextL Y.data.toList pos semi = nextL X.data.toList pos semi ∧ Calm X.data.toList (nextL X.data.toList pos semi).pos (nextL X.data.toList pos semi).semi ∧ 2 * (X.size - (nextL X.data.toList pos semi).pos) + (nextL X.data.toList pos semi).semi.toNat < 2 * (X.size - pos) + semi.toNat from by
            obtain ⟨a, b⟩ := HRest.out pos semi HT.out.1 kd t' hx hk
            have := hG.less hx hk
            rw [size_data] at this
            exact ⟨a, b, this⟩)
          have HYs := Lib.hid (fun (hk : kd ≠ 0) => show stepP Y.data.toList pos semi = nextL X.data.toList pos semi from by
            have e := (HY.out hk).1
            rw [step_tok (by rw [step_same.1, e, hx]; simp), e])
          have HYv := Lib.hid (fun (hk : kd ≠ 0) => show StepOut (stepP Y.data.toList pos semi) = .tuple #[.agg #[.int .i64 (kd : Nat), .string (mkB t'), .int .i64 ((nextL X.data.toList pos semi).line : Nat)], .agg #[.int .i64 0, .string ⟨#[]⟩, .int .i64 0]] from by
            rw [HYs.out hk]; unfold StepOut; rw [hx])
          have HYn := Lib.hid (fun (hk : kd ≠ 0) (W : World) (h : LS w W q Y pos semi) => by
            have g := HNy.out W q pos semi h
            rw [HYv.out hk, HYs.out hk] at g
            exact g)
          have HYl := Lib.hid (fun (hk : kd ≠ 0) => (HY.out hk).2)
          clear HNx HNy HRest hG hv hst HY HYs HYv hx
          generalize (nextL X.data.toList pos semi).line = ln at *
          generalize (nextL X.data.toList pos semi).pos = pos' at *
          generalize (nextL X.data.toList pos semi).semi = semi' at *
          generalize hkz : (kd : Int) = kz at *
          have HKz := Lib.hid hkz
          clear hkz
          by_cases hz : kz = 0
          · subst hz
            clear HYn HYl
            go_wp2_with (go_at_call 16; refine HX.out.mono ?_; rintro _ w4 ⟨rfl, hL4, -⟩; have HL4 := Lib.hid (((hL4.alloc (.cells #[.int .i64 0, .string (mkB t'), .int .i64 (ln : Int)] 37)).alloc (.cells #[.int .i64 0, .string ⟨#[]⟩, .int .i64 0] 30))); clear hL4)
            go_ret
            exact ⟨rfl, HL4.out.bel⟩
          · have hz' : (kz == 0) = false := beq_eq_false_iff_ne.2 hz
            have hk0 : kd ≠ 0 := by have := HKz.out; omega
            have HYn2 := Lib.hid (HYn.out hk0)
            have HYl2 := Lib.hid (HYl.out hk0)
            clear HYn HYl
            go_wp2_with (first
              | (go_at_call 16; (with_reducible refine HX.out.mono ?_); rintro _ w4 ⟨rfl, hL4, hO⟩; have HQ2 := Lib.hid (((HQ.only hO hnw (Ne.symm hpq)).alloc (.cells #[.int .i64 kz, .string (mkB t'), .int .i64 (ln : Int)] 37)).alloc (.cells #[.int .i64 0, .string ⟨#[]⟩, .int .i64 0] 30)); have HL4 := Lib.hid (((hL4.alloc (.cells #[.int .i64 kz, .string (mkB t'), .int .i64 (ln : Int)] 37)).alloc (.cells #[.int .i64 0, .string ⟨#[]⟩, .int .i64 0] 30))); have GB1 := Lib.hid ((GBlk.new w4 37 #[.int .i64 kz, .string (mkB t'), .int .i64 (ln : Int)]).alloc (.cells #[.int .i64 0, .string ⟨#[]⟩, .int .i64 0] 30)); have hq4 : w4.heap.size ≠ q := (by have := (HQ.only hO hnw (Ne.symm hpq)).sc.lt; omega); clear hL4 hO)
              | (go_at_call 16; (with_reducible refine (HYn2.out _ HQ2.out).mono ?_); rintro _ w5 ⟨rfl, hL5, hO⟩; have HQ5 := Lib.hid (((hL5.alloc (.cells #[.int .i64 kz, .string (mkB t'), .int .i64 (ln : Int)] 37)).alloc (.cells #[.int .i64 0, .string ⟨#[]⟩, .int .i64 0] 30))); have HP5 := Lib.hid ((((HL4.out.only hO HQ.new hpq).alloc (.cells #[.int .i64 kz, .string (mkB t'), .int .i64 (ln : Int)] 37)).alloc (.cells #[.int .i64 0, .string ⟨#[]⟩, .int .i64 0] 30))); have gB := GB1.out.only hO hq4; have b0 : ∀ o o', ((w5.alloc o).alloc o').cell? ⟨w4.heap.size, 0, none⟩ = some (.int .i64 kz) := fun o o' => ((gB.alloc o).alloc o').cell 0; have b1 : ∀ o o', ((w5.alloc o).alloc o').cell? ⟨w4.heap.size, 1, none⟩ = some (.string (mkB t')) := fun o o' => ((gB.alloc o).alloc o').cell 1; have b2 : ∀ o o', ((w5.alloc o).alloc o').cell? ⟨w4.heap.size, 2, none⟩ = some (.int .i64 (ln : Int)) := fun o o' => ((gB.alloc o).alloc o').cell 2; clear hL5 hO gB))
            have hl := HYl2.out.2
            go_roundw
            case rel => exact ⟨k + 1, pos', semi', by go_num, Lib.hid ⟨HYl2.out.1, by omega⟩, Lib.hid ⟨HP5.out, HQ5.out⟩⟩
            case measure => simp [intOf]; omega
end Go.Proofs.YtinaeegijmkbhaaDoor
