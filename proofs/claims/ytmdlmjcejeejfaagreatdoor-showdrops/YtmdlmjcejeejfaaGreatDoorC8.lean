/-
  gomod.Check.
-/
import Derived.Test.YtmdlmjcejeejfaaGreatDoorC6
namespace Go.Proofs.YtmdlmjcejeejfaaGreatDoor
open Go.RowKit Go.Shelf

theorem accE_ret {xs : List RetB} {e : Int} {k : Nat} (h : k < xs.length) : orL [accE retF xs e k, retE xs[k], whyE xs[k].2.2] = accE retF xs e (k + 1) := by
  rw [accE_snoc h]
  simp only [orL, orI_nought, retF]

set_option maxRecDepth 100000 in
set_option maxHeartbeats 4000000 in
theorem check_file (f : FileG) (hS : Sized f) (a b c d : Value) (w : World) (hF : FileAt w a b c d f) :
    Calls Tryz.prog 18 #[.agg #[.string f.mo, .string f.go, a, b, c, d]] w fun e w' => e = .returned (.int .i64 (chkE f)) ∧ Below w.heap.size w w' := by
  obtain ⟨mo, go, reqs, reps, excs, rets⟩ := f
  obtain ⟨hr, hp, hx, ht⟩ := hF
  obtain ⟨s1, s2, n1, n2, n3, n4, S1, S2, S3, S4⟩ := hS
  dsimp only at *
  replace S1 := Lib.hid S1
  replace S2 := Lib.hid S2
  replace S3 := Lib.hid S3
  replace S4 := Lib.hid S4
  have HQ := Lib.hid (show accE retF rets (accE excE excs (accE repE reps (accE reqE reqs (orI (moduleN mo) (goE go)) reqs.length) reps.length) excs.length) rets.length = chkE ⟨mo, go, reqs, reps, excs, rets⟩ from rfl)
  obtain ⟨ra, rc, rfl⟩ := hr.form
  obtain ⟨pa, pc, rfl⟩ := hp.form
  obtain ⟨xa, xc, rfl⟩ := hx.form
  obtain ⟨ta, tc, rfl⟩ := ht.form
  have hb0 := (Below.refl w.heap.size w).alloc (Nat.le_refl _) (.cells #[.string mo, .string go, .slice ra reqs.length rc, .slice pa reps.length pc, .slice xa excs.length xc, .slice ta rets.length tc] 27)
  have HR := Lib.hid (hr.below hb0)
  have HP := Lib.hid (hp.below hb0)
  have HX := Lib.hid (hx.below hb0)
  have HT := Lib.hid (ht.below hb0)
  have c0 : (w.alloc (.cells #[.string mo, .string go, .slice ra reqs.length rc, .slice pa reps.length pc, .slice xa excs.length xc, .slice ta rets.length tc] 27)).cell? ⟨w.heap.size, 0, none⟩ = some (.string mo) := by rw [cell_newR]; rfl
  have c1 : (w.alloc (.cells #[.string mo, .string go, .slice ra reqs.length rc, .slice pa reps.length pc, .slice xa excs.length xc, .slice ta rets.length tc] 27)).cell? ⟨w.heap.size, 1, none⟩ = some (.string go) := by rw [cell_newR]; rfl
  have c2 : (w.alloc (.cells #[.string mo, .string go, .slice ra reqs.length rc, .slice pa reps.length pc, .slice xa excs.length xc, .slice ta rets.length tc] 27)).cell? ⟨w.heap.size, 2, none⟩ = some (.slice ra reqs.length rc) := by rw [cell_newR]; rfl
  have c3 : (w.alloc (.cells #[.string mo, .string go, .slice ra reqs.length rc, .slice pa reps.length pc, .slice xa excs.length xc, .slice ta rets.length tc] 27)).cell? ⟨w.heap.size, 3, none⟩ = some (.slice pa reps.length pc) := by rw [cell_newR]; rfl
  have c4 : (w.alloc (.cells #[.string mo, .string go, .slice ra reqs.length rc, .slice pa reps.length pc, .slice xa excs.length xc, .slice ta rets.length tc] 27)).cell? ⟨w.heap.size, 4, none⟩ = some (.slice xa excs.length xc) := by rw [cell_newR]; rfl
  have c5 : (w.alloc (.cells #[.string mo, .string go, .slice ra reqs.length rc, .slice pa reps.length pc, .slice xa excs.length xc, .slice ta rets.length tc] 27)).cell? ⟨w.heap.size, 5, none⟩ = some (.slice ta rets.length tc) := by rw [cell_newR]; rfl
  have hz : w.heap.size < (w.alloc (.cells #[.string mo, .string go, .slice ra reqs.length rc, .slice pa reps.length pc, .slice xa excs.length xc, .slice ta rets.length tc] 27)).heap.size := by simp
  clear hr hp hx ht
  go_enter Tryz.func18, Tryz.ntmps18
  go_wp2
  generalize w.alloc (.cells #[.string mo, .string go, .slice ra reqs.length rc, .slice pa reps.length pc, .slice xa excs.length xc, .slice ta rets.length tc] 27) = W at *
  have C2 := Lib.hid c2
  have C3 := Lib.hid c3
  have C4 := Lib.hid c4
  have C5 := Lib.hid c5
  clear c2 c3 c4 c5
  go_region_held3 (fun w' => w'.cell? ⟨w.heap.size, 0, none⟩ = some (.string mo) ∧ w'.cell? ⟨w.heap.size, 1, none⟩ = some (.string go))
    (first
      | go_keep
      | (go_split_ands; refine ⟨?_, ?_⟩ <;> (rw [hb5.cell hs4]; assumption))
      | (go_split_ands; refine ⟨?_, ?_⟩ <;> (rw [hb4.cell hz]; assumption)))
    (first
      | (go_at_call 43; refine (module_any _ (by omega) _).mono ?_; rintro e w4 ⟨rfl, hb4⟩; have hs4 := Nat.lt_of_lt_of_le hz hb4.size)
      | (go_at_call 44; refine (checkGo_any _ (by omega) _).mono ?_; rintro e w5 ⟨rfl, hb5⟩; have hs5 := Nat.lt_of_lt_of_le hs4 hb5.size)
      | (go_at_call 42; refine (first_any _ _ [moduleN mo, goE go] (by simp) _ (ints_cells _ _ _ _ (by rfl))).mono ?_; rw [orL_two]; rintro e w' ⟨rfl, rfl⟩))
  rename_i hheld
  clear hheld c0 c1
  have hB4 := (below_drewN' (n := 1) hb4 : Below W.heap.size W w4)
  have hB5 := hB4.trans (hb5.mono hB4.size)
  have hB6 := hB5.alloc hB5.size (.cells #[.int .i64 (moduleN mo), .int .i64 (goE go)] 42)
  generalize w5.alloc (.cells #[.int .i64 (moduleN mo), .int .i64 (goE go)] 42) = w6 at *
  clear hb4 hs4 hb5 hs5 hB4 hB5
  generalize orI (moduleN mo) (goE go) = e0 at *
  have cc := (hB6.cell (p := ⟨w.heap.size, 2, none⟩) hz).trans C2.out
  go_wp2
  clear cc
  go_loopw [3, 23] (fun e i wr => ∃ k : Nat, k ≤ reqs.length ∧ i = .int .i64 k ∧ e = .int .i64 (accE reqE reqs e0 k) ∧ Below W.heap.size W wr) (fun _ i _ => reqs.length - (intOf i).toNat)
  case atStart => exact ⟨0, Nat.zero_le _, rfl, rfl, hB6⟩
  case round =>
    clear hB6
    obtain ⟨k, hk, rfl, rfl, hBw⟩ := hrel
    by_cases hlt : k < reqs.length
    · obtain ⟨-, hcap, hsp⟩ := (HR.out.below hBw).spot
      obtain ⟨g, o, rfl, hg, hat⟩ := hsp (ne_of_lt hlt)
      obtain ⟨q1, q2, q3⟩ := req_at hat k hlt
      obtain ⟨z1, z2⟩ := S1.out _ (List.getElem_mem hlt)
      have HE := Lib.hid (accE_two (e := e0) hlt (F := reqE))
      clear hat hsp
      generalize reqs[k] = x at *
      obtain ⟨⟨p, v⟩, bb⟩ := x
      dsimp only at q1 q2 q3 z1 z2 HE
      go_wp2
      have hB2 := hBw.alloc hBw.size (.cells #[.string p, .string v, .bool bb] 50)
      have d0 : (wr.alloc (.cells #[.string p, .string v, .bool bb] 50)).cell? ⟨wr.heap.size, 0, none⟩ = some (.string p) := by rw [cell_newR]; rfl
      have d1 : (wr.alloc (.cells #[.string p, .string v, .bool bb] 50)).cell? ⟨wr.heap.size, 1, none⟩ = some (.string v) := by rw [cell_newR]; rfl
      have d2 : (wr.alloc (.cells #[.string p, .string v, .bool bb] 50)).cell? ⟨wr.heap.size, 2, none⟩ = some (.bool bb) := by rw [cell_newR]; rfl
      have hz2 : wr.heap.size < (wr.alloc (.cells #[.string p, .string v, .bool bb] 50)).heap.size := by simp
      have hz1 := Nat.lt_of_lt_of_le hz hB2.size
      have cc := (hB2.cell (p := ⟨w.heap.size, 2, none⟩) hz).trans C2.out
      have HT2 := Lib.hid ((HR.out.below hB2).take (Nat.le_of_lt hlt))
      have i0 : (0 : Int) ≤ (k : Int) := by omega
      have i1 : (k : Int) ≤ (rc : Int) := by omega
      have i2 : (k : Int) ≤ (reqs.length : Int) := by omega
      generalize wr.alloc (.cells #[.string p, .string v, .bool bb] 50) = W2 at *
      go_region_held3 (fun w' => w'.cell? ⟨wr.heap.size, 0, none⟩ = some (.string p) ∧ w'.cell? ⟨wr.heap.size, 1, none⟩ = some (.string v) ∧ w'.cell? ⟨wr.heap.size, 2, none⟩ = some (.bool bb) ∧ w'.cell? ⟨w.heap.size, 2, none⟩ = some (.slice (some ⟨g, o, none⟩) reqs.length rc))
        (first
          | go_keep
          | (go_split_ands; refine ⟨?_, ?_, ?_, ?_⟩ <;> first | (rw [hb4.cell hz2]; assumption) | (rw [hb4.cell hz1]; assumption)))
        (first
          | (go_at_call 45; refine (checkRequire_any _ _ _ (by omega) (by omega) _ (reqs.take k) _ (show RRow reqR W2.drew (.slice (some ⟨g, o, none⟩) k rc) (reqs.take k) from HT2.out) (by rw [List.length_take]; omega)).mono ?_; rintro e w4 ⟨rfl, hb4⟩)
          | (go_at_call 42; refine (first_any _ _ [accE reqE reqs e0 k, reqE ((p, v), bb) (reqs.take k)] (by simp) _ (ints_cells _ _ _ _ (by rfl))).mono ?_; rw [HE.out]; rintro e w' ⟨rfl, rfl⟩))
      rename_i hheld
      clear hheld
      have hB3 := hB2.trans ((below_drewN' (n := 1) hb4 : Below W2.heap.size W2 w4).mono hB2.size)
      have hB4 := hB3.alloc hB3.size (.cells #[.int .i64 (accE reqE reqs e0 k), .int .i64 (reqE ((p, v), bb) (reqs.take k))] 42)
      go_wp2
      go_roundw
      case rel => exact ⟨k + 1, by omega, by go_num, rfl, hB4⟩
      case measure => simp [intOf]; omega
    · obtain rfl : k = reqs.length := by omega
      generalize accE reqE reqs e0 reqs.length = e1 at *
      obtain ⟨v0, hv0⟩ : ∃ v, v = wr := ⟨_, rfl⟩
      subst hv0
      have cc := (hBw.cell (p := ⟨w.heap.size, 3, none⟩) hz).trans C3.out
      go_wp2
      clear cc
      go_loopw [3, 41] (fun e i wr => ∃ k : Nat, k ≤ reps.length ∧ i = .int .i64 k ∧ e = .int .i64 (accE repE reps e1 k) ∧ Below W.heap.size W wr) (fun _ i _ => reps.length - (intOf i).toNat)
      case atStart => exact ⟨0, Nat.zero_le _, rfl, rfl, hBw⟩
      case round =>
        clear hBw
        obtain ⟨k, hk, rfl, rfl, hBw⟩ := hrel
        by_cases hlt : k < reps.length
        · obtain ⟨-, hcap, hsp⟩ := (HP.out.below hBw).spot
          obtain ⟨g, o, rfl, hg, hat⟩ := hsp (ne_of_lt hlt)
          obtain ⟨q1, q2, q3, q4⟩ := rep_at hat k hlt
          obtain ⟨z1, z2, z3, z4⟩ := S2.out _ (List.getElem_mem hlt)
          have HE := Lib.hid (accE_two (e := e1) hlt (F := repE))
          clear hat hsp
          generalize reps[k] = x at *
          obtain ⟨⟨p, v⟩, p2, v2⟩ := x
          dsimp only at q1 q2 q3 q4 z1 z2 z3 z4 HE
          go_wp2
          have hB2 := hBw.alloc hBw.size (.cells #[.string p, .string v, .string p2, .string v2] 56)
          have d0 : (wr.alloc (.cells #[.string p, .string v, .string p2, .string v2] 56)).cell? ⟨wr.heap.size, 0, none⟩ = some (.string p) := by rw [cell_newR]; rfl
          have d1 : (wr.alloc (.cells #[.string p, .string v, .string p2, .string v2] 56)).cell? ⟨wr.heap.size, 1, none⟩ = some (.string v) := by rw [cell_newR]; rfl
          have d2 : (wr.alloc (.cells #[.string p, .string v, .string p2, .string v2] 56)).cell? ⟨wr.heap.size, 2, none⟩ = some (.string p2) := by rw [cell_newR]; rfl
          have d3 : (wr.alloc (.cells #[.string p, .string v, .string p2, .string v2] 56)).cell? ⟨wr.heap.size, 3, none⟩ = some (.string v2) := by rw [cell_newR]; rfl
          have hz2 : wr.heap.size < (wr.alloc (.cells #[.string p, .string v, .string p2, .string v2] 56)).heap.size := by simp
          have hz1 := Nat.lt_of_lt_of_le hz hB2.size
          have cc := (hB2.cell (p := ⟨w.heap.size, 3, none⟩) hz).trans C3.out
          have HT2 := Lib.hid ((HP.out.below hB2).take (Nat.le_of_lt hlt))
          have i0 : (0 : Int) ≤ (k : Int) := by omega
          have i1 : (k : Int) ≤ (pc : Int) := by omega
          have i2 : (k : Int) ≤ (reps.length : Int) := by omega
          generalize wr.alloc (.cells #[.string p, .string v, .string p2, .string v2] 56) = W2 at *
          go_region_held3 (fun w' => w'.cell? ⟨wr.heap.size, 0, none⟩ = some (.string p) ∧ w'.cell? ⟨wr.heap.size, 1, none⟩ = some (.string v) ∧ w'.cell? ⟨wr.heap.size, 2, none⟩ = some (.string p2) ∧ w'.cell? ⟨wr.heap.size, 3, none⟩ = some (.string v2) ∧ w'.cell? ⟨w.heap.size, 3, none⟩ = some (.slice (some ⟨g, o, none⟩) reps.length pc))
            (first
              | go_keep
              | (go_split_ands; refine ⟨?_, ?_, ?_, ?_, ?_⟩ <;> first | (rw [hb4.cell hz2]; assumption) | (rw [hb4.cell hz1]; assumption)))
            (first
              | (go_at_call 46; refine (checkReplace_any _ _ _ _ (by omega) (by omega) (by omega) (by omega) _ (reps.take k) _ (show RRow repR W2.drew (.slice (some ⟨g, o, none⟩) k pc) (reps.take k) from HT2.out) (by rw [List.length_take]; omega)).mono ?_; rintro e w4 ⟨rfl, hb4⟩)
              | (go_at_call 42; refine (first_any _ _ [accE repE reps e1 k, repE ((p, v), p2, v2) (reps.take k)] (by simp) _ (ints_cells _ _ _ _ (by rfl))).mono ?_; rw [HE.out]; rintro e w' ⟨rfl, rfl⟩))
          rename_i hheld
          clear hheld
          have hB3 := hB2.trans ((below_drewN' (n := 1) hb4 : Below W2.heap.size W2 w4).mono hB2.size)
          have hB4 := hB3.alloc hB3.size (.cells #[.int .i64 (accE repE reps e1 k), .int .i64 (repE ((p, v), p2, v2) (reps.take k))] 42)
          go_wp2
          go_roundw
          case rel => exact ⟨k + 1, by omega, by go_num, rfl, hB4⟩
          case measure => simp [intOf]; omega
        · obtain rfl : k = reps.length := by omega
          generalize accE repE reps e1 reps.length = e2 at *
          obtain ⟨v1, hv1⟩ : ∃ v, v = wr := ⟨_, rfl⟩
          subst hv1
          have cc := (hBw.cell (p := ⟨w.heap.size, 4, none⟩) hz).trans C4.out
          go_wp2
          clear cc
          go_loopw [3, 59] (fun e i wr => ∃ k : Nat, k ≤ excs.length ∧ i = .int .i64 k ∧ e = .int .i64 (accE excE excs e2 k) ∧ Below W.heap.size W wr) (fun _ i _ => excs.length - (intOf i).toNat)
          case atStart => exact ⟨0, Nat.zero_le _, rfl, rfl, hBw⟩
          case round =>
            clear hBw
            obtain ⟨k, hk, rfl, rfl, hBw⟩ := hrel
            by_cases hlt : k < excs.length
            · obtain ⟨-, hcap, hsp⟩ := (HX.out.below hBw).spot
              obtain ⟨g, o, rfl, hg, hat⟩ := hsp (ne_of_lt hlt)
              obtain ⟨q1, q2⟩ := mod_at hat k hlt
              obtain ⟨z1, z2⟩ := S3.out _ (List.getElem_mem hlt)
              have HE := Lib.hid (accE_two (e := e2) hlt (F := excE))
              clear hat hsp
              generalize excs[k] = x at *
              obtain ⟨p, v⟩ := x
              dsimp only at q1 q2 z1 z2 HE
              go_wp2
              have hB2 := hBw.alloc hBw.size (.cells #[.string p, .string v] 41)
              have d0 : (wr.alloc (.cells #[.string p, .string v] 41)).cell? ⟨wr.heap.size, 0, none⟩ = some (.string p) := by rw [cell_newR]; rfl
              have d1 : (wr.alloc (.cells #[.string p, .string v] 41)).cell? ⟨wr.heap.size, 1, none⟩ = some (.string v) := by rw [cell_newR]; rfl
              have hz2 : wr.heap.size < (wr.alloc (.cells #[.string p, .string v] 41)).heap.size := by simp
              have hz1 := Nat.lt_of_lt_of_le hz hB2.size
              have cc := (hB2.cell (p := ⟨w.heap.size, 4, none⟩) hz).trans C4.out
              have HT2 := Lib.hid ((HX.out.below hB2).take (Nat.le_of_lt hlt))
              have i0 : (0 : Int) ≤ (k : Int) := by omega
              have i1 : (k : Int) ≤ (xc : Int) := by omega
              have i2 : (k : Int) ≤ (excs.length : Int) := by omega
              generalize wr.alloc (.cells #[.string p, .string v] 41) = W2 at *
              go_region_held3 (fun w' => w'.cell? ⟨wr.heap.size, 0, none⟩ = some (.string p) ∧ w'.cell? ⟨wr.heap.size, 1, none⟩ = some (.string v) ∧ w'.cell? ⟨w.heap.size, 4, none⟩ = some (.slice (some ⟨g, o, none⟩) excs.length xc))
                (first
                  | go_keep
                  | (go_split_ands; refine ⟨?_, ?_, ?_⟩ <;> first | (rw [hb4.cell hz2]; assumption) | (rw [hb4.cell hz1]; assumption)))
                (first
                  | (go_at_call 47; refine (checkExclude_any _ _ (by omega) (by omega) _ (excs.take k) _ (show RRow modR W2.drew (.slice (some ⟨g, o, none⟩) k xc) (excs.take k) from HT2.out) (by rw [List.length_take]; omega)).mono ?_; rintro e w4 ⟨rfl, hb4⟩)
                  | (go_at_call 42; refine (first_any _ _ [accE excE excs e2 k, excE (p, v) (excs.take k)] (by simp) _ (ints_cells _ _ _ _ (by rfl))).mono ?_; rw [HE.out]; rintro e w' ⟨rfl, rfl⟩))
              rename_i hheld
              clear hheld
              have hB3 := hB2.trans ((below_drewN' (n := 1) hb4 : Below W2.heap.size W2 w4).mono hB2.size)
              have hB4 := hB3.alloc hB3.size (.cells #[.int .i64 (accE excE excs e2 k), .int .i64 (excE (p, v) (excs.take k))] 42)
              go_wp2
              go_roundw
              case rel => exact ⟨k + 1, by omega, by go_num, rfl, hB4⟩
              case measure => simp [intOf]; omega
            · obtain rfl : k = excs.length := by omega
              generalize accE excE excs e2 excs.length = e3 at *
              obtain ⟨v2, hv2⟩ : ∃ v, v = wr := ⟨_, rfl⟩
              subst hv2
              have cc := (hBw.cell (p := ⟨w.heap.size, 5, none⟩) hz).trans C5.out
              go_wp2
              clear cc
              go_loopw [3, 77] (fun e i wr => ∃ k : Nat, k ≤ rets.length ∧ i = .int .i64 k ∧ e = .int .i64 (accE retF rets e3 k) ∧ Below W.heap.size W wr) (fun _ i _ => rets.length - (intOf i).toNat)
              case atStart => exact ⟨0, Nat.zero_le _, rfl, rfl, hBw⟩
              case round =>
                clear hBw
                obtain ⟨k, hk, rfl, rfl, hBw⟩ := hrel
                by_cases hlt : k < rets.length
                · obtain ⟨-, hcap, hsp⟩ := (HT.out.below hBw).spot
                  obtain ⟨g, o, rfl, hg, hat⟩ := hsp (ne_of_lt hlt)
                  obtain ⟨q1, q2, q3⟩ := ret_at hat k hlt
                  obtain ⟨z1, z2, z3⟩ := S4.out _ (List.getElem_mem hlt)
                  have HE := Lib.hid (accE_ret (e := e3) hlt)
                  clear hat hsp
                  generalize rets[k] = x at *
                  obtain ⟨p, v, y⟩ := x
                  dsimp only at q1 q2 q3 z1 z2 z3 HE
                  go_wp2
                  have hB2 := hBw.alloc hBw.size (.cells #[.string p, .string v, .string y] 58)
                  have d0 : (wr.alloc (.cells #[.string p, .string v, .string y] 58)).cell? ⟨wr.heap.size, 0, none⟩ = some (.string p) := by rw [cell_newR]; rfl
                  have d1 : (wr.alloc (.cells #[.string p, .string v, .string y] 58)).cell? ⟨wr.heap.size, 1, none⟩ = some (.string v) := by rw [cell_newR]; rfl
                  have d2 : (wr.alloc (.cells #[.string p, .string v, .string y] 58)).cell? ⟨wr.heap.size, 2, none⟩ = some (.string y) := by rw [cell_newR]; rfl
                  have hz2 : wr.heap.size < (wr.alloc (.cells #[.string p, .string v, .string y] 58)).heap.size := by simp
                  have hz1 := Nat.lt_of_lt_of_le hz hB2.size
                  generalize wr.alloc (.cells #[.string p, .string v, .string y] 58) = W2 at *
                  go_region_held3 (fun w' => w'.cell? ⟨wr.heap.size, 0, none⟩ = some (.string p) ∧ w'.cell? ⟨wr.heap.size, 1, none⟩ = some (.string v) ∧ w'.cell? ⟨wr.heap.size, 2, none⟩ = some (.string y))
                    (first
                      | go_keep
                      | (go_split_ands; refine ⟨?_, ?_, ?_⟩ <;> (rw [hb5.cell hs4]; assumption))
                      | (go_split_ands; refine ⟨?_, ?_, ?_⟩ <;> (rw [hb4.cell hz2]; assumption)))
                    (first
                      | (go_at_call 48; refine (checkRetract_any _ _ _ (by omega) (by omega) _).mono ?_; rintro e w4 ⟨rfl, hb4⟩; have hs4 := Nat.lt_of_lt_of_le hz2 hb4.size)
                      | (go_at_call 49; refine (checkWhy_any _ (by omega) _).mono ?_; rintro e w5 ⟨rfl, hb5⟩)
                      | (go_at_call 42; refine (first_any _ _ [accE retF rets e3 k, retE (p, v, y), whyE y] (by simp) _ (ints_cells _ _ _ _ (by rfl))).mono ?_; rw [HE.out]; rintro e w' ⟨rfl, rfl⟩))
                  rename_i hheld
                  clear hheld
                  have hB3 := hB2.trans ((below_drewN' (n := 1) hb4 : Below W2.heap.size W2 w4).mono hB2.size)
                  replace hB3 := hB3.trans (hb5.mono hB3.size)
                  have hB4 := hB3.alloc hB3.size (.cells #[.int .i64 (accE retF rets e3 k), .int .i64 (retE (p, v, y)), .int .i64 (whyE y)] 42)
                  go_wp2
                  go_roundw
                  case rel => exact ⟨k + 1, by omega, by go_num, rfl, hB4⟩
                  case measure => simp [intOf]; omega
                · obtain rfl : k = rets.length := by omega
                  generalize accE retF rets e3 rets.length = e4 at *
                  obtain ⟨v3, hv3⟩ : ∃ v, v = wr := ⟨_, rfl⟩
                  subst hv3
                  go_wp2
                  go_ret
                  exact ⟨ret_int HQ.out, hb0.trans (hBw.mono hb0.size)⟩
end Go.Proofs.YtmdlmjcejeejfaaGreatDoor

/-
  The document's own small checks.
-/
namespace Go.Proofs.YtmdlmjcejeejfaaGreatDoor
open Go.RowKit Go.Shelf

theorem canonE_t {v : ByteArray} (h : canonB v = true) : canonE v = 0 := by rw [canonE, h]; rfl
theorem canonE_f {v : ByteArray} (h : canonB v = false) : canonE v = 30 := by rw [canonE, h]; rfl

set_option maxRecDepth 100000 in
set_option maxHeartbeats 1000000 in
theorem rcanonical_any (s : ByteArray) (hs : s.size ≤ 20400) (w : World) :
    Calls Tryz.prog 131 #[.string s] w fun e w' => e = .returned (.int .i64 (canonE s)) ∧ Below w.heap.size w w' := by
  cases h : s.toList.isEmpty
  · have H := Lib.hid (canonB_2 h)
    have h' : (s.toList == []) = false := by cases hs : s.toList <;> simp_all
    go_enter Tryz.func131, Tryz.ntmps131
    go_wp2_with fail
    refine (rcanon_any s hs _).mono ?_
    rintro _ w1 ⟨rfl, hb⟩
    cases hq : ((canonS s).toList == s.toList)
    · have HE := Lib.hid (canonE_f (H.out.trans hq))
      go_wp2
      go_ret
      exact ⟨ret_int HE.out.symm, hb⟩
    · have HE := Lib.hid (canonE_t (H.out.trans hq))
      go_wp2
      go_ret
      exact ⟨ret_int HE.out.symm, hb⟩
  · have HE := Lib.hid (canonE_f (canonB_1 h))
    go_enter Tryz.func131, Tryz.ntmps131
    go_wp2
    go_ret
    exact ⟨ret_int HE.out.symm, Below.refl _ _⟩

theorem or3_1 {a b c : Int} (h : ¬ a = 0) : orL [a, b, c] = a := by simp [orL, orI, h]
theorem or3_2 {a b c : Int} (h : a = 0) (k : ¬ b = 0) : orL [a, b, c] = b := by simp [orL, orI, h, k]
theorem or3_3 {a b c : Int} (h : a = 0) (k : b = 0) : orL [a, b, c] = c := by subst h k; simp [orL, orI]; exact fun e => e.symm

set_option maxRecDepth 100000 in
set_option maxHeartbeats 2000000 in
theorem rmod_any (p v : ByteArray) (hp : p.size ≤ 20400) (hv : v.size ≤ 20400) (w : World) :
    Calls Tryz.prog 78 #[.agg #[.string p, .string v]] w fun e w' => e = .returned (.int .i64 (modE (p, v))) ∧ Below w.heap.size w w' := by
  have hb0 := (Below.refl w.heap.size w).alloc (Nat.le_refl _) (.cells #[.string p, .string v] 41)
  have c0 : (w.alloc (.cells #[.string p, .string v] 41)).cell? ⟨w.heap.size, 0, none⟩ = some (.string p) := by rw [cell_newR]; rfl
  have c1 : (w.alloc (.cells #[.string p, .string v] 41)).cell? ⟨w.heap.size, 1, none⟩ = some (.string v) := by rw [cell_newR]; rfl
  have hz : w.heap.size < (w.alloc (.cells #[.string p, .string v] 41)).heap.size := by simp
  have HQ := Lib.hid (show orL [moduleN p, canonE v, fitN p v.data.toList] = modE (p, v) from rfl)
  go_enter Tryz.func78, Tryz.ntmps78
  go_wp2_with fail
  refine (rmodule_any p (by omega) _).mono ?_
  rintro _ w1 ⟨rfl, hb1⟩
  have q0 := (hb1.cell (p := ⟨w.heap.size, 0, none⟩) hz).trans c0
  have q1 := (hb1.cell (p := ⟨w.heap.size, 1, none⟩) hz).trans c1
  have hB1 := hb0.trans (hb1.mono hb0.size)
  replace hz := Nat.lt_of_lt_of_le hz hb1.size
  clear c0 c1 hb0 hb1
  generalize moduleN p = e1 at *
  by_cases h1 : e1 = 0
  · subst h1
    go_wp2_with fail
    refine (rcanonical_any v (by omega) _).mono ?_
    rintro _ w2 ⟨rfl, hb2⟩
    replace q0 := (hb2.cell (p := ⟨w.heap.size, 0, none⟩) hz).trans q0
    replace q1 := (hb2.cell (p := ⟨w.heap.size, 1, none⟩) hz).trans q1
    have hB2 := hB1.trans (hb2.mono hB1.size)
    generalize canonE v = e2 at *
    by_cases h2 : e2 = 0
    · subst h2
      go_wp2_with fail
      refine (rfits_any p v (by omega) (by omega) _).mono ?_
      rintro _ w3 ⟨rfl, hb3⟩
      go_wp2
      go_ret
      exact ⟨ret_int (by rw [← HQ.out, or3_3 rfl rfl]), hB2.trans (hb3.mono hB2.size)⟩
    · have HN := Lib.hid h2
      have h2' : (e2 == 0) = false := by simp [h2]
      clear h2
      go_wp2
      go_ret
      exact ⟨ret_int (by rw [← HQ.out, or3_2 rfl HN.out]), hB2⟩
  · have HN := Lib.hid h1
    have h1' : (e1 == 0) = false := by simp [h1]
    clear h1
    go_wp2
    go_ret
    exact ⟨ret_int (by rw [← HQ.out, or3_1 HN.out]), hB1⟩

set_option maxRecDepth 100000 in
set_option maxHeartbeats 2000000 in
theorem rretracted_any (l h y : ByteArray) (hl : l.size ≤ 20400) (hh : h.size ≤ 20400) (w : World) :
    Calls Tryz.prog 81 #[.agg #[.string l, .string h, .string y]] w fun e w' => e = .returned (.int .i64 (retE (l, h, y))) ∧ Below w.heap.size w w' := by
  have hb0 := (Below.refl w.heap.size w).alloc (Nat.le_refl _) (.cells #[.string l, .string h, .string y] 63)
  have c0 : (w.alloc (.cells #[.string l, .string h, .string y] 63)).cell? ⟨w.heap.size, 0, none⟩ = some (.string l) := by rw [cell_newR]; rfl
  have c1 : (w.alloc (.cells #[.string l, .string h, .string y] 63)).cell? ⟨w.heap.size, 1, none⟩ = some (.string h) := by rw [cell_newR]; rfl
  have hz : w.heap.size < (w.alloc (.cells #[.string l, .string h, .string y] 63)).heap.size := by simp
  have HQ := Lib.hid (show orL [canonE l, canonE h, unl (decide (scmp l.data.toList h.data.toList ≤ 0)) 30] = retE (l, h, y) from rfl)
  go_enter Tryz.func81, Tryz.ntmps81
  go_wp2_with fail
  refine (rcanonical_any l (by omega) _).mono ?_
  rintro _ w1 ⟨rfl, hb1⟩
  have q0 := (hb1.cell (p := ⟨w.heap.size, 0, none⟩) hz).trans c0
  have q1 := (hb1.cell (p := ⟨w.heap.size, 1, none⟩) hz).trans c1
  have hB1 := hb0.trans (hb1.mono hb0.size)
  replace hz := Nat.lt_of_lt_of_le hz hb1.size
  clear c0 c1 hb0 hb1
  generalize canonE l = e1 at *
  by_cases h1 : e1 = 0
  · subst h1
    go_wp2_with fail
    refine (rcanonical_any h (by omega) _).mono ?_
    rintro _ w2 ⟨rfl, hb2⟩
    replace q0 := (hb2.cell (p := ⟨w.heap.size, 0, none⟩) hz).trans q0
    replace q1 := (hb2.cell (p := ⟨w.heap.size, 1, none⟩) hz).trans q1
    have hB2 := hB1.trans (hb2.mono hB1.size)
    generalize canonE h = e2 at *
    by_cases h2 : e2 = 0
    · subst h2
      go_wp2_with fail
      refine (rcompare_any l h (by omega) (by omega) _).mono ?_
      rintro _ w3 ⟨rfl, hb3⟩
      have hB3 := hB2.trans (hb3.mono hB2.size)
      generalize scmp l.data.toList h.data.toList = s at *
      by_cases hs : 0 < s
      · have HE := Lib.hid (show unl (decide (s ≤ 0)) 30 = 30 by rw [decide_eq_false (by omega)]; rfl)
        go_wp2
        go_ret
        exact ⟨ret_int (by rw [← HQ.out, or3_3 rfl rfl, HE.out]), hB3⟩
      · have HE := Lib.hid (show unl (decide (s ≤ 0)) 30 = 0 by rw [decide_eq_true (by omega)]; rfl)
        go_wp2
        go_ret
        exact ⟨ret_int (by rw [← HQ.out, or3_3 rfl rfl, HE.out]), hB3⟩
    · have HN := Lib.hid h2
      have h2' : (e2 == 0) = false := by simp [h2]
      clear h2
      go_wp2
      go_ret
      exact ⟨ret_int (by rw [← HQ.out, or3_2 rfl HN.out]), hB2⟩
  · have HN := Lib.hid h1
    have h1' : (e1 == 0) = false := by simp [h1]
    clear h1
    go_wp2
    go_ret
    exact ⟨ret_int (by rw [← HQ.out, or3_1 HN.out]), hB1⟩

theorem newE_t {p2 v2 : ByteArray} (h : v2.toList.isEmpty = true) : newE (p2, v2) = locE p2 := by simp [newE, h]
theorem newE_f {p2 v2 : ByteArray} (h : v2.toList.isEmpty = false) : newE (p2, v2) = modE (p2, v2) := by simp [newE, h]
theorem oldE_t {p v : ByteArray} (h : v.toList.isEmpty = true) : oldE (p, v) = moduleN p := by simp [oldE, h]
theorem oldE_f {p v : ByteArray} (h : v.toList.isEmpty = false) : oldE (p, v) = modE (p, v) := by simp [oldE, h]
theorem oldE_m {p v : ByteArray} (h : ¬ moduleN p = 0) : oldE (p, v) = moduleN p := by
  cases e : v.toList.isEmpty
  · rw [oldE_f e]; exact or3_1 h
  · rw [oldE_t e]
theorem locE_t {p : ByteArray} (h : localB p = true) : locE p = 0 := by rw [locE, h]; rfl
theorem locE_f {p : ByteArray} (h : localB p = false) : locE p = 10 := by rw [locE, h]; rfl
def wordsE (r : RepB) : Int := orI (oldE r.1) (newE r.2)
theorem words_0 {p v p2 v2 : ByteArray} (h : oldE (p, v) = 0) : wordsE ((p, v), p2, v2) = newE (p2, v2) := by rw [wordsE, h]; rfl
theorem words_1 {p v p2 v2 : ByteArray} (h : ¬ oldE (p, v) = 0) : wordsE ((p, v), p2, v2) = oldE (p, v) := by rw [wordsE, orI, if_neg h]

set_option maxRecDepth 100000 in
set_option maxHeartbeats 4000000 in
theorem rreplaced_any (p v p2 v2 : ByteArray) (hp : p.size ≤ 20400) (hv : v.size ≤ 20400) (hp2 : p2.size ≤ 20400) (hv2 : v2.size ≤ 20400) (w : World) :
    Calls Tryz.prog 80 #[.agg #[.string p, .string v, .string p2, .string v2]] w fun e w' => e = .returned (.int .i64 (wordsE ((p, v), p2, v2))) ∧ Below w.heap.size w w' := by
  have hb0 := (Below.refl w.heap.size w).alloc (Nat.le_refl _) (.cells #[.string p, .string v, .string p2, .string v2] 62)
  have c0 : (w.alloc (.cells #[.string p, .string v, .string p2, .string v2] 62)).cell? ⟨w.heap.size, 0, none⟩ = some (.string p) := by rw [cell_newR]; rfl
  have c1 : (w.alloc (.cells #[.string p, .string v, .string p2, .string v2] 62)).cell? ⟨w.heap.size, 1, none⟩ = some (.string v) := by rw [cell_newR]; rfl
  have c2 : (w.alloc (.cells #[.string p, .string v, .string p2, .string v2] 62)).cell? ⟨w.heap.size, 2, none⟩ = some (.string p2) := by rw [cell_newR]; rfl
  have c3 : (w.alloc (.cells #[.string p, .string v, .string p2, .string v2] 62)).cell? ⟨w.heap.size, 3, none⟩ = some (.string v2) := by rw [cell_newR]; rfl
  have hz : w.heap.size < (w.alloc (.cells #[.string p, .string v, .string p2, .string v2] 62)).heap.size := by simp
  go_enter Tryz.func80, Tryz.ntmps80
  go_wp2_with fail
  refine (rmodule_any p (by omega) _).mono ?_
  rintro _ w1 ⟨rfl, hb1⟩
  have q0 := (hb1.cell (p := ⟨w.heap.size, 0, none⟩) hz).trans c0
  have q1 := (hb1.cell (p := ⟨w.heap.size, 1, none⟩) hz).trans c1
  have q2 := (hb1.cell (p := ⟨w.heap.size, 2, none⟩) hz).trans c2
  have q3 := (hb1.cell (p := ⟨w.heap.size, 3, none⟩) hz).trans c3
  have hB1 := hb0.trans (hb1.mono hb0.size)
  replace hz := Nat.lt_of_lt_of_le hz hb1.size
  clear c0 c1 c2 c3 hb0 hb1
  by_cases h1 : moduleN p = 0
  · have H1 := Lib.hid h1
    rw [h1]
    clear h1
    cases e1 : v.toList.isEmpty
    · have e1' : (v.toList == []) = false := by cases hh : v.toList <;> simp_all
      have HO := Lib.hid (oldE_f (p := p) e1)
      clear e1
      go_wp2_with fail
      refine (rmod_any p v (by omega) (by omega) _).mono ?_
      rintro _ w2 ⟨rfl, hb2⟩
      replace q0 := (hb2.cell (p := ⟨w.heap.size, 0, none⟩) hz).trans q0
      replace q1 := (hb2.cell (p := ⟨w.heap.size, 1, none⟩) hz).trans q1
      replace q2 := (hb2.cell (p := ⟨w.heap.size, 2, none⟩) hz).trans q2
      replace q3 := (hb2.cell (p := ⟨w.heap.size, 3, none⟩) hz).trans q3
      have hB2 := hB1.trans (hb2.mono hB1.size)
      replace hz := Nat.lt_of_lt_of_le hz hb2.size
      by_cases h2 : modE (p, v) = 0
      · have HW := Lib.hid (words_0 (p2 := p2) (v2 := v2) (HO.out.trans h2))
        rw [h2]
        clear h2
        cases e2 : v2.toList.isEmpty
        · have e2' : (v2.toList == []) = false := by cases hh : v2.toList <;> simp_all
          have HN := Lib.hid (newE_f (p2 := p2) e2)
          go_wp2_with fail
          refine (rmod_any p2 v2 (by omega) (by omega) _).mono ?_
          rintro _ w3 ⟨rfl, hb3⟩
          have hB3 := hB2.trans (hb3.mono hB2.size)
          go_wp2
          go_ret
          exact ⟨ret_int (by rw [HW.out, HN.out]), hB3⟩
        · have HN := Lib.hid (newE_t (p2 := p2) e2)
          go_wp2_with fail
          refine (rlocal_any p2 (by omega) _).mono ?_
          rintro _ w3 ⟨rfl, hb3⟩
          have hB3 := hB2.trans (hb3.mono hB2.size)
          replace q2 := (hb3.cell (p := ⟨w.heap.size, 2, none⟩) hz).trans q2
          replace q3 := (hb3.cell (p := ⟨w.heap.size, 3, none⟩) hz).trans q3
          cases el : localB p2
          · have HL := Lib.hid (locE_f el)
            go_wp2
            go_ret
            exact ⟨ret_int (by rw [HW.out, HN.out, HL.out]), hB3⟩
          · have HL := Lib.hid (locE_t el)
            go_wp2
            go_ret
            exact ⟨ret_int (by rw [HW.out, HN.out, HL.out]), hB3⟩
      · have HW := Lib.hid ((words_1 (p2 := p2) (v2 := v2) (fun e => h2 (HO.out.symm.trans e))).trans HO.out)
        generalize modE (p, v) = e at *
        have h2' : (e == 0) = false := by simp [h2]
        clear h2
        go_wp2
        go_ret
        exact ⟨ret_int HW.out.symm, hB2⟩
    · have HW := Lib.hid (words_0 (p2 := p2) (v2 := v2) ((oldE_t (p := p) e1).trans H1.out))
      cases e2 : v2.toList.isEmpty
      · have e2' : (v2.toList == []) = false := by cases hh : v2.toList <;> simp_all
        have HN := Lib.hid (newE_f (p2 := p2) e2)
        go_wp2_with fail
        refine (rmod_any p2 v2 (by omega) (by omega) _).mono ?_
        rintro _ w3 ⟨rfl, hb3⟩
        have hB3 := hB1.trans (hb3.mono hB1.size)
        go_wp2
        go_ret
        exact ⟨ret_int (by rw [HW.out, HN.out]), hB3⟩
      · have HN := Lib.hid (newE_t (p2 := p2) e2)
        go_wp2_with fail
        refine (rlocal_any p2 (by omega) _).mono ?_
        rintro _ w3 ⟨rfl, hb3⟩
        have hB3 := hB1.trans (hb3.mono hB1.size)
        replace q2 := (hb3.cell (p := ⟨w.heap.size, 2, none⟩) hz).trans q2
        replace q3 := (hb3.cell (p := ⟨w.heap.size, 3, none⟩) hz).trans q3
        cases el : localB p2
        · have HL := Lib.hid (locE_f el)
          go_wp2
          go_ret
          exact ⟨ret_int (by rw [HW.out, HN.out, HL.out]), hB3⟩
        · have HL := Lib.hid (locE_t el)
          go_wp2
          go_ret
          exact ⟨ret_int (by rw [HW.out, HN.out, HL.out]), hB3⟩
  · have HW := Lib.hid ((words_1 (v := v) (p2 := p2) (v2 := v2) (fun e => h1 ((oldE_m h1).symm.trans e))).trans (oldE_m h1))
    generalize moduleN p = e at *
    have h1' : (e == 0) = false := by simp [h1]
    clear h1
    go_wp2
    go_ret
    exact ⟨ret_int HW.out.symm, hB1⟩
end Go.Proofs.YtmdlmjcejeejfaaGreatDoor
