/-
  The modules' names, their order, and whether they are known: the program's.
-/
import Derived.Test.YtcbpkbemnaondaaGreatDoorX0
import Derived.Test.YtcbpkbemnaondaaGreatDoorRec
import Derived.Deep.RegionHeld3
namespace Go.Proofs.YtcbpkbemnaondaaGreatDoor
open Go.RowKit Go.Shelf

set_option maxRecDepth 100000 in
set_option maxHeartbeats 800000 in
theorem first_any (g cap : Nat) (zs : List Int) (hz : zs.length ≤ 1000) (w : World) (hc : ∀ i (h : i < zs.length), w.cell? ⟨g, i, none⟩ = some (.int .i64 zs[i])) :
    Calls Tryz.prog 48 #[.slice (some ⟨g, 0, none⟩) zs.length cap] w fun e w' => e = .returned (.int .i64 (orL zs)) ∧ w = w' := by
  have HC := Lib.hid hc
  clear hc
  go_enter Tryz.func48, Tryz.ntmps48
  go_wp2
  go_loop [8] (fun i => ∃ k : Nat, k ≤ zs.length ∧ i = .int .i64 k ∧ OrAt zs k) (fun i => zs.length - (intOf i).toNat)
  case atStart => exact ⟨0, Nat.zero_le _, rfl, rfl⟩
  case round =>
    obtain ⟨k, hk, rfl, ht⟩ := hrel
    have HT := Lib.hid ht
    clear ht
    by_cases hlt : k < zs.length
    · have q := HC.out k hlt
      cases e : (zs[k] == 0)
      · have H := Lib.hid (HT.out.stop hlt (ne_of_beq_false e))
        generalize zs[k] = z at *
        have e' : (z != 0) = true := by rw [bne, e]; rfl
        go_wp2
        go_ret
        exact ⟨ret_int H.out.symm, rfl⟩
      · have H := Lib.hid (HT.out.on hlt (eq_of_beq e))
        generalize zs[k] = z at *
        have e' : (z != 0) = false := by rw [bne, e]; rfl
        go_wp2
        go_round
        case rel => exact ⟨k + 1, by omega, by go_num, H.out⟩
        case measure => simp [intOf]; omega
    · have H := Lib.hid (HT.out.done (by omega))
      go_wp2
      go_ret
      exact ⟨ret_int H.out.symm, rfl⟩

set_option maxRecDepth 100000 in
theorem unless_any (b : Bool) (e : Int) (w : World) :
    Calls Tryz.prog 46 #[.bool b, .int .i64 e] w fun r w' => r = .returned (.int .i64 (unl b e)) ∧ w = w' := by
  cases b
  all_goals
    go_enter Tryz.func46, Tryz.ntmps46
    go_wp2
    go_ret
    exact ⟨rfl, rfl⟩

theorem ret_str {a b : ByteArray} (h : a = b) : Ending.returned (.string a) = Ending.returned (.string b) := by rw [h]

set_option maxRecDepth 100000 in
set_option maxHeartbeats 800000 in
theorem at_any (p v : ByteArray) (hp : p.size ≤ 20400) (hv : v.size ≤ 20400) (w : World) :
    Calls Tryz.prog 24 #[.agg #[.string p, .string v]] w fun e w' => e = .returned (.string (atB (p, v))) ∧ Below w.heap.size w w' := by
  have hb0 := (Below.refl w.heap.size w).alloc (Nat.le_refl _) (.cells #[.string p, .string v] 24)
  have c0 : (w.alloc (.cells #[.string p, .string v] 24)).cell? ⟨w.heap.size, 0, none⟩ = some (.string p) := by rw [cell_newR]; rfl
  have c1 : (w.alloc (.cells #[.string p, .string v] 24)).cell? ⟨w.heap.size, 1, none⟩ = some (.string v) := by rw [cell_newR]; rfl
  cases h : v.toList.isEmpty
  · have H := Lib.hid (atB_2 (p := p) h)
    have h' : (v.toList != []) = true := by cases hs : v.toList <;> simp_all
    go_enter Tryz.func24, Tryz.ntmps24
    go_wp2
    go_ret
    exact ⟨ret_str H.out.symm, hb0⟩
  · have H := Lib.hid (atB_1 (p := p) h)
    go_enter Tryz.func24, Tryz.ntmps24
    go_wp2
    go_ret
    exact ⟨ret_str H.out.symm, hb0⟩

set_option maxRecDepth 100000 in
set_option maxHeartbeats 800000 in
theorem rat_any (p v : ByteArray) (hp : p.size ≤ 20400) (hv : v.size ≤ 20400) (w : World) :
    Calls Tryz.prog 31 #[.agg #[.string p, .string v]] w fun e w' => e = .returned (.string (atB (p, v))) ∧ Below w.heap.size w w' := by
  have hb0 := (Below.refl w.heap.size w).alloc (Nat.le_refl _) (.cells #[.string p, .string v] 24)
  have c0 : (w.alloc (.cells #[.string p, .string v] 24)).cell? ⟨w.heap.size, 0, none⟩ = some (.string p) := by rw [cell_newR]; rfl
  have c1 : (w.alloc (.cells #[.string p, .string v] 24)).cell? ⟨w.heap.size, 1, none⟩ = some (.string v) := by rw [cell_newR]; rfl
  cases h : v.toList.isEmpty
  · have H := Lib.hid (atB_2 (p := p) h)
    have h' : (v.toList != []) = true := by cases hs : v.toList <;> simp_all
    go_enter Tryz.func31, Tryz.ntmps31
    go_wp2
    go_ret
    exact ⟨ret_str H.out.symm, hb0⟩
  · have H := Lib.hid (atB_1 (p := p) h)
    go_enter Tryz.func31, Tryz.ntmps31
    go_wp2
    go_ret
    exact ⟨ret_str H.out.symm, hb0⟩

theorem ints_cells (w : World) (t : TypeId) (xs : List Int) (vs : Array Value) (hv : vs = (xs.map (Value.int .i64)).toArray) : ∀ i (h : i < xs.length), (w.alloc (.cells vs t)).cell? ⟨w.heap.size, i, none⟩ = some (.int .i64 xs[i]) := by
  intro i h
  rw [cell_newR, hv]
  simp [h]

set_option maxRecDepth 100000 in
set_option maxHeartbeats 800000 in
theorem orderV_any (a b : ByteArray) (ha : a.size ≤ 20400) (hb : b.size ≤ 20400) (w : World) :
    Calls Tryz.prog 38 #[.string a, .string b] w fun e w' => e = .returned (.int .i64 (verCmp a b)) ∧ Below w.heap.size w w' := by
  go_enter Tryz.func38, Tryz.ntmps38
  go_wp2_with fail
  refine (compare_any' a b ha hb _).mono ?_
  rintro _ w1 ⟨rfl, hb1⟩
  go_wp2_with fail
  refine (scmpt_any a b _).mono ?_
  rintro _ w2 ⟨rfl, rfl⟩
  go_wp2_with fail
  refine (cor_any _ _ [scmp a.data.toList b.data.toList, tcmp a.data.toList b.data.toList] (by simp) _ (ints_cells _ _ _ _ (by rfl))).mono ?_
  rintro _ w3 ⟨rfl, rfl⟩
  go_wp2
  go_ret
  exact ⟨ret_int (by rw [orL_two]; rfl), hb1.alloc hb1.size _⟩

/-- Two modules, in memory. -/
theorem two_mods (w : World) (p v q u : ByteArray) :
    let W := (w.alloc (.cells #[.string p, .string v] 24)).alloc (.cells #[.string q, .string u] 24)
    Below w.heap.size w W ∧ w.heap.size + 1 < W.heap.size ∧ W.cell? ⟨w.heap.size, 0, none⟩ = some (.string p) ∧ W.cell? ⟨w.heap.size, 1, none⟩ = some (.string v) ∧ W.cell? ⟨w.heap.size + 1, 0, none⟩ = some (.string q) ∧ W.cell? ⟨w.heap.size + 1, 1, none⟩ = some (.string u) := by
  intro W
  have h1 := (Below.refl w.heap.size w).alloc (Nat.le_refl _) (.cells #[.string p, .string v] 24)
  have hs : (w.alloc (.cells #[.string p, .string v] 24)).heap.size = w.heap.size + 1 := by simp
  have h2 := (Below.refl (w.alloc (.cells #[.string p, .string v] 24)).heap.size (w.alloc (.cells #[.string p, .string v] 24))).alloc (Nat.le_refl _) (.cells #[.string q, .string u] 24)
  refine ⟨h1.alloc h1.size _, by simp [W], ?_, ?_, ?_, ?_⟩
  · rw [h2.cell (p := ⟨w.heap.size, 0, none⟩) (by simp), cell_newR]; rfl
  · rw [h2.cell (p := ⟨w.heap.size, 1, none⟩) (by simp), cell_newR]; rfl
  · have := cell_newR (w.alloc (.cells #[.string p, .string v] 24)) #[.string q, .string u] 24 0
    rw [hs] at this
    exact this
  · have := cell_newR (w.alloc (.cells #[.string p, .string v] 24)) #[.string q, .string u] 24 1
    rw [hs] at this
    exact this

set_option maxRecDepth 100000 in
set_option maxHeartbeats 2000000 in
theorem order_any (p v q u : ByteArray) (hp : p.size ≤ 20400) (hv : v.size ≤ 20400) (hq : q.size ≤ 20400) (hu : u.size ≤ 20400) (w : World) :
    Calls Tryz.prog 34 #[.agg #[.string p, .string v], .agg #[.string q, .string u]] w fun e w' => e = .returned (.int .i64 (modCmp (p, v) (q, u))) ∧ Below w.heap.size w w' := by
  obtain ⟨hb0, hz, c0, c1, c2, c3⟩ := two_mods w p v q u
  have HQ := Lib.hid (show orI (compareN p q) (verCmp v u) = modCmp (p, v) (q, u) from rfl)
  go_enter Tryz.func34, Tryz.ntmps34
  go_wp2
  generalize (w.alloc (.cells #[.string p, .string v] 24)).alloc (.cells #[.string q, .string u] 24) = W at *
  go_region_held3 (fun w' => w'.cell? ⟨w.heap.size, 0, none⟩ = some (.string p) ∧ w'.cell? ⟨w.heap.size, 1, none⟩ = some (.string v) ∧ w'.cell? ⟨w.heap.size + 1, 0, none⟩ = some (.string q) ∧ w'.cell? ⟨w.heap.size + 1, 1, none⟩ = some (.string u))
    (first
      | go_keep
      | (go_split_ands; refine ⟨?_, ?_, ?_, ?_⟩ <;> (rw [hb5.cell (Nat.lt_of_le_of_lt (by first | exact Nat.le_succ _ | exact Nat.le_refl _) hs4)]; assumption))
      | (go_split_ands; refine ⟨?_, ?_, ?_, ?_⟩ <;> (rw [hb4.cell (Nat.lt_of_le_of_lt (by first | exact Nat.le_succ _ | exact Nat.le_refl _) hz)]; assumption)))
    (first
      | (go_at_call 63; refine (compare_any _ _ hp hq _).mono ?_; rintro e w4 ⟨rfl, hb4⟩; have hs4 := Nat.lt_of_lt_of_le hz hb4.size)
      | (go_at_call 38; refine (orderV_any _ _ hv hu _).mono ?_; rintro e w5 ⟨rfl, hb5⟩; have hs5 := Nat.lt_of_lt_of_le hs4 hb5.size)
      | (go_at_call 62; refine (cor_any _ _ [compareN p q, verCmp v u] (by simp) _ (ints_cells _ _ _ _ (by rfl))).mono ?_; rw [orL_two]; rintro e w' ⟨rfl, rfl⟩))
  rename_i hheld
  clear hheld
  have hB4 := hb0.drew.trans (hb4.mono hb0.size)
  have hB5 := hB4.trans (hb5.mono hB4.size)
  go_wp2
  go_ret
  exact ⟨ret_int HQ.out, hB5.alloc hB5.size _⟩

set_option maxRecDepth 100000 in
set_option maxHeartbeats 2000000 in
theorem known_any (p v : ByteArray) (hp : p.size ≤ 20400) (hv : v.size ≤ 20400) (w : World) :
    Calls Tryz.prog 25 #[.agg #[.string p, .string v]] w fun e w' => e = .returned (.int .i64 (knownN (p, v))) ∧ Below w.heap.size w w' := by
  have hb0 := (Below.refl w.heap.size w).alloc (Nat.le_refl _) (.cells #[.string p, .string v] 24)
  have c0 : (w.alloc (.cells #[.string p, .string v] 24)).cell? ⟨w.heap.size, 0, none⟩ = some (.string p) := by rw [cell_newR]; rfl
  have c1 : (w.alloc (.cells #[.string p, .string v] 24)).cell? ⟨w.heap.size, 1, none⟩ = some (.string v) := by rw [cell_newR]; rfl
  have hz : w.heap.size < (w.alloc (.cells #[.string p, .string v] 24)).heap.size := by simp
  cases h : v.toList.isEmpty
  · have HQ := Lib.hid (known_2 (p := p) h)
    have h' : (v.toList != []) = true := by cases hs : v.toList <;> simp_all
    go_enter Tryz.func25, Tryz.ntmps25
    go_wp2
    clear h h'
    generalize hq : ((canonS v).toList == v.toList) = q at *
    generalize w.alloc (.cells #[.string p, .string v] 24) = W at *
    go_region_held3 (fun w' => w'.cell? ⟨w.heap.size, 0, none⟩ = some (.string p) ∧ w'.cell? ⟨w.heap.size, 1, none⟩ = some (.string v))
      (first
        | go_keep
        | (go_split_ands; refine ⟨?_, ?_⟩ <;> (rw [hb6.cell hs5]; assumption))
        | (go_split_ands; refine ⟨?_, ?_⟩ <;> (rw [hb5.cell hs4]; assumption))
        | (go_split_ands; refine ⟨?_, ?_⟩ <;> (rw [hb4.cell hz]; assumption)))
      (first
        | (go_at_call 49; refine (module_any _ (by omega) _).mono ?_; rintro e w4 ⟨rfl, hb4⟩; have hs4 := Nat.lt_of_lt_of_le hz hb4.size)
        | (go_at_call 50; refine (canon_any _ (by omega) _).mono ?_; rintro e w5 ⟨rfl, hb5⟩; have hs5 := Nat.lt_of_lt_of_le hs4 hb5.size)
        | (go_at_call 46; refine (unless_any _ _ _).mono ?_; rintro e w' ⟨rfl, rfl⟩)
        | (go_at_call 51; refine (fits_any _ _ (by omega) (by omega) _).mono ?_; rintro e w6 ⟨rfl, hb6⟩; have hs6 := Nat.lt_of_lt_of_le hs5 hb6.size)
        | (go_at_call 48; refine (first_any _ _ [moduleN p, unl q 30, fitN p v.data.toList] (by simp) _ (ints_cells _ _ _ _ (by rfl))).mono ?_; rintro e w' ⟨rfl, rfl⟩))
    rename_i hheld
    clear hheld
    have hB4 := hb0.drew.trans (hb4.mono hb0.size)
    have hB5 := hB4.trans (hb5.mono hB4.size)
    have hB6 := hB5.trans (hb6.mono hB5.size)
    go_wp2
    go_ret
    exact ⟨ret_int HQ.out.symm, hB6.alloc hB6.size _⟩
  · have HQ := Lib.hid (known_1 (p := p) h)
    go_enter Tryz.func25, Tryz.ntmps25
    go_wp2_with fail
    refine (local_any p hp _).mono ?_
    rintro _ w1 ⟨rfl, hb1⟩
    go_wp2_with fail
    refine (unless_any _ _ _).mono ?_
    rintro _ w2 ⟨rfl, rfl⟩
    go_wp2
    go_ret
    exact ⟨ret_int HQ.out.symm, hb0.trans (hb1.mono hb0.size)⟩
end Go.Proofs.YtcbpkbemnaondaaGreatDoor
