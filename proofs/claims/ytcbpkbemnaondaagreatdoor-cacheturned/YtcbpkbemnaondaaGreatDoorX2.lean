/-
  The modules' order, and whether they are known: the document's; that a module is known.
-/
import Derived.Test.YtcbpkbemnaondaaGreatDoorX1
import Derived.Deep.RegionHeld3
namespace Go.Proofs.YtcbpkbemnaondaaGreatDoor
open Go.RowKit Go.Shelf

set_option maxRecDepth 100000 in
set_option maxHeartbeats 2000000 in
theorem rknown_any (p v : ByteArray) (hp : p.size ≤ 20400) (hv : v.size ≤ 20400) (w : World) :
    Calls Tryz.prog 29 #[.agg #[.string p, .string v]] w fun e w' => e = .returned (.int .i64 (knownN (p, v))) ∧ Below w.heap.size w w' := by
  have hb0 := (Below.refl w.heap.size w).alloc (Nat.le_refl _) (.cells #[.string p, .string v] 24)
  have c0 : (w.alloc (.cells #[.string p, .string v] 24)).cell? ⟨w.heap.size, 0, none⟩ = some (.string p) := by rw [cell_newR]; rfl
  have c1 : (w.alloc (.cells #[.string p, .string v] 24)).cell? ⟨w.heap.size, 1, none⟩ = some (.string v) := by rw [cell_newR]; rfl
  have hz : w.heap.size < (w.alloc (.cells #[.string p, .string v] 24)).heap.size := by simp
  cases h : v.toList.isEmpty
  · have HQ := Lib.hid (known_2 (p := p) h)
    have h' : (v.toList != []) = true := by cases hs : v.toList <;> simp_all
    go_enter Tryz.func29, Tryz.ntmps29
    go_wp2_with fail
    refine (rmodule_any p (by omega) _).mono ?_
    rintro _ w1 ⟨rfl, hb1⟩
    have q0 := (hb1.cell (p := ⟨w.heap.size, 0, none⟩) hz).trans c0
    have q1 := (hb1.cell (p := ⟨w.heap.size, 1, none⟩) hz).trans c1
    have hB1 := hb0.trans (hb1.mono hb0.size)
    replace hz := Nat.lt_of_lt_of_le hz hb1.size
    clear c0 c1 hb0 hb1 h h'
    generalize moduleN p = e1 at *
    by_cases h1 : e1 = 0
    · subst h1
      cases hq : ((canonS v).toList == v.toList)
      · have HK := Lib.hid (show knownN (p, v) = 30 by rw [HQ.out, hq]; exact or3_2 rfl (by decide))
        clear HQ
        have hq' : ((canonS v).toList != v.toList) = true := by rw [bne, hq]; rfl
        go_wp2
        go_region_held3 (fun w' => w'.cell? ⟨w.heap.size, 0, none⟩ = some (.string p) ∧ w'.cell? ⟨w.heap.size, 1, none⟩ = some (.string v))
          (first
            | go_keep
            | (go_split_ands; refine ⟨?_, ?_⟩ <;> (rw [hb4.cell hz]; assumption)))
          (first
            | (go_at_call 56; refine (rcanon_any _ (by omega) _).mono ?_; rintro e w4 ⟨rfl, hb4⟩))
        rename_i hheld
        clear hheld
        have hB2 := hB1.drew.trans (hb4.mono hB1.size)
        go_wp2
        go_ret
        exact ⟨ret_int HK.out.symm, hB2⟩
      · have HK := Lib.hid (show knownN (p, v) = fitN p v.data.toList by rw [HQ.out, hq]; exact or3_3 rfl rfl)
        clear HQ
        have hq' : ((canonS v).toList != v.toList) = false := by rw [bne, hq]; rfl
        go_wp2
        go_region_held3 (fun w' => w'.cell? ⟨w.heap.size, 0, none⟩ = some (.string p) ∧ w'.cell? ⟨w.heap.size, 1, none⟩ = some (.string v))
          (first
            | go_keep
            | (go_split_ands; refine ⟨?_, ?_⟩ <;> (rw [hb4.cell hz]; assumption)))
          (first
            | (go_at_call 56; refine (rcanon_any _ (by omega) _).mono ?_; rintro e w4 ⟨rfl, hb4⟩))
        rename_i hheld
        have hB2 := hB1.drew.trans (hb4.mono hB1.size)
        obtain ⟨k0, k1⟩ := hheld
        go_wp2_with fail
        refine (rfits_any p v (by omega) (by omega) _).mono ?_
        rintro _ w5 ⟨rfl, hb5⟩
        go_wp2
        go_ret
        exact ⟨ret_int HK.out.symm, hB2.trans (hb5.mono hB2.size)⟩
    · have HK := Lib.hid (show knownN (p, v) = e1 by rw [HQ.out]; exact or3_1 h1)
      clear HQ
      have h1' : (e1 == 0) = false := by simp [h1]
      clear h1
      go_wp2
      go_region
      go_wp2
      go_ret
      exact ⟨ret_int HK.out.symm, hB1.drew⟩
  · have HQ := Lib.hid (known_1 (p := p) h)
    go_enter Tryz.func29, Tryz.ntmps29
    go_wp2_with fail
    refine (rlocal_any p hp _).mono ?_
    rintro _ w1 ⟨rfl, hb1⟩
    have hB1 := hb0.trans (hb1.mono hb0.size)
    cases hl : localB p
    all_goals
      have HK := Lib.hid (HQ.out.trans (by rw [hl]))
      go_wp2
      go_ret
      exact ⟨ret_int HK.out.symm, hB1⟩

theorem modC_1 {p v q u : ByteArray} (h : ¬ compareN p q = 0) : modCmp (p, v) (q, u) = compareN p q := by simp [modCmp, orI, h]
theorem modC_2 {p v q u : ByteArray} (h : compareN p q = 0) (k : ¬ scmp v.data.toList u.data.toList = 0) : modCmp (p, v) (q, u) = scmp v.data.toList u.data.toList := by simp [modCmp, verCmp, orI, h, k]
theorem modC_3 {p v q u : ByteArray} (h : compareN p q = 0) (k : scmp v.data.toList u.data.toList = 0) : modCmp (p, v) (q, u) = tcmp v.data.toList u.data.toList := by simp [modCmp, verCmp, orI, h, k]

set_option maxRecDepth 100000 in
set_option maxHeartbeats 2000000 in
theorem rorderM_any (p v q u : ByteArray) (hp : p.size ≤ 20400) (hv : v.size ≤ 20400) (hq : q.size ≤ 20400) (hu : u.size ≤ 20400) (w : World) :
    Calls Tryz.prog 35 #[.agg #[.string p, .string v], .agg #[.string q, .string u]] w fun e w' => e = .returned (.int .i64 (modCmp (p, v) (q, u))) ∧ Below w.heap.size w w' := by
  obtain ⟨hb0, hz, c0, c1, c2, c3⟩ := two_mods w p v q u
  have T0 := Lib.hid (@modC_1 p v q u)
  have T1 := Lib.hid (@modC_2 p v q u)
  have T2 := Lib.hid (@modC_3 p v q u)
  go_enter Tryz.func35, Tryz.ntmps35
  go_wp2_with fail
  refine (prcompare_any p q hp hq _).mono ?_
  rintro _ w1 ⟨rfl, hb1⟩
  have d1 := (hb1.cell (p := ⟨w.heap.size, 1, none⟩) (by show w.heap.size < _; omega)).trans c1
  have d3 := (hb1.cell (p := ⟨w.heap.size + 1, 1, none⟩) hz).trans c3
  have hB1 := hb0.trans (hb1.mono hb0.size)
  replace hz := Nat.lt_of_lt_of_le hz hb1.size
  clear c0 c1 c2 c3 hb0 hb1
  generalize compareN p q = x at *
  by_cases h : x = 0
  · subst h
    go_wp2_with fail
    refine (rcompare_any v u hv hu _).mono ?_
    rintro _ w2 ⟨rfl, hb2⟩
    replace d1 := (hb2.cell (p := ⟨w.heap.size, 1, none⟩) (by show w.heap.size < _; omega)).trans d1
    replace d3 := (hb2.cell (p := ⟨w.heap.size + 1, 1, none⟩) hz).trans d3
    have hB2 := hB1.trans (hb2.mono hB1.size)
    clear hb2
    generalize hy : scmp v.data.toList u.data.toList = y at *
    by_cases k : y = 0
    · subst k
      have HK := Lib.hid (T2.out trivial rfl)
      clear T0 T1 T2
      cases e : (v.toList == u.toList)
      · cases l : Op.bytesLess v.toList u.toList
        · have HL := Lib.hid (HK.out.trans (tcmp_3 l e))
          clear HK
          go_wp2
          go_ret
          exact ⟨ret_int HL.out.symm, hB2⟩
        · have HL := Lib.hid (HK.out.trans (tcmp_1 l))
          clear HK
          go_wp2
          go_ret
          exact ⟨ret_int HL.out.symm, hB2⟩
      · have HL := Lib.hid (HK.out.trans (tcmp_2 e))
        clear HK
        go_wp2
        go_ret
        exact ⟨ret_int HL.out.symm, hB2⟩
    · have HK := Lib.hid (T1.out trivial k)
      have k' : (y != 0) = true := by simp [k]
      clear T0 T1 T2 k
      go_wp2
      go_ret
      exact ⟨ret_int HK.out.symm, hB2⟩
  · have HK := Lib.hid (T0.out h)
    have h' : (x != 0) = true := by simp [h]
    have h2 : (x == 0) = false := by simp [h]
    clear T0 T1 T2 h
    go_wp2
    go_ret
    exact ⟨ret_int HK.out.symm, hB1⟩

theorem ex_at : atB (⟨#[97]⟩, ⟨#[98]⟩) = ⟨#[97, 64, 98]⟩ := by rw [atB_2 (by decide +kernel)]; decide +kernel
theorem ex_known : knownN (⟨#[97]⟩, ⟨#[]⟩) = 10 := by rw [known_1 (by decide +kernel), loc_0 (by decide +kernel)]; rfl
set_option maxRecDepth 100000 in
theorem shown_any (w : World) : Calls Tryz.prog 7 #[] w fun e w' => e = .returned (.bool true) ∧ Below w.heap.size w w' := by
  have E1 := Lib.hid ex_at
  have E2 := Lib.hid ex_known
  go_enter Tryz.func7, Tryz.ntmps7
  go_wp2_with fail
  refine (at_any _ _ (by decide) (by decide) _).mono ?_
  rw [E1.out]
  rintro _ w1 ⟨rfl, hb1⟩
  go_wp2_with fail
  refine (known_any _ _ (by decide) (by decide) _).mono ?_
  rw [E2.out]
  rintro _ w2 ⟨rfl, hb2⟩
  go_wp2
  go_ret
  exact ⟨rfl, hb1.trans (hb2.mono hb1.size)⟩
end Go.Proofs.YtcbpkbemnaondaaGreatDoor
