/-
  semver.Compare and Max.
-/
import Derived.Test.YtmdlmjcejeejfaaGreatDoorP7
import Derived.Test.YtmdlmjcejeejfaaGreatDoorP12
import Derived.Deep.RegionHeld3
namespace Go.Proofs.YtmdlmjcejeejfaaGreatDoor
open Go.RowKit Go.Shelf

def parN (e : Int) : Int := if e = 0 then 1 else 0
theorem orI_nought (x : Int) : orI x 0 = x := by unfold orI; split <;> simp_all
set_option maxRecDepth 100000 in
theorem parsed_any (e : Int) (w : World) :
    Calls Tryz.prog 73 #[.int .i64 e] w fun r w' => r = .returned (.int .i64 (parN e)) ∧ w = w' := by
  by_cases h : e = 0
  · have H := Lib.hid (show parN e = 1 from if_pos h)
    have h' : (e == 0) = true := by simp [h]
    clear h
    go_enter Tryz.func73, Tryz.ntmps73
    go_wp2
    go_ret
    exact ⟨ret_int H.out.symm, rfl⟩
  · have H := Lib.hid (show parN e = 0 from if_neg h)
    have h' : (e == 0) = false := by simp [h]
    clear h
    go_enter Tryz.func73, Tryz.ntmps73
    go_wp2
    go_ret
    exact ⟨ret_int H.out.symm, rfl⟩

theorem err_yes {l : List UInt8} (h : okV l = true) : errL l = 0 := by simp [errL, h]
theorem err_no {l : List UInt8} (h : okV l = false) : errL l = 30 := by simp [errL, h]
theorem VerC.of (w : World) (t : TypeId) (v : Ver) : VerC w.heap.size (w.alloc (.cells #[.int .i64 v.ma, .int .i64 v.mi, .int .i64 v.pa, .string v.pre, .string v.mta] t)) v.ma v.mi v.pa v.pre v.mta := by
  refine ⟨⟨?_, ?_⟩, ⟨?_, ?_⟩, ⟨?_, ?_⟩, ⟨?_, ?_⟩, ⟨?_, ?_⟩⟩ <;> first | (unfold World.cell?; dsimp only; rw [World.alloc_heap_new]; rfl) | (unfold World.frozen?; dsimp only; rw [World.alloc_heap_new]; rfl)
theorem pre_size (s : ByteArray) : (verL s.data.toList).pre.size ≤ s.size := by
  unfold verL
  split
  · rw [← size_data, ← size_data, data_mkB]
    exact Nat.le_trans (restL_len _) (headL_len _)
  · exact Nat.zero_le _
theorem four_cells (w : World) (t : TypeId) (x y z u : Int) : ∀ i (h : i < [x, y, z, u].length), (w.alloc (.cells #[.int .i64 x, .int .i64 y, .int .i64 z, .int .i64 u] t)).cell? ⟨w.heap.size, i, none⟩ = some (.int .i64 [x, y, z, u][i]) := by
  intro i h
  match i, h with
  | 0, _ => unfold World.cell?; dsimp only; rw [World.alloc_heap_new]; rfl
  | 1, _ => unfold World.cell?; dsimp only; rw [World.alloc_heap_new]; rfl
  | 2, _ => unfold World.cell?; dsimp only; rw [World.alloc_heap_new]; rfl
  | 3, _ => unfold World.cell?; dsimp only; rw [World.alloc_heap_new]; rfl

set_option maxRecDepth 100000 in
set_option maxHeartbeats 2000000 in
theorem compare_any' (a b : ByteArray) (ha : a.size ≤ 20400) (hb : b.size ≤ 20400) (w : World) :
    Calls Tryz.prog 31 #[.string a, .string b] w fun e w' => e = .returned (.int .i64 (scmp a.data.toList b.data.toList)) ∧ Below w.heap.size w w' := by
  go_enter Tryz.func31, Tryz.ntmps31
  go_wp2_with fail
  refine (parse_any a ha _).mono ?_
  rintro _ w1 ⟨rfl, hb1⟩
  have hp1 := pre_size a
  have HE := Lib.hid (fun h => err_yes (l := a.data.toList) h)
  have HN := Lib.hid (fun h => err_no (l := a.data.toList) h)
  have HS1 := Lib.hid (fun h1 h2 => scmp_both (a := a.data.toList) (b := b.data.toList) h1 h2)
  unfold retP verV
  obtain ⟨v, hv⟩ : ∃ v, v = verL a.data.toList := ⟨_, rfl⟩
  rw [← hv] at hp1 ⊢
  have HV := Lib.hid hv
  clear hv
  have hc1 := VerC.of w1 113 v
  have hB1 := hb1.alloc hb1.size (.cells #[.int .i64 v.ma, .int .i64 v.mi, .int .i64 v.pa, .string v.pre, .string v.mta] 113)
  go_wp2_with fail
  generalize w1.alloc (.cells #[.int .i64 v.ma, .int .i64 v.mi, .int .i64 v.pa, .string v.pre, .string v.mta] 113) = w1' at *
  refine (parse_any b hb _).mono ?_
  rintro _ w2 ⟨rfl, hb2⟩
  have hp2 := pre_size b
  unfold retP verV
  obtain ⟨u, hu⟩ : ∃ v, v = verL b.data.toList := ⟨_, rfl⟩
  rw [← hu] at hp2 ⊢
  have HU := Lib.hid hu
  clear hu
  replace hc1 := hc1.below hb2
  replace hB1 := hB1.trans (hb2.mono hB1.size)
  have hc2 := VerC.of w2 113 u
  replace hc1 := hc1.kept (World.grownBy_alloc w2 (.cells #[.int .i64 u.ma, .int .i64 u.mi, .int .i64 u.pa, .string u.pre, .string u.mta] 113) none) (fun r e => by cases e)
  have hB2 := hB1.alloc hB1.size (.cells #[.int .i64 u.ma, .int .i64 u.mi, .int .i64 u.pa, .string u.pre, .string u.mta] 113)
  cases ea : okV a.data.toList
  · cases eb : okV b.data.toList
    · have H := Lib.hid (scmp_none ea eb)
      rw [err_no ea, err_no eb]
      go_wp2_with (first | (go_at_call 73; refine (parsed_any _ _).mono ?_; rintro e w' ⟨rfl, rfl⟩) | (go_at_call 72; refine (ccmp_any _ _ _).mono ?_; rintro e w' ⟨rfl, rfl⟩))
      go_ret
      exact ⟨ret_int (by rw [H.out]; rfl), hB2⟩
    · have H := Lib.hid (scmp_left ea eb)
      rw [err_no ea, err_yes eb]
      go_wp2_with (first | (go_at_call 73; refine (parsed_any _ _).mono ?_; rintro e w' ⟨rfl, rfl⟩) | (go_at_call 72; refine (ccmp_any _ _ _).mono ?_; rintro e w' ⟨rfl, rfl⟩))
      go_ret
      exact ⟨ret_int (by rw [H.out]; rfl), hB2⟩
  · cases eb : okV b.data.toList
    · have H := Lib.hid (scmp_right ea eb)
      rw [err_yes ea, err_no eb]
      go_wp2_with (first | (go_at_call 73; refine (parsed_any _ _).mono ?_; rintro e w' ⟨rfl, rfl⟩) | (go_at_call 72; refine (ccmp_any _ _ _).mono ?_; rintro e w' ⟨rfl, rfl⟩))
      go_ret
      exact ⟨ret_int (by rw [H.out]; rfl), hB2⟩
    · have H := Lib.hid (show scmp a.data.toList b.data.toList = orL [icmp v.ma u.ma, icmp v.mi u.mi, icmp v.pa u.pa, pcmp v.pre.data.toList u.pre.data.toList] by
        rw [scmp_both ea eb, ← HV.out, ← HU.out, vcmp]
        simp only [orL, orI_nought])
      rw [err_yes ea, err_yes eb]
      go_wp2
      generalize w2.alloc (.cells #[.int .i64 u.ma, .int .i64 u.mi, .int .i64 u.pa, .string u.pre, .string u.mta] 113) = w3 at *
      have hz1 := World.block_lt_of_cell? _ _ hc1.c0.cell
      have hz2 := World.block_lt_of_cell? _ _ hc2.c0.cell
      have q0 := hc1.c0.cell
      have q1 := hc1.c1.cell
      have q2 := hc1.c2.cell
      have q3 := hc1.c3.cell
      have r0 := hc2.c0.cell
      have r1 := hc2.c1.cell
      have r2 := hc2.c2.cell
      have r3 := hc2.c3.cell
      dsimp only at hz1 hz2
      clear HE HN HS1 hc1 hc2 hb1 hb2 hB1
      go_region_held3 (fun w' => w'.cell? ⟨w1.heap.size, 0, none⟩ = some (.int .i64 v.ma) ∧ w'.cell? ⟨w1.heap.size, 1, none⟩ = some (.int .i64 v.mi) ∧ w'.cell? ⟨w1.heap.size, 2, none⟩ = some (.int .i64 v.pa) ∧ w'.cell? ⟨w1.heap.size, 3, none⟩ = some (.string v.pre) ∧ w'.cell? ⟨w2.heap.size, 0, none⟩ = some (.int .i64 u.ma) ∧ w'.cell? ⟨w2.heap.size, 1, none⟩ = some (.int .i64 u.mi) ∧ w'.cell? ⟨w2.heap.size, 2, none⟩ = some (.int .i64 u.pa) ∧ w'.cell? ⟨w2.heap.size, 3, none⟩ = some (.string u.pre))
        (first | go_keep | (go_split_ands; refine ⟨?_, ?_, ?_, ?_, ?_, ?_, ?_, ?_⟩ <;> (rw [hb4.cell (by simp; omega)]; assumption)))
        (first
          | (go_at_call 72; refine (ccmp_any _ _ _).mono ?_; rintro e w' ⟨rfl, rfl⟩)
          | (go_at_call 74; refine (cpre_any _ _ (by omega) (by omega) _).mono ?_; rintro e w4 ⟨rfl, hb4⟩)
          | (go_at_call 30; refine (cor_any _ _ [icmp v.ma u.ma, icmp v.mi u.mi, icmp v.pa u.pa, pcmp v.pre.data.toList u.pre.data.toList] (by simp) _ (four_cells _ _ _ _ _ _)).mono ?_; rintro e w' ⟨rfl, rfl⟩))
      rename_i hheld
      clear hheld
      have hB4 := hB2.drew.trans (hb4.mono hB2.size)
      go_wp2
      go_ret
      exact ⟨ret_int H.out.symm, hB4.alloc hB4.size _⟩

theorem max_1 {a b : ByteArray} (h : scmp a.data.toList b.data.toList < 0) : maxS a b = b := by simp [maxS, h]
theorem max_2 {a b : ByteArray} (h : ¬ scmp a.data.toList b.data.toList < 0) : maxS a b = a := by simp [maxS, h]

set_option maxRecDepth 100000 in
set_option maxHeartbeats 800000 in
theorem max_any (a b : ByteArray) (ha : a.size ≤ 20400) (hb : b.size ≤ 20400) (w : World) :
    Calls Tryz.prog 35 #[.string a, .string b] w fun e w' => e = .returned (.string (maxS a b)) ∧ Below w.heap.size w w' := by
  go_enter Tryz.func35, Tryz.ntmps35
  go_wp2_with fail
  refine (compare_any' a b ha hb _).mono ?_
  rintro _ w1 ⟨rfl, hb1⟩
  by_cases h : scmp a.data.toList b.data.toList < 0
  · have H := Lib.hid (max_1 h)
    go_wp2
    go_ret
    exact ⟨ret_string H.out.symm, hb1⟩
  · have H := Lib.hid (max_2 h)
    go_wp2
    go_ret
    exact ⟨ret_string H.out.symm, hb1⟩
end Go.Proofs.YtmdlmjcejeejfaaGreatDoor
