/-
  semver.Parse: the parts of a version.
-/
import Derived.Test.YtmdlmjcejeejfaaGreatDoorP4
namespace Go.Proofs.YtmdlmjcejeejfaaGreatDoor
open Go.RowKit Go.Shelf

theorem pref_yes {s : ByteArray} (h : prefB s ⟨#[118]⟩ = true) : s.data.toList = 118 :: (s.extract 1 s.size).data.toList := by
  unfold prefB at h
  rw [Bool.and_eq_true, beq_iff_eq, decide_eq_true_eq, Lib.toList_data, Lib.toList_data] at h
  obtain ⟨h1, h2⟩ := h
  rw [show (⟨#[118]⟩ : ByteArray).size = 1 from rfl, extract_front, show (⟨#[118]⟩ : ByteArray).data.toList = [118] from rfl] at h2
  rw [extract_tail]
  cases hl : s.data.toList with
  | nil => rw [hl] at h2; simp at h2
  | cons c r => rw [hl] at h2; simp at h2; simp [h2]
theorem pref_no {s : ByteArray} (h : prefB s ⟨#[118]⟩ = false) (r : List UInt8) : s.data.toList ≠ 118 :: r := by
  intro e
  have hz : 1 ≤ s.size := by rw [← size_data, e]; simp
  have : prefB s ⟨#[118]⟩ = true := by
    unfold prefB
    rw [Bool.and_eq_true, beq_iff_eq, decide_eq_true_eq, Lib.toList_data, Lib.toList_data]
    refine ⟨hz, ?_⟩
    rw [show (⟨#[118]⟩ : ByteArray).size = 1 from rfl, extract_front, e]; rfl
  rw [this] at h; cases h
theorem numsIn_no {s : ByteArray} (h : prefB s ⟨#[118]⟩ = false) : numsOk s.data.toList = false := by
  have : numsIn s.data.toList = [] := by
    cases hl : s.data.toList with
    | nil => rfl
    | cons c r =>
      have hc : c ≠ 118 := fun e => pref_no h r (by rw [hl, e])
      simp [numsIn, hc]
  simp [numsOk, this]
theorem numsIn_yes {s : ByteArray} (h : prefB s ⟨#[118]⟩ = true) : numsIn s.data.toList = sp 46 (s.extract 1 s.size).data.toList := by
  conv => lhs; rw [pref_yes h]
  simp [numsIn]
theorem map_getD (L : List (List UInt8)) (h : ∀ x ∈ L, numOk x = true) (k : Nat) : (L.map numI).getD k 0 = (numV (L.getD k []) : Int) := by
  induction L generalizing k with
  | nil => simp [numV]
  | cons x L ih =>
    cases k with
    | zero => simp [numI, h x (by simp)]
    | succ k => simpa using ih (fun y hy => h y (by simp [hy])) k
theorem xv_ids (r : ByteArray) (hr : r.size ≤ 20400) (k : Nat) : xv (idsS r hr) k = ((sp 46 r.data.toList).map numI).getD k 0 := by
  unfold xv
  have : (idsS r hr).map (fun y => numI y.1.data.toList) = (sp 46 r.data.toList).map numI := by
    have e : (idsS r hr).map (fun y => numI y.1.data.toList) = ((idsS r hr).map (·.1)).map (fun b => numI b.data.toList) := by rw [List.map_map]; rfl
    rw [e, idsS_map, partsD, List.map_map]; rfl
  rw [this]
theorem ids_all {r : ByteArray} {hr : r.size ≤ 20400} (h : ∀ y ∈ idsS r hr, numOk y.1.data.toList = true) : ∀ x ∈ sp 46 r.data.toList, numOk x = true := by
  intro x hx
  have : mkB x ∈ (idsS r hr).map (·.1) := by rw [idsS_map]; exact List.mem_map.2 ⟨x, hx, rfl⟩
  obtain ⟨y, hy, e⟩ := List.mem_map.1 this
  have := h y hy
  rwa [e, data_mkB] at this
theorem ids_some {r : ByteArray} {hr : r.size ≤ 20400} {y : Str} (hy : y ∈ idsS r hr) (h : numOk y.1.data.toList = false) : ((sp 46 r.data.toList).all numOk) = false := by
  have : y.1 ∈ (idsS r hr).map (·.1) := List.mem_map.2 ⟨y, hy, rfl⟩
  rw [idsS_map] at this
  obtain ⟨x, hx, e⟩ := List.mem_map.1 this
  rw [List.all_eq_false]
  refine ⟨x, hx, ?_⟩
  rw [← e, data_mkB] at h
  simp [h]

def numsV (l : List UInt8) (k : Nat) : Int := if numsOk l then (nth l k : Int) else 0
theorem ret_nums {l : List UInt8} {x0 x1 x2 : Int} {b : Bool} (h : numsOk l = b) (h0 : x0 = if b then (nth l 0 : Int) else 0) (h1 : x1 = if b then (nth l 1 : Int) else 0) (h2 : x2 = if b then (nth l 2 : Int) else 0) :
    Ending.returned (.tuple #[.agg #[.int .i64 x0, .int .i64 x1, .int .i64 x2], .bool b]) = .returned (.tuple #[.agg #[.int .i64 (numsV l 0), .int .i64 (numsV l 1), .int .i64 (numsV l 2)], .bool (numsOk l)]) := by
  rw [h0, h1, h2, numsV, numsV, numsV, h]

set_option maxRecDepth 100000 in
set_option maxHeartbeats 2000000 in
theorem numbers_any (s : ByteArray) (hs : s.size ≤ 20400) (w : World) :
    Calls Tryz.prog 117 #[.string s] w fun e w' => e = .returned (.tuple #[.agg #[.int .i64 (numsV s.data.toList 0), .int .i64 (numsV s.data.toList 1), .int .i64 (numsV s.data.toList 2)], .bool (numsOk s.data.toList)]) ∧ Below w.heap.size w w' := by
  cases hP : prefB s ⟨#[118]⟩
  · have H := Lib.hid (numsIn_no hP)
    go_enter Tryz.func117, Tryz.ntmps117
    go_wp2_with fail
    refine (cutp_any _ _ _).mono ?_
    rintro _ w1 ⟨rfl, rfl⟩
    rw [hP]
    go_wp2
    exact bodyPost_ret (v := .tuple #[.agg #[.int .i64 0, .int .i64 0, .int .i64 0], .bool false]) (by simp [results, Tryz.results117, go_sem]) rfl ⟨ret_nums H.out rfl rfl rfl, ((((Below.refl _ w).alloc (Nat.le_refl _) _).alloc (by simp) _).alloc (by simp; omega) _).alloc (by simp; omega) _⟩
  · have hr : (s.extract 1 s.size).size ≤ 20400 := Nat.le_trans (extract_size_le _ _ _) (by omega)
    by_cases hC : (partsD 46 (s.extract 1 s.size)).length = 3
    · refine (numbers_r (s.extract 1 s.size) hr hC s hP rfl w).mono ?_
      have hI := numsIn_yes hP
      have hL : (sp 46 (s.extract 1 s.size).data.toList).length = 3 := by simpa [partsD] using hC
      rintro e w' ⟨⟨rfl, hall⟩ | ⟨rfl, y, hy, hbad⟩, hb⟩
      · have hok : numsOk s.data.toList = true := by
          unfold numsOk
          rw [hI, hL, Bool.and_eq_true]
          exact ⟨rfl, List.all_eq_true.2 (ids_all hall)⟩
        refine ⟨ret_nums hok ?_ ?_ ?_, hb⟩ <;> rw [xv_ids, map_getD _ (ids_all hall), if_pos rfl, nth, hI]
      · have hno : numsOk s.data.toList = false := by
          unfold numsOk
          rw [hI, ids_some hy hbad, Bool.and_false]
        exact ⟨ret_nums hno rfl rfl rfl, hb⟩
    · have H := Lib.hid (show numsOk s.data.toList = false by
        unfold numsOk
        rw [numsIn_yes hP]
        have : ¬ (sp 46 (s.extract 1 s.size).data.toList).length = 3 := by simpa [partsD] using hC
        rw [decide_eq_false this, Bool.false_and])
      have hC2 : ((Lib.countByte (s.extract 1 s.size).data.toList 46 : Int) == 2) = false := by
        simp only [partsD, List.length_map, sp_count] at hC
        rw [beq_eq_false_iff_ne, Lib.countByte]; omega
      clear hC
      go_enter Tryz.func117, Tryz.ntmps117
      go_wp2_with fail
      refine (cutp_any _ _ _).mono ?_
      rintro _ w1 ⟨rfl, rfl⟩
      rw [hP, if_pos rfl, show s.extract (ByteArray.size ⟨#[118]⟩) s.size = s.extract 1 s.size from rfl]
      generalize s.extract 1 s.size = r at *
      go_wp2_with fail
      refine (count_any _ _ _).mono ?_
      rintro _ w1 ⟨rfl, rfl⟩
      go_wp2
      exact bodyPost_ret (v := .tuple #[.agg #[.int .i64 0, .int .i64 0, .int .i64 0], .bool false]) (by simp [results, Tryz.results117, go_sem]) rfl ⟨ret_nums H.out rfl rfl rfl, ((((Below.refl _ w).alloc (Nat.le_refl _) _).alloc (by simp) _).alloc (by simp; omega) _).alloc (by simp; omega) _⟩
end Go.Proofs.YtmdlmjcejeejfaaGreatDoor
