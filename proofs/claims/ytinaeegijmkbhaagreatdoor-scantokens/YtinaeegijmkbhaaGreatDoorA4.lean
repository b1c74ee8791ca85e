/-
  The program's scanner: it goes on; blanks; may a line end behind a token?
-/
import Derived.Test.YtinaeegijmkbhaaGreatDoorA3
import Derived.IntWalk
import Derived.Deep.RegionHeld3
import Derived.Deep.QuietTactic
import Derived.Deep.AppendLies
set_option linter.unusedVariables false
namespace Go.Proofs.YtinaeegijmkbhaaGreatDoor
open Go.RowKit Go.Shelf

theorem line_small (l : List UInt8) (h : l.length ≤ 20400) : lineL l ≤ 20401 := by have := line_le l; omega
set_option maxRecDepth 100000 in
set_option maxHeartbeats 3200000 in
theorem pass_any (p : Nat) (rest : ByteArray) (hs : rest.size ≤ 20400) (line : Nat) (hl : line ≤ 1000000) (h1 : 1 ≤ line) (semi : Bool) (n : Nat) (hn : n ≤ rest.size) (w : World) (hp : ScanP w p rest line semi) :
    Calls Tryz.prog 14 #[.pointer (some ⟨p, 0, none⟩), .int .i64 (n : Int)] w fun e w' => e = .returned (.tuple #[]) ∧ ScanP w' p (rest.extract n rest.size) (lineL (rest.data.toList.take n) + line - 1) semi ∧ Only p w w' := by
  have HL := Lib.hid (line_any rest hs (n : Int))
  simp only [Int.toNat_natCast] at HL
  have hk := line_small (rest.data.toList.take n) (by rw [List.length_take, size_data]; omega)
  have hk1 := line_pos (rest.data.toList.take n)
  generalize lineL (rest.data.toList.take n) = k at *
  have c0 : w.cell? ⟨p, 0, none⟩ = some (.string rest) := hp.cell 0
  have c1 : w.cell? ⟨p, 1, none⟩ = some (.int .i64 (line : Int)) := hp.cell 1
  have c2 := hp.frozen 0
  have c3 := hp.frozen 1
  have HP := Lib.hid hp
  have i1 : (n : Int) ≤ (rest.size : Int) := by omega
  have s1 : IntKind.i64.wrap ((k : Int) + (line : Int)) = (k : Int) + (line : Int) := IntWalk.i64_in _ (by omega)
  have s2 : IntKind.i64.wrap ((k : Int) + (line : Int) - 1) = (k : Int) + (line : Int) - 1 := IntWalk.i64_in _ (by omega)
  clear hp
  go_enter Tryz.func14, Tryz.ntmps14
  go_wp2
  go_region_law (first | (go_simp; go_at_call 10; refine (HL.out _).mono ?_; rintro _ _ ⟨rfl, rfl⟩))
  all_goals
    have d0 : (w.setCell ⟨p, 1, none⟩ (.int .i64 ((k : Int) + (line : Int) - 1))).cell? ⟨p, 0, none⟩ = some (.string rest) := (HP.out.set 1 _).cell 0
    have d1 : (w.setCell ⟨p, 1, none⟩ (.int .i64 ((k : Int) + (line : Int) - 1))).frozen? ⟨p, 0, none⟩ = false := (HP.out.set 1 _).frozen 0
    go_wp2
    go_end0
    have gF := (HP.out.set 1 (.int .i64 ((k : Int) + (line : Int) - 1))).set 0 (.string (rest.extract n rest.size))
    refine ⟨rfl, ?_, (((Only.of_below (p := p) (Below.refl _ w)).set (.inl rfl) _).set (.inl rfl) _).drew⟩
    show GBlk _ p 44 #[.string (rest.extract n rest.size), .int .i64 ((k + line - 1 : Nat) : Int), .bool semi]
    rw [show ((k + line - 1 : Nat) : Int) = (k : Int) + (line : Int) - 1 by omega]
    exact gF

set_option maxRecDepth 100000 in
set_option maxHeartbeats 1600000 in
theorem blank_any (s : ByteArray) (hs : s.size ≤ 20400) (semi : Bool) (w : World) : Calls Tryz.prog 15 #[.string s, .bool semi] w fun e w' => e = .returned (.int .i64 (blanks semi s.data.toList : Nat)) ∧ Below w.heap.size w w' := by
  have HB := Lib.hid (blank_set semi s.data.toList)
  have hle : (Lib.trimLeftS s.data.toList (if semi then [32, 9, 13] else [32, 9, 13, 10])).length ≤ s.size := by
    unfold Lib.trimLeftS
    have := List.Sublist.length_le (List.dropWhile_sublist (fun x => List.contains (if semi then [32, 9, 13] else [32, 9, 13, 10]) x) (l := s.data.toList))
    rwa [size_data] at this
  have hT := fun w => Tryz.strings_TrimLeft_laid s ⟨(if semi then [32, 9, 13] else [32, 9, 13, 10] : List UInt8).toArray⟩ w (by cases semi <;> decide) (by cases semi <;> exact ascii_of_all (by decide))
  have HT : Hid (∀ w, Calls Tryz.prog 23 #[.string s, .string ⟨(if semi then [32, 9, 13] else [32, 9, 13, 10] : List UInt8).toArray⟩] w fun e w' => (∃ x : ByteArray, e = .returned (.string x) ∧ x.size ≤ s.size ∧ s.size - x.size = blanks semi s.data.toList) ∧ Below w.heap.size w w') := Lib.hid (fun w => by
    refine (hT w).mono ?_
    rintro _ w' ⟨rfl, hB⟩
    exact ⟨⟨_, rfl, hle, HB.out⟩, hB⟩)
  clear hT hle HB
  cases semi
  · go_enter Tryz.func15, Tryz.ntmps15
    go_wp2_with (go_at_call 23; refine (HT.out _).mono ?_; rintro _ w1 ⟨⟨x, rfl, h1, h2⟩, hB⟩)
    go_ret
    exact ⟨ret_int (by omega), hB⟩
  · go_enter Tryz.func15, Tryz.ntmps15
    go_wp2_with (go_at_call 23; refine (HT.out _).mono ?_; rintro _ w1 ⟨⟨x, rfl, h1, h2⟩, hB⟩)
    go_ret
    exact ⟨ret_int (by omega), hB⟩

set_option maxRecDepth 100000 in
set_option maxHeartbeats 1600000 in
theorem closes_any (k : Nat) (t : ByteArray) (line : Int) (w : World) : Calls Tryz.prog 17 #[.agg #[.int .i64 (k : Int), .string t, .int .i64 line]] w fun e w' => e = .returned (.bool (ends k t.data.toList)) ∧ Below w.heap.size w w' := by
  go_enter Tryz.func17, Tryz.ntmps17
  go_wp2
  all_goals
    go_ret
    refine ⟨ret_bool ?_, (Below.refl _ _).alloc (Nat.le_refl _) _⟩
    have e1 : (k == 1) = ((k : Int) == 1) := by rw [Bool.eq_iff_iff]; simp; omega
    have e2 : (k == 2) = ((k : Int) == 2) := by rw [Bool.eq_iff_iff]; simp; omega
    have e3 : (k == 3) = ((k : Int) == 3) := by rw [Bool.eq_iff_iff]; simp; omega
    (try simp only [Lib.toList_data] at *)
    simp [ends, *]
end Go.Proofs.YtinaeegijmkbhaaGreatDoor
