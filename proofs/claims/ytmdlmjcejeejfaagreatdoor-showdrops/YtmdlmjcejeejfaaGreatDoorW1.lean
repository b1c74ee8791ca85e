
import Derived.Test.YtmdlmjcejeejfaaGreatDoorRows
import Derived.WalkKit
import Derived.WalkSpells
import Derived.WalkLawsBesides
import Derived.BigQuiet
import Derived.Deep.QuietTactic
import Derived.Lib.Strings
import Derived.Lib.Hide
import Derived.Lib.LastIndexByte
namespace Go.Proofs.YtmdlmjcejeejfaaGreatDoor
open Go.RowKit

def hereB (s : ByteArray) : Bool := s.toList.isEmpty || s.toList == [46]
def joinB (a b : ByteArray) : ByteArray := if hereB a then b else if hereB b then a else a ++ ⟨#[47]⟩ ++ b
def prefB (s p : ByteArray) : Bool := decide (p.size ≤ s.size) && ((s.extract 0 p.size).toList == p.toList)
def withinB (s d : ByteArray) : ByteArray × Bool :=
  if hereB d then (s, true) else if s.toList == d.toList then (⟨#[]⟩, true) else if prefB s (d ++ ⟨#[47]⟩) then (s.extract (d.size + 1) s.size, true) else (⟨#[]⟩, false)

theorem joinB_1 {a b : ByteArray} (h : hereB a = true) : joinB a b = b := by simp [joinB, h]
theorem joinB_2 {a b : ByteArray} (h : hereB a = false) (k : hereB b = true) : joinB a b = a := by simp [joinB, h, k]
theorem joinB_3 {a b : ByteArray} (h : hereB a = false) (k : hereB b = false) : joinB a b = a ++ ⟨#[47]⟩ ++ b := by simp [joinB, h, k]
theorem ret_string {a b : ByteArray} (h : a = b) : Ending.returned (.string a) = .returned (.string b) := by rw [h]
theorem ret_bool {a b : Bool} (h : a = b) : Ending.returned (.bool a) = .returned (.bool b) := by rw [h]

set_option maxHeartbeats 400000 in
theorem cutp_any (s p : ByteArray) (w : World) :
    Calls Tryz.prog 166 #[.string s, .string p] w fun e w' => e = .returned (.tuple #[.string (if prefB s p then s.extract p.size s.size else s), .bool (prefB s p)]) ∧ w = w' := by
  go_enter Tryz.func166, Tryz.ntmps166
  go_wp2
  all_goals
    go_ret2
    refine ⟨?_, rfl⟩
    simp_all [prefB]
    try omega

theorem withinB_1 {s d : ByteArray} (h : hereB d = true) : withinB s d = (s, true) := by simp [withinB, h]
theorem withinB_2 {s d : ByteArray} (h : hereB d = false) (k : (s.toList == d.toList) = true) : withinB s d = (⟨#[]⟩, true) := by simp only [withinB, h, k]; rfl
theorem withinB_3 {s d : ByteArray} (h : hereB d = false) (k : (s.toList == d.toList) = false) (l : prefB s (d ++ ⟨#[47]⟩) = true) : withinB s d = (s.extract (d.size + 1) s.size, true) := by simp only [withinB, h, k, l]; rfl
theorem withinB_4 {s d : ByteArray} (h : hereB d = false) (k : (s.toList == d.toList) = false) (l : prefB s (d ++ ⟨#[47]⟩) = false) : withinB s d = (⟨#[]⟩, false) := by simp only [withinB, h, k, l]; rfl
theorem ret_sb {a b : ByteArray × Bool} (h : a = b) : Ending.returned (.tuple #[.string a.1, .bool a.2]) = .returned (.tuple #[.string b.1, .bool b.2]) := by rw [h]

theorem hereB_yes {d : ByteArray} (h : d.toList = []) : hereB d = true := by simp [hereB, h]
theorem hereB_yes2 {d : ByteArray} (h : d.toList.isEmpty = true ∨ (d.toList == [46]) = true) : hereB d = true := by rw [hereB, Bool.or_eq_true]; exact h
theorem hereB_no {d : ByteArray} (h : d.toList.isEmpty = false ∧ (d.toList == [46]) = false) : hereB d = false := by rw [hereB, h.1, h.2]; rfl
theorem size_slash (d : ByteArray) : (d ++ ⟨#[47]⟩ : ByteArray).size = d.size + 1 := by rw [ByteArray.size_append]; rfl
theorem prefB_yes {s d : ByteArray} (h : (d.size : Int) + 1 ≤ s.size) (k : ((s.extract 0 (d.size + 1)).toList == (d ++ ⟨#[47]⟩).toList) = true) : prefB s (d ++ ⟨#[47]⟩) = true := by
  have h' : d.size + 1 ≤ s.size := by omega
  rw [prefB, size_slash, k, decide_eq_true h']; rfl
theorem prefB_no1 {s d : ByteArray} (k : ((s.extract 0 (d.size + 1)).toList == (d ++ ⟨#[47]⟩).toList) = false) : prefB s (d ++ ⟨#[47]⟩) = false := by
  rw [prefB, size_slash, k, Bool.and_false]
theorem prefB_no2 {s d : ByteArray} (h : (s.size : Int) < d.size + 1) : prefB s (d ++ ⟨#[47]⟩) = false := by
  have h' : ¬ d.size + 1 ≤ s.size := by omega
  rw [prefB, size_slash, decide_eq_false h']; rfl

theorem ret_int {k : IntKind} {a b : Int} (h : a = b) : Ending.returned (.int k a) = .returned (.int k b) := by rw [h]
theorem at_data (s : ByteArray) (k : Nat) (h : k < s.size) : s.data[k]! = s[k] := by
  rw [getElem!_pos s.data k h]; rfl
theorem lastIdx_yes {s : ByteArray} {k : Nat} (h : k < s.size) (e : ((s[k].toNat : Int) == 47) = true) : Lib.lastIdx s 47 (k + 1) = k :=
  Lib.lastIdx_hit s 47 k (by rw [at_data s k h]; exact eq_of_beq e)
theorem lastIdx_no {s : ByteArray} {k : Nat} (h : k < s.size) (e : ((s[k].toNat : Int) == 47) = false) : Lib.lastIdx s 47 (k + 1) = Lib.lastIdx s 47 k :=
  Lib.lastIdx_miss s 47 k (by rw [at_data s k h]; exact ne_of_beq_false e)

def splitB (s : ByteArray) : ByteArray × ByteArray :=
  if Lib.lastIndexByte s 47 < 0 then (⟨#[]⟩, s) else (s.extract 0 (Lib.lastIndexByte s 47).toNat, s.extract ((Lib.lastIndexByte s 47).toNat + 1) s.size)
theorem ret_ss {a b : ByteArray × ByteArray} (h : a = b) : Ending.returned (.tuple #[.string a.1, .string a.2]) = .returned (.tuple #[.string b.1, .string b.2]) := by rw [h]
theorem splitB_no {s : ByteArray} (h : Lib.lastIndexByte s 47 < 0) : splitB s = (⟨#[]⟩, s) := by simp [splitB, h]
theorem splitB_yes {s : ByteArray} {k : Nat} (h : Lib.lastIndexByte s 47 = k) : splitB s = (s.extract 0 k, s.extract (k + 1) s.size) := by
  have h' : ¬ Lib.lastIndexByte s 47 < 0 := by omega
  simp only [splitB, h', if_false]
  rw [h]; rfl

end Go.Proofs.YtmdlmjcejeejfaaGreatDoor
