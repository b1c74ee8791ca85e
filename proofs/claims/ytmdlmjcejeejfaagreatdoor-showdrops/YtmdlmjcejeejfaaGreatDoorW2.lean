/-
  What the library's searches for one byte hand back (strings.Index, IndexByte, Contains and Cut at a text of one byte), and the tests of how a text begins and ends.
-/
import Derived.Test.YtmdlmjcejeejfaaGreatDoorW1
import Derived.Test.YtmdlmjcejeejfaaGreatDoorM
namespace Go.Proofs.YtmdlmjcejeejfaaGreatDoor
open Go.RowKit

set_option maxRecDepth 100000 in
set_option maxHeartbeats 400000 in
theorem idxb_any (s : ByteArray) (c : Int) (w : World) :
    Calls Tryz.prog 200 #[.string s, .int .u8 c] w fun e w' => e = .returned (.int .i64 (Lib.indexByte s.data.toList c.toNat.toUInt8)) ∧ w = w' := by
  go_enter Tryz.func200, Tryz.ntmps200
  go_wp2
  rw [run_callFunc_extern Tryz.func213 (by kernel_rfl) (by kernel_rfl) (by kernel_rfl) (e := Extern.BytealgIndexByte.indexByte) (by kernel_rfl), Lib.run_indexByteString]
  simp only [Result.andThen]
  rw [Oper.upon_value]
  go_wp2
  go_ret
  exact ⟨rfl, rfl⟩

set_option maxRecDepth 100000 in
set_option maxHeartbeats 400000 in
theorem sidxb_any (s : ByteArray) (c : Int) (w : World) :
    Calls Tryz.prog 180 #[.string s, .int .u8 c] w fun e w' => e = .returned (.int .i64 (Lib.indexByte s.data.toList c.toNat.toUInt8)) ∧ w = w' := by
  go_enter Tryz.func180, Tryz.ntmps180
  go_wp2_with (go_at_call 200; refine (idxb_any _ _ _).mono ?_; rintro e w' ⟨rfl, rfl⟩)
  go_ret
  exact ⟨rfl, rfl⟩

theorem indexByte_self {s : ByteArray} {c : UInt8} (h : ([c] == s.toList) = true) : Lib.indexByte s.data.toList c = 0 := by
  rw [← Lib.toList_data, ← eq_of_beq h]; simp [Lib.indexByte]

set_option maxRecDepth 100000 in
set_option maxHeartbeats 400000 in
theorem idx_any (s : ByteArray) (c : UInt8) (w : World) :
    Calls Tryz.prog 177 #[.string s, .string ⟨#[c]⟩] w fun e w' => e = .returned (.int .i64 (Lib.indexByte s.data.toList c)) ∧ w = w' := by
  cases h : ([c] == s.toList)
  · go_enter Tryz.func177, Tryz.ntmps177
    go_wp2_with (go_at_call 200; refine (idxb_any _ _ _).mono ?_; rintro e w' ⟨rfl, rfl⟩)
    go_ret
    exact ⟨ret_int rfl, rfl⟩
  · have H := Lib.hid (indexByte_self h)
    go_enter Tryz.func177, Tryz.ntmps177
    go_wp2
    go_ret
    exact ⟨ret_int H.out.symm, rfl⟩

/-- What strings.Cut at a slash tells. -/
def cutB (s : ByteArray) : ByteArray × ByteArray × Bool :=
  if Lib.indexByte s.data.toList 47 < 0 then (s, ⟨#[]⟩, false) else (s.extract 0 (Lib.indexByte s.data.toList 47).toNat, s.extract ((Lib.indexByte s.data.toList 47).toNat + 1) s.size, true)
theorem cutB_no {s : ByteArray} (h : Lib.indexByte s.data.toList 47 = -1) : cutB s = (s, ⟨#[]⟩, false) := by
  have : Lib.indexByte s.data.toList 47 < 0 := by omega
  simp [cutB, this]
theorem cutB_yes {s : ByteArray} {k : Nat} (h : Lib.indexByte s.data.toList 47 = k) : cutB s = (s.extract 0 k, s.extract (k + 1) s.size, true) := by
  have h' : ¬ Lib.indexByte s.data.toList 47 < 0 := by omega
  simp only [cutB, h', if_false]
  rw [h]; rfl
theorem ret_ssb {a b : ByteArray × ByteArray × Bool} (h : a = b) : Ending.returned (.tuple #[.string a.1, .string a.2.1, .bool a.2.2]) = .returned (.tuple #[.string b.1, .string b.2.1, .bool b.2.2]) := by rw [h]
theorem index_cases (s : ByteArray) : Lib.indexByte s.data.toList 47 = -1 ∨ ∃ k : Nat, Lib.indexByte s.data.toList 47 = k := by
  have := Lib.indexByte_ge s.data.toList 47
  by_cases h : Lib.indexByte s.data.toList 47 = -1
  · exact .inl h
  · exact .inr ⟨(Lib.indexByte s.data.toList 47).toNat, by omega⟩

set_option maxRecDepth 100000 in
set_option maxHeartbeats 400000 in
theorem lcut_any (s : ByteArray) (w : World) (hs : s.size ≤ 20400) :
    Calls Tryz.prog 135 #[.string s, .string ⟨#[47]⟩] w fun e w' => e = .returned (.tuple #[.string (cutB s).1, .string (cutB s).2.1, .bool (cutB s).2.2]) ∧ ∃ n, w' = w.drewN n := by
  rcases index_cases s with h | ⟨k, h⟩
  · have J := Lib.hid (cutB_no h)
    go_enter Tryz.func135, Tryz.ntmps135
    go_wp2_with fail
    refine (idx_any _ _ _).mono ?_
    rintro _ w' ⟨rfl, rfl⟩
    rw [h]
    clear h
    go_wp2
    go_ret3
    exact ⟨ret_ssb (a := (s, ⟨#[]⟩, false)) J.out.symm, 0, rfl⟩
  · have J := Lib.hid (cutB_yes h)
    have hlt := (partsB_cut h).1
    go_enter Tryz.func135, Tryz.ntmps135
    go_wp2_with fail
    refine (idx_any _ _ _).mono ?_
    rintro _ w' ⟨rfl, rfl⟩
    rw [h]
    clear h
    go_wp2
    go_quiet (fail)
    go_wp2
    go_ret3
    exact ⟨ret_ssb (a := (s.extract 0 k, s.extract (k + 1) s.size, true)) J.out.symm, _, rfl⟩

set_option maxRecDepth 100000 in
set_option maxHeartbeats 400000 in
theorem cut_any (s : ByteArray) (w : World) (hs : s.size ≤ 20400) :
    Calls Tryz.prog 87 #[.string s, .string ⟨#[47]⟩] w fun e w' => e = .returned (.tuple #[.string (cutB s).1, .string (cutB s).2.1, .bool (cutB s).2.2]) ∧ ∃ n, w' = w.drewN n := by
  go_enter Tryz.func87, Tryz.ntmps87
  go_wp2_with (go_at_call 135; refine (lcut_any _ _ hs).mono ?_; rintro e w' ⟨rfl, n1, rfl⟩)
  go_ret3
  exact ⟨rfl, _, rfl⟩

def suffB (s p : ByteArray) : Bool := decide (p.size ≤ s.size) && ((s.extract (s.size - p.size) s.size).toList == p.toList)
end Go.Proofs.YtmdlmjcejeejfaaGreatDoor
