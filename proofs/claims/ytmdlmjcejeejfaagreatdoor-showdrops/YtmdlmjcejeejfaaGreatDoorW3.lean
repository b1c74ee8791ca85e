/-
  Which bytes and which elements paths.go lets stand: the byte tests, 'all' over a byte test, the element tests.
-/
import Derived.Test.YtmdlmjcejeejfaaGreatDoorW2
import Derived.Shelf.Abstract
namespace Go.Proofs.YtmdlmjcejeejfaaGreatDoor
open Go.RowKit Go.Shelf

def vByte (c : UInt8) : Bool := decide (33 ≤ c.toNat) && decide (c.toNat ≤ 126) && decide (Lib.indexByte [34, 42, 58, 60, 62, 63, 92, 124, 96] c < 0)
def mByte (c : UInt8) : Bool := decide (97 ≤ c.toNat) && decide (c.toNat ≤ 122) || decide (48 ≤ c.toNat) && decide (c.toNat ≤ 57) || decide (0 ≤ Lib.indexByte [45, 46, 95, 126] c)
def iByte (c : UInt8) : Bool := mByte c || decide (65 ≤ c.toNat) && decide (c.toNat ≤ 90) || decide (c.toNat = 43)

theorem u8_back (c : UInt8) : ((c.toNat : Int)).toNat.toUInt8 = c := by simp

set_option maxHeartbeats 400000 in
theorem vbyte_any (c : UInt8) (w : World) :
    Calls Tryz.prog 204 #[.int .u8 (c.toNat : Int)] w fun e w' => e = .returned (.bool (vByte c)) ∧ w = w' := by
  go_enter Tryz.func204, Tryz.ntmps204
  go_wp2_with (go_at_call 180; refine (sidxb_any _ _ _).mono ?_; rintro e w' ⟨rfl, rfl⟩)
  all_goals
    go_ret
    refine ⟨ret_bool ?_, rfl⟩
    simp [vByte]
    try omega

/-- A test of bytes, as a function of the program. -/
structure ByteTest (g : Nat) (p : UInt8 → Bool) : Prop where
  enters : ∀ args w, (callFunc g args).run Tryz.prog w = .ok (.enter g args) w
  tells : ∀ (c : UInt8) (w : World), Calls Tryz.prog g #[.int .u8 (c.toNat : Int)] w fun e w' => e = .returned (.bool (p c)) ∧ w = w'

def allTo (s : ByteArray) (p : UInt8 → Bool) (k : Nat) : Bool := (s.data.toList.take k).all p
def allB (s : ByteArray) (p : UInt8 → Bool) : Bool := s.data.toList.all p

theorem get_data (s : ByteArray) (k : Nat) (h : k < s.size) : s.data.toList[k]? = some s[k] := by
  rw [List.getElem?_eq_getElem (by rw [size_data]; exact h)]; rfl
theorem take_snoc (s : ByteArray) (k : Nat) (h : k < s.size) : s.data.toList.take (k + 1) = s.data.toList.take k ++ [s[k]] := by
  rw [List.take_succ_eq_append_getElem (by rw [size_data]; exact h)]; rfl
theorem mem_data (s : ByteArray) (k : Nat) (h : k < s.size) : s[k] ∈ s.data.toList := List.mem_of_getElem? (get_data s k h)
theorem all_no {s : ByteArray} {p : UInt8 → Bool} {k : Nat} (h : k < s.size) (hp : p s[k] = false) : allB s p = false := by
  unfold allB
  rw [List.all_eq_false]
  exact ⟨s[k], mem_data s k h, by simp [hp]⟩
theorem all_yes {s : ByteArray} {p : UInt8 → Bool} {k : Nat} (h : k < s.size) (ha : allTo s p k = true) (hp : p s[k] = true) : allTo s p (k + 1) = true := by
  unfold allTo at ha ⊢
  rw [take_snoc s k h, List.all_append, ha]; simp [hp]
theorem all_end {s : ByteArray} {p : UInt8 → Bool} {k : Nat} (h : s.size ≤ k) (ha : allTo s p k = true) : allB s p = true := by
  unfold allTo at ha; unfold allB
  rwa [List.take_of_length_le (by rw [size_data]; exact h)] at ha

set_option maxHeartbeats 400000 in
theorem all_any (g : Nat) (p : UInt8 → Bool) (hg : ByteTest g p) (s : ByteArray) (hs : s.size ≤ 20400) (w : World) :
    Calls Tryz.prog 141 #[.string s, .func (.func g) #[] #[]] w fun e w' => e = .returned (.bool (allB s p)) ∧ w = w' := by
  have he := hg.enters
  have ht := Lib.hid hg.tells
  go_enter Tryz.func141, Tryz.ntmps141
  go_wp2
  go_loop [8] (fun i => ∃ k : Nat, k ≤ s.size ∧ i = .int .i64 k ∧ allTo s p k = true) (fun i => s.size - (intOf i).toNat)
  case atStart => exact ⟨0, Nat.zero_le _, rfl, rfl⟩
  case round =>
    obtain ⟨k, hk, rfl, hl⟩ := hrel
    have H := Lib.hid hl
    clear hl
    by_cases hlt : k < s.size
    · go_wp2_with fail
      refine (ht.out _ _).mono ?_
      rintro _ w' ⟨rfl, rfl⟩
      cases hp : p s[k]
      · go_wp2
        go_ret
        exact ⟨ret_bool (all_no hlt hp).symm, rfl⟩
      · go_wp2
        go_round
        case rel => exact ⟨k + 1, by omega, by go_num, all_yes hlt H.out hp⟩
        case measure => simp [intOf]; omega
    · go_wp2
      go_ret
      exact ⟨ret_bool (all_end (by omega) H.out).symm, rfl⟩

theorem vtest : ByteTest 204 vByte := ⟨enters_of Tryz.func204 (by kernel_rfl) rfl, vbyte_any⟩
def edgeB (s : ByteArray) : Bool := prefB s ⟨#[46]⟩ || suffB s ⟨#[46]⟩
def vElem (s : ByteArray) : Bool := decide (1 ≤ s.size) && decide (s.size ≤ 30) && !(s.toList == [46]) && !(s.toList == [46, 46]) && allB s vByte
def mElem (s : ByteArray) : Bool := !edgeB s && allB s mByte
def iElem (s : ByteArray) : Bool := !edgeB s && !prefB s ⟨#[45]⟩ && allB s iByte

theorem velem_1 {s : ByteArray} (h : s.toList = [46]) : vElem s = false := by simp [vElem, h]
theorem velem_2 {s : ByteArray} (h : (((s.size : Int) < 1 ∨ 30 < (s.size : Int)) ∨ (s.toList == [46]) = true) ∨ (s.toList == [46, 46]) = true) : vElem s = false := by
  rcases h with ((h | h) | h) | h
  · have : s.size = 0 := by omega
    simp [vElem, this]
  · have : ¬ s.size ≤ 30 := by omega
    simp [vElem, this]
  · simp [vElem, eq_of_beq h]
  · simp [vElem, eq_of_beq h]
theorem velem_3 {s : ByteArray} (h : ((1 ≤ (s.size : Int) ∧ (s.size : Int) ≤ 30) ∧ (s.toList == [46]) = false) ∧ (s.toList == [46, 46]) = false) : vElem s = allB s vByte := by
  obtain ⟨⟨⟨h1, h2⟩, h3⟩, h4⟩ := h
  have h1 : 1 ≤ s.size := by omega
  have h2 : s.size ≤ 30 := by omega
  simp only [vElem, h1, h2, h3, h4]; rfl
theorem velem_4 {s : ByteArray} (h : 30 < (s.size : Int)) : vElem s = false := by
  have : ¬ s.size ≤ 30 := by omega
  simp [vElem, this]
theorem velem_5 {s : ByteArray} (h : (s.size : Int) < 1) : vElem s = false := by
  have : s.size = 0 := by omega
  simp [vElem, this]

set_option maxHeartbeats 400000 in
theorem velem_any (s : ByteArray) (hs : s.size ≤ 20400) (w : World) :
    Calls Tryz.prog 178 #[.string s] w fun e w' => e = .returned (.bool (vElem s)) ∧ w = w' := by
  go_enter Tryz.func178, Tryz.ntmps178
  go_wp2_with (go_at_call 141; refine (all_any _ _ vtest _ hs _).mono ?_; rintro e w' ⟨rfl, rfl⟩)
  · go_ret; exact ⟨ret_bool (velem_1 ‹_›).symm, rfl⟩
  · go_ret; exact ⟨ret_bool (velem_2 ‹_›).symm, rfl⟩
  · go_ret; exact ⟨ret_bool (velem_3 ‹_›).symm, rfl⟩
  · go_ret; exact ⟨ret_bool (velem_4 ‹_›).symm, rfl⟩
  · go_ret; exact ⟨ret_bool (velem_5 ‹_›).symm, rfl⟩

end Go.Proofs.YtmdlmjcejeejfaaGreatDoor
