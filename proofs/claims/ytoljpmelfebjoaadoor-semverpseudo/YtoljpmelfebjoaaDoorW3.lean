/-
  Which bytes and which elements paths.go lets stand: the byte tests, 'all' over a byte test, the element tests.
-/
import Derived.Test.YtoljpmelfebjoaaDoorW2
import Derived.Shelf.Abstract
namespace Go.Proofs.YtoljpmelfebjoaaDoor
open Go.RowKit Go.Shelf

def vByte (c : UInt8) : Bool := decide (33 ≤ c.toNat) && decide (c.toNat ≤ 126) && decide (Lib.indexByte [34, 42, 58, 60, 62, 63, 92, 124, 96] c < 0)
def mByte (c : UInt8) : Bool := decide (97 ≤ c.toNat) && decide (c.toNat ≤ 122) || decide (48 ≤ c.toNat) && decide (c.toNat ≤ 57) || decide (0 ≤ Lib.indexByte [45, 46, 95, 126] c)
def iByte (c : UInt8) : Bool := mByte c || decide (65 ≤ c.toNat) && decide (c.toNat ≤ 90) || decide (c.toNat = 43)

theorem u8_back (c : UInt8) : ((c.toNat : Int)).toNat.toUInt8 = c := by simp

/-- A test of bytes, as a function of the program. -/
structure ByteTest (g : Nat) (p : UInt8 → Bool) : Prop where
  enters : ∀ args w, (callFunc g args).run Tryd.prog w = .ok (.enter g args) w
  tells : ∀ (c : UInt8) (w : World), Calls Tryd.prog g #[.int .u8 (c.toNat : Int)] w fun e w' => e = .returned (.bool (p c)) ∧ w = w'

def allTo (s : ByteArray) (p : UInt8 → Bool) (k : Nat) : Bool := (s.data.toList.take k).all p
def allB (s : ByteArray) (p : UInt8 → Bool) : Bool := s.data.toList.all p

theorem get_data (s : ByteArray) (k : Nat) (h : k < s.size) : s.data.toList[k]? = some s[k] := by
  rw [List.getElem?_eq_getElem (by rw [size_data]; exact h)]; rfl
theorem take_snoc (s : ByteArray) (k : Nat) (h : k < s.size) : s.data.toList.take (k + 1) = s.data.toList.take k ++ [s[k]] := by
  rw [List.take_succ_eq_append_getElem (by rw [size_data]; exact h)]; rfl
theorem mem_data (s : ByteArray) (k : Nat) (h : k < s.size) : s[k] ∈ s.data.toList := List.mem_of_getElem? (get_data s k h)
theorem all_no {s : ByteArray} {p : UInt8 → Bool} {k : Nat} (h : k < s.size) (hp : p s[k] = false) : allB s p = false := by
  unfold allB
  rw [List.all_eq_false]
  exact ⟨s[k], mem_data s k h, by simp [hp]⟩
theorem all_yes {s : ByteArray} {p : UInt8 → Bool} {k : Nat} (h : k < s.size) (ha : allTo s p k = true) (hp : p s[k] = true) : allTo s p (k + 1) = true := by
  unfold allTo at ha ⊢
  rw [take_snoc s k h, List.all_append, ha]; simp [hp]
theorem all_end {s : ByteArray} {p : UInt8 → Bool} {k : Nat} (h : s.size ≤ k) (ha : allTo s p k = true) : allB s p = true := by
  unfold allTo at ha; unfold allB
  rwa [List.take_of_length_le (by rw [size_data]; exact h)] at ha

def edgeB (s : ByteArray) : Bool := prefB s ⟨#[46]⟩ || suffB s ⟨#[46]⟩
def vElem (s : ByteArray) : Bool := decide (1 ≤ s.size) && decide (s.size ≤ 30) && !(s.toList == [46]) && !(s.toList == [46, 46]) && allB s vByte
def mElem (s : ByteArray) : Bool := !edgeB s && allB s mByte
def iElem (s : ByteArray) : Bool := !edgeB s && !prefB s ⟨#[45]⟩ && allB s iByte

theorem velem_1 {s : ByteArray} (h : s.toList = [46]) : vElem s = false := by simp [vElem, h]
theorem velem_2 {s : ByteArray} (h : (((s.size : Int) < 1 ∨ 30 < (s.size : Int)) ∨ (s.toList == [46]) = true) ∨ (s.toList == [46, 46]) = true) : vElem s = false := by
  rcases h with ((h | h) | h) | h
  · have : s.size = 0 := by omega
    simp [vElem, this]
  · have : ¬ s.size ≤ 30 := by omega
    simp [vElem, this]
  · simp [vElem, eq_of_beq h]
  · simp [vElem, eq_of_beq h]
theorem velem_3 {s : ByteArray} (h : ((1 ≤ (s.size : Int) ∧ (s.size : Int) ≤ 30) ∧ (s.toList == [46]) = false) ∧ (s.toList == [46, 46]) = false) : vElem s = allB s vByte := by
  obtain ⟨⟨⟨h1, h2⟩, h3⟩, h4⟩ := h
  have h1 : 1 ≤ s.size := by omega
  have h2 : s.size ≤ 30 := by omega
  simp only [vElem, h1, h2, h3, h4]; rfl
theorem velem_4 {s : ByteArray} (h : 30 < (s.size : Int)) : vElem s = false := by
  have : ¬ s.size ≤ 30 := by omega
  simp [vElem, this]
theorem velem_5 {s : ByteArray} (h : (s.size : Int) < 1) : vElem s = false := by
  have : s.size = 0 := by omega
  simp [vElem, this]

end Go.Proofs.YtoljpmelfebjoaaDoor
