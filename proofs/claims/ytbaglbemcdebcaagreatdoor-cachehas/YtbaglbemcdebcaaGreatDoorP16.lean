/-
  The document's own digits of a number.
-/
import Derived.Test.YtbaglbemcdebcaaGreatDoorP3
import Derived.Test.YtbaglbemcdebcaaGreatDoorS2
namespace Go.Proofs.YtbaglbemcdebcaaGreatDoor
open Go.RowKit Go.Shelf

theorem ten_piece : ∀ k : Fin 10, (⟨#[48, 49, 50, 51, 52, 53, 54, 55, 56, 57]⟩ : ByteArray).extract k.val (k.val + 1) = ⟨#[UInt8.ofNat (48 + k.val)]⟩ := by decide +kernel
/-- What is left of a number, and the digits that are told. -/
def DigAt (n m : Nat) (t : ByteArray) : Prop := if m = 0 then Lib.decDigits n = t.data.toList else Lib.decDigits n = Lib.decDigits m ++ t.data.toList
theorem DigAt.start (n : Nat) : DigAt n (n / 10) ⟨#[UInt8.ofNat (48 + n % 10)]⟩ := by
  unfold DigAt
  by_cases h : n < 10
  · rw [if_pos (by omega), dec_small h, Nat.mod_eq_of_lt h]
  · rw [if_neg (by omega), dec_big h]
theorem DigAt.on {n m : Nat} {t : ByteArray} (h : DigAt n m t) (hm : 0 < m) : DigAt n (m / 10) (⟨#[UInt8.ofNat (48 + m % 10)]⟩ ++ t) := by
  unfold DigAt at h ⊢
  rw [if_neg (by omega)] at h
  have e : (⟨#[UInt8.ofNat (48 + m % 10)]⟩ ++ t : ByteArray).data.toList = [UInt8.ofNat (48 + m % 10)] ++ t.data.toList := by simp
  by_cases h1 : m < 10
  · rw [if_pos (by omega), h, dec_small h1, e, Nat.mod_eq_of_lt h1]
  · rw [if_neg (by omega), h, dec_big h1, e, List.append_assoc]
theorem DigAt.done {n : Nat} {t : ByteArray} (h : DigAt n 0 t) : t = mkB (Lib.decDigits n) := by
  unfold DigAt at h
  rw [if_pos rfl] at h
  rw [h, mkB_data]
theorem DigAt.size {n m : Nat} {t : ByteArray} (h : DigAt n m t) (hn : n < 10 ^ 20) : t.size ≤ 20 := by
  have := len_dec 19 n hn
  unfold DigAt at h
  split at h
  · rw [h, size_data] at this; omega
  · rw [h, List.length_append, size_data] at this; omega

/-- Of a number below nought a sign alone. -/
def digZ (n : Int) : List UInt8 := if n < 0 then [45] else Lib.decDigits n.toNat
end Go.Proofs.YtbaglbemcdebcaaGreatDoor
