/-
  The document's own digits of a number.
-/
import Derived.Test.YtoljpmelfebjoaaDoorP3
import Derived.Test.YtoljpmelfebjoaaDoorS2
namespace Go.Proofs.YtoljpmelfebjoaaDoor
open Go.RowKit Go.Shelf

theorem ten_piece : ∀ k : Fin 10, (⟨#[48, 49, 50, 51, 52, 53, 54, 55, 56, 57]⟩ : ByteArray).extract k.val (k.val + 1) = ⟨#[UInt8.ofNat (48 + k.val)]⟩ := by decide +kernel
/-- What is left of a number, and the digits that are told. -/
def DigAt (n m : Nat) (t : ByteArray) : Prop := if m = 0 then Lib.decDigits n = t.data.toList else Lib.decDigits n = Lib.decDigits m ++ t.data.toList
theorem DigAt.start (n : Nat) : DigAt n (n / 10) ⟨#[UInt8.ofNat (48 + n % 10)]⟩ := by
  unfold DigAt
  by_cases h : n < 10
  · rw [if_pos (by omega), dec_small h, Nat.mod_eq_of_lt h]
  · rw [if_neg (by omega), dec_big h]
theorem DigAt.on {n m : Nat} {t : ByteArray} (h : DigAt n m t) (hm : 0 < m) : DigAt n (m / 10) (⟨#[UInt8.ofNat (48 + m % 10)]⟩ ++ t) := by
  unfold DigAt at h ⊢
  rw [if_neg (by omega)] at h
  have e : (⟨#[UInt8.ofNat (48 + m % 10)]⟩ ++ t : ByteArray).data.toList = [UInt8.ofNat (48 + m % 10)] ++ t.data.toList := by simp
  by_cases h1 : m < 10
  · rw [if_pos (by omega), h, dec_small h1, e, Nat.mod_eq_of_lt h1]
  · rw [if_neg (by omega), h, dec_big h1, e, List.append_assoc]
theorem DigAt.done {n : Nat} {t : ByteArray} (h : DigAt n 0 t) : t = mkB (Lib.decDigits n) := by
  unfold DigAt at h
  rw [if_pos rfl] at h
  rw [h, mkB_data]
theorem DigAt.size {n m : Nat} {t : ByteArray} (h : DigAt n m t) (hn : n < 10 ^ 20) : t.size ≤ 20 := by
  have := len_dec 19 n hn
  unfold DigAt at h
  split at h
  · rw [h, size_data] at this; omega
  · rw [h, List.length_append, size_data] at this; omega

set_option maxRecDepth 100000 in
set_option maxHeartbeats 1000000 in
theorem rdigitsN_any (n : Nat) (hn : n < 9223372036854775808) (w : World) :
    Calls Tryd.prog 27 #[.int .i64 (n : Int)] w fun e w' => e = .returned (.string (mkB (Lib.decDigits n))) ∧ w = w' := by
  have h0 : ¬ (n : Int) < 0 := by omega
  go_enter Tryd.func27, Tryd.ntmps27
  go_wp2
  go_loop [0, 3] (fun v u => ∃ (m : Nat) (t : ByteArray), v = .int .i64 m ∧ u = .string t ∧ m < 9223372036854775808 ∧ t.size ≤ 20 ∧ DigAt n m t) (fun v _ => (intOf v).toNat)
  case atStart =>
    have hd := DigAt.start n
    rw [← ten_piece ⟨n % 10, Nat.mod_lt _ (by decide)⟩] at hd
    exact ⟨n / 10, _, by go_num, rfl, by omega, hd.size (by omega), hd⟩
  case round =>
    obtain ⟨m, t, rfl, rfl, hm, hts, hd⟩ := hrel
    have HD := Lib.hid hd
    clear hd
    by_cases hp : 0 < m
    · have hd := HD.out.on hp
      rw [← ten_piece ⟨m % 10, Nat.mod_lt _ (by decide)⟩] at hd
      have HN := Lib.hid hd
      clear hd
      have hpi : (0 : Int) < (m : Int) := by omega
      have hsz : ((⟨#[48, 49, 50, 51, 52, 53, 54, 55, 56, 57]⟩ : ByteArray).extract (m % 10) (m % 10 + 1)).size ≤ 1 := by
        rw [ten_piece ⟨m % 10, Nat.mod_lt _ (by decide)⟩]; exact Nat.le_refl 1
      go_wp2
      go_round
      case rel => exact ⟨m / 10, _, by go_num, rfl, by omega, HN.out.size (by omega), HN.out⟩
      case measure => simp [intOf]; omega
    · have h0' : m = 0 := by omega
      subst h0'
      have H := Lib.hid HD.out.done
      go_wp2
      go_ret
      exact ⟨ret_string H.out, rfl⟩

/-- Of a number below nought a sign alone. -/
def digZ (n : Int) : List UInt8 := if n < 0 then [45] else Lib.decDigits n.toNat
set_option maxRecDepth 100000 in
theorem rdigitsZ_any (n : Int) (hn : n < 9223372036854775808) (w : World) :
    Calls Tryd.prog 27 #[.int .i64 n] w fun e w' => e = .returned (.string (mkB (digZ n))) ∧ w = w' := by
  by_cases h : n < 0
  · have H := Lib.hid (show mkB (digZ n) = ⟨#[45]⟩ by simp [digZ, h, mkB])
    go_enter Tryd.func27, Tryd.ntmps27
    go_wp2
    go_ret
    exact ⟨ret_string H.out.symm, rfl⟩
  · have := rdigitsN_any n.toNat (by omega) w
    rw [show ((n.toNat : Nat) : Int) = n by omega] at this
    rw [show digZ n = Lib.decDigits n.toNat by simp [digZ, h]]
    exact this
end Go.Proofs.YtoljpmelfebjoaaDoor
