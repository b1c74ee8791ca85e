/-
  The library's ParseUint at the bases 16 and 8, at most eight signs.
-/
import Derived.Test.YtinaeegijmkbhaaGreatDoorA1
import Derived.Test.YtinaeegijmkbhaaGreatDoorSH
import Derived.Test.YtinaeegijmkbhaaGreatDoorQ2
import Derived.Lib.ConvBytes
import Derived.Laws.Strings3
import Derived.Laws.Closers25
import Derived.Laws.Closers25b
import Derived.BigCall
import Derived.BigGuard
set_option linter.unusedVariables false
namespace Go.Proofs.YtinaeegijmkbhaaGreatDoor
open Go.RowKit Go.Shelf

def lowN (c : UInt8) : Nat := c.toNat ||| 32
set_option maxRecDepth 100000 in
theorem low_all : ∀ n : Fin 256, bits .or .u8 ((n.val : Nat) : Int) 32 = ((n.val ||| 32 : Nat) : Int) := by decide
theorem low_is (c : UInt8) : bits .or .u8 (c.toNat : Int) 32 = (lowN c : Int) := low_all ⟨c.toNat, c.toNat_lt⟩
set_option maxRecDepth 100000 in
theorem low_hex_all : ∀ n : Fin 256, ¬ (48 ≤ n.val ∧ n.val ≤ 57) → (n.val ||| 32) < 256 ∧ ((97 ≤ (n.val ||| 32) ∧ (n.val ||| 32) ≤ 102) ↔ ((97 ≤ n.val ∧ n.val ≤ 102) ∨ (65 ≤ n.val ∧ n.val ≤ 70))) ∧ (97 ≤ n.val ∧ n.val ≤ 102 → (n.val ||| 32) = n.val) ∧ (65 ≤ n.val ∧ n.val ≤ 70 → (n.val ||| 32) = n.val + 32) := by decide
theorem low_any (c : UInt8) (w : World) : Calls Tryz.prog 85 #[.int .u8 (c.toNat : Int)] w fun e w' => e = .returned (.int .u8 (lowN c : Int)) ∧ w' = w := by
  refine (Tryz.internal_strconv_lower _ _).mono ?_
  rintro _ _ ⟨rfl, rfl⟩
  rw [low_is]
  exact ⟨rfl, rfl⟩
theorem low_lt (c : UInt8) (h : ¬ (48 ≤ c.toNat ∧ c.toNat ≤ 57)) : lowN c < 256 := (low_hex_all ⟨c.toNat, c.toNat_lt⟩ h).1
theorem hex_dig {c : UInt8} (h : 48 ≤ c.toNat ∧ c.toNat ≤ 57) : hexV c = (c.toNat : Int) - 48 := by
  unfold hexV
  rw [if_pos (by simp [digB, h])]
theorem not_dig {c : UInt8} (h : ¬ (48 ≤ c.toNat ∧ c.toNat ≤ 57)) : digB c = false := by
  cases hb : digB c
  · rfl
  · simp [digB] at hb; exact absurd hb h
theorem hex_low {c : UInt8} (h : ¬ (48 ≤ c.toNat ∧ c.toNat ≤ 57)) (k : 97 ≤ lowN c ∧ lowN c ≤ 102) : hexV c = (lowN c : Int) - 87 := by
  obtain ⟨-, h2, h3, h4⟩ := low_hex_all ⟨c.toNat, c.toNat_lt⟩ h
  have h2 := h2.1 k
  unfold hexV lowN
  rw [if_neg (by rw [not_dig h]; simp)]
  rcases h2 with h2 | h2
  · rw [if_pos h2, h3 h2]
  · rw [if_neg (fun x => by have := h2.2; have := x.1; simp only at *; omega), if_pos h2, h4 h2]; simp only; omega
theorem hex_no {c : UInt8} (h : ¬ (48 ≤ c.toNat ∧ c.toNat ≤ 57)) (k : ¬ (97 ≤ lowN c ∧ lowN c ≤ 102)) : hexV c = -1 := by
  obtain ⟨-, h2, -, -⟩ := low_hex_all ⟨c.toNat, c.toNat_lt⟩ h
  have h5 : ¬ ((97 ≤ c.toNat ∧ c.toNat ≤ 102) ∨ (65 ≤ c.toNat ∧ c.toNat ≤ 70)) := fun x => k (h2.2 x)
  unfold hexV
  rw [if_neg (by rw [not_dig h]; simp), if_neg (fun x => h5 (.inl x)), if_neg (fun x => h5 (.inr x))]
theorem num_no {base n : Int} {c : UInt8} {r : List UInt8} (h : hexV c < 0 ∨ base ≤ hexV c) : numF base n (c :: r) = -1 := by rw [numF, if_pos h]
theorem num_on {base n : Int} {c : UInt8} {r : List UInt8} (h : ¬ (hexV c < 0 ∨ base ≤ hexV c)) : numF base n (c :: r) = numF base (n * base + hexV c) r := by rw [numF, if_neg h]
/-- What ParseUint tells. -/
def numT (n : Int) : Value := if n < 0 then .tuple #[.int .u64 0, .iface 115 (.int .i64 2)] else .tuple #[.int .u64 n, .nilIface]
theorem numT_no {n : Int} (h : n = -1) : numT n = .tuple #[.int .u64 0, .iface 115 (.int .i64 2)] := by subst h; rfl
theorem numT_yes {n a : Int} (h : n = a) (h0 : 0 ≤ a) : numT n = .tuple #[.int .u64 a, .nilIface] := by subst h; unfold numT; rw [if_neg (by omega)]
theorem pow_small {k : Nat} (hk : k ≤ 7) : 16 ^ k ≤ (268435456 : Nat) := Nat.pow_le_pow_right (n := 16) (by omega) hk
theorem pow_next (k : Nat) : 16 ^ (k + 1) = 16 ^ k * 16 := Nat.pow_succ 16 k
theorem pow_le8 {k : Nat} (hk : k ≤ 8) : 16 ^ k ≤ (4294967296 : Nat) := Nat.pow_le_pow_right (n := 16) (by omega) hk

set_option maxHeartbeats 32000000 in
set_option maxRecDepth 100000 in
theorem parse_16 (t : ByteArray) (hne : t.size ≠ 0) (hmax : t.size ≤ 8) (w : World) :
    Calls Tryz.prog 83 #[.string t, .int .i64 16, .int .i64 64] w fun e w' => e = .returned (numT (numF 16 0 t.data.toList)) ∧ w' = Lib.bytesWorld w 5 t := by
  have hemp : t.toList.isEmpty = false := by
    rw [← decide_eq_emptyBytes]
    exact decide_eq_false (fun h => hne (by rw [h]; rfl))
  have hcv := Lib.run_convert_string_bytes (P := Tryz.prog) w 9 72 5 t (u := .string) (by kernel_rfl) (by kernel_rfl) (by kernel_rfl)
  have hB : ∀ j, j < t.size → (Lib.bytesWorld w 5 t).cell? ⟨w.heap.size, j, none⟩ = some (.int .u8 (t.data.toList.getD j 0).toNat) := fun j hj => Lib.bytesWorld_cell w 5 t j hj
  obtain ⟨W1, hW1⟩ : ∃ W1, W1 = Lib.bytesWorld w 5 t := ⟨_, rfl⟩
  rw [← hW1] at hcv hB ⊢
  clear hW1
  obtain ⟨bs, hL⟩ : ∃ bs, bs = t.data.toList := ⟨_, rfl⟩
  have hLn : bs.length = t.size := by rw [hL, Lib.size_eq]
  rw [← hL] at hB ⊢
  clear hL
  have hmv : IntKind.u64.wrap (IntKind.u64.wrap 18446744073709551616 - 1) = 18446744073709551615 := by
    rw [IntKind.wrap_u64, IntKind.wrap_u64]
    decide
  go_enter Tryz.func83, Tryz.ntmps83
  go_wp2
  go_loop [12, 13, 101] (fun vu vn vi => ∃ (k : Nat) (a : Int), vu = .bool false ∧ vn = .int .u64 a ∧ vi = .int .i64 k ∧ k ≤ t.size ∧ Hid (0 ≤ a ∧ a < ((16 ^ k : Nat) : Int) ∧ numF 16 0 bs = numF 16 a (bs.drop k)))
    (fun _ _ vi => t.size - (intOf vi).toNat)
  case atStart => exact ⟨0, 0, rfl, rfl, rfl, by omega, Lib.hid ⟨by omega, by simp, rfl⟩⟩
  case round =>
    obtain ⟨k, a, rfl, rfl, rfl, hk, hh⟩ := hrel
    obtain ⟨a0, hacc, hdec⟩ := hh.out
    clear hh
    by_cases hkn : k < t.size
    · have hc := hB k hkn
      have hdrop : bs.drop k = bs[k]'(by omega) :: bs.drop (k + 1) := List.drop_eq_getElem_cons (by omega)
      have hget : bs.getD k 0 = bs[k]'(by omega) := by simp [List.getD, List.getElem?_eq_getElem (show k < bs.length by omega)]
      have hp := pow_small (k := k) (by omega)
      have hpn := pow_next k
      have a1 : a < 268435456 := by omega
      rw [hdrop] at hdec
      rw [hget] at hc
      generalize bs[k]'(by omega) = c at hc hdec
      have hc256 : c.toNat < 256 := c.toNat_lt
      clear hB hdrop hget
      by_cases hdig : 48 ≤ c.toNat ∧ c.toNat ≤ 57
      · have hx := hex_dig hdig
        obtain ⟨hd0, hd1⟩ := hdig

        have hF := num_on (base := 16) (n := a) (c := c) (r := bs.drop (k + 1)) (by omega)
        rw [hF, hx] at hdec
        have HN : Hid (0 ≤ a * 16 + ((c.toNat : Int) - 48) ∧ a * 16 + ((c.toNat : Int) - 48) < ((16 ^ (k + 1) : Nat) : Int) ∧ numF 16 0 bs = numF 16 (a * 16 + ((c.toNat : Int) - 48)) (bs.drop (k + 1))) := Lib.hid ⟨by omega, by omega, hdec⟩
        have iov : a * 16 + ((c.toNat : Int) - 48) < 18446744073709551616 := by omega
        clear hacc hF hdec hx hp hpn
        go_wp2
        refine ⟨⟨k + 1, a * 16 + ((c.toNat : Int) - 48), rfl, (by first | rfl | (congr 1; omega)), (by first | rfl | (congr 1; omega)), by omega, HN⟩, by simp [intOf]; omega⟩
      · by_cases h95 : c.toNat = 95
        · have h95' := fun w => low_any 95 w
          have hF := num_no (base := 16) (n := a) (c := c) (r := bs.drop (k + 1)) (.inl (by
            obtain rfl : c = 95 := UInt8.toNat.inj h95
            decide))
          rw [hF] at hdec
          have HN := Lib.hid (numT_no hdec)
          rw [h95] at hc
          clear hacc hdec hF hp hpn hdig h95
          go_wp2_with (go_at_call 85; refine (h95' _).mono ?_; rintro _ _ ⟨rfl, rfl⟩)
          go_ret2
          exact ⟨by rw [HN.out]; rfl, rfl⟩
        have e95 : ¬ (c.toNat : Int) = 95 := by omega
        clear h95
        have hlow := fun w => low_any c w
        have hlt := low_lt c hdig
        have hl1 := hex_low hdig
        have hl2 := hex_no hdig
        have hcd : (c.toNat : Int) < 48 ∨ 57 < (c.toNat : Int) := by omega
        generalize lowN c = lo at *
        clear hdig
        by_cases hlx : 97 ≤ lo ∧ lo ≤ 102
        · have hx := hl1 hlx
          have hF := num_on (base := 16) (n := a) (c := c) (r := bs.drop (k + 1)) (by omega)
          rw [hF, hx] at hdec
          have HN : Hid (0 ≤ a * 16 + ((lo : Int) - 87) ∧ a * 16 + ((lo : Int) - 87) < ((16 ^ (k + 1) : Nat) : Int) ∧ numF 16 0 bs = numF 16 (a * 16 + ((lo : Int) - 87)) (bs.drop (k + 1))) := Lib.hid ⟨by omega, by omega, hdec⟩
          have iov : a * 16 + ((lo : Int) - 87) < 18446744073709551616 := by omega
          have i1 : (97 : Int) ≤ (lo : Int) := by omega
          have i2 : (lo : Int) ≤ 102 := by omega
          have i3 : (lo : Int) ≤ 122 := by omega
          have e87 : (lo : Int) - 97 + 10 = (lo : Int) - 87 := by omega
          clear hacc hdec hF hl1 hl2 hlx hx hp hpn
          rcases hcd with hcd | hcd
          all_goals
            go_wp2_with (go_at_call 85; refine (hlow _).mono ?_; rintro _ _ ⟨rfl, rfl⟩)
            refine ⟨⟨k + 1, a * 16 + ((lo : Int) - 87), rfl, (by first | rfl | (congr 1; omega)), (by first | rfl | (congr 1; omega)), by omega, HN⟩, by simp [intOf]; omega⟩
        · have hF := num_no (base := 16) (n := a) (c := c) (r := bs.drop (k + 1)) (.inl (by have := hl2 (by omega); omega))
          rw [hF] at hdec
          have HN := Lib.hid (numT_no hdec)
          clear hacc hdec hF hl1 hl2 hp hpn
          by_cases hz : lo ≤ 122
          · by_cases hz2 : 97 ≤ lo
            · have i1 : (97 : Int) ≤ (lo : Int) := by omega
              have i2 : (lo : Int) ≤ 122 := by omega
              have i3 : 102 < (lo : Int) := by omega
              clear hlx hz hz2
              rcases hcd with hcd | hcd
              all_goals
                go_wp2_with (go_at_call 85; refine (hlow _).mono ?_; rintro _ _ ⟨rfl, rfl⟩)
                go_ret2
                exact ⟨by rw [HN.out]; rfl, rfl⟩
            · have i1 : (lo : Int) < 97 := by omega
              clear hlx hz hz2
              rcases hcd with hcd | hcd
              all_goals
                go_wp2_with (go_at_call 85; refine (hlow _).mono ?_; rintro _ _ ⟨rfl, rfl⟩)
                go_ret2
                exact ⟨by rw [HN.out]; rfl, rfl⟩
          · have i1 : (97 : Int) ≤ (lo : Int) := by omega
            have i2 : 122 < (lo : Int) := by omega
            clear hlx hz
            rcases hcd with hcd | hcd
            all_goals
              go_wp2_with (go_at_call 85; refine (hlow _).mono ?_; rintro _ _ ⟨rfl, rfl⟩)
              go_ret2
              exact ⟨by rw [HN.out]; rfl, rfl⟩
    · have hkk : k = t.size := by omega
      subst hkk
      have hF : numF 16 a (bs.drop t.size) = a := by rw [List.drop_eq_nil_of_le (by omega)]; rfl
      rw [hF] at hdec
      have HN := Lib.hid (numT_yes hdec a0)
      have hp := pow_le8 (k := t.size) (by omega)
      have a1 : a < 4294967296 := by omega
      clear hacc hF hdec hp
      go_wp2
      go_ret2
      exact ⟨by rw [HN.out]; rfl, rfl⟩

set_option maxHeartbeats 32000000 in
set_option maxRecDepth 100000 in
theorem parse_8 (t : ByteArray) (hne : t.size ≠ 0) (hmax : t.size ≤ 8) (w : World) :
    Calls Tryz.prog 83 #[.string t, .int .i64 8, .int .i64 64] w fun e w' => e = .returned (numT (numF 8 0 t.data.toList)) ∧ w' = Lib.bytesWorld w 5 t := by
  have hemp : t.toList.isEmpty = false := by
    rw [← decide_eq_emptyBytes]
    exact decide_eq_false (fun h => hne (by rw [h]; rfl))
  have hcv := Lib.run_convert_string_bytes (P := Tryz.prog) w 9 72 5 t (u := .string) (by kernel_rfl) (by kernel_rfl) (by kernel_rfl)
  have hB : ∀ j, j < t.size → (Lib.bytesWorld w 5 t).cell? ⟨w.heap.size, j, none⟩ = some (.int .u8 (t.data.toList.getD j 0).toNat) := fun j hj => Lib.bytesWorld_cell w 5 t j hj
  obtain ⟨W1, hW1⟩ : ∃ W1, W1 = Lib.bytesWorld w 5 t := ⟨_, rfl⟩
  rw [← hW1] at hcv hB ⊢
  clear hW1
  obtain ⟨bs, hL⟩ : ∃ bs, bs = t.data.toList := ⟨_, rfl⟩
  have hLn : bs.length = t.size := by rw [hL, Lib.size_eq]
  rw [← hL] at hB ⊢
  clear hL
  have hmv : IntKind.u64.wrap (IntKind.u64.wrap 18446744073709551616 - 1) = 18446744073709551615 := by
    rw [IntKind.wrap_u64, IntKind.wrap_u64]
    decide
  go_enter Tryz.func83, Tryz.ntmps83
  go_wp2
  go_loop [12, 13, 101] (fun vu vn vi => ∃ (k : Nat) (a : Int), vu = .bool false ∧ vn = .int .u64 a ∧ vi = .int .i64 k ∧ k ≤ t.size ∧ Hid (0 ≤ a ∧ a < ((16 ^ k : Nat) : Int) ∧ numF 8 0 bs = numF 8 a (bs.drop k)))
    (fun _ _ vi => t.size - (intOf vi).toNat)
  case atStart => exact ⟨0, 0, rfl, rfl, rfl, by omega, Lib.hid ⟨by omega, by simp, rfl⟩⟩
  case round =>
    obtain ⟨k, a, rfl, rfl, rfl, hk, hh⟩ := hrel
    obtain ⟨a0, hacc, hdec⟩ := hh.out
    clear hh
    by_cases hkn : k < t.size
    · have hc := hB k hkn
      have hdrop : bs.drop k = bs[k]'(by omega) :: bs.drop (k + 1) := List.drop_eq_getElem_cons (by omega)
      have hget : bs.getD k 0 = bs[k]'(by omega) := by simp [List.getD, List.getElem?_eq_getElem (show k < bs.length by omega)]
      have hp := pow_small (k := k) (by omega)
      have hpn := pow_next k
      have a1 : a < 268435456 := by omega
      rw [hdrop] at hdec
      rw [hget] at hc
      generalize bs[k]'(by omega) = c at hc hdec
      have hc256 : c.toNat < 256 := c.toNat_lt
      clear hB hdrop hget
      by_cases hdig : 48 ≤ c.toNat ∧ c.toNat ≤ 57
      · have hx := hex_dig hdig
        obtain ⟨hd0, hd1⟩ := hdig
        by_cases h8 : 56 ≤ c.toNat
        · have hF := num_no (base := 8) (n := a) (c := c) (r := bs.drop (k + 1)) (.inr (by omega))
          rw [hF] at hdec
          have HN := Lib.hid (numT_no hdec)
          clear hacc hdec hF hx hp hpn
          go_wp2
          go_ret2
          exact ⟨by rw [HN.out]; rfl, rfl⟩
        have hF := num_on (base := 8) (n := a) (c := c) (r := bs.drop (k + 1)) (by omega)
        rw [hF, hx] at hdec
        have HN : Hid (0 ≤ a * 8 + ((c.toNat : Int) - 48) ∧ a * 8 + ((c.toNat : Int) - 48) < ((16 ^ (k + 1) : Nat) : Int) ∧ numF 8 0 bs = numF 8 (a * 8 + ((c.toNat : Int) - 48)) (bs.drop (k + 1))) := Lib.hid ⟨by omega, by omega, hdec⟩
        have iov : a * 8 + ((c.toNat : Int) - 48) < 18446744073709551616 := by omega
        clear hacc hF hdec hx hp hpn
        go_wp2
        refine ⟨⟨k + 1, a * 8 + ((c.toNat : Int) - 48), rfl, (by first | rfl | (congr 1; omega)), (by first | rfl | (congr 1; omega)), by omega, HN⟩, by simp [intOf]; omega⟩
      · by_cases h95 : c.toNat = 95
        · have h95' := fun w => low_any 95 w
          have hF := num_no (base := 8) (n := a) (c := c) (r := bs.drop (k + 1)) (.inl (by
            obtain rfl : c = 95 := UInt8.toNat.inj h95
            decide))
          rw [hF] at hdec
          have HN := Lib.hid (numT_no hdec)
          rw [h95] at hc
          clear hacc hdec hF hp hpn hdig h95
          go_wp2_with (go_at_call 85; refine (h95' _).mono ?_; rintro _ _ ⟨rfl, rfl⟩)
          go_ret2
          exact ⟨by rw [HN.out]; rfl, rfl⟩
        have e95 : ¬ (c.toNat : Int) = 95 := by omega
        clear h95
        have hlow := fun w => low_any c w
        have hlt := low_lt c hdig
        have hl1 := hex_low hdig
        have hl2 := hex_no hdig
        have hcd : (c.toNat : Int) < 48 ∨ 57 < (c.toNat : Int) := by omega
        generalize lowN c = lo at *
        clear hdig
        by_cases hlx : 97 ≤ lo ∧ lo ≤ 102
        · have hx := hl1 hlx
          have hF := num_no (base := 8) (n := a) (c := c) (r := bs.drop (k + 1)) (.inr (by omega))
          rw [hF] at hdec
          have HN := Lib.hid (numT_no hdec)
          have i1 : (97 : Int) ≤ (lo : Int) := by omega
          have i2 : (lo : Int) ≤ 102 := by omega
          have i3 : (lo : Int) ≤ 122 := by omega
          clear hacc hdec hF hl1 hl2 hlx hx hp hpn
          rcases hcd with hcd | hcd
          all_goals
            go_wp2_with (go_at_call 85; refine (hlow _).mono ?_; rintro _ _ ⟨rfl, rfl⟩)
            go_ret2
            exact ⟨by rw [HN.out]; rfl, rfl⟩
        · have hF := num_no (base := 8) (n := a) (c := c) (r := bs.drop (k + 1)) (.inl (by have := hl2 (by omega); omega))
          rw [hF] at hdec
          have HN := Lib.hid (numT_no hdec)
          clear hacc hdec hF hl1 hl2 hp hpn
          by_cases hz : lo ≤ 122
          · by_cases hz2 : 97 ≤ lo
            · have i1 : (97 : Int) ≤ (lo : Int) := by omega
              have i2 : (lo : Int) ≤ 122 := by omega
              have i3 : 102 < (lo : Int) := by omega
              clear hlx hz hz2
              rcases hcd with hcd | hcd
              all_goals
                go_wp2_with (go_at_call 85; refine (hlow _).mono ?_; rintro _ _ ⟨rfl, rfl⟩)
                go_ret2
                exact ⟨by rw [HN.out]; rfl, rfl⟩
            · have i1 : (lo : Int) < 97 := by omega
              clear hlx hz hz2
              rcases hcd with hcd | hcd
              all_goals
                go_wp2_with (go_at_call 85; refine (hlow _).mono ?_; rintro _ _ ⟨rfl, rfl⟩)
                go_ret2
                exact ⟨by rw [HN.out]; rfl, rfl⟩
          · have i1 : (97 : Int) ≤ (lo : Int) := by omega
            have i2 : 122 < (lo : Int) := by omega
            clear hlx hz
            rcases hcd with hcd | hcd
            all_goals
              go_wp2_with (go_at_call 85; refine (hlow _).mono ?_; rintro _ _ ⟨rfl, rfl⟩)
              go_ret2
              exact ⟨by rw [HN.out]; rfl, rfl⟩
    · have hkk : k = t.size := by omega
      subst hkk
      have hF : numF 8 a (bs.drop t.size) = a := by rw [List.drop_eq_nil_of_le (by omega)]; rfl
      rw [hF] at hdec
      have HN := Lib.hid (numT_yes hdec a0)
      have hp := pow_le8 (k := t.size) (by omega)
      have a1 : a < 4294967296 := by omega
      clear hacc hF hdec hp
      go_wp2
      go_ret2
      exact ⟨by rw [HN.out]; rfl, rfl⟩
end Go.Proofs.YtinaeegijmkbhaaGreatDoor
