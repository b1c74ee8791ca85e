/-
  The document's own scanner: letters, digits, numbers, lines, runes.
-/
import Derived.Test.YtinaeegijmkbhaaGreatDoorQ0
import Derived.Test.YtinaeegijmkbhaaGreatDoorQ1
import Derived.IntWalk
set_option linter.unusedVariables false
namespace Go.Proofs.YtinaeegijmkbhaaGreatDoor
open Go.RowKit Go.Shelf

set_option maxRecDepth 100000 in
set_option maxHeartbeats 400000 in
theorem rdig_any (c : UInt8) (w : World) :
    Calls Tryz.prog 27 #[.int .u8 (c.toNat : Int)] w fun e w' => e = .returned (.bool (digB c)) ∧ w = w' := by
  go_enter Tryz.func27, Tryz.ntmps27
  go_wp2
  all_goals
    go_ret
    refine ⟨ret_bool ?_, rfl⟩
    rw [Bool.eq_iff_iff]
    simp [digB]
    try omega

theorem hexV_1 {c : UInt8} (h : digB c = true) : hexV c = (c.toNat : Int) - 48 := by simp [hexV, h]
theorem hexV_2 {c : UInt8} (h : digB c = false) (k : 97 ≤ (c.toNat : Int) ∧ (c.toNat : Int) ≤ 102) : hexV c = (c.toNat : Int) - 87 := by
  have k' : 97 ≤ c.toNat ∧ c.toNat ≤ 102 := by omega
  simp [hexV, h, k']
theorem hexV_3 {c : UInt8} (h : digB c = false) (k : 65 ≤ (c.toNat : Int) ∧ (c.toNat : Int) ≤ 70) : hexV c = (c.toNat : Int) - 55 := by
  have k' : 65 ≤ c.toNat ∧ c.toNat ≤ 70 := by omega
  have k'' : ¬ (97 ≤ c.toNat ∧ c.toNat ≤ 102) := by omega
  simp only [hexV, h, if_neg k'', if_pos k']; simp
theorem hexV_4 {c : UInt8} (h : digB c = false) (k : ¬ (97 ≤ (c.toNat : Int) ∧ (c.toNat : Int) ≤ 102)) (l : ¬ (65 ≤ (c.toNat : Int) ∧ (c.toNat : Int) ≤ 70)) : hexV c = -1 := by
  have k' : ¬ (97 ≤ c.toNat ∧ c.toNat ≤ 102) := by omega
  have l' : ¬ (65 ≤ c.toNat ∧ c.toNat ≤ 70) := by omega
  simp only [hexV, h, if_neg k', if_neg l']; simp

set_option maxRecDepth 100000 in
set_option maxHeartbeats 400000 in
theorem rhex_any (c : UInt8) (w : World) :
    Calls Tryz.prog 56 #[.int .u8 (c.toNat : Int)] w fun e w' => e = .returned (.int .i64 (hexV c)) ∧ w = w' := by
  have hlt := c.toNat_lt
  cases hd : digB c
  · have H2 := Lib.hid (fun k => hexV_2 (c := c) hd k)
    have H3 := Lib.hid (fun k => hexV_3 (c := c) hd k)
    have H4 := Lib.hid (fun k l => hexV_4 (c := c) hd k l)
    go_enter Tryz.func56, Tryz.ntmps56
    go_wp2_with fail
    refine (rdig_any _ _).mono ?_
    rintro _ w' ⟨rfl, rfl⟩
    rw [hd]
    clear hd
    by_cases k : 97 ≤ (c.toNat : Int) ∧ (c.toNat : Int) ≤ 102
    · obtain ⟨k1, k2⟩ := k
      have HH := Lib.hid (H2.out ⟨k1, k2⟩)
      go_wp2
      go_ret
      exact ⟨ret_int (by rw [HH.out]; omega), rfl⟩
    · by_cases l : 65 ≤ (c.toNat : Int) ∧ (c.toNat : Int) ≤ 70
      · obtain ⟨l1, l2⟩ := l
        have HH := Lib.hid (H3.out ⟨l1, l2⟩)
        have k1 : ¬ 97 ≤ (c.toNat : Int) := by omega
        go_wp2
        go_ret
        exact ⟨ret_int (by rw [HH.out]; omega), rfl⟩
      · have HH := Lib.hid (H4.out k l)
        go_wp2
        all_goals first | omega | skip
        all_goals
          go_ret
          exact ⟨ret_int HH.out.symm, rfl⟩
  · have HH := Lib.hid (hexV_1 hd)
    have hb : 48 ≤ c.toNat ∧ c.toNat ≤ 57 := by simpa [digB] using hd
    obtain ⟨b1, b2⟩ := hb
    go_enter Tryz.func56, Tryz.ntmps56
    go_wp2_with fail
    refine (rdig_any _ _).mono ?_
    rintro _ w' ⟨rfl, rfl⟩
    rw [hd]
    clear hd
    go_wp2
    go_ret
    exact ⟨ret_int HH.out.symm, rfl⟩

/-! Numbers. -/
theorem hexV_le (c : UInt8) : hexV c ≤ 15 := by
  unfold hexV
  split
  · rename_i h
    have : 48 ≤ c.toNat ∧ c.toNat ≤ 57 := by simpa [digB] using h
    omega
  · split
    · omega
    · split <;> omega
theorem hexV_ge (c : UInt8) : -1 ≤ hexV c := by
  unfold hexV
  split
  · rename_i h
    have : 48 ≤ c.toNat ∧ c.toNat ≤ 57 := by simpa [digB] using h
    omega
  · split
    · omega
    · split <;> omega
theorem numL_short {many : Nat} {base : Int} {l : List UInt8} (h : l.length < many) : numL many base l = -1 := by simp [numL, h]
theorem numL_long {many : Nat} {base : Int} {l : List UInt8} (h : many ≤ l.length) : numL many base l = numF base 0 (l.take many) := by
  unfold numL; rw [if_neg (by omega)]
/-- How far a number has come. -/
def NumTo (s : ByteArray) (many : Nat) (base n : Int) (k : Nat) : Prop := numL many base s.data.toList = numF base n ((s.data.toList.take many).drop k)
theorem NumTo.start {s : ByteArray} {many : Nat} {base : Int} (h : many ≤ s.size) : NumTo s many base 0 0 := numL_long (by rw [size_data]; exact h)
theorem take_drop_get {s : ByteArray} {many k : Nat} (h : many ≤ s.size) (hk : k < many) : (s.data.toList.take many).drop k = s[k]'(by omega) :: (s.data.toList.take many).drop (k + 1) := by
  have hl : k < (s.data.toList.take many).length := by rw [List.length_take, size_data]; omega
  rw [List.drop_eq_getElem_cons hl, List.getElem_take, get_list s k (by omega)]
theorem NumTo.on {s : ByteArray} {many : Nat} {base n : Int} {k : Nat} (h : NumTo s many base n k) (hm : many ≤ s.size) (hk : k < many) (h1 : 0 ≤ hexV (s[k]'(by omega))) (h2 : hexV (s[k]'(by omega)) < base) : NumTo s many base (n * base + hexV (s[k]'(by omega))) (k + 1) := by
  unfold NumTo at h ⊢
  rw [h, take_drop_get hm hk, numF, if_neg (by omega)]
theorem NumTo.no {s : ByteArray} {many : Nat} {base n : Int} {k : Nat} (h : NumTo s many base n k) (hm : many ≤ s.size) (hk : k < many) (h1 : hexV (s[k]'(by omega)) < 0 ∨ base ≤ hexV (s[k]'(by omega))) : numL many base s.data.toList = -1 := by
  unfold NumTo at h
  rw [h, take_drop_get hm hk, numF, if_pos (by omega)]
theorem NumTo.done {s : ByteArray} {many : Nat} {base n : Int} {k : Nat} (h : NumTo s many base n k) (hk : many ≤ k) : numL many base s.data.toList = n := by
  unfold NumTo at h
  rw [h, List.drop_of_length_le (by rw [List.length_take]; omega)]; rfl

set_option maxRecDepth 100000 in
set_option maxHeartbeats 800000 in
theorem rnum_any (s : ByteArray) (many : Nat) (base : Int) (hs : s.size ≤ 20400) (hm : many ≤ 8) (hb : 2 ≤ base) (hb' : base ≤ 16) (w : World) :
    Calls Tryz.prog 43 #[.string s, .int .i64 (many : Int), .int .i64 base] w fun e w' => e = .returned (.int .i64 (numL many base s.data.toList)) ∧ w = w' := by
  have HC := Lib.hid rhex_any
  by_cases hl : many ≤ s.size
  · have H0 := Lib.hid (NumTo.start (base := base) hl)
    go_enter Tryz.func43, Tryz.ntmps43
    go_wp2
    simp only [decide_eq_false (show ¬ s.size < many by omega)]
    go_loop [7, 8] (fun n i => ∃ (k : Nat) (v : Int), k ≤ many ∧ n = .int .i64 v ∧ i = .int .i64 k ∧ 0 ≤ v ∧ v < 16 ^ k ∧ NumTo s many base v k) (fun _ i => many - (intOf i).toNat)
    case atStart => exact ⟨0, 0, Nat.zero_le _, rfl, rfl, by omega, by decide, H0.out⟩
    case round =>
      obtain ⟨k, v, hk, rfl, rfl, hv0, hv1, hN⟩ := hrel
      have HN := Lib.hid hN
      clear hN H0
      by_cases hlt : k < many
      · have hks : k < s.size := by omega
        have hi : (k : Int) < (s.size : Int) := by omega
        have hv2 : v < 16 ^ 7 := by
          refine Int.lt_of_lt_of_le hv1 ?_
          exact_mod_cast Nat.pow_le_pow_right (by decide : 0 < 16) (show k ≤ 7 by omega)
        have H1 := Lib.hid (HN.out.on hl hlt)
        have H2 := Lib.hid (HN.out.no hl hlt)
        have hle := hexV_le (s[k]'hks)
        have hge := hexV_ge (s[k]'hks)
        go_wp2_with fail
        refine (HC.out _ _).mono ?_
        rintro _ w' ⟨rfl, rfl⟩
        generalize hexV (s[k]'hks) = d at *
        have hp0 : 0 ≤ v * base := Int.mul_nonneg hv0 (by omega)
        have hp1 : v * base ≤ 16 ^ 7 * 16 := Int.le_trans (Int.mul_le_mul_of_nonneg_right (Int.le_of_lt hv2) (by omega)) (Int.mul_le_mul_of_nonneg_left hb' (by decide))
        have hp2 : v * base + d < 16 ^ (k + 1) ∨ ¬ d < base := by
          by_cases hd : d < base
          · left
            have e1 : (v + 1) * base ≤ 16 ^ k * 16 := Int.le_trans (Int.mul_le_mul_of_nonneg_right (show v + 1 ≤ 16 ^ k by omega) (by omega)) (Int.mul_le_mul_of_nonneg_left hb' (by have : (0 : Int) ≤ v := hv0; omega))
            rw [Int.add_mul] at e1
            rw [show (16 : Int) ^ (k + 1) = 16 ^ k * 16 from Int.pow_succ ..]
            omega
          · exact .inr hd
        have HP := Lib.hid hp2
        clear hp2 hv1
        have w1 : IntKind.i64.wrap (v * base) = v * base := IntWalk.i64_in _ ⟨by omega, by omega⟩
        have w2 : IntKind.i64.wrap (v * base + d) = v * base + d := IntWalk.i64_in _ ⟨by omega, by omega⟩
        by_cases h0 : d < 0
        · have HH := Lib.hid (H2.out (.inl h0))
          clear HP H1 H2
          go_wp2
          go_ret
          exact ⟨ret_int HH.out.symm, rfl⟩
        · by_cases h1 : base ≤ d
          · have HH := Lib.hid (H2.out (.inr h1))
            clear HP H1 H2
            go_wp2
            go_ret
            exact ⟨ret_int HH.out.symm, rfl⟩
          · have HH := Lib.hid (H1.out (by omega) (by omega))
            have HV := Lib.hid (show v * base + d < 16 ^ (k + 1) from HP.out.resolve_right (by omega))
            clear HP H1 H2
            go_wp2
            go_round
            case rel => exact ⟨k + 1, v * base + d, by omega, by go_num, by go_num, by omega, HV.out, HH.out⟩
            case measure => simp [intOf]; omega
      · obtain rfl : k = many := by omega
        have HH := Lib.hid (HN.out.done (Nat.le_refl _))
        go_wp2
        go_ret
        exact ⟨ret_int HH.out.symm, rfl⟩
  · have HH := Lib.hid (numL_short (base := base) (l := s.data.toList) (show _ < many by rw [size_data]; omega))
    go_enter Tryz.func43, Tryz.ntmps43
    go_wp2
    go_ret
    exact ⟨ret_int HH.out.symm, rfl⟩
end Go.Proofs.YtinaeegijmkbhaaGreatDoor
