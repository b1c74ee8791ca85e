/-
  The document's own digits, numbers, search and split.
-/
import Derived.Test.YtmdlmjcejeejfaaGreatDoorP3
namespace Go.Proofs.YtmdlmjcejeejfaaGreatDoor
open Go.RowKit Go.Shelf

set_option maxRecDepth 100000 in
set_option maxHeartbeats 400000 in
theorem rdigit_any (c : UInt8) (w : World) :
    Calls Tryz.prog 134 #[.int .u8 (c.toNat : Int)] w fun e w' => e = .returned (.bool (dig c)) ∧ w = w' := by
  go_enter Tryz.func134, Tryz.ntmps134
  go_wp2
  all_goals
    go_ret
    refine ⟨ret_bool ?_, rfl⟩
    rw [Bool.eq_iff_iff]
    simp [dig]
    try omega

set_option maxRecDepth 100000 in
set_option maxHeartbeats 400000 in
theorem rdigits_any (s : ByteArray) (hs : s.size ≤ 20400) (w : World) :
    Calls Tryz.prog 86 #[.string s] w fun e w' => e = .returned (.bool (digs s.data.toList)) ∧ w = w' := by
  have HC := Lib.hid rdigit_any
  go_enter Tryz.func86, Tryz.ntmps86
  go_wp2
  go_loop [3] (fun i => ∃ k : Nat, k ≤ s.size ∧ i = .int .i64 k ∧ allTo s dig k = true) (fun i => s.size - (intOf i).toNat)
  case atStart => exact ⟨0, Nat.zero_le _, rfl, rfl⟩
  case round =>
    obtain ⟨k, hk, rfl, hl⟩ := hrel
    have H := Lib.hid hl
    clear hl
    by_cases hlt : k < s.size
    · go_wp2_with fail
      refine (HC.out _ _).mono ?_
      rintro _ w' ⟨rfl, rfl⟩
      cases hp : dig s[k]
      · go_wp2
        go_ret
        exact ⟨ret_bool (allL_no (all_no hlt hp)).symm, rfl⟩
      · go_wp2
        go_round
        case rel => exact ⟨k + 1, by omega, by go_num, all_yes hlt H.out hp⟩
        case measure => simp [intOf]; omega
    · have HA := Lib.hid (all_end (by omega) H.out)
      cases hn : s.toList.isEmpty
      · have HH := Lib.hid (allL_yes HA.out hn)
        go_wp2
        go_ret
        exact ⟨ret_bool HH.out.symm, rfl⟩
      · have HH := Lib.hid (allL_nil (p := dig) hn)
        go_wp2
        go_ret
        exact ⟨ret_bool HH.out.symm, rfl⟩

/-- The place of the first d, or the length. -/
def findN (d : UInt8) (l : List UInt8) : Nat := (headL d l).length
def FindAt (s : ByteArray) (d : UInt8) (k : Nat) : Prop := findN d s.data.toList = k + findN d (s.data.toList.drop k)
theorem drop_get (s : ByteArray) (k : Nat) (h : k < s.size) : s.data.toList.drop k = s[k] :: s.data.toList.drop (k + 1) := by
  rw [List.drop_eq_getElem_cons (by rw [size_data]; exact h), get_list s k h]
theorem FindAt.yes {s : ByteArray} {d : UInt8} {k : Nat} (h : FindAt s d k) (hk : k < s.size) (e : ((s[k].toNat : Int) == (d.toNat : Int)) = true) : findN d s.data.toList = k := by
  have e' : s[k] = d := UInt8.toNat.inj (by have := eq_of_beq e; omega)
  rw [h, drop_get s k hk, findN, headL, if_pos e']; rfl
theorem FindAt.no {s : ByteArray} {d : UInt8} {k : Nat} (h : FindAt s d k) (hk : k < s.size) (e : ((s[k].toNat : Int) == (d.toNat : Int)) = false) : FindAt s d (k + 1) := by
  have e' : s[k] ≠ d := fun x => by rw [x] at e; simp at e
  unfold FindAt
  rw [h, drop_get s k hk, findN, headL, if_neg e', findN]; simp; omega
theorem FindAt.done {s : ByteArray} {d : UInt8} {k : Nat} (h : FindAt s d k) (hk : k = s.size) : findN d s.data.toList = s.size := by
  rw [h, hk, List.drop_of_length_le (by rw [size_data]; omega)]; rfl

set_option maxRecDepth 100000 in
set_option maxHeartbeats 400000 in
theorem rfind_any (s : ByteArray) (d : UInt8) (hs : s.size ≤ 20400) (w : World) :
    Calls Tryz.prog 83 #[.string s, .int .u8 (d.toNat : Int)] w fun e w' => e = .returned (.int .i64 (findN d s.data.toList : Nat)) ∧ w = w' := by
  go_enter Tryz.func83, Tryz.ntmps83
  go_wp2
  go_loop [5] (fun i => ∃ k : Nat, k ≤ s.size ∧ i = .int .i64 k ∧ FindAt s d k) (fun i => s.size - (intOf i).toNat)
  case atStart => exact ⟨0, Nat.zero_le _, rfl, by simp [FindAt]⟩
  case round =>
    obtain ⟨k, hk, rfl, hl⟩ := hrel
    have H := Lib.hid hl
    clear hl
    by_cases hlt : k < s.size
    · cases hp : ((s[k].toNat : Int) == (d.toNat : Int))
      · have HH := Lib.hid (H.out.no hlt hp)
        go_wp2
        go_round
        case rel => exact ⟨k + 1, by omega, by go_num, HH.out⟩
        case measure => simp [intOf]; omega
      · have HH := Lib.hid (H.out.yes hlt hp)
        go_wp2
        go_ret
        exact ⟨ret_int (by rw [HH.out]), rfl⟩
    · have HH := Lib.hid (H.out.done (by omega))
      go_wp2
      go_ret
      exact ⟨ret_int (by rw [HH.out]), rfl⟩

def numR (l : List UInt8) : Int := if numOk l then (numV l : Int) else -1
theorem numR_no {l : List UInt8} (h : numOk l = false) : numR l = -1 := by simp [numR, h]
theorem numR_yes {l : List UInt8} (h : numOk l = true) : numR l = numV l := by simp [numR, h]
def NumAt (s : ByteArray) (k n : Nat) : Prop := n = numV (s.data.toList.take k) ∧ n < 10 ^ k
theorem numV_snoc (l : List UInt8) (c : UInt8) : numV (l ++ [c]) = 10 * numV l + (c.toNat - 48) := by simp [numV]
theorem NumAt.on {s : ByteArray} {k n : Nat} (h : NumAt s k n) (hk : k < s.size) (hc : dig s[k] = true) : NumAt s (k + 1) (10 * n + (s[k].toNat - 48)) := by
  have hd : 48 ≤ s[k].toNat ∧ s[k].toNat ≤ 57 := by simpa [dig] using hc
  refine ⟨by rw [take_snoc s k hk, numV_snoc, ← h.1], ?_⟩
  have := h.2
  rw [Nat.pow_succ]; omega
theorem digs_at {s : ByteArray} (h : digs s.data.toList = true) (k : Nat) (hk : k < s.size) : dig s[k] = true := by
  unfold digs allL at h
  rw [Bool.and_eq_true, List.all_eq_true] at h
  exact h.2 _ (mem_data s k hk)

set_option maxRecDepth 100000 in
set_option maxHeartbeats 800000 in
theorem rnumber_any (s : ByteArray) (hs : s.size ≤ 20400) (w : World) :
    Calls Tryz.prog 85 #[.string s] w fun e w' => e = .returned (.int .i64 (numR s.data.toList)) ∧ w = w' := by
  cases hd : digs s.data.toList
  · have H := Lib.hid (numR_no (num_2 hd))
    go_enter Tryz.func85, Tryz.ntmps85
    go_wp2_with fail
    refine (rdigits_any s hs _).mono ?_
    rintro _ w' ⟨rfl, rfl⟩
    rw [hd]
    go_wp2
    go_ret
    exact ⟨ret_int H.out.symm, rfl⟩
  · by_cases h9 : s.size ≤ 9
    · cases hn : nought s.data.toList
      · have H := Lib.hid (numR_yes (num_4 (by rw [size_data]; exact h9) hd hn))
        have HD := Lib.hid hd
        have tst : ¬ 1 < s.size ∨ ∃ h : 1 < s.size, ((s[0].toNat : Int) == 48) = false := by
          by_cases h1 : 1 < s.size
          · refine .inr ⟨h1, ?_⟩
            cases k : ((s[0].toNat : Int) == 48)
            · rfl
            · rw [nought_2 h1 k] at hn; cases hn
          · exact .inl h1
        clear hn
        go_enter Tryz.func85, Tryz.ntmps85
        go_wp2_with fail
        refine (rdigits_any s hs _).mono ?_
        rintro _ w' ⟨rfl, rfl⟩
        rw [hd]
        clear hd
        rcases tst with h1 | ⟨h1, h2⟩
        all_goals
          go_wp2
          go_loop [3, 4] (fun n i => ∃ k m : Nat, k ≤ s.size ∧ n = .int .i64 m ∧ i = .int .i64 k ∧ NumAt s k m) (fun _ i => s.size - (intOf i).toNat)
          case atStart => exact ⟨0, 0, Nat.zero_le _, rfl, rfl, rfl, by decide⟩
          case round =>
            obtain ⟨k, m, hk, rfl, rfl, hl⟩ := hrel
            have HL := Lib.hid hl
            clear hl
            by_cases hlt : k < s.size
            · have HH := Lib.hid (HL.out.on hlt (digs_at HD.out k hlt))
              have hlo : 48 ≤ s[k].toNat ∧ s[k].toNat ≤ 57 := by simpa [dig] using digs_at HD.out k hlt
              have hm : m < 1000000000 := Nat.lt_of_lt_of_le HL.out.2 (Nat.le_trans (Nat.pow_le_pow_right (by decide) (show k ≤ 9 by omega)) (by decide))
              obtain ⟨hlo, hhi⟩ := hlo
              go_wp2
              go_round
              case rel => exact ⟨k + 1, _, by omega, by go_num, by go_num, HH.out⟩
              case measure => simp [intOf]; omega
            · have hk' : k = s.size := by omega
              have HH := Lib.hid (show (m : Int) = numR s.data.toList by rw [H.out, HL.out.1, hk', List.take_of_length_le (by rw [size_data]; omega)])
              clear hk'
              go_wp2
              go_ret
              exact ⟨ret_int HH.out, rfl⟩
      · have H := Lib.hid (numR_no (num_3 hn))
        have h1 : 1 < s.size := by
          by_cases h1 : 1 < s.size
          · exact h1
          · rw [nought_1 h1] at hn; cases hn
        have h2 : ((s[0].toNat : Int) == 48) = true := by
          cases k : ((s[0].toNat : Int) == 48)
          · rw [nought_2 h1 k] at hn; cases hn
          · rfl
        clear hn
        go_enter Tryz.func85, Tryz.ntmps85
        go_wp2_with fail
        refine (rdigits_any s hs _).mono ?_
        rintro _ w' ⟨rfl, rfl⟩
        rw [hd]
        go_wp2
        go_ret
        exact ⟨ret_int H.out.symm, rfl⟩
    · have H := Lib.hid (numR_no (num_1 (l := s.data.toList) (by rw [size_data]; exact h9)))
      go_enter Tryz.func85, Tryz.ntmps85
      go_wp2_with fail
      refine (rdigits_any s hs _).mono ?_
      rintro _ w' ⟨rfl, rfl⟩
      rw [hd]
      go_wp2
      go_ret
      exact ⟨ret_int H.out.symm, rfl⟩
end Go.Proofs.YtmdlmjcejeejfaaGreatDoor
