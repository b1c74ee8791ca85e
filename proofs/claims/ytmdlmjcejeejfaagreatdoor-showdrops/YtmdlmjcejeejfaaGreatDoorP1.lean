/-
  What semver's small functions tell: the cut at one sign, the wish for signs of spans (a closure), 'all' over it.
-/
import Derived.Test.YtmdlmjcejeejfaaGreatDoorW6
import Derived.Test.YtmdlmjcejeejfaaGreatDoorS1
namespace Go.Proofs.YtmdlmjcejeejfaaGreatDoor
open Go.RowKit Go.Shelf

theorem index_casesD (d : UInt8) (s : ByteArray) : Lib.indexByte s.data.toList d = -1 ∨ ∃ k : Nat, Lib.indexByte s.data.toList d = k := by
  have := Lib.indexByte_ge s.data.toList d
  by_cases h : Lib.indexByte s.data.toList d = -1
  · exact .inl h
  · exact .inr ⟨(Lib.indexByte s.data.toList d).toNat, by omega⟩

set_option maxRecDepth 100000 in
set_option maxHeartbeats 400000 in
theorem lcutD_any (d : UInt8) (s : ByteArray) (w : World) (hs : s.size ≤ 20400) :
    Calls Tryz.prog 135 #[.string s, .string ⟨#[d]⟩] w fun e w' => e = .returned (.tuple #[.string (cutD d s).1, .string (cutD d s).2.1, .bool (cutD d s).2.2]) ∧ ∃ n, w' = w.drewN n := by
  rcases index_casesD d s with h | ⟨k, h⟩
  · have J := Lib.hid (cutD_no h)
    go_enter Tryz.func135, Tryz.ntmps135
    go_wp2_with fail
    refine (idx_any _ _ _).mono ?_
    rintro _ w' ⟨rfl, rfl⟩
    rw [h]
    clear h
    go_wp2
    go_ret3
    exact ⟨ret_ssb (a := (s, ⟨#[]⟩, false)) J.out.symm, 0, rfl⟩
  · have J := Lib.hid (cutD_yes h)
    have hlt := (partsD_cut h).1
    go_enter Tryz.func135, Tryz.ntmps135
    go_wp2_with fail
    refine (idx_any _ _ _).mono ?_
    rintro _ w' ⟨rfl, rfl⟩
    rw [h]
    clear h
    go_wp2
    go_quiet (fail)
    go_wp2
    go_ret3
    exact ⟨ret_ssb (a := (s.extract 0 k, s.extract (k + 1) s.size, true)) J.out.symm, _, rfl⟩

set_option maxRecDepth 100000 in
set_option maxHeartbeats 400000 in
theorem cutD_any (d : UInt8) (s : ByteArray) (w : World) (hs : s.size ≤ 20400) :
    Calls Tryz.prog 87 #[.string s, .string ⟨#[d]⟩] w fun e w' => e = .returned (.tuple #[.string (cutD d s).1, .string (cutD d s).2.1, .bool (cutD d s).2.2]) ∧ ∃ n, w' = w.drewN n := by
  go_enter Tryz.func87, Tryz.ntmps87
  go_wp2_with (go_at_call 135; refine (lcutD_any _ _ _ hs).mono ?_; rintro e w' ⟨rfl, n1, rfl⟩)
  go_ret3
  exact ⟨rfl, _, rfl⟩

theorem get_list (s : ByteArray) (k : Nat) (h : k < s.size) (h' : k < s.data.toList.length) : s.data.toList[k] = s[k] := by
  have := get_data s k h
  rw [List.getElem?_eq_getElem h'] at this
  exact Option.some.inj this
theorem inSp_on {s : ByteArray} {j : Nat} {c : UInt8} (h : j + 1 < s.size) : inSp (s.data.toList.drop j) c = (decide (s[j].toNat ≤ c.toNat) && decide (c.toNat ≤ s[j + 1].toNat) || inSp (s.data.toList.drop (j + 2)) c) := by
  have hl : j + 1 < s.data.toList.length := by rw [size_data]; exact h
  rw [List.drop_eq_getElem_cons (by omega), List.drop_eq_getElem_cons (i := j + 1) hl, inSp, get_list s j (by omega), get_list s (j + 1) h]

/-- How far the wish has come. -/
def SpAt (s : ByteArray) (c : UInt8) (j : Nat) : Prop := j % 2 = 0 ∧ inSp (s.data.toList.drop j) c = inSp s.data.toList c
theorem SpAt.yes {s : ByteArray} {c : UInt8} {j : Nat} (h : SpAt s c j) (hk : j + 1 < s.size) (h1 : (s[j].toNat : Int) ≤ c.toNat) (h2 : (c.toNat : Int) ≤ s[j + 1].toNat) : inSp s.data.toList c = true := by
  have h1' : s[j].toNat ≤ c.toNat := by omega
  have h2' : c.toNat ≤ s[j + 1].toNat := by omega
  rw [← h.2, inSp_on hk]; simp [h1', h2']
theorem SpAt.no1 {s : ByteArray} {c : UInt8} {j : Nat} (h : SpAt s c j) (hk : j + 1 < s.size) (h1 : ¬ (s[j].toNat : Int) ≤ c.toNat) : SpAt s c (j + 2) := by
  have h1' : ¬ s[j].toNat ≤ c.toNat := by omega
  refine ⟨by have := h.1; omega, ?_⟩
  rw [← h.2, inSp_on hk]; simp [h1']
theorem SpAt.no2 {s : ByteArray} {c : UInt8} {j : Nat} (h : SpAt s c j) (hk : j + 1 < s.size) (h1 : ¬ (c.toNat : Int) ≤ s[j + 1].toNat) : SpAt s c (j + 2) := by
  have h1' : ¬ c.toNat ≤ s[j + 1].toNat := by omega
  refine ⟨by have := h.1; omega, ?_⟩
  rw [← h.2, inSp_on hk]; simp [h1']
theorem SpAt.done {s : ByteArray} {c : UInt8} {j : Nat} (h : SpAt s c j) (hk : s.size ≤ j) : inSp s.data.toList c = false := by
  rw [← h.2, List.drop_of_length_le (by rw [size_data]; exact hk)]; rfl

set_option maxRecDepth 100000 in
set_option maxHeartbeats 400000 in
theorem within1_any (s : ByteArray) (m : Nat) (hs : s.size = 2 * m) (hm : s.size ≤ 100) (c : UInt8) (p : Addr) (w : World) (hc : w.cell? p = some (.string s)) :
    Calls Tryz.prog 199 #[.int .u8 (c.toNat : Int), .pointer (some p)] w fun e w' => e = .returned (.bool (inSp s.data.toList c)) ∧ w = w' := by
  have HS := Lib.hid hs
  clear hs
  go_enter Tryz.func199, Tryz.ntmps199
  go_wp2
  go_loop [4] (fun i => ∃ j : Nat, j ≤ s.size ∧ i = .int .i64 (j : Int) ∧ SpAt s c j) (fun i => s.size + 2 - (intOf i).toNat)
  case atStart => exact ⟨0, Nat.zero_le _, rfl, rfl, rfl⟩
  case round =>
    obtain ⟨j, hk, rfl, hl⟩ := hrel
    have H := Lib.hid hl
    clear hl
    by_cases hlt : j < s.size
    · have hlt1 : j + 1 < s.size := by have := HS.out; have := H.out.1; omega
      by_cases h1 : (s[j].toNat : Int) ≤ (c.toNat : Int)
      · by_cases h2 : (c.toNat : Int) ≤ (s[j + 1].toNat : Int)
        · have HH := Lib.hid (H.out.yes hlt1 h1 h2)
          go_wp2
          go_ret
          exact ⟨ret_bool HH.out.symm, rfl⟩
        · have HH := Lib.hid (H.out.no2 hlt1 h2)
          go_wp2
          go_round
          case rel => exact ⟨j + 2, by omega, by go_num, HH.out⟩
          case measure => simp [intOf]; omega
      · have HH := Lib.hid (H.out.no1 hlt1 h1)
        go_wp2
        go_round
        case rel => exact ⟨j + 2, by omega, by go_num, HH.out⟩
        case measure => simp [intOf]; omega
    · have HH := Lib.hid (H.out.done (by omega))
      go_wp2
      go_ret
      exact ⟨ret_bool HH.out.symm, rfl⟩

theorem within_any (s : ByteArray) (w : World) :
    Calls Tryz.prog 170 #[.string s] w fun e w' => e = .returned (.func (.func 199) #[] #[.pointer (some ⟨w.heap.size, 0, none⟩)]) ∧ w' = w.alloc (.cells #[.string s] 9) := by
  go_enter Tryz.func170, Tryz.ntmps170
  go_wp2
  go_ret
  exact ⟨rfl, rfl⟩

theorem allL_no {s : ByteArray} {p : UInt8 → Bool} (h : allB s p = false) : allL p s.data.toList = false := by
  unfold allB at h; simp [allL, h]
theorem allL_yes {s : ByteArray} {p : UInt8 → Bool} (h : allB s p = true) (hn : s.toList.isEmpty = false) : allL p s.data.toList = true := by
  unfold allB at h; rw [Lib.toList_data] at hn; simp [allL, h, hn]
theorem allL_nil {s : ByteArray} {p : UInt8 → Bool} (hn : s.toList.isEmpty = true) : allL p s.data.toList = false := by
  rw [Lib.toList_data] at hn; simp [allL, hn]

set_option maxRecDepth 100000 in
set_option maxHeartbeats 400000 in
theorem sall_any (z : ByteArray) (m : Nat) (hz : z.size = 2 * m) (hm : z.size ≤ 100) (q : Addr) (s : ByteArray) (hs : s.size ≤ 20400) (w : World) (hc : w.cell? q = some (.string z)) :
    Calls Tryz.prog 169 #[.string s, .func (.func 199) #[] #[.pointer (some q)]] w fun e w' => e = .returned (.bool (allL (inSp z.data.toList) s.data.toList)) ∧ w = w' := by
  have HC := Lib.hid (fun c => within1_any z m hz hm c q w hc)
  have he := enters_of Tryz.func199 (by kernel_rfl) rfl
  clear hz hm hc
  go_enter Tryz.func169, Tryz.ntmps169
  go_wp2
  go_loop [8] (fun i => ∃ k : Nat, k ≤ s.size ∧ i = .int .i64 k ∧ allTo s (inSp z.data.toList) k = true) (fun i => s.size - (intOf i).toNat)
  case atStart => exact ⟨0, Nat.zero_le _, rfl, rfl⟩
  case round =>
    obtain ⟨k, hk, rfl, hl⟩ := hrel
    have H := Lib.hid hl
    clear hl
    by_cases hlt : k < s.size
    · go_wp2_with fail
      refine (HC.out _).mono ?_
      rintro _ w' ⟨rfl, rfl⟩
      cases hp : inSp z.data.toList s[k]
      · go_wp2
        go_ret
        exact ⟨ret_bool (allL_no (all_no hlt hp)).symm, rfl⟩
      · go_wp2
        go_round
        case rel => exact ⟨k + 1, by omega, by go_num, all_yes hlt H.out hp⟩
        case measure => simp [intOf]; omega
    · have HA := Lib.hid (all_end (by omega) H.out)
      cases hn : s.toList.isEmpty
      · have HH := Lib.hid (allL_yes HA.out hn)
        go_wp2
        go_ret
        exact ⟨ret_bool HH.out.symm, rfl⟩
      · have HH := Lib.hid (allL_nil (p := inSp z.data.toList) hn)
        go_wp2
        go_ret
        exact ⟨ret_bool HH.out.symm, rfl⟩
end Go.Proofs.YtmdlmjcejeejfaaGreatDoor
