/-
  gomod.Release and gomod.Local, and the document's.
-/
import Derived.Test.YtkciiicfdjoijaaDoorW7
import Derived.Test.YtkciiicfdjoijaaDoorP7
import Derived.Test.YtkciiicfdjoijaaDoorP6
namespace Go.Proofs.YtkciiicfdjoijaaDoor
open Go.RowKit Go.Shelf

set_option maxRecDepth 100000 in
set_option maxHeartbeats 1000000 in
theorem begins_any (s p : ByteArray) (w : World) :
    Calls Tryd.prog 9 #[.string s, .string p] w fun e w' => e = .returned (.bool (prefB s p)) ∧ w = w' := by
  by_cases h : p.size ≤ s.size
  · have hp : prefB s p = ((s.extract 0 p.size).toList == p.toList) := by simp [prefB, h]
    rw [hp]
    clear hp
    go_enter Tryd.func9, Tryd.ntmps9
    go_wp2
    all_goals go_ret
    all_goals exact ⟨rfl, rfl⟩
  · have hp : prefB s p = false := by simp [prefB, h]
    rw [hp]
    clear hp
    go_enter Tryd.func9, Tryd.ntmps9
    go_wp2
    go_ret
    exact ⟨rfl, rfl⟩

def upB (s : ByteArray) : ByteArray × Bool := if prefB s ⟨#[46, 47]⟩ then (s.extract 2 s.size, true) else if prefB s ⟨#[46, 46, 47]⟩ then (s.extract 3 s.size, true) else (s, false)
theorem upB_size {s : ByteArray} (h : (upB s).2 = true) : (upB s).1.size < s.size := by
  unfold upB at h ⊢
  split
  · rename_i hp
    have : 2 ≤ s.size := by simp [prefB] at hp; exact hp.1
    simp; omega
  · split
    · rename_i hp
      have : 3 ≤ s.size := by simp [prefB] at hp; exact hp.1
      simp; omega
    · rename_i h1 h2
      simp [h1, h2] at h
def stripB (s : ByteArray) : ByteArray := if _h : (upB s).2 = true then stripB (upB s).1 else s
termination_by s.size
decreasing_by exact upB_size _h
theorem strip_no {s : ByteArray} (h : (upB s).2 = false) : stripB s = s := by rw [stripB]; simp [h]
theorem strip_yes {s : ByteArray} (h : (upB s).2 = true) : stripB s = stripB (upB s).1 := by rw [stripB]; simp [h]
theorem strip_size : ∀ (n : Nat) (s : ByteArray), s.size ≤ n → (stripB s).size ≤ s.size
  | 0, s, h => by
    cases k : (upB s).2
    · rw [strip_no k]; exact Nat.le_refl _
    · have := upB_size k; omega
  | n + 1, s, h => by
    cases k : (upB s).2
    · rw [strip_no k]; exact Nat.le_refl _
    · have h1 := upB_size k
      have := strip_size n (upB s).1 (by omega)
      rw [strip_yes k]; omega
def endB (s : ByteArray) : Bool := decide (s.size = 0) || validB s
def localB (s : ByteArray) : Bool := (upB s).2 && endB (stripB s)

theorem up_1 {s : ByteArray} (h : prefB s ⟨#[46, 47]⟩ = true) : upB s = (s.extract 2 s.size, true) := by simp [upB, h]
theorem up_2 {s : ByteArray} (h : prefB s ⟨#[46, 47]⟩ = false) (k : prefB s ⟨#[46, 46, 47]⟩ = true) : upB s = (s.extract 3 s.size, true) := by simp [upB, h, k]
theorem up_3 {s : ByteArray} (h : prefB s ⟨#[46, 47]⟩ = false) (k : prefB s ⟨#[46, 46, 47]⟩ = false) : upB s = (s, false) := by simp [upB, h, k]
set_option maxRecDepth 100000 in
set_option maxHeartbeats 1000000 in
theorem cutUp_any (s : ByteArray) (w : World) :
    Calls Tryd.prog 11 #[.string s] w fun e w' => e = .returned (.tuple #[.string (upB s).1, .bool (upB s).2]) ∧ w = w' := by
  cases h : prefB s ⟨#[46, 47]⟩
  · cases k : prefB s ⟨#[46, 46, 47]⟩
    · rw [up_3 h k]
      go_enter Tryd.func11, Tryd.ntmps11
      go_wp2_with fail
      refine (cutp_any _ _ _).mono ?_
      rintro _ w1 ⟨rfl, rfl⟩
      rw [h]
      go_wp2_with fail
      refine (cutp_any _ _ _).mono ?_
      rintro _ w1 ⟨rfl, rfl⟩
      rw [k]
      go_wp2
      go_ret2
      exact ⟨rfl, rfl⟩
    · rw [up_2 h k]
      go_enter Tryd.func11, Tryd.ntmps11
      go_wp2_with fail
      refine (cutp_any _ _ _).mono ?_
      rintro _ w1 ⟨rfl, rfl⟩
      rw [h]
      go_wp2_with fail
      refine (cutp_any _ _ _).mono ?_
      rintro _ w1 ⟨rfl, rfl⟩
      rw [k]
      go_wp2
      go_ret2
      exact ⟨rfl, rfl⟩
  · rw [up_1 h]
    go_enter Tryd.func11, Tryd.ntmps11
    go_wp2_with fail
    refine (cutp_any _ _ _).mono ?_
    rintro _ w1 ⟨rfl, rfl⟩
    rw [h]
    go_wp2
    go_ret2
    exact ⟨rfl, rfl⟩

theorem extract_le (s : ByteArray) (a : Nat) : (s.extract a s.size).size ≤ s.size := by simp
theorem up_le (s : ByteArray) : (upB s).1.size ≤ s.size := by
  unfold upB
  split
  · exact extract_le _ _
  · split
    · exact extract_le _ _
    · exact Nat.le_refl _
def strSize : Value → Nat
  | .string t => t.size
  | _ => 0
theorem nil_size {s : ByteArray} (h : s.toList = []) : s.size = 0 := size_of_list h
theorem size_nil {s : ByteArray} (h : ¬ s.toList = []) : ¬ s.size = 0 := fun e => h (by
  apply List.eq_nil_of_length_eq_zero
  rw [← size_of_list (s := s) rfl]; exact e)
theorem strip_up {s : ByteArray} (h : (stripB s).toList = s.toList) : (upB s).2 = false := by
  cases k : (upB s).2
  · rfl
  · have h1 := upB_size k
    have h2 := strip_size _ (upB s).1 (Nat.le_refl _)
    have h3 := size_of_list h
    rw [← size_of_list (s := s) rfl, strip_yes k] at h3
    omega
theorem up_strip {s : ByteArray} (h : ¬ (stripB s).toList = s.toList) : (upB s).2 = true := by
  cases k : (upB s).2
  · rw [strip_no k] at h; exact absurd rfl h
  · rfl
theorem loc_1 {s t : ByteArray} (h : t = stripB s) (e : t.toList = s.toList) : localB s = false := by
  subst h; simp [localB, strip_up e]
theorem loc_2 {s t : ByteArray} (h : t = stripB s) (e : ¬ t.toList = s.toList) (n : t.toList = []) : localB s = true := by
  subst h; simp [localB, up_strip e, endB, nil_size n]
theorem loc_3 {s t : ByteArray} (h : t = stripB s) (e : ¬ t.toList = s.toList) (n : ¬ t.toList = []) : localB s = validB t := by
  subst h; simp [localB, up_strip e, endB, size_nil n]

set_option maxRecDepth 100000 in
set_option maxHeartbeats 1000000 in
theorem local_any (s : ByteArray) (hs : s.size ≤ 20400) (w : World) :
    Calls Tryd.prog 6 #[.string s] w fun e w' => e = .returned (.bool (localB s)) ∧ Below w.heap.size w w' := by
  go_enter Tryd.func6, Tryd.ntmps6
  go_wp2
  go_loop [3] (fun r => ∃ t : ByteArray, r = .string t ∧ t.size ≤ s.size ∧ stripB t = stripB s) (fun r => strSize r)
  case atStart => exact ⟨s, rfl, Nat.le_refl _, rfl⟩
  case round =>
    obtain ⟨t, rfl, ht, hl⟩ := hrel
    have HL := Lib.hid hl
    clear hl
    go_wp2_with fail
    refine (cutUp_any _ _).mono ?_
    rintro _ w1 ⟨rfl, rfl⟩
    cases hu : (upB t).2
    · have H2 := Lib.hid ((strip_no hu).symm.trans HL.out)
      clear hu
      by_cases e : t.toList = s.toList
      · have H := Lib.hid (loc_1 H2.out e)
        go_wp2
        go_ret
        exact ⟨ret_bool H.out.symm, Below.refl _ _⟩
      · by_cases n : t.toList = []
        · have H := Lib.hid (loc_2 H2.out e n)
          have e' : (t.toList == s.toList) = false := by simp [e]
          have e2 : ¬ s.toList = [] := by rw [← n]; exact fun x => e x.symm
          go_wp2
          go_ret
          exact ⟨ret_bool (by simp [H.out, e2]), Below.refl _ _⟩
        · have H := Lib.hid (loc_3 H2.out e n)
          have e' : (t.toList == s.toList) = false := by simp [e]
          have n' : t.toList.isEmpty = false := by simp [n]
          go_wp2_with fail
          refine (valid_any t (by omega) _).mono ?_
          rintro _ w1 ⟨rfl, hb⟩
          cases hv : validB t
          all_goals
            go_wp2
            go_ret
            exact ⟨ret_bool (by simp [H.out, hv]), hb⟩
    · have h1 := upB_size hu
      have HH := Lib.hid ((strip_yes hu).symm.trans HL.out)
      go_wp2
      go_round
      case rel => exact ⟨_, rfl, by omega, HH.out⟩
      case measure => exact h1

theorem loc_0 {s : ByteArray} (h : (upB s).2 = false) : localB s = false := by simp [localB, h]
theorem loc_4 {s t : ByteArray} (h : (upB s).2 = true) (e : t = stripB s) (n : t.toList = []) : localB s = true := by
  subst e; simp [localB, h, endB, nil_size n]
theorem loc_5 {s t : ByteArray} (h : (upB s).2 = true) (e : t = stripB s) (n : ¬ t.toList = []) : localB s = validB t := by
  subst e; simp [localB, h, endB, size_nil n]
theorem strip_1 {s t : ByteArray} (h : prefB t ⟨#[46, 47]⟩ = true) (e : stripB t = stripB s) : stripB (t.extract 2 t.size) = stripB s := by
  rw [← e, strip_yes (s := t) (by rw [up_1 h]), up_1 h]
theorem strip_2 {s t : ByteArray} (h : prefB t ⟨#[46, 47]⟩ = false) (k : prefB t ⟨#[46, 46, 47]⟩ = true) (e : stripB t = stripB s) : stripB (t.extract 3 t.size) = stripB s := by
  rw [← e, strip_yes (s := t) (by rw [up_2 h k]), up_2 h k]
theorem pref_2 {t : ByteArray} (h : prefB t ⟨#[46, 47]⟩ = true) : 2 ≤ t.size := by simp [prefB] at h; exact h.1
theorem pref_3 {t : ByteArray} (h : prefB t ⟨#[46, 46, 47]⟩ = true) : 3 ≤ t.size := by simp [prefB] at h; exact h.1

set_option maxRecDepth 100000 in
set_option maxHeartbeats 1000000 in
theorem rlocal_any (s : ByteArray) (hs : s.size ≤ 20400) (w : World) :
    Calls Tryd.prog 7 #[.string s] w fun e w' => e = .returned (.bool (localB s)) ∧ Below w.heap.size w w' := by
  cases hu : (upB s).2
  · have H := Lib.hid (loc_0 hu)
    have h1 : prefB s ⟨#[46, 47]⟩ = false := by
      cases k : prefB s ⟨#[46, 47]⟩
      · rfl
      · rw [up_1 k] at hu; cases hu
    have h2 : prefB s ⟨#[46, 46, 47]⟩ = false := by
      cases k : prefB s ⟨#[46, 46, 47]⟩
      · rfl
      · rw [up_2 h1 k] at hu; cases hu
    clear hu
    go_enter Tryd.func7, Tryd.ntmps7
    go_wp2_with fail
    refine (begins_any _ _ _).mono ?_
    rintro _ w1 ⟨rfl, rfl⟩
    rw [h1]
    go_wp2_with fail
    refine (begins_any _ _ _).mono ?_
    rintro _ w1 ⟨rfl, rfl⟩
    rw [h2]
    go_wp2
    go_ret
    exact ⟨ret_bool H.out.symm, Below.refl _ _⟩
  · have HU := Lib.hid hu
    have hh : prefB s ⟨#[46, 47]⟩ = true ∨ prefB s ⟨#[46, 47]⟩ = false ∧ prefB s ⟨#[46, 46, 47]⟩ = true := by
      cases k : prefB s ⟨#[46, 47]⟩
      · cases j : prefB s ⟨#[46, 46, 47]⟩
        · rw [up_3 k j] at hu; cases hu
        · exact .inr ⟨rfl, rfl⟩
      · exact .inl rfl
    clear hu
    go_enter Tryd.func7, Tryd.ntmps7
    go_wp2_with fail
    refine (begins_any _ _ _).mono ?_
    rintro _ w1 ⟨rfl, rfl⟩
    rcases hh with h1 | ⟨h1, h2⟩
    · rw [h1]
      clear h1
      go_wp2
      go_loop [0] (fun r => ∃ t : ByteArray, r = .string t ∧ t.size ≤ s.size ∧ stripB t = stripB s) (fun r => strSize r)
      case atStart => exact ⟨s, rfl, Nat.le_refl _, rfl⟩
      case round =>
        obtain ⟨t, rfl, ht, hl⟩ := hrel
        have HL := Lib.hid hl
        clear hl
        go_wp2_with fail
        refine (begins_any _ _ _).mono ?_
        rintro _ w1 ⟨rfl, rfl⟩
        cases h1 : prefB t ⟨#[46, 47]⟩
        · go_wp2_with fail
          refine (begins_any _ _ _).mono ?_
          rintro _ w1 ⟨rfl, rfl⟩
          cases h2 : prefB t ⟨#[46, 46, 47]⟩
          · have H2 := Lib.hid ((strip_no (s := t) (by rw [up_3 h1 h2])).symm.trans HL.out)
            clear h1 h2
            by_cases n : t.toList = []
            · have H := Lib.hid (loc_4 HU.out H2.out n)
              go_wp2
              go_ret
              exact ⟨ret_bool H.out.symm, Below.refl _ _⟩
            · have H := Lib.hid (loc_5 HU.out H2.out n)
              have n' : t.toList.isEmpty = false := by simp [n]
              go_wp2_with fail
              refine (rvalid_any t (by omega) _).mono ?_
              rintro _ w1 ⟨rfl, hb⟩
              cases hv : validB t
              all_goals
                go_wp2
                go_ret
                exact ⟨ret_bool (by simp [H.out, hv]), hb⟩
          · have HH := Lib.hid (strip_2 h1 h2 HL.out)
            have h3 := pref_3 h2
            go_wp2_with fail
            refine (begins_any _ _ _).mono ?_
            rintro _ w1 ⟨rfl, rfl⟩
            rw [h1]
            clear h1 h2
            go_wp2
            go_round
            case rel => exact ⟨_, rfl, Nat.le_trans (extract_le _ _) ht, HH.out⟩
            case measure => simp [strSize]; omega
        · have HH := Lib.hid (strip_1 h1 HL.out)
          have h3 := pref_2 h1
          go_wp2_with fail
          refine (begins_any _ _ _).mono ?_
          rintro _ w1 ⟨rfl, rfl⟩
          rw [h1]
          clear h1
          go_wp2
          go_round
          case rel => exact ⟨_, rfl, Nat.le_trans (extract_le _ _) ht, HH.out⟩
          case measure => simp [strSize]; omega
    · rw [h1]
      clear h1
      go_wp2_with fail
      refine (begins_any _ _ _).mono ?_
      rintro _ w1 ⟨rfl, rfl⟩
      rw [h2]
      clear h2
      go_wp2
      go_loop [0] (fun r => ∃ t : ByteArray, r = .string t ∧ t.size ≤ s.size ∧ stripB t = stripB s) (fun r => strSize r)
      case atStart => exact ⟨s, rfl, Nat.le_refl _, rfl⟩
      case round =>
        obtain ⟨t, rfl, ht, hl⟩ := hrel
        have HL := Lib.hid hl
        clear hl
        go_wp2_with fail
        refine (begins_any _ _ _).mono ?_
        rintro _ w1 ⟨rfl, rfl⟩
        cases h1 : prefB t ⟨#[46, 47]⟩
        · go_wp2_with fail
          refine (begins_any _ _ _).mono ?_
          rintro _ w1 ⟨rfl, rfl⟩
          cases h2 : prefB t ⟨#[46, 46, 47]⟩
          · have H2 := Lib.hid ((strip_no (s := t) (by rw [up_3 h1 h2])).symm.trans HL.out)
            clear h1 h2
            by_cases n : t.toList = []
            · have H := Lib.hid (loc_4 HU.out H2.out n)
              go_wp2
              go_ret
              exact ⟨ret_bool H.out.symm, Below.refl _ _⟩
            · have H := Lib.hid (loc_5 HU.out H2.out n)
              have n' : t.toList.isEmpty = false := by simp [n]
              go_wp2_with fail
              refine (rvalid_any t (by omega) _).mono ?_
              rintro _ w1 ⟨rfl, hb⟩
              cases hv : validB t
              all_goals
                go_wp2
                go_ret
                exact ⟨ret_bool (by simp [H.out, hv]), hb⟩
          · have HH := Lib.hid (strip_2 h1 h2 HL.out)
            have h3 := pref_3 h2
            go_wp2_with fail
            refine (begins_any _ _ _).mono ?_
            rintro _ w1 ⟨rfl, rfl⟩
            rw [h1]
            clear h1 h2
            go_wp2
            go_round
            case rel => exact ⟨_, rfl, Nat.le_trans (extract_le _ _) ht, HH.out⟩
            case measure => simp [strSize]; omega
        · have HH := Lib.hid (strip_1 h1 HL.out)
          have h3 := pref_2 h1
          go_wp2_with fail
          refine (begins_any _ _ _).mono ?_
          rintro _ w1 ⟨rfl, rfl⟩
          rw [h1]
          clear h1
          go_wp2
          go_round
          case rel => exact ⟨_, rfl, Nat.le_trans (extract_le _ _) ht, HH.out⟩
          case measure => simp [strSize]; omega
end Go.Proofs.YtkciiicfdjoijaaDoor
