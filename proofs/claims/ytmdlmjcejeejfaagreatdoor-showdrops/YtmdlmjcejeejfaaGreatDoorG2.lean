/-
  Plain facts, of no program: a release of Go, told by the version that is made of it.
-/
import Derived.Test.YtmdlmjcejeejfaaGreatDoorS2
import Derived.Test.YtmdlmjcejeejfaaGreatDoorW7
import Derived.Test.YtmdlmjcejeejfaaGreatDoorP7
import Derived.Test.YtmdlmjcejeejfaaGreatDoorP6
namespace Go.Proofs.YtmdlmjcejeejfaaGreatDoor

def relL (l : List UInt8) : Bool := (l.take 2 == [49, 46]) && numOk (l.drop 2)
def relV (l : List UInt8) : List UInt8 := 118 :: (l ++ [46, 48])
def relOk (l : List UInt8) : Bool := okV (relV l) && decide ((verL (relV l)).ma = 1) && decide ((verL (relV l)).pa = 0) && decide ((verL (relV l)).pre = ⟨#[]⟩) && decide ((verL (relV l)).mta = ⟨#[]⟩)

theorem mkB_nil {l : List UInt8} (h : mkB l = ⟨#[]⟩) : l = [] := by
  have := congrArg (fun x : ByteArray => x.data.toList) h
  simpa [data_mkB] using this
theorem sp_nil_pre : (sp 46 []).all preId = false := by decide
theorem sp_nil_idn : (sp 46 []).all idn = false := by decide
theorem count_split {d : UInt8} : ∀ {l : List UInt8}, l.count d = 1 → ∃ a b, l = a ++ d :: b ∧ (∀ c ∈ a, c ≠ d) ∧ (∀ c ∈ b, c ≠ d)
  | [], h => by simp at h
  | x :: r, h => by
    by_cases hx : x = d
    · subst hx
      rw [List.count_cons_self] at h
      refine ⟨[], r, rfl, by simp, fun c hc e => ?_⟩
      subst e
      have := List.count_pos_iff.2 hc
      omega
    · rw [List.count_cons_of_ne hx] at h
      obtain ⟨a, b, rfl, ha, hb⟩ := count_split h
      refine ⟨x :: a, b, rfl, ?_, hb⟩
      intro c hc
      rcases List.mem_cons.1 hc with rfl | h'
      · exact hx
      · exact ha c h'
theorem dec_1 : Lib.decDigits 1 = [49] := by rw [dec_small (by decide)]; decide
theorem dec_0 : Lib.decDigits 0 = [48] := by rw [dec_small (by decide)]; decide

theorem rel_to {l : List UInt8} (h : relOk l = true) : relL l = true := by
  simp only [relOk, Bool.and_eq_true, decide_eq_true_eq] at h
  obtain ⟨⟨⟨⟨h1, h2⟩, h3⟩, h4⟩, h5⟩ := h
  simp only [verL, h1, if_true] at h2 h3 h4 h5
  have p := mkB_nil h4
  have m := mkB_nil h5
  simp only [okV, Bool.and_eq_true] at h1
  obtain ⟨⟨⟨_, n⟩, a⟩, b⟩ := h1
  rw [p, sp_nil_pre, Bool.or_false, Bool.not_eq_true'] at a
  rw [m, sp_nil_idn, Bool.or_false, Bool.not_eq_true'] at b
  have e1 := (hasL_no b).1
  rw [e1] at a
  have e2 : coreOf (relV l) = relV l := by rw [coreOf, e1, (hasL_no a).1]
  rw [e2] at n h2
  have e3 : numsIn (relV l) = sp 46 (l ++ [46, 48]) := by simp [numsIn, relV]
  simp only [numsOk, e3, Bool.and_eq_true, decide_eq_true_eq] at n
  obtain ⟨n1, n2⟩ := n
  have n3 : l.count 46 = 1 := by
    rw [sp_count, List.count_append] at n1
    simp at n1; exact n1
  obtain ⟨x, y, rfl, hx, hy⟩ := count_split n3
  have e4 : sp 46 ((x ++ 46 :: y) ++ [46, 48]) = [x, y, [48]] := by
    rw [List.append_assoc, List.cons_append, sp_at hx, sp_at hy]
    rfl
  simp only [nth, e3, e4] at h2
  rw [e4] at n2
  simp only [List.all_cons, Bool.and_eq_true] at n2
  have hx1 : numV x = 1 := by have : ((numV x : Nat) : Int) = 1 := by simpa using h2
                              omega
  have : x = [49] := by rw [← dec_ok n2.1, hx1, dec_1]
  subst this
  simp [relL, n2.2.1]

theorem rel_from {l : List UInt8} (h : relL l = true) : relOk l = true := by
  simp only [relL, Bool.and_eq_true, beq_iff_eq] at h
  obtain ⟨h1, h2⟩ := h
  have hl : l = [49, 46] ++ l.drop 2 := by rw [← h1, List.take_append_drop]
  generalize hb : l.drop 2 = b at *
  clear hb h1
  subst hl
  have hlen : b.length ≤ 9 := by simp [numOk] at h2; exact h2.1.1
  have e : relV ([49, 46] ++ b) = verT 1 (numV b) 0 [] := by
    rw [verT, dec_1, dec_0, dec_ok h2]; simp [relV]
  have := ver_plain (a := 1) (b := numV b) (c := 0) (by decide) (numV_lt h2) (by decide) [] rfl (.inl rfl) (by rw [← e]; simp [relV]; omega)
  rw [← e] at this
  rw [relOk, this.1, this.2]
  simp [restL]
  rfl
theorem rel_same (l : List UInt8) : relOk l = relL l := by
  cases h : relL l
  · cases k : relOk l
    · rfl
    · rw [rel_to k] at h; cases h
  · exact rel_from h
end Go.Proofs.YtmdlmjcejeejfaaGreatDoor

/-
  gomod.Release and gomod.Local, and the document's.
-/
namespace Go.Proofs.YtmdlmjcejeejfaaGreatDoor
open Go.RowKit Go.Shelf

set_option maxRecDepth 100000 in
set_option maxHeartbeats 1000000 in
theorem begins_any (s p : ByteArray) (w : World) :
    Calls Tryz.prog 130 #[.string s, .string p] w fun e w' => e = .returned (.bool (prefB s p)) ∧ w = w' := by
  by_cases h : p.size ≤ s.size
  · have hp : prefB s p = ((s.extract 0 p.size).toList == p.toList) := by simp [prefB, h]
    rw [hp]
    clear hp
    go_enter Tryz.func130, Tryz.ntmps130
    go_wp2
    all_goals go_ret
    all_goals exact ⟨rfl, rfl⟩
  · have hp : prefB s p = false := by simp [prefB, h]
    rw [hp]
    clear hp
    go_enter Tryz.func130, Tryz.ntmps130
    go_wp2
    go_ret
    exact ⟨rfl, rfl⟩

def upB (s : ByteArray) : ByteArray × Bool := if prefB s ⟨#[46, 47]⟩ then (s.extract 2 s.size, true) else if prefB s ⟨#[46, 46, 47]⟩ then (s.extract 3 s.size, true) else (s, false)
theorem upB_size {s : ByteArray} (h : (upB s).2 = true) : (upB s).1.size < s.size := by
  unfold upB at h ⊢
  split
  · rename_i hp
    have : 2 ≤ s.size := by simp [prefB] at hp; exact hp.1
    simp; omega
  · split
    · rename_i hp
      have : 3 ≤ s.size := by simp [prefB] at hp; exact hp.1
      simp; omega
    · rename_i h1 h2
      simp [h1, h2] at h
def stripB (s : ByteArray) : ByteArray := if _h : (upB s).2 = true then stripB (upB s).1 else s
termination_by s.size
decreasing_by exact upB_size _h
theorem strip_no {s : ByteArray} (h : (upB s).2 = false) : stripB s = s := by rw [stripB]; simp [h]
theorem strip_yes {s : ByteArray} (h : (upB s).2 = true) : stripB s = stripB (upB s).1 := by rw [stripB]; simp [h]
theorem strip_size : ∀ (n : Nat) (s : ByteArray), s.size ≤ n → (stripB s).size ≤ s.size
  | 0, s, h => by
    cases k : (upB s).2
    · rw [strip_no k]; exact Nat.le_refl _
    · have := upB_size k; omega
  | n + 1, s, h => by
    cases k : (upB s).2
    · rw [strip_no k]; exact Nat.le_refl _
    · have h1 := upB_size k
      have := strip_size n (upB s).1 (by omega)
      rw [strip_yes k]; omega
def endB (s : ByteArray) : Bool := decide (s.size = 0) || validB s
def localB (s : ByteArray) : Bool := (upB s).2 && endB (stripB s)

theorem up_1 {s : ByteArray} (h : prefB s ⟨#[46, 47]⟩ = true) : upB s = (s.extract 2 s.size, true) := by simp [upB, h]
theorem up_2 {s : ByteArray} (h : prefB s ⟨#[46, 47]⟩ = false) (k : prefB s ⟨#[46, 46, 47]⟩ = true) : upB s = (s.extract 3 s.size, true) := by simp [upB, h, k]
theorem up_3 {s : ByteArray} (h : prefB s ⟨#[46, 47]⟩ = false) (k : prefB s ⟨#[46, 46, 47]⟩ = false) : upB s = (s, false) := by simp [upB, h, k]
set_option maxRecDepth 100000 in
set_option maxHeartbeats 1000000 in
theorem cutUp_any (s : ByteArray) (w : World) :
    Calls Tryz.prog 182 #[.string s] w fun e w' => e = .returned (.tuple #[.string (upB s).1, .bool (upB s).2]) ∧ w = w' := by
  cases h : prefB s ⟨#[46, 47]⟩
  · cases k : prefB s ⟨#[46, 46, 47]⟩
    · rw [up_3 h k]
      go_enter Tryz.func182, Tryz.ntmps182
      go_wp2_with fail
      refine (cutp_any _ _ _).mono ?_
      rintro _ w1 ⟨rfl, rfl⟩
      rw [h]
      go_wp2_with fail
      refine (cutp_any _ _ _).mono ?_
      rintro _ w1 ⟨rfl, rfl⟩
      rw [k]
      go_wp2
      go_ret2
      exact ⟨rfl, rfl⟩
    · rw [up_2 h k]
      go_enter Tryz.func182, Tryz.ntmps182
      go_wp2_with fail
      refine (cutp_any _ _ _).mono ?_
      rintro _ w1 ⟨rfl, rfl⟩
      rw [h]
      go_wp2_with fail
      refine (cutp_any _ _ _).mono ?_
      rintro _ w1 ⟨rfl, rfl⟩
      rw [k]
      go_wp2
      go_ret2
      exact ⟨rfl, rfl⟩
  · rw [up_1 h]
    go_enter Tryz.func182, Tryz.ntmps182
    go_wp2_with fail
    refine (cutp_any _ _ _).mono ?_
    rintro _ w1 ⟨rfl, rfl⟩
    rw [h]
    go_wp2
    go_ret2
    exact ⟨rfl, rfl⟩

theorem extract_le (s : ByteArray) (a : Nat) : (s.extract a s.size).size ≤ s.size := by simp
theorem up_le (s : ByteArray) : (upB s).1.size ≤ s.size := by
  unfold upB
  split
  · exact extract_le _ _
  · split
    · exact extract_le _ _
    · exact Nat.le_refl _
def strSize : Value → Nat
  | .string t => t.size
  | _ => 0
theorem nil_size {s : ByteArray} (h : s.toList = []) : s.size = 0 := size_of_list h
theorem gsize_nil {s : ByteArray} (h : ¬ s.toList = []) : ¬ s.size = 0 := fun e => h (by
  apply List.eq_nil_of_length_eq_zero
  rw [← size_of_list (s := s) rfl]; exact e)
theorem strip_up {s : ByteArray} (h : (stripB s).toList = s.toList) : (upB s).2 = false := by
  cases k : (upB s).2
  · rfl
  · have h1 := upB_size k
    have h2 := strip_size _ (upB s).1 (Nat.le_refl _)
    have h3 := size_of_list h
    rw [← size_of_list (s := s) rfl, strip_yes k] at h3
    omega
theorem up_strip {s : ByteArray} (h : ¬ (stripB s).toList = s.toList) : (upB s).2 = true := by
  cases k : (upB s).2
  · rw [strip_no k] at h; exact absurd rfl h
  · rfl
theorem loc_1 {s t : ByteArray} (h : t = stripB s) (e : t.toList = s.toList) : localB s = false := by
  subst h; simp [localB, strip_up e]
theorem loc_2 {s t : ByteArray} (h : t = stripB s) (e : ¬ t.toList = s.toList) (n : t.toList = []) : localB s = true := by
  subst h; simp [localB, up_strip e, endB, nil_size n]
theorem loc_3 {s t : ByteArray} (h : t = stripB s) (e : ¬ t.toList = s.toList) (n : ¬ t.toList = []) : localB s = validB t := by
  subst h; simp [localB, up_strip e, endB, gsize_nil n]

set_option maxRecDepth 100000 in
set_option maxHeartbeats 1000000 in
theorem local_any (s : ByteArray) (hs : s.size ≤ 20400) (w : World) :
    Calls Tryz.prog 145 #[.string s] w fun e w' => e = .returned (.bool (localB s)) ∧ Below w.heap.size w w' := by
  go_enter Tryz.func145, Tryz.ntmps145
  go_wp2
  go_loop [3] (fun r => ∃ t : ByteArray, r = .string t ∧ t.size ≤ s.size ∧ stripB t = stripB s) (fun r => strSize r)
  case atStart => exact ⟨s, rfl, Nat.le_refl _, rfl⟩
  case round =>
    obtain ⟨t, rfl, ht, hl⟩ := hrel
    have HL := Lib.hid hl
    clear hl
    go_wp2_with fail
    refine (cutUp_any _ _).mono ?_
    rintro _ w1 ⟨rfl, rfl⟩
    cases hu : (upB t).2
    · have H2 := Lib.hid ((strip_no hu).symm.trans HL.out)
      clear hu
      by_cases e : t.toList = s.toList
      · have H := Lib.hid (loc_1 H2.out e)
        go_wp2
        go_ret
        exact ⟨ret_bool H.out.symm, Below.refl _ _⟩
      · by_cases n : t.toList = []
        · have H := Lib.hid (loc_2 H2.out e n)
          have e' : (t.toList == s.toList) = false := by simp [e]
          have e2 : ¬ s.toList = [] := by rw [← n]; exact fun x => e x.symm
          go_wp2
          go_ret
          exact ⟨ret_bool (by simp [H.out, e2]), Below.refl _ _⟩
        · have H := Lib.hid (loc_3 H2.out e n)
          have e' : (t.toList == s.toList) = false := by simp [e]
          have n' : t.toList.isEmpty = false := by simp [n]
          go_wp2_with fail
          refine (valid_any t (by omega) _).mono ?_
          rintro _ w1 ⟨rfl, hb⟩
          cases hv : validB t
          all_goals
            go_wp2
            go_ret
            exact ⟨ret_bool (by simp [H.out, hv]), hb⟩
    · have h1 := upB_size hu
      have HH := Lib.hid ((strip_yes hu).symm.trans HL.out)
      go_wp2
      go_round
      case rel => exact ⟨_, rfl, by omega, HH.out⟩
      case measure => exact h1

theorem loc_0 {s : ByteArray} (h : (upB s).2 = false) : localB s = false := by simp [localB, h]
theorem loc_4 {s t : ByteArray} (h : (upB s).2 = true) (e : t = stripB s) (n : t.toList = []) : localB s = true := by
  subst e; simp [localB, h, endB, nil_size n]
theorem loc_5 {s t : ByteArray} (h : (upB s).2 = true) (e : t = stripB s) (n : ¬ t.toList = []) : localB s = validB t := by
  subst e; simp [localB, h, endB, gsize_nil n]
theorem strip_1 {s t : ByteArray} (h : prefB t ⟨#[46, 47]⟩ = true) (e : stripB t = stripB s) : stripB (t.extract 2 t.size) = stripB s := by
  rw [← e, strip_yes (s := t) (by rw [up_1 h]), up_1 h]
theorem strip_2 {s t : ByteArray} (h : prefB t ⟨#[46, 47]⟩ = false) (k : prefB t ⟨#[46, 46, 47]⟩ = true) (e : stripB t = stripB s) : stripB (t.extract 3 t.size) = stripB s := by
  rw [← e, strip_yes (s := t) (by rw [up_2 h k]), up_2 h k]
theorem pref_2 {t : ByteArray} (h : prefB t ⟨#[46, 47]⟩ = true) : 2 ≤ t.size := by simp [prefB] at h; exact h.1
theorem pref_3 {t : ByteArray} (h : prefB t ⟨#[46, 46, 47]⟩ = true) : 3 ≤ t.size := by simp [prefB] at h; exact h.1

set_option maxRecDepth 100000 in
set_option maxHeartbeats 1000000 in
theorem rlocal_any (s : ByteArray) (hs : s.size ≤ 20400) (w : World) :
    Calls Tryz.prog 133 #[.string s] w fun e w' => e = .returned (.bool (localB s)) ∧ Below w.heap.size w w' := by
  cases hu : (upB s).2
  · have H := Lib.hid (loc_0 hu)
    have h1 : prefB s ⟨#[46, 47]⟩ = false := by
      cases k : prefB s ⟨#[46, 47]⟩
      · rfl
      · rw [up_1 k] at hu; cases hu
    have h2 : prefB s ⟨#[46, 46, 47]⟩ = false := by
      cases k : prefB s ⟨#[46, 46, 47]⟩
      · rfl
      · rw [up_2 h1 k] at hu; cases hu
    clear hu
    go_enter Tryz.func133, Tryz.ntmps133
    go_wp2_with fail
    refine (begins_any _ _ _).mono ?_
    rintro _ w1 ⟨rfl, rfl⟩
    rw [h1]
    go_wp2_with fail
    refine (begins_any _ _ _).mono ?_
    rintro _ w1 ⟨rfl, rfl⟩
    rw [h2]
    go_wp2
    go_ret
    exact ⟨ret_bool H.out.symm, Below.refl _ _⟩
  · have HU := Lib.hid hu
    have hh : prefB s ⟨#[46, 47]⟩ = true ∨ prefB s ⟨#[46, 47]⟩ = false ∧ prefB s ⟨#[46, 46, 47]⟩ = true := by
      cases k : prefB s ⟨#[46, 47]⟩
      · cases j : prefB s ⟨#[46, 46, 47]⟩
        · rw [up_3 k j] at hu; cases hu
        · exact .inr ⟨rfl, rfl⟩
      · exact .inl rfl
    clear hu
    go_enter Tryz.func133, Tryz.ntmps133
    go_wp2_with fail
    refine (begins_any _ _ _).mono ?_
    rintro _ w1 ⟨rfl, rfl⟩
    rcases hh with h1 | ⟨h1, h2⟩
    · rw [h1]
      clear h1
      go_wp2
      go_loop [0] (fun r => ∃ t : ByteArray, r = .string t ∧ t.size ≤ s.size ∧ stripB t = stripB s) (fun r => strSize r)
      case atStart => exact ⟨s, rfl, Nat.le_refl _, rfl⟩
      case round =>
        obtain ⟨t, rfl, ht, hl⟩ := hrel
        have HL := Lib.hid hl
        clear hl
        go_wp2_with fail
        refine (begins_any _ _ _).mono ?_
        rintro _ w1 ⟨rfl, rfl⟩
        cases h1 : prefB t ⟨#[46, 47]⟩
        · go_wp2_with fail
          refine (begins_any _ _ _).mono ?_
          rintro _ w1 ⟨rfl, rfl⟩
          cases h2 : prefB t ⟨#[46, 46, 47]⟩
          · have H2 := Lib.hid ((strip_no (s := t) (by rw [up_3 h1 h2])).symm.trans HL.out)
            clear h1 h2
            by_cases n : t.toList = []
            · have H := Lib.hid (loc_4 HU.out H2.out n)
              go_wp2
              go_ret
              exact ⟨ret_bool H.out.symm, Below.refl _ _⟩
            · have H := Lib.hid (loc_5 HU.out H2.out n)
              have n' : t.toList.isEmpty = false := by simp [n]
              go_wp2_with fail
              refine (rvalid_any t (by omega) _).mono ?_
              rintro _ w1 ⟨rfl, hb⟩
              cases hv : validB t
              all_goals
                go_wp2
                go_ret
                exact ⟨ret_bool (by simp [H.out, hv]), hb⟩
          · have HH := Lib.hid (strip_2 h1 h2 HL.out)
            have h3 := pref_3 h2
            go_wp2_with fail
            refine (begins_any _ _ _).mono ?_
            rintro _ w1 ⟨rfl, rfl⟩
            rw [h1]
            clear h1 h2
            go_wp2
            go_round
            case rel => exact ⟨_, rfl, Nat.le_trans (extract_le _ _) ht, HH.out⟩
            case measure => simp [strSize]; omega
        · have HH := Lib.hid (strip_1 h1 HL.out)
          have h3 := pref_2 h1
          go_wp2_with fail
          refine (begins_any _ _ _).mono ?_
          rintro _ w1 ⟨rfl, rfl⟩
          rw [h1]
          clear h1
          go_wp2
          go_round
          case rel => exact ⟨_, rfl, Nat.le_trans (extract_le _ _) ht, HH.out⟩
          case measure => simp [strSize]; omega
    · rw [h1]
      clear h1
      go_wp2_with fail
      refine (begins_any _ _ _).mono ?_
      rintro _ w1 ⟨rfl, rfl⟩
      rw [h2]
      clear h2
      go_wp2
      go_loop [0] (fun r => ∃ t : ByteArray, r = .string t ∧ t.size ≤ s.size ∧ stripB t = stripB s) (fun r => strSize r)
      case atStart => exact ⟨s, rfl, Nat.le_refl _, rfl⟩
      case round =>
        obtain ⟨t, rfl, ht, hl⟩ := hrel
        have HL := Lib.hid hl
        clear hl
        go_wp2_with fail
        refine (begins_any _ _ _).mono ?_
        rintro _ w1 ⟨rfl, rfl⟩
        cases h1 : prefB t ⟨#[46, 47]⟩
        · go_wp2_with fail
          refine (begins_any _ _ _).mono ?_
          rintro _ w1 ⟨rfl, rfl⟩
          cases h2 : prefB t ⟨#[46, 46, 47]⟩
          · have H2 := Lib.hid ((strip_no (s := t) (by rw [up_3 h1 h2])).symm.trans HL.out)
            clear h1 h2
            by_cases n : t.toList = []
            · have H := Lib.hid (loc_4 HU.out H2.out n)
              go_wp2
              go_ret
              exact ⟨ret_bool H.out.symm, Below.refl _ _⟩
            · have H := Lib.hid (loc_5 HU.out H2.out n)
              have n' : t.toList.isEmpty = false := by simp [n]
              go_wp2_with fail
              refine (rvalid_any t (by omega) _).mono ?_
              rintro _ w1 ⟨rfl, hb⟩
              cases hv : validB t
              all_goals
                go_wp2
                go_ret
                exact ⟨ret_bool (by simp [H.out, hv]), hb⟩
          · have HH := Lib.hid (strip_2 h1 h2 HL.out)
            have h3 := pref_3 h2
            go_wp2_with fail
            refine (begins_any _ _ _).mono ?_
            rintro _ w1 ⟨rfl, rfl⟩
            rw [h1]
            clear h1 h2
            go_wp2
            go_round
            case rel => exact ⟨_, rfl, Nat.le_trans (extract_le _ _) ht, HH.out⟩
            case measure => simp [strSize]; omega
        · have HH := Lib.hid (strip_1 h1 HL.out)
          have h3 := pref_2 h1
          go_wp2_with fail
          refine (begins_any _ _ _).mono ?_
          rintro _ w1 ⟨rfl, rfl⟩
          rw [h1]
          clear h1
          go_wp2
          go_round
          case rel => exact ⟨_, rfl, Nat.le_trans (extract_le _ _) ht, HH.out⟩
          case measure => simp [strSize]; omega
end Go.Proofs.YtmdlmjcejeejfaaGreatDoor

/-
  gomod.Release, and the document's.
-/
namespace Go.Proofs.YtmdlmjcejeejfaaGreatDoor
open Go.RowKit Go.Shelf

theorem rel_data (s : ByteArray) : ((⟨#[118]⟩ : ByteArray) ++ s ++ ⟨#[46, 48]⟩).data.toList = relV s.data.toList := by
  simp [relV]

theorem rel_len {s : ByteArray} (h : s.size ≤ 20000) : ((⟨#[118]⟩ : ByteArray) ++ s ++ ⟨#[46, 48]⟩).size ≤ 20400 := by
  rw [← size_data, rel_data]; simp [relV]; omega
theorem nil_of {s : ByteArray} (h : s.toList = []) : s = ⟨#[]⟩ := by
  apply ByteArray.ext; apply Array.eq_empty_of_size_eq_zero; exact nil_size h
theorem rel_no {l : List UInt8} (h : okV (relV l) = false) : relL l = false := by rw [← rel_same]; simp [relOk, h]
theorem rel_ver {l : List UInt8} {ma mi pa : Int} {pre mta : ByteArray} (h : okV (relV l) = true) (hV : verL (relV l) = ⟨ma, mi, pa, pre, mta⟩) :
    relL l = (decide (ma = 1) && decide (pa = 0) && decide (pre = ⟨#[]⟩) && decide (mta = ⟨#[]⟩)) := by
  rw [← rel_same]; simp [relOk, h, hV]
theorem ne_nil {s : ByteArray} (h : ¬ s.toList = []) : ¬ s = ⟨#[]⟩ := by rintro rfl; exact h (by rw [Lib.toList_data])

set_option maxRecDepth 100000 in
set_option maxHeartbeats 1000000 in
theorem release_any (s : ByteArray) (hs : s.size ≤ 20000) (w : World) :
    Calls Tryz.prog 143 #[.string s] w fun e w' => e = .returned (.bool (relL s.data.toList)) ∧ Below w.heap.size w w' := by
  go_enter Tryz.func143, Tryz.ntmps143
  go_wp2_with fail
  refine (parse_any _ (rel_len hs) _).mono ?_
  rintro _ w1 ⟨rfl, hb⟩
  rw [rel_data, retP, verV, errL]
  cases hv : okV (relV s.data.toList)
  · have H := Lib.hid (rel_no hv)
    rw [show verL (relV s.data.toList) = Ver.zero by simp [verL, hv]]
    clear hv
    go_wp2
    go_ret
    exact ⟨ret_bool H.out.symm, hb.alloc hb.size _⟩
  · generalize hV : verL (relV s.data.toList) = V
    obtain ⟨ma, mi, pa, pre, mta⟩ := V
    have H := Lib.hid (rel_ver hv hV)
    clear hv hV
    by_cases h1 : ma = 1
    · subst h1
      by_cases h2 : pa = 0
      · subst h2
        by_cases h3 : pre.toList = []
        · have e3 := nil_of h3
          subst e3
          clear h3
          by_cases h4 : mta.toList = []
          · have e4 := nil_of h4
            subst e4
            clear h4
            go_wp2
            go_ret
            exact ⟨ret_bool H.out.symm, hb.alloc hb.size _⟩
          · have HN := Lib.hid (ne_nil h4)
            go_wp2
            go_ret
            exact ⟨ret_bool (by simp [H.out, HN.out]), hb.alloc hb.size _⟩
        · have HN := Lib.hid (ne_nil h3)
          go_wp2
          go_ret
          exact ⟨ret_bool (by simp [H.out, HN.out]), hb.alloc hb.size _⟩
      · go_wp2
        go_ret
        exact ⟨ret_bool (by simp [H.out, h2]), hb.alloc hb.size _⟩
    · go_wp2
      go_ret
      exact ⟨ret_bool (by simp [H.out, h1]), hb.alloc hb.size _⟩

theorem pref_rel {s : ByteArray} (h : prefB s ⟨#[49, 46]⟩ = true) : 2 ≤ s.size ∧ relL s.data.toList = numOk (s.extract 2 s.size).data.toList := by
  simp only [prefB, Bool.and_eq_true, decide_eq_true_eq] at h
  have h1 : 2 ≤ s.size := h.1
  refine ⟨h1, ?_⟩
  have h2 : (s.extract 0 2).toList = [49, 46] := by have := eq_of_beq h.2; rw [Lib.toList_data (⟨#[49, 46]⟩)] at this; exact this
  rw [Lib.toList_data, extract_front] at h2
  rw [relL, h2, extract_tail]; rfl
theorem pref_norel {s : ByteArray} (h : prefB s ⟨#[49, 46]⟩ = false) : relL s.data.toList = false := by
  by_cases h1 : 2 ≤ s.size
  · have h2 : ((s.extract 0 2).toList == (⟨#[49, 46]⟩ : ByteArray).toList) = false := by
      have := h
      simp only [prefB] at this
      rwa [decide_eq_true (show ByteArray.size ⟨#[49, 46]⟩ ≤ s.size from h1), Bool.true_and] at this
    rw [Lib.toList_data, Lib.toList_data, extract_front] at h2
    rw [relL]
    have h3 : (List.take 2 s.data.toList == [49, 46]) = false := h2
    rw [h3, Bool.false_and]
  · rw [relL]
    have : (List.take 2 s.data.toList == [49, 46]) = false := by
      rw [beq_eq_false_iff_ne]
      intro e
      have := congrArg List.length e
      rw [List.length_take, size_data] at this
      simp at this
      omega
    rw [this, Bool.false_and]

set_option maxRecDepth 100000 in
set_option maxHeartbeats 1000000 in
theorem rrelease_any (s : ByteArray) (hs : s.size ≤ 20000) (w : World) :
    Calls Tryz.prog 77 #[.string s] w fun e w' => e = .returned (.bool (relL s.data.toList)) ∧ w = w' := by
  cases h : prefB s ⟨#[49, 46]⟩
  · have H := Lib.hid (pref_norel h)
    go_enter Tryz.func77, Tryz.ntmps77
    go_wp2_with fail
    refine (begins_any _ _ _).mono ?_
    rintro _ w1 ⟨rfl, rfl⟩
    rw [h]
    go_wp2
    go_ret
    exact ⟨ret_bool H.out.symm, rfl⟩
  · have h2 := (pref_rel h).1
    have H := Lib.hid (pref_rel h).2
    have hl := extract_le s 2
    go_enter Tryz.func77, Tryz.ntmps77
    go_wp2_with fail
    refine (begins_any _ _ _).mono ?_
    rintro _ w1 ⟨rfl, rfl⟩
    rw [h]
    clear h
    go_wp2_with fail
    generalize s.extract 2 s.size = r at *
    refine (rnumber_any r (by omega) _).mono ?_
    rintro _ w1 ⟨rfl, rfl⟩
    cases hn : numOk r.data.toList
    · rw [numR_no hn]
      go_wp2
      go_ret
      exact ⟨ret_bool (by rw [H.out, hn]), rfl⟩
    · rw [numR_yes hn]
      go_wp2
      go_ret
      exact ⟨ret_bool (by rw [H.out, hn]), rfl⟩
end Go.Proofs.YtmdlmjcejeejfaaGreatDoor
