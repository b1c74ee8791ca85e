/-
  paths.Module, and what it is made of.
-/
import Derived.Test.YtmdlmjcejeejfaaGreatDoorW7
namespace Go.Proofs.YtmdlmjcejeejfaaGreatDoor
open Go.RowKit Go.Shelf

theorem contains_any (s : ByteArray) (c : UInt8) (w : World) :
    Calls Tryz.prog 88 #[.string s, .string ⟨#[c]⟩] w fun e w' => e = .returned (.bool (decide (0 ≤ Lib.indexByte s.data.toList c))) ∧ w = w' := by
  go_enter Tryz.func88, Tryz.ntmps88
  go_wp2_with (first | (go_at_call 177; refine (idx_any _ _ _).mono ?_; rintro e w' ⟨rfl, rfl⟩) | go_in)
  go_ret
  exact ⟨rfl, rfl⟩

/-- What strings.Cut at a slash tells. -/

theorem hasp_any (s p : ByteArray) (w : World) :
    Calls Tryz.prog 89 #[.string s, .string p] w fun e w' => e = .returned (.bool (prefB s p)) ∧ w = w' := by
  go_enter Tryz.func89, Tryz.ntmps89
  go_wp2
  all_goals
    go_ret
    exact ⟨ret_bool (by simp [prefB]; try (first | omega | (intros; omega) | assumption)), rfl⟩

theorem hass_any (s p : ByteArray) (w : World) (hs : s.size ≤ 20400) :
    Calls Tryz.prog 179 #[.string s, .string p] w fun e w' => e = .returned (.bool (suffB s p)) ∧ w = w' := by
  go_enter Tryz.func179, Tryz.ntmps179
  go_wp2
  all_goals
    go_ret
    refine ⟨ret_bool ?_, rfl⟩
    simp [suffB]
    intros
    omega

theorem mbyte_any (c : UInt8) (w : World) :
    Calls Tryz.prog 142 #[.int .u8 (c.toNat : Int)] w fun e w' => e = .returned (.bool (mByte c)) ∧ w = w' := by
  go_enter Tryz.func142, Tryz.ntmps142
  go_wp2_with (go_at_call 180; refine (sidxb_any _ _ _).mono ?_; rintro e w' ⟨rfl, rfl⟩)
  all_goals
    go_ret
    refine ⟨ret_bool ?_, rfl⟩
    rw [Bool.eq_iff_iff]
    simp [mByte]
    try omega

/-- A test of bytes, as a function of the program. -/

theorem mtest : ByteTest 142 mByte := ⟨enters_of Tryz.func142 (by kernel_rfl) rfl, mbyte_any⟩

theorem edge_any (s : ByteArray) (hs : s.size ≤ 20400) (w : World) :
    Calls Tryz.prog 140 #[.string s] w fun e w' => e = .returned (.bool (edgeB s)) ∧ w = w' := by
  cases h : prefB s ⟨#[46]⟩
  all_goals
    go_enter Tryz.func140, Tryz.ntmps140
    go_wp2_with (first | (go_at_call 89; refine (hasp_any _ _ _).mono ?_; rintro e w' ⟨rfl, rfl⟩) | (go_at_call 179; refine (hass_any _ _ _ hs).mono ?_; rintro e w' ⟨rfl, rfl⟩))
    go_ret
    exact ⟨ret_bool (by simp [edgeB, h]), rfl⟩

theorem melem_any (s : ByteArray) (hs : s.size ≤ 20400) (w : World) :
    Calls Tryz.prog 91 #[.string s] w fun e w' => e = .returned (.bool (mElem s)) ∧ w = w' := by
  cases h : edgeB s
  all_goals
    go_enter Tryz.func91, Tryz.ntmps91
    go_wp2_with (first | (go_at_call 140; refine (edge_any _ hs _).mono ?_; rintro e w' ⟨rfl, rfl⟩) | (go_at_call 141; refine (all_any _ _ mtest _ hs _).mono ?_; rintro e w' ⟨rfl, rfl⟩))
    go_ret
    exact ⟨ret_bool (by simp [mElem, h]), rfl⟩

theorem metest : ElemTest 91 mElem := ⟨enters_of Tryz.func91 (by kernel_rfl) rfl, fun s w h => melem_any s h w⟩

theorem check_any (g : Nat) (p : ByteArray → Bool) (hg : ElemTest g p) (s : ByteArray) (hs : s.size ≤ 20400) (w : World) :
    Calls Tryz.prog 90 #[.string s, .func (.func g) #[] #[]] w fun e w' => e = .returned (.int .i64 (checkN s p)) ∧ Below w.heap.size w w' := by
  cases h1 : validB s
  · go_enter Tryz.func90, Tryz.ntmps90
    go_wp2_with (go_at_call 138; refine (valid_any _ hs _).mono ?_; rintro e w1 ⟨rfl, hb1⟩)
    go_ret
    exact ⟨ret_int (by simp [checkN, h1]), hb1⟩
  · cases h2 : everyB s p
    all_goals
      go_enter Tryz.func90, Tryz.ntmps90
      go_wp2_with (first | (go_at_call 138; refine (valid_any _ hs _).mono ?_; rintro e w1 ⟨rfl, hb1⟩) | (go_at_call 139; refine (every_any _ _ hg _ hs _).mono ?_; rintro e w2 ⟨rfl, hb2⟩))
      go_ret
      exact ⟨ret_int (by simp [checkN, h1, h2]), hb1.trans (hb2.mono hb1.size)⟩

theorem module_any (s : ByteArray) (hs : s.size ≤ 20400) (w : World) :
    Calls Tryz.prog 43 #[.string s] w fun e w' => e = .returned (.int .i64 (moduleN s)) ∧ Below w.heap.size w w' := by
  cases h1 : decide (0 ≤ Lib.indexByte (cutB s).1.data.toList 46)
  · have J : moduleN s = 10 := by simp only [moduleN, firstB, h1]; rfl
    have HJ := Lib.hid J
    clear J
    go_enter Tryz.func43, Tryz.ntmps43
    go_wp2_with (first | (go_at_call 87; refine (cut_any _ _ hs).mono ?_; rintro e w1 ⟨rfl, n1, rfl⟩) | (go_at_call 88; refine (contains_any _ _ _).mono ?_; rintro e w' ⟨rfl, rfl⟩))
    go_ret
    exact ⟨ret_int HJ.out.symm, below_drewN (Below.refl _ _) _⟩
  · cases h2 : prefB (cutB s).1 ⟨#[45]⟩
    · have J : moduleN s = checkN s mElem := by simp only [moduleN, firstB, h1, h2]; rfl
      have HJ := Lib.hid J
      clear J
      go_enter Tryz.func43, Tryz.ntmps43
      go_wp2_with (first | (go_at_call 87; refine (cut_any _ _ hs).mono ?_; rintro e w1 ⟨rfl, n1, rfl⟩) | (go_at_call 88; refine (contains_any _ _ _).mono ?_; rintro e w' ⟨rfl, rfl⟩) | (go_at_call 89; refine (hasp_any _ _ _).mono ?_; rintro e w' ⟨rfl, rfl⟩) | (go_at_call 90; refine (check_any _ _ metest _ hs _).mono ?_; rintro e w2 ⟨rfl, hb2⟩))
      go_ret
      exact ⟨ret_int HJ.out.symm, below_drewN' hb2⟩
    · have J : moduleN s = 10 := by simp only [moduleN, firstB, h1, h2]; rfl
      have HJ := Lib.hid J
      clear J
      go_enter Tryz.func43, Tryz.ntmps43
      go_wp2_with (first | (go_at_call 87; refine (cut_any _ _ hs).mono ?_; rintro e w1 ⟨rfl, n1, rfl⟩) | (go_at_call 88; refine (contains_any _ _ _).mono ?_; rintro e w' ⟨rfl, rfl⟩) | (go_at_call 89; refine (hasp_any _ _ _).mono ?_; rintro e w' ⟨rfl, rfl⟩))
      go_ret
      exact ⟨ret_int HJ.out.symm, below_drewN (Below.refl _ _) _⟩

end Go.Proofs.YtmdlmjcejeejfaaGreatDoor
