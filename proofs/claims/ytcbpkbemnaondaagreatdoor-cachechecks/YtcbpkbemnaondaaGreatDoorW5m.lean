/-
  paths.Module, and what it is made of.
-/
import Derived.Test.YtcbpkbemnaondaaGreatDoorW7
namespace Go.Proofs.YtcbpkbemnaondaaGreatDoor
open Go.RowKit Go.Shelf

theorem contains_any (s : ByteArray) (c : UInt8) (w : World) :
    Calls Tryz.prog 82 #[.string s, .string ⟨#[c]⟩] w fun e w' => e = .returned (.bool (decide (0 ≤ Lib.indexByte s.data.toList c))) ∧ w = w' := by
  go_enter Tryz.func82, Tryz.ntmps82
  go_wp2_with (first | (go_at_call 146; refine (idx_any _ _ _).mono ?_; rintro e w' ⟨rfl, rfl⟩) | go_in)
  go_ret
  exact ⟨rfl, rfl⟩

/-- What strings.Cut at a slash tells. -/

theorem hasp_any (s p : ByteArray) (w : World) :
    Calls Tryz.prog 83 #[.string s, .string p] w fun e w' => e = .returned (.bool (prefB s p)) ∧ w = w' := by
  go_enter Tryz.func83, Tryz.ntmps83
  go_wp2
  all_goals
    go_ret
    exact ⟨ret_bool (by simp [prefB]; try (first | omega | (intros; omega) | assumption)), rfl⟩

theorem hass_any (s p : ByteArray) (w : World) (hs : s.size ≤ 20400) :
    Calls Tryz.prog 147 #[.string s, .string p] w fun e w' => e = .returned (.bool (suffB s p)) ∧ w = w' := by
  go_enter Tryz.func147, Tryz.ntmps147
  go_wp2
  all_goals
    go_ret
    refine ⟨ret_bool ?_, rfl⟩
    simp [suffB]
    intros
    omega

theorem mbyte_any (c : UInt8) (w : World) :
    Calls Tryz.prog 128 #[.int .u8 (c.toNat : Int)] w fun e w' => e = .returned (.bool (mByte c)) ∧ w = w' := by
  go_enter Tryz.func128, Tryz.ntmps128
  go_wp2_with (go_at_call 148; refine (sidxb_any _ _ _).mono ?_; rintro e w' ⟨rfl, rfl⟩)
  all_goals
    go_ret
    refine ⟨ret_bool ?_, rfl⟩
    rw [Bool.eq_iff_iff]
    simp [mByte]
    try omega

/-- A test of bytes, as a function of the program. -/

theorem mtest : ByteTest 128 mByte := ⟨enters_of Tryz.func128 (by kernel_rfl) rfl, mbyte_any⟩

theorem edge_any (s : ByteArray) (hs : s.size ≤ 20400) (w : World) :
    Calls Tryz.prog 126 #[.string s] w fun e w' => e = .returned (.bool (edgeB s)) ∧ w = w' := by
  cases h : prefB s ⟨#[46]⟩
  all_goals
    go_enter Tryz.func126, Tryz.ntmps126
    go_wp2_with (first | (go_at_call 83; refine (hasp_any _ _ _).mono ?_; rintro e w' ⟨rfl, rfl⟩) | (go_at_call 147; refine (hass_any _ _ _ hs).mono ?_; rintro e w' ⟨rfl, rfl⟩))
    go_ret
    exact ⟨ret_bool (by simp [edgeB, h]), rfl⟩

theorem melem_any (s : ByteArray) (hs : s.size ≤ 20400) (w : World) :
    Calls Tryz.prog 85 #[.string s] w fun e w' => e = .returned (.bool (mElem s)) ∧ w = w' := by
  cases h : edgeB s
  all_goals
    go_enter Tryz.func85, Tryz.ntmps85
    go_wp2_with (first | (go_at_call 126; refine (edge_any _ hs _).mono ?_; rintro e w' ⟨rfl, rfl⟩) | (go_at_call 127; refine (all_any _ _ mtest _ hs _).mono ?_; rintro e w' ⟨rfl, rfl⟩))
    go_ret
    exact ⟨ret_bool (by simp [mElem, h]), rfl⟩

theorem metest : ElemTest 85 mElem := ⟨enters_of Tryz.func85 (by kernel_rfl) rfl, fun s w h => melem_any s h w⟩

theorem check_any (g : Nat) (p : ByteArray → Bool) (hg : ElemTest g p) (s : ByteArray) (hs : s.size ≤ 20400) (w : World) :
    Calls Tryz.prog 84 #[.string s, .func (.func g) #[] #[]] w fun e w' => e = .returned (.int .i64 (checkN s p)) ∧ Below w.heap.size w w' := by
  cases h1 : validB s
  · go_enter Tryz.func84, Tryz.ntmps84
    go_wp2_with (go_at_call 80; refine (valid_any _ hs _).mono ?_; rintro e w1 ⟨rfl, hb1⟩)
    go_ret
    exact ⟨ret_int (by simp [checkN, h1]), hb1⟩
  · cases h2 : everyB s p
    all_goals
      go_enter Tryz.func84, Tryz.ntmps84
      go_wp2_with (first | (go_at_call 80; refine (valid_any _ hs _).mono ?_; rintro e w1 ⟨rfl, hb1⟩) | (go_at_call 121; refine (every_any _ _ hg _ hs _).mono ?_; rintro e w2 ⟨rfl, hb2⟩))
      go_ret
      exact ⟨ret_int (by simp [checkN, h1, h2]), hb1.trans (hb2.mono hb1.size)⟩

theorem module_any (s : ByteArray) (hs : s.size ≤ 20400) (w : World) :
    Calls Tryz.prog 49 #[.string s] w fun e w' => e = .returned (.int .i64 (moduleN s)) ∧ Below w.heap.size w w' := by
  cases h1 : decide (0 ≤ Lib.indexByte (cutB s).1.data.toList 46)
  · have J : moduleN s = 10 := by simp only [moduleN, firstB, h1]; rfl
    have HJ := Lib.hid J
    clear J
    go_enter Tryz.func49, Tryz.ntmps49
    go_wp2_with (first | (go_at_call 81; refine (cut_any _ _ hs).mono ?_; rintro e w1 ⟨rfl, n1, rfl⟩) | (go_at_call 82; refine (contains_any _ _ _).mono ?_; rintro e w' ⟨rfl, rfl⟩))
    go_ret
    exact ⟨ret_int HJ.out.symm, below_drewN (Below.refl _ _) _⟩
  · cases h2 : prefB (cutB s).1 ⟨#[45]⟩
    · have J : moduleN s = checkN s mElem := by simp only [moduleN, firstB, h1, h2]; rfl
      have HJ := Lib.hid J
      clear J
      go_enter Tryz.func49, Tryz.ntmps49
      go_wp2_with (first | (go_at_call 81; refine (cut_any _ _ hs).mono ?_; rintro e w1 ⟨rfl, n1, rfl⟩) | (go_at_call 82; refine (contains_any _ _ _).mono ?_; rintro e w' ⟨rfl, rfl⟩) | (go_at_call 83; refine (hasp_any _ _ _).mono ?_; rintro e w' ⟨rfl, rfl⟩) | (go_at_call 84; refine (check_any _ _ metest _ hs _).mono ?_; rintro e w2 ⟨rfl, hb2⟩))
      go_ret
      exact ⟨ret_int HJ.out.symm, below_drewN' hb2⟩
    · have J : moduleN s = 10 := by simp only [moduleN, firstB, h1, h2]; rfl
      have HJ := Lib.hid J
      clear J
      go_enter Tryz.func49, Tryz.ntmps49
      go_wp2_with (first | (go_at_call 81; refine (cut_any _ _ hs).mono ?_; rintro e w1 ⟨rfl, n1, rfl⟩) | (go_at_call 82; refine (contains_any _ _ _).mono ?_; rintro e w' ⟨rfl, rfl⟩) | (go_at_call 83; refine (hasp_any _ _ _).mono ?_; rintro e w' ⟨rfl, rfl⟩))
      go_ret
      exact ⟨ret_int HJ.out.symm, below_drewN (Below.refl _ _) _⟩

end Go.Proofs.YtcbpkbemnaondaaGreatDoor
