/-
  The program's scanner: the piece with which a source begins.
-/
import Derived.Test.YtinaeegijmkbhaaGreatDoorA11
set_option linter.unusedVariables false
namespace Go.Proofs.YtinaeegijmkbhaaGreatDoor
open Go.RowKit Go.Shelf

theorem PieceOut.form {o : Option (Nat × List UInt8 × Nat)} {w w' : World} {e : Ending} (h : PieceOut o w e w') : ∃ (a : Int) (b : ByteArray) (c : Int) (ok : Bool), e = .returned (.tuple #[.agg #[.int .i64 a, .string b, .int .i64 c], .bool ok]) := by
  obtain ⟨-, h⟩ := h
  cases o with
  | none => obtain ⟨a, b, c, h⟩ := h; exact ⟨a, b, c, false, h⟩
  | some x => exact ⟨_, _, _, true, h⟩
theorem PieceOut.world {o : Option (Nat × List UInt8 × Nat)} {w w' w1 w2 : World} {e : Ending} (h : PieceOut o w e w') (b : Below w1.heap.size w1 w2) : PieceOut o w1 e w2 := ⟨b, h.2⟩
theorem pre_two {l : List UInt8} {a b : UInt8} (h : Lib.hasPrefix l [a, b] = true) : ∃ r, l = a :: b :: r := by
  unfold Lib.hasPrefix at h
  rw [List.isPrefixOf_iff_prefix] at h
  obtain ⟨r, rfl⟩ := h
  exact ⟨r, rfl⟩
theorem pre_not {a b : UInt8} {r : List UInt8} (h : Lib.hasPrefix (a :: r) [a, b] = false) : r.head? ≠ some b := by
  intro e
  cases r with
  | nil => cases e
  | cons c r =>
    obtain rfl := Option.some.inj e
    unfold Lib.hasPrefix at h
    simp [List.isPrefixOf] at h
theorem ptok_line {l : List UInt8} (h : Lib.hasPrefix l [47, 47] = true) : tokL l = some (4, lineC l, (l.takeWhile (· ≠ 10)).length) := by
  obtain ⟨r, rfl⟩ := pre_two h
  rw [tokL, if_neg (by decide), if_neg (by decide), if_neg (by decide), if_pos ⟨rfl, rfl⟩]
  unfold lineC
  by_cases e : ((47 :: 47 :: r).takeWhile (fun x : UInt8 => decide (x ≠ 10))).getLast? = some 13
  · rw [if_pos e, if_pos e]
  · rw [if_neg e, if_neg e]
theorem ptok_long {l : List UInt8} (h : Lib.hasPrefix l [47, 42] = true) : tokL l = longC l := by
  obtain ⟨r, rfl⟩ := pre_two h
  rw [tokL, if_neg (by decide), if_neg (by decide), if_neg (by decide), if_neg (by rintro ⟨-, x⟩; simp at x), if_pos ⟨rfl, rfl⟩]
  rfl
theorem ptok_quo (r : List UInt8) : tokL (34 :: r) = quoC (34 :: r) := by
  rw [tokL, if_neg (by decide), if_neg (by decide), if_pos rfl]
  rfl
theorem ptok_raw (r : List UInt8) : tokL (96 :: r) = rawC (96 :: r) := by
  rw [tokL, if_neg (by decide), if_pos rfl]
  rfl
theorem ptok_name {c : UInt8} {r : List UInt8} (h : letB c = true) : tokL (c :: r) = some (1, (c :: r).take (nameN (c :: r)), nameN (c :: r)) := by
  rw [tokL, if_pos h, nameN, if_pos h, take_len_while]
theorem name_no {c : UInt8} {r : List UInt8} (h : letB c = false) : nameN (c :: r) = 0 := by rw [nameN, if_neg (by rw [h]; simp)]
theorem name_yes {c : UInt8} {r : List UInt8} (h : letB c = true) : 0 < nameN (c :: r) ∧ nameN (c :: r) ≤ (c :: r).length := by
  rw [nameN, if_pos h]
  refine ⟨?_, takeWhile_le _ _⟩
  rw [List.takeWhile_cons, if_pos (by unfold nameB; rw [h]; rfl)]; simp
theorem ptok_sign {c : UInt8} {r : List UInt8} (h : letB c = false) (h1 : c ≠ 96) (h2 : c ≠ 34) (h3 : Lib.hasPrefix (c :: r) [47, 47] = false) (h4 : Lib.hasPrefix (c :: r) [47, 42] = false) : tokL (c :: r) = some (3, [c], 1) := by
  rw [tokL, if_neg (by rw [h]; simp), if_neg h1, if_neg h2, if_neg, if_neg]
  · rintro ⟨rfl, e⟩; exact pre_not h4 e
  · rintro ⟨rfl, e⟩; exact pre_not h3 e
set_option maxRecDepth 100000 in
set_option maxHeartbeats 3200000 in
theorem first_any (s : ByteArray) (hs : s.size ≤ 20400) (w : World) (hE : Env w) : Calls Tryz.prog 25 #[.string s] w (PieceOut (tokL s.data.toList) w) := by
  have HG := Lib.hid (GBlk.new w 50 #[.int .i64 0, .string ⟨#[]⟩, .int .i64 0])
  have HE := Lib.hid (hE.on ((Below.refl _ _).alloc (Nat.le_refl _) (.cells #[.int .i64 0, .string ⟨#[]⟩, .int .i64 0] 50)))
  have HLC := Lib.hid (fun w h => lineC_any s hs w h)
  have hp1 := fun w => Tryz.strings_HasPrefix s ⟨#[47, 47]⟩ w
  have hp2 := fun w => Tryz.strings_HasPrefix s ⟨#[47, 42]⟩ w
  have HP1 : Hid (∀ w, Calls Tryz.prog 20 #[.string s, .string ⟨#[47, 47]⟩] w fun e w' => e = .returned (.bool (Lib.hasPrefix s.data.toList [47, 47])) ∧ w' = w) := Lib.hid hp1
  have HP2 : Hid (∀ w, Calls Tryz.prog 20 #[.string s, .string ⟨#[47, 42]⟩] w fun e w' => e = .returned (.bool (Lib.hasPrefix s.data.toList [47, 42])) ∧ w' = w) := Lib.hid hp2
  have HNm := Lib.hid (name_any s hs)
  clear hp1 hp2 hE
  by_cases hz : s.size = 0
  · have hl : s.data.toList = [] := List.length_eq_zero_iff.1 (by rw [size_data]; exact hz)
    have hse : s = ⟨#[]⟩ := by
      apply ByteArray.ext
      exact Array.eq_empty_of_size_eq_zero hz
    have HL := Lib.hid (show tokL s.data.toList = some (0, [], 0) by rw [hl]; rfl)
    rw [HL.out]
    clear HP1 HP2 HNm HLC HL
    subst hse
    have gB := HG.out
    have f0 : (w.alloc (.cells #[.int .i64 0, .string ⟨#[]⟩, .int .i64 0] 50)).cell? ⟨w.heap.size, 0, none⟩ = some (.int .i64 0) := gB.cell 0
    have f1 : (w.alloc (.cells #[.int .i64 0, .string ⟨#[]⟩, .int .i64 0] 50)).cell? ⟨w.heap.size, 1, none⟩ = some (.string ⟨#[]⟩) := gB.cell 1
    have f2 : (w.alloc (.cells #[.int .i64 0, .string ⟨#[]⟩, .int .i64 0] 50)).cell? ⟨w.heap.size, 2, none⟩ = some (.int .i64 0) := gB.cell 2
    clear gB
    go_enter Tryz.func25, Tryz.ntmps25
    go_wp2
    refine bodyPost_ret (v := .tuple #[.agg #[.int .i64 0, .string ⟨#[]⟩, .int .i64 0], .bool true]) (by simp [results, Tryz.results25, go_sem, f0, f1, f2]) rfl ⟨(Below.refl _ _).alloc (Nat.le_refl _) _, rfl⟩
  have h0 : 0 < s.size := by omega
  have hd := drop_get s 0 h0
  rw [List.drop_zero] at hd
  have hne : s.toList.isEmpty = false := by
    rw [← decide_eq_emptyBytes]
    exact decide_eq_false (fun h => hz (by rw [h]; rfl))
  have i1 : (1 : Int) ≤ (s.size : Int) := by omega
  have i0 : (0 : Int) < (s.size : Int) := by omega
  cases b1 : Lib.hasPrefix s.data.toList [47, 47]
  · rw [b1] at HP1
    cases b2 : Lib.hasPrefix s.data.toList [47, 42]
    · rw [b2] at HP2
      have HQC := Lib.hid (fun w h => quoC_any s hs (by omega) w h)
      have HRC := Lib.hid (fun w h => rawC_any s hs (by omega) w h)
      by_cases c34 : s[0] = 34
      · have HL := Lib.hid (show tokL s.data.toList = quoC s.data.toList by rw [hd, c34]; exact ptok_quo _)
        rw [HL.out]
        have k1 : (s[0].toNat : Int) = 34 := by rw [c34]; rfl
        clear hd HL HRC HNm HLC b1 b2 c34 hz
        go_enter Tryz.func25, Tryz.ntmps25
        go_wp2_with (first
          | (go_at_call 20; first | (refine (HP1.out _).mono ?_; rintro _ _ ⟨rfl, rfl⟩) | (refine (HP2.out _).mono ?_; rintro _ _ ⟨rfl, rfl⟩))
          | (go_at_call 40; refine (HQC.out _ HE.out).mono ?_; rintro e w9 hO; obtain ⟨a, b, c, ok, rfl⟩ := hO.form; have HO := Lib.hid hO; have HBl := Lib.hid (show Below (w.alloc (.cells #[.int .i64 0, .string ⟨#[]⟩, .int .i64 0] 50)).heap.size (w.alloc (.cells #[.int .i64 0, .string ⟨#[]⟩, .int .i64 0] 50)) w9 from HO.out.1); have gB := HG.out.below HBl.out; have f0 : w9.cell? ⟨w.heap.size, 0, none⟩ = some (.int .i64 0) := gB.cell 0; have f1 : w9.cell? ⟨w.heap.size, 1, none⟩ = some (.string ⟨#[]⟩) := gB.cell 1; have f2 : w9.cell? ⟨w.heap.size, 2, none⟩ = some (.int .i64 0) := gB.cell 2; have f3 := gB.frozen 0; have f4 := gB.frozen 1; have f5 := gB.frozen 2; have HGB := Lib.hid gB; clear gB; clear hO))
        have gW := HGB.out.set3 (.int .i64 a) (.string b) (.int .i64 c)
        have hW := below_set3 (HBl.out.mono (show w.heap.size ≤ _ by simp)) (Nat.le_refl _) (.int .i64 a) (.string b) (.int .i64 c) (k := w.heap.size) (B := w.heap.size)
        generalize (((w9.setCell ⟨w.heap.size, 0, none⟩ (.int .i64 a)).setCell ⟨w.heap.size, 1, none⟩ (.string b)).setCell ⟨w.heap.size, 2, none⟩ (.int .i64 c)) = W at *
        have y0 : W.cell? ⟨w.heap.size, 0, none⟩ = some (.int .i64 a) := gW.cell 0
        have y1 : W.cell? ⟨w.heap.size, 1, none⟩ = some (.string b) := gW.cell 1
        have y2 : W.cell? ⟨w.heap.size, 2, none⟩ = some (.int .i64 c) := gW.cell 2
        have hF : Below w.heap.size w W := ((Below.refl _ w).alloc (Nat.le_refl _) _).trans hW
        exact bodyPost_ret (v := .tuple #[.agg #[.int .i64 a, .string b, .int .i64 c], .bool ok]) (by simp [results, Tryz.results25, go_sem, y0, y1, y2]) rfl (HO.out.world hF)
      · have k1 : ¬ (s[0].toNat : Int) = 34 := fun h => c34 (UInt8.toNat.inj (by show s[0].toNat = 34; omega))
        by_cases c96 : s[0] = 96
        · have HL := Lib.hid (show tokL s.data.toList = rawC s.data.toList by rw [hd, c96]; exact ptok_raw _)
          rw [HL.out]
          have k2 : (s[0].toNat : Int) = 96 := by rw [c96]; rfl
          clear hd HL HQC HNm HLC b1 b2 c34 c96 hz
          go_enter Tryz.func25, Tryz.ntmps25
          go_wp2_with (first
            | (go_at_call 20; first | (refine (HP1.out _).mono ?_; rintro _ _ ⟨rfl, rfl⟩) | (refine (HP2.out _).mono ?_; rintro _ _ ⟨rfl, rfl⟩))
            | (go_at_call 41; refine (HRC.out _ HE.out).mono ?_; rintro e w9 hO; obtain ⟨a, b, c, ok, rfl⟩ := hO.form; have HO := Lib.hid hO; have HBl := Lib.hid (show Below (w.alloc (.cells #[.int .i64 0, .string ⟨#[]⟩, .int .i64 0] 50)).heap.size (w.alloc (.cells #[.int .i64 0, .string ⟨#[]⟩, .int .i64 0] 50)) w9 from HO.out.1); have gB := HG.out.below HBl.out; have f0 : w9.cell? ⟨w.heap.size, 0, none⟩ = some (.int .i64 0) := gB.cell 0; have f1 : w9.cell? ⟨w.heap.size, 1, none⟩ = some (.string ⟨#[]⟩) := gB.cell 1; have f2 : w9.cell? ⟨w.heap.size, 2, none⟩ = some (.int .i64 0) := gB.cell 2; have f3 := gB.frozen 0; have f4 := gB.frozen 1; have f5 := gB.frozen 2; have HGB := Lib.hid gB; clear gB; clear hO))
          have gW := HGB.out.set3 (.int .i64 a) (.string b) (.int .i64 c)
          have hW := below_set3 (HBl.out.mono (show w.heap.size ≤ _ by simp)) (Nat.le_refl _) (.int .i64 a) (.string b) (.int .i64 c) (k := w.heap.size) (B := w.heap.size)
          generalize (((w9.setCell ⟨w.heap.size, 0, none⟩ (.int .i64 a)).setCell ⟨w.heap.size, 1, none⟩ (.string b)).setCell ⟨w.heap.size, 2, none⟩ (.int .i64 c)) = W at *
          have y0 : W.cell? ⟨w.heap.size, 0, none⟩ = some (.int .i64 a) := gW.cell 0
          have y1 : W.cell? ⟨w.heap.size, 1, none⟩ = some (.string b) := gW.cell 1
          have y2 : W.cell? ⟨w.heap.size, 2, none⟩ = some (.int .i64 c) := gW.cell 2
          have hF : Below w.heap.size w W := ((Below.refl _ w).alloc (Nat.le_refl _) _).trans hW
          exact bodyPost_ret (v := .tuple #[.agg #[.int .i64 a, .string b, .int .i64 c], .bool ok]) (by simp [results, Tryz.results25, go_sem, y0, y1, y2]) rfl (HO.out.world hF)
        · have k2 : ¬ (s[0].toNat : Int) = 96 := fun h => c96 (UInt8.toNat.inj (by show s[0].toNat = 96; omega))
          cases hl : letB s[0]
          · have HL := Lib.hid (show tokL s.data.toList = some (3, [s[0]], 1) by rw [hd]; exact ptok_sign hl c96 c34 (by rw [← hd]; exact b1) (by rw [← hd]; exact b2))
            have hn : nameN s.data.toList = 0 := by rw [hd]; exact name_no hl
            have HX := Lib.hid (show s.extract 0 1 = mkB [s[0]] by rw [mkB_take, hd]; rfl)
            rw [HL.out]
            rw [hn] at HNm
            clear hd HL HQC HRC HLC b1 b2 c34 c96 hz hn hl
            go_enter Tryz.func25, Tryz.ntmps25
            go_wp2_with (first
              | (go_at_call 20; first | (refine (HP1.out _).mono ?_; rintro _ _ ⟨rfl, rfl⟩) | (refine (HP2.out _).mono ?_; rintro _ _ ⟨rfl, rfl⟩))
              | (go_at_call 42; refine (HNm.out _).mono ?_; rintro e w9 ⟨rfl, hB⟩; have HBl := Lib.hid (show Below (w.alloc (.cells #[.int .i64 0, .string ⟨#[]⟩, .int .i64 0] 50)).heap.size (w.alloc (.cells #[.int .i64 0, .string ⟨#[]⟩, .int .i64 0] 50)) w9 from hB); have gB := HG.out.below HBl.out; have f0 : w9.cell? ⟨w.heap.size, 0, none⟩ = some (.int .i64 0) := gB.cell 0; have f1 : w9.cell? ⟨w.heap.size, 1, none⟩ = some (.string ⟨#[]⟩) := gB.cell 1; have f2 : w9.cell? ⟨w.heap.size, 2, none⟩ = some (.int .i64 0) := gB.cell 2; have f3 := gB.frozen 0; have f4 := gB.frozen 1; have f5 := gB.frozen 2; have HGB := Lib.hid gB; clear gB; clear hB))
            have gW := HGB.out.set3 (.int .i64 3) (.string (s.extract 0 1)) (.int .i64 1)
            have hW := below_set3 (HBl.out.mono (show w.heap.size ≤ _ by simp)) (Nat.le_refl _) (.int .i64 3) (.string (s.extract 0 1)) (.int .i64 1) (k := w.heap.size) (B := w.heap.size)
            generalize (((w9.setCell ⟨w.heap.size, 0, none⟩ (.int .i64 3)).setCell ⟨w.heap.size, 1, none⟩ (.string (s.extract 0 1))).setCell ⟨w.heap.size, 2, none⟩ (.int .i64 1)) = W at *
            have y0 : W.cell? ⟨w.heap.size, 0, none⟩ = some (.int .i64 3) := gW.cell 0
            have y1 : W.cell? ⟨w.heap.size, 1, none⟩ = some (.string (s.extract 0 1)) := gW.cell 1
            have y2 : W.cell? ⟨w.heap.size, 2, none⟩ = some (.int .i64 1) := gW.cell 2
            have hF : Below w.heap.size w W := ((Below.refl _ w).alloc (Nat.le_refl _) _).trans hW
            exact bodyPost_ret (v := .tuple #[.agg #[.int .i64 3, .string (s.extract 0 1), .int .i64 1], .bool true]) (by simp [results, Tryz.results25, go_sem, y0, y1, y2]) rfl ⟨hF, by rw [HX.out]; rfl⟩
          · have HL := Lib.hid (show tokL s.data.toList = some (1, s.data.toList.take (nameN s.data.toList), nameN s.data.toList) by rw [hd]; exact ptok_name hl)
            have hn := name_yes (r := s.data.toList.drop 1) hl
            rw [← hd, size_data] at hn
            have HX := Lib.hid (mkB_take s (nameN s.data.toList))
            rw [HL.out]
            generalize nameN s.data.toList = n at *
            have i2 : (0 : Int) < (n : Int) := by omega
            have i3 : (n : Int) ≤ (s.size : Int) := by omega
            clear hd HL HQC HRC HLC b1 b2 c34 c96 hz hn hl
            go_enter Tryz.func25, Tryz.ntmps25
            go_wp2_with (first
              | (go_at_call 20; first | (refine (HP1.out _).mono ?_; rintro _ _ ⟨rfl, rfl⟩) | (refine (HP2.out _).mono ?_; rintro _ _ ⟨rfl, rfl⟩))
              | (go_at_call 42; refine (HNm.out _).mono ?_; rintro e w9 ⟨rfl, hB⟩; have HBl := Lib.hid (show Below (w.alloc (.cells #[.int .i64 0, .string ⟨#[]⟩, .int .i64 0] 50)).heap.size (w.alloc (.cells #[.int .i64 0, .string ⟨#[]⟩, .int .i64 0] 50)) w9 from hB); have gB := HG.out.below HBl.out; have f0 : w9.cell? ⟨w.heap.size, 0, none⟩ = some (.int .i64 0) := gB.cell 0; have f1 : w9.cell? ⟨w.heap.size, 1, none⟩ = some (.string ⟨#[]⟩) := gB.cell 1; have f2 : w9.cell? ⟨w.heap.size, 2, none⟩ = some (.int .i64 0) := gB.cell 2; have f3 := gB.frozen 0; have f4 := gB.frozen 1; have f5 := gB.frozen 2; have HGB := Lib.hid gB; clear gB; clear hB))
            have gW := HGB.out.set3 (.int .i64 1) (.string (s.extract 0 n)) (.int .i64 (n : Int))
            have hW := below_set3 (HBl.out.mono (show w.heap.size ≤ _ by simp)) (Nat.le_refl _) (.int .i64 1) (.string (s.extract 0 n)) (.int .i64 (n : Int)) (k := w.heap.size) (B := w.heap.size)
            generalize (((w9.setCell ⟨w.heap.size, 0, none⟩ (.int .i64 1)).setCell ⟨w.heap.size, 1, none⟩ (.string (s.extract 0 n))).setCell ⟨w.heap.size, 2, none⟩ (.int .i64 (n : Int))) = W at *
            have y0 : W.cell? ⟨w.heap.size, 0, none⟩ = some (.int .i64 1) := gW.cell 0
            have y1 : W.cell? ⟨w.heap.size, 1, none⟩ = some (.string (s.extract 0 n)) := gW.cell 1
            have y2 : W.cell? ⟨w.heap.size, 2, none⟩ = some (.int .i64 (n : Int)) := gW.cell 2
            have hF : Below w.heap.size w W := ((Below.refl _ w).alloc (Nat.le_refl _) _).trans hW
            exact bodyPost_ret (v := .tuple #[.agg #[.int .i64 1, .string (s.extract 0 n), .int .i64 (n : Int)], .bool true]) (by simp [results, Tryz.results25, go_sem, y0, y1, y2]) rfl ⟨hF, by rw [HX.out]; rfl⟩
    · rw [b2] at HP2
      have HL := Lib.hid (ptok_long b2)
      rw [HL.out]
      have h2 : 2 ≤ s.size := by
        obtain ⟨r, hr⟩ := pre_two b2
        have := congrArg List.length hr
        rw [size_data] at this
        simp at this; omega
      have HQC := Lib.hid (fun w h => longC_any s hs h2 w h)
      clear hd HL HNm HLC b1 b2 hz h2
      go_enter Tryz.func25, Tryz.ntmps25
      go_wp2_with (first
        | (go_at_call 20; first | (refine (HP1.out _).mono ?_; rintro _ _ ⟨rfl, rfl⟩) | (refine (HP2.out _).mono ?_; rintro _ _ ⟨rfl, rfl⟩))
        | (go_at_call 39; refine (HQC.out _ HE.out).mono ?_; rintro e w9 hO; obtain ⟨a, b, c, ok, rfl⟩ := hO.form; have HO := Lib.hid hO; have HBl := Lib.hid (show Below (w.alloc (.cells #[.int .i64 0, .string ⟨#[]⟩, .int .i64 0] 50)).heap.size (w.alloc (.cells #[.int .i64 0, .string ⟨#[]⟩, .int .i64 0] 50)) w9 from HO.out.1); have gB := HG.out.below HBl.out; have f0 : w9.cell? ⟨w.heap.size, 0, none⟩ = some (.int .i64 0) := gB.cell 0; have f1 : w9.cell? ⟨w.heap.size, 1, none⟩ = some (.string ⟨#[]⟩) := gB.cell 1; have f2 : w9.cell? ⟨w.heap.size, 2, none⟩ = some (.int .i64 0) := gB.cell 2; have f3 := gB.frozen 0; have f4 := gB.frozen 1; have f5 := gB.frozen 2; have HGB := Lib.hid gB; clear gB; clear hO))
      have gW := HGB.out.set3 (.int .i64 a) (.string b) (.int .i64 c)
      have hW := below_set3 (HBl.out.mono (show w.heap.size ≤ _ by simp)) (Nat.le_refl _) (.int .i64 a) (.string b) (.int .i64 c) (k := w.heap.size) (B := w.heap.size)
      generalize (((w9.setCell ⟨w.heap.size, 0, none⟩ (.int .i64 a)).setCell ⟨w.heap.size, 1, none⟩ (.string b)).setCell ⟨w.heap.size, 2, none⟩ (.int .i64 c)) = W at *
      have y0 : W.cell? ⟨w.heap.size, 0, none⟩ = some (.int .i64 a) := gW.cell 0
      have y1 : W.cell? ⟨w.heap.size, 1, none⟩ = some (.string b) := gW.cell 1
      have y2 : W.cell? ⟨w.heap.size, 2, none⟩ = some (.int .i64 c) := gW.cell 2
      have hF : Below w.heap.size w W := ((Below.refl _ w).alloc (Nat.le_refl _) _).trans hW
      exact bodyPost_ret (v := .tuple #[.agg #[.int .i64 a, .string b, .int .i64 c], .bool ok]) (by simp [results, Tryz.results25, go_sem, y0, y1, y2]) rfl (HO.out.world hF)
  · rw [b1] at HP1
    have HL := Lib.hid (ptok_line b1)
    rw [HL.out]
    clear hd HL HNm b1 hz HP2
    unfold pieceV at HLC
    generalize ht : mkB (lineC s.data.toList) = t at *
    have HTt := Lib.hid ht
    clear ht
    generalize (s.data.toList.takeWhile (· ≠ 10)).length = n at *
    go_enter Tryz.func25, Tryz.ntmps25
    go_wp2_with (first
      | (go_at_call 20; refine (HP1.out _).mono ?_; rintro _ _ ⟨rfl, rfl⟩)
      | (go_at_call 38; refine (HLC.out _ HE.out).mono ?_; rintro e w9 ⟨rfl, hB⟩; have HBl := Lib.hid (show Below (w.alloc (.cells #[.int .i64 0, .string ⟨#[]⟩, .int .i64 0] 50)).heap.size (w.alloc (.cells #[.int .i64 0, .string ⟨#[]⟩, .int .i64 0] 50)) w9 from hB); have gB := HG.out.below HBl.out; have f0 : w9.cell? ⟨w.heap.size, 0, none⟩ = some (.int .i64 0) := gB.cell 0; have f1 : w9.cell? ⟨w.heap.size, 1, none⟩ = some (.string ⟨#[]⟩) := gB.cell 1; have f2 : w9.cell? ⟨w.heap.size, 2, none⟩ = some (.int .i64 0) := gB.cell 2; have f3 := gB.frozen 0; have f4 := gB.frozen 1; have f5 := gB.frozen 2; have HGB := Lib.hid gB; clear gB; clear hB))
    have gW := HGB.out.set3 (.int .i64 4) (.string t) (.int .i64 (n : Int))
    have hW := below_set3 (HBl.out.mono (show w.heap.size ≤ _ by simp)) (Nat.le_refl _) (.int .i64 4) (.string t) (.int .i64 (n : Int)) (k := w.heap.size) (B := w.heap.size)
    generalize (((w9.setCell ⟨w.heap.size, 0, none⟩ (.int .i64 4)).setCell ⟨w.heap.size, 1, none⟩ (.string t)).setCell ⟨w.heap.size, 2, none⟩ (.int .i64 (n : Int))) = W at *
    have y0 : W.cell? ⟨w.heap.size, 0, none⟩ = some (.int .i64 4) := gW.cell 0
    have y1 : W.cell? ⟨w.heap.size, 1, none⟩ = some (.string t) := gW.cell 1
    have y2 : W.cell? ⟨w.heap.size, 2, none⟩ = some (.int .i64 (n : Int)) := gW.cell 2
    have hF : Below w.heap.size w W := ((Below.refl _ w).alloc (Nat.le_refl _) _).trans hW
    exact bodyPost_ret (v := .tuple #[.agg #[.int .i64 4, .string t, .int .i64 (n : Int)], .bool true]) (by simp [results, Tryz.results25, go_sem, y0, y1, y2]) rfl ⟨hF, by rw [← HTt.out]; rfl⟩
end Go.Proofs.YtinaeegijmkbhaaGreatDoor
