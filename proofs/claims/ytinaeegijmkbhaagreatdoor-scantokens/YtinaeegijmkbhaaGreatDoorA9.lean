/-
  The program's scanner: what a backslash says.
-/
import Derived.Test.YtinaeegijmkbhaaGreatDoorA8
set_option linter.unusedVariables false
namespace Go.Proofs.YtinaeegijmkbhaaGreatDoor
open Go.RowKit Go.Shelf

set_option maxRecDepth 100000 in
theorem short_all : ∀ n : Fin 256, (escB (UInt8.ofNat n.val) = [] → Lib.indexByte fromL (UInt8.ofNat n.val) = -1) ∧ (escB (UInt8.ofNat n.val) ≠ [] → ∃ j : Fin 9, Lib.indexByte fromL (UInt8.ofNat n.val) = (j.val : Int) ∧ (toL.drop j.val).take 1 = escB (UInt8.ofNat n.val)) := by decide
theorem short_no {c : UInt8} (h : escB c = []) : Lib.indexByte fromL c = -1 := by
  have := (short_all ⟨c.toNat, c.toNat_lt⟩).1
  simp only [UInt8.ofNat_toNat] at this
  exact this h
theorem short_yes {c : UInt8} (h : escB c ≠ []) : ∃ j : Nat, j < 9 ∧ Lib.indexByte fromL c = (j : Int) ∧ (⟨#[7, 8, 12, 10, 13, 9, 11, 92, 34]⟩ : ByteArray).extract j (j + 1) = mkB (escB c) := by
  have := (short_all ⟨c.toNat, c.toNat_lt⟩).2
  simp only [UInt8.ofNat_toNat] at this
  obtain ⟨j, h1, h2⟩ := this h
  refine ⟨j.val, j.isLt, h1, ?_⟩
  rw [← h2, Lib.extract_eq]
  show (⟨(List.take (j.val + 1 - j.val) (List.drop j.val toL)).toArray⟩ : ByteArray) = _
  rw [show j.val + 1 - j.val = 1 by omega]; rfl
theorem u8_back (c : UInt8) : ((c.toNat : Int)).toNat.toUInt8 = c := by simp
theorem num_first {c : UInt8} {r : List UInt8} (hc : digB c = false) : numL 3 8 (c :: r) = -1 := by
  unfold numL
  split
  · rfl
  · rw [List.take_succ_cons, numF, if_pos]
    unfold hexV
    rw [if_neg (by rw [hc]; simp)]
    split
    · omega
    · split <;> omega
/-- What is told of a backslash. -/
def EscOut (l : List UInt8) (w : World) (e : Ending) (w' : World) : Prop := Below w.heap.size w w' ∧
  ((escL l).1 ≠ [] ∧ e = .returned (.tuple #[.string (mkB (escL l).1), .int .i64 ((escL l).2 : Nat), .bool true]) ∨ (escL l).1 = [] ∧ ∃ x sz, e = .returned (.tuple #[.string x, .int .i64 sz, .bool false]))
theorem esc_cons (c : UInt8) (r : List UInt8) : escL (c :: r) = if escB c ≠ [] then (escB c, 1)
    else if digB c then (if 0 ≤ numL 3 8 (c :: r) ∧ numL 3 8 (c :: r) < 256 then [oct8 (numL 3 8 (c :: r))] else [], 3)
    else if c = 120 then (if 0 ≤ numL 2 16 r then [oct8 (numL 2 16 r)] else [], 3)
    else if c = 117 then (utfL (numL 4 16 r), 5)
    else if c = 85 then (utfL (numL 8 16 r), 9)
    else ([], 1) := by rw [escL]
theorem numF_lt : ∀ (l : List UInt8) (n : Int), 0 ≤ n → numF 16 n l < (n + 1) * 16 ^ l.length
  | [], n, h => by rw [numF]; simp; omega
  | c :: r, n, h => by
    have hp : (0 : Int) < 16 ^ r.length := Int.pow_pos (by omega)
    rw [numF, List.length_cons, Int.pow_succ]
    split
    · have : 0 ≤ (n + 1) * (16 ^ r.length * 16) := Int.mul_nonneg (by omega) (by omega)
      omega
    · rename_i hc
      have := numF_lt r (n * 16 + hexV c) (by omega)
      have h2 : (n * 16 + hexV c + 1) * 16 ^ r.length ≤ ((n + 1) * 16) * 16 ^ r.length := Int.mul_le_mul_of_nonneg_right (by omega) (by omega)
      have h3 : ((n + 1) * 16) * 16 ^ r.length = (n + 1) * (16 ^ r.length * 16) := by rw [Int.mul_assoc, Int.mul_comm 16]
      omega
theorem num2_lt (l : List UInt8) : numL 2 16 l < 256 := by
  unfold numL
  split
  · omega
  · rename_i h
    have := numF_lt (l.take 2) 0 (by omega)
    rw [List.length_take, show min 2 l.length = 2 by omega] at this
    simpa using this
theorem esc_close {l : List UInt8} {w w1 : World} {x : ByteArray} {sz : Int} {ok : Bool} (hB : Below w.heap.size w w1) (hy : ok = true → (escL l).1 ≠ [] ∧ x = mkB (escL l).1 ∧ sz = ((escL l).2 : Nat)) (hn : ok = false → (escL l).1 = []) :
    EscOut l w (.returned (.tuple #[.string x, .int .i64 sz, .bool ok])) w1 := by
  refine ⟨hB, ?_⟩
  cases ok
  · exact .inr ⟨hn rfl, _, _, rfl⟩
  · obtain ⟨h1, rfl, rfl⟩ := hy rfl
    exact .inl ⟨h1, rfl⟩
set_option maxHeartbeats 3200000 in
set_option maxRecDepth 100000 in
theorem escaped_any (s : ByteArray) (hs : s.size ≤ 20400) (w : World) (hE : Env w) : Calls Tryz.prog 65 #[.string s] w (EscOut s.data.toList w) := by
  by_cases hz : s.size = 0
  · have hl : s.data.toList = [] := List.length_eq_zero_iff.1 (by rw [size_data]; exact hz)
    have hse : s = ⟨#[]⟩ := by
      apply ByteArray.ext
      exact Array.eq_empty_of_size_eq_zero hz
    subst hse
    go_enter Tryz.func65, Tryz.ntmps65
    go_wp2
    refine bodyPost_ret (v := .tuple #[.string ⟨#[]⟩, .int .i64 0, .bool false]) (by simp [results, Tryz.results65, go_sem]) rfl ?_
    exact ⟨Below.refl _ _, .inr ⟨by rw [escL], _, _, rfl⟩⟩
  have h0 : 0 < s.size := by omega
  have hd := drop_get s 0 h0
  rw [List.drop_zero] at hd
  have hx1 : (s.extract 1 s.size).data.toList = s.data.toList.drop 1 := extract_tail s 1
  have hz1 : (s.extract 1 s.size).size ≤ 20400 := by rw [ByteArray.size_extract]; omega
  have hne : s.toList.isEmpty = false := by
    rw [← decide_eq_emptyBytes]
    exact decide_eq_false (fun h => hz (by rw [h]; rfl))
  have HE := Lib.hid (esc_cons s[0] (s.data.toList.drop 1))
  rw [← hd] at HE
  have hB8 := byte_any 8 (by omega) parseAt_8 s hs 3 (by omega) (by omega) w hE
  have hB16 := byte_any 16 (by omega) parseAt_16 (s.extract 1 s.size) hz1 2 (by omega) (by omega) w hE
  have hR4 := rune_any (s.extract 1 s.size) hz1 4 (by omega) (by omega) w hE
  have hR8 := rune_any (s.extract 1 s.size) hz1 8 (by omega) (by omega) w hE
  rw [hx1] at hB16 hR4 hR8
  have H2 := Lib.hid (num2_lt (s.data.toList.drop 1))
  have HF := Lib.hid (num_first (c := s[0]) (r := s.data.toList.drop 1))
  rw [← hd] at HF
  have HB8 := Lib.hid hB8
  have HB16 := Lib.hid hB16
  have HR4 := Lib.hid hR4
  have HR8 := Lib.hid hR8
  have hI := fun w => Tryz.strings_IndexByte (⟨#[97, 98, 102, 110, 114, 116, 118, 92, 34]⟩ : ByteArray) (s[0].toNat : Int) w
  rw [u8_back] at hI
  have HI : Hid (∀ w, Calls Tryz.prog 69 #[.string ⟨#[97, 98, 102, 110, 114, 116, 118, 92, 34]⟩, .int .u8 (s[0].toNat : Int)] w fun e w' => e = .returned (.int .i64 (Lib.indexByte fromL s[0])) ∧ w' = w) := Lib.hid hI
  clear hI hd hx1 hz1 hz hE hB8 hB16 hR4 hR8
  generalize hl : s.data.toList = l at *
  clear hl
  generalize hc : s[0] = c at *
  have HC := Lib.hid hc
  by_cases hb : escB c ≠ []
  · obtain ⟨j, hj, hi, hx⟩ := short_yes hb
    have HB := Lib.hid hb
    rw [hi] at HI
    have HX := Lib.hid hx
    have hL := HE.out
    rw [if_pos hb] at hL
    have HL := Lib.hid hL
    have i1 : (0 : Int) ≤ (j : Int) := by omega
    have i2 : (j : Int) + 1 ≤ 9 := by omega
    clear hL HE hi hx hj hb HF H2 HB8 HB16 HR4 HR8
    go_enter Tryz.func65, Tryz.ntmps65
    go_wp2_with (go_at_call 69; refine (HI.out _).mono ?_; rintro _ _ ⟨rfl, rfl⟩)
    refine bodyPost_ret (v := .tuple #[.string ((⟨#[7, 8, 12, 10, 13, 9, 11, 92, 34]⟩ : ByteArray).extract j (j + 1)), .int .i64 1, .bool true]) (by simp [results, Tryz.results65, go_sem]) rfl ?_
    exact esc_close (Below.refl _ _) (fun _ => by rw [HL.out, HX.out]; exact ⟨HB.out, rfl, rfl⟩) (fun h => nomatch h)
  · have hb : escB c = [] := Classical.not_not.1 hb
    have hi := short_no hb
    rw [hi] at HI
    have hL := HE.out
    rw [if_neg (not_not_intro hb)] at hL
    have HL := Lib.hid hL
    clear hL HE hi
    by_cases c1 : c = 120
    · have hL := HL.out
      subst c1
      rw [if_neg (show ¬ digB 120 = true by decide), if_pos rfl] at hL
      clear HL
      have HL := Lib.hid hL
      have k1 : ((120 : UInt8).toNat : Int) = 120 := rfl
      have h2 := H2.out
      generalize numL 2 16 (l.drop 1) = n at *
      clear hL HF HB8 HR4 HR8 hb HC
      go_enter Tryz.func65, Tryz.ntmps65
      go_wp2_with (first | (go_at_call 69; refine (HI.out _).mono ?_; rintro _ _ ⟨rfl, rfl⟩) | (go_at_call 72; refine HB16.out.mono ?_; rintro _ w1 ⟨⟨x, rfl, hx⟩, hB⟩))
      refine bodyPost_ret (v := .tuple #[.string x, .int .i64 3, .bool (decide (0 ≤ n))]) (by simp [results, Tryz.results65, go_sem]) rfl ?_
      refine esc_close hB (fun h => ?_) (fun h => ?_)
      · have h := of_decide_eq_true h
        rw [HL.out, if_pos h]; exact ⟨by simp, hx h (by omega), rfl⟩
      · have h := of_decide_eq_false h
        rw [HL.out, if_neg h]
    · by_cases c2 : c = 117
      · have hL := HL.out
        subst c2
        rw [if_neg (show ¬ digB 117 = true by decide), if_neg c1, if_pos rfl] at hL
        clear HL
        have HL := Lib.hid hL
        have k1 : ((117 : UInt8).toNat : Int) = 117 := rfl
        generalize utfL (numL 4 16 (l.drop 1)) = u at *
        obtain ⟨ok, hok⟩ : ∃ ok, ok = decide (u ≠ []) := ⟨_, rfl⟩
        rw [← hok] at HR4
        have HK := Lib.hid hok
        clear hok hL HF HB8 HB16 HR8 hb HC c1
        go_enter Tryz.func65, Tryz.ntmps65
        go_wp2_with (first | (go_at_call 69; refine (HI.out _).mono ?_; rintro _ _ ⟨rfl, rfl⟩) | (go_at_call 73; refine HR4.out.mono ?_; rintro _ w1 ⟨⟨x, rfl, hx⟩, hB⟩; have HX := Lib.hid hx; clear hx))
        refine bodyPost_ret (v := .tuple #[.string x, .int .i64 5, .bool ok]) (by simp [results, Tryz.results65, go_sem]) rfl ?_
        refine esc_close hB (fun h => ?_) (fun h => ?_)
        · have h := of_decide_eq_true (HK.out.symm.trans h)
          rw [HL.out]; exact ⟨h, HX.out h, rfl⟩
        · have h := of_decide_eq_false (HK.out.symm.trans h)
          rw [HL.out]; exact Classical.not_not.1 h
      · by_cases c3 : c = 85
        · have hL := HL.out
          subst c3
          rw [if_neg (show ¬ digB 85 = true by decide), if_neg c1, if_neg c2, if_pos rfl] at hL
          clear HL
          have HL := Lib.hid hL
          have k1 : ((85 : UInt8).toNat : Int) = 85 := rfl
          generalize utfL (numL 8 16 (l.drop 1)) = u at *
          obtain ⟨ok, hok⟩ : ∃ ok, ok = decide (u ≠ []) := ⟨_, rfl⟩
          rw [← hok] at HR8
          have HK := Lib.hid hok
          clear hok hL HF HB8 HB16 HR4 hb HC c1 c2
          go_enter Tryz.func65, Tryz.ntmps65
          go_wp2_with (first | (go_at_call 69; refine (HI.out _).mono ?_; rintro _ _ ⟨rfl, rfl⟩) | (go_at_call 73; refine HR8.out.mono ?_; rintro _ w1 ⟨⟨x, rfl, hx⟩, hB⟩; have HX := Lib.hid hx; clear hx))
          refine bodyPost_ret (v := .tuple #[.string x, .int .i64 9, .bool ok]) (by simp [results, Tryz.results65, go_sem]) rfl ?_
          refine esc_close hB (fun h => ?_) (fun h => ?_)
          · have h := of_decide_eq_true (HK.out.symm.trans h)
            rw [HL.out]; exact ⟨h, HX.out h, rfl⟩
          · have h := of_decide_eq_false (HK.out.symm.trans h)
            rw [HL.out]; exact Classical.not_not.1 h
        · have HL : Hid (escL l = if 0 ≤ numL 3 8 l ∧ numL 3 8 l < 256 then ([oct8 (numL 3 8 l)], 3) else ([], (escL l).2)) := Lib.hid (by
            have hL := HL.out
            rw [if_neg c1, if_neg c2, if_neg c3] at hL
            cases hg : digB c
            · rw [hg, if_neg (by simp)] at hL
              rw [if_neg (by rw [HF.out hg]; omega), hL]
            · rw [hg, if_pos rfl] at hL
              rw [hL]
              by_cases h : 0 ≤ numL 3 8 l ∧ numL 3 8 l < 256
              · rw [if_pos h, if_pos h]
              · rw [if_neg h, if_neg h])
          have k1 : ¬ (c.toNat : Int) = 120 := fun h => c1 (UInt8.toNat.inj (by show c.toNat = 120; omega))
          have k2 : ¬ (c.toNat : Int) = 117 := fun h => c2 (UInt8.toNat.inj (by show c.toNat = 117; omega))
          have k3 : ¬ (c.toNat : Int) = 85 := fun h => c3 (UInt8.toNat.inj (by show c.toNat = 85; omega))
          generalize numL 3 8 l = n at *
          obtain ⟨ok, hok⟩ : ∃ ok, ok = decide (0 ≤ n ∧ n < 256) := ⟨_, rfl⟩
          rw [← hok] at HB8
          have HK := Lib.hid hok
          clear hok HF HB16 HR4 HR8 hb HC c1 c2 c3
          go_enter Tryz.func65, Tryz.ntmps65
          go_wp2_with (first | (go_at_call 69; refine (HI.out _).mono ?_; rintro _ _ ⟨rfl, rfl⟩) | (go_at_call 72; refine HB8.out.mono ?_; rintro _ w1 ⟨⟨x, rfl, hx⟩, hB⟩; have HX := Lib.hid hx; clear hx))
          refine bodyPost_ret (v := .tuple #[.string x, .int .i64 3, .bool ok]) (by simp [results, Tryz.results65, go_sem]) rfl ?_
          refine esc_close hB (fun h => ?_) (fun h => ?_)
          · have h := of_decide_eq_true (HK.out.symm.trans h)
            rw [HL.out, if_pos h]; exact ⟨by simp, HX.out h.1 h.2, rfl⟩
          · have h := of_decide_eq_false (HK.out.symm.trans h)
            rw [HL.out, if_neg h]
end Go.Proofs.YtinaeegijmkbhaaGreatDoor
