/-
  The program's scanner: how far a source is one; New.
-/
import Derived.Test.YtinaeegijmkbhaaGreatDoorA2
import Derived.Test.YtinaeegijmkbhaaGreatDoorQG
set_option linter.unusedVariables false
namespace Go.Proofs.YtinaeegijmkbhaaGreatDoor
open Go.RowKit Go.Shelf

theorem fffd_bytes {b0 a1 a2 : Nat} (h0 : 224 ≤ b0) (h1 : b0 < 240) (h2 : 128 ≤ a1) (h3 : a1 < 192) (h4 : 128 ≤ a2) (h5 : a2 < 192) (h : b0 % 16 * 4096 + a1 % 64 * 64 + a2 % 64 = 65533) : b0 = 239 ∧ a1 = 191 ∧ a2 = 189 := by omega
set_option maxHeartbeats 1000000 in
/-- The rune that tells of a wrong byte, where it stands itself. -/
theorem fffd_read (s : ByteArray) (i : Nat) (h : i < s.size) (hr : (Utf8.decode s i).1 = 65533) (hw : wideL (s.data.toList.drop i) ≠ 0) : ∃ r, s.data.toList.drop i = 239 :: 191 :: 189 :: r := by
  have hd := drop_get s i h
  have ht := wide_told s i h
  have hn : 1 < wideL (s.data.toList.drop i) := by
    rcases ht with ⟨h1, -⟩ | ⟨h1, h2, h3, h4⟩
    · exact absurd h1 hw
    · by_cases e : wideL (s.data.toList.drop i) = 1
      · have := h3 e; omega
      · omega
  obtain ⟨-, h2⟩ : wideL (s.data.toList.drop i) ≠ 0 ∧ (Utf8.decode s i).2 = wideL (s.data.toList.drop i) := by
    rcases ht with ⟨h1, -⟩ | ⟨h1, h2, -, -⟩
    · exact absurd h1 hw
    · exact ⟨h1, h2⟩
  rw [← h2] at hn
  clear ht hw h2
  unfold Utf8.decode at hr hn
  simp only [Nat.add_zero, get_bang s i h] at hr hn
  have hb := s[i].toNat_lt
  generalize hb0 : s[i].toNat = b0 at *
  by_cases c1 : b0 < 128
  · rw [if_pos c1] at hn; simp at hn
  rw [if_neg c1] at hr hn
  by_cases q2 : (b0 / 32 == 6 && (decide (i + 1 < s.size) && (s.get! (i + 1)).toNat / 64 == 2)) = true
  · rw [if_pos q2] at hr hn
    have ha := (s.get! (i + 1)).toNat_lt
    generalize (s.get! (i + 1)).toNat = a1 at *
    split at hr
    · simp only at hr; omega
    · rename_i hh
      rw [if_neg hh] at hn; simp at hn
  rw [if_neg q2] at hr hn
  by_cases q3 : (b0 / 16 == 14 && (decide (i + 1 < s.size) && (s.get! (i + 1)).toNat / 64 == 2) && (decide (i + 2 < s.size) && (s.get! (i + 2)).toNat / 64 == 2)) = true
  · rw [if_pos q3] at hr hn
    simp only [Bool.and_eq_true, decide_eq_true_eq, beq_iff_eq] at q3
    obtain ⟨⟨p1, p2, p3⟩, p4, p5⟩ := q3
    have e1 : s.get! (i + 1) = s[i + 1] := get_bang s (i + 1) p2
    have e2 : s.get! (i + 2) = s[i + 2] := get_bang s (i + 2) p4
    rw [e1, e2] at hr hn
    rw [e1] at p3
    rw [e2] at p5
    split at hr
    · simp only at hr
      obtain ⟨b1, b2, b3⟩ := fffd_bytes (b0 := b0) (a1 := s[i + 1].toNat) (a2 := s[i + 2].toNat) (by omega) (by omega) (by omega) (by omega) (by omega) (by omega) hr
      refine ⟨s.data.toList.drop (i + 3), ?_⟩
      rw [hd, drop_get s (i + 1) p2, drop_get s (i + 2) p4]
      rw [show s[i] = 239 from UInt8.toNat.inj (hb0.trans b1), show s[i + 1] = 191 from UInt8.toNat.inj b2, show s[i + 2] = 189 from UInt8.toNat.inj b3]
    · rename_i hh
      rw [if_neg hh] at hn; simp at hn
  rw [if_neg q3] at hr hn
  split at hr
  · rename_i q4
    rw [if_pos q4] at hn
    split at hr
    · rename_i hh
      simp only at hr
      simp only [Bool.and_eq_true, decide_eq_true_eq] at hh
      omega
    · rename_i hh
      rw [if_neg hh] at hn; simp at hn
  · rename_i q4
    rw [if_neg q4] at hn; simp at hn
theorem fffd_wide (r : List UInt8) : wideL (239 :: 191 :: 189 :: r) = 3 := by
  have e : wideL (239 :: 191 :: 189 :: r) = wideR 3 15 (191 :: 189 :: r) := by
    rw [wideL, if_neg (by decide), if_neg (by decide), if_neg (by decide), if_pos (by decide)]
    rfl
  rw [e, wideR_long (by simp), show (191 :: 189 :: r : List UInt8).take (3 - 1) = [191, 189] from rfl, wideT, if_pos (by decide), if_neg (by decide)]
/-- What New looks at: is there a wrong byte here? -/
theorem bad_here (s : ByteArray) (i : Nat) (h : i < s.size) :
    (wideL (s.data.toList.drop i) = 0 ∨ s[i] = 0) ↔ (((Utf8.decode s i).1 = 65533 ∧ Lib.hasPrefix (s.data.toList.drop i) [239, 191, 189] = false) ∨ (Utf8.decode s i).1 = 0) := by
  have ht := wide_told s i h
  constructor
  · rintro (h1 | h1)
    · left
      rcases ht with ⟨-, h2⟩ | ⟨h2, -⟩
      · refine ⟨by rw [h2]; rfl, ?_⟩
        cases hp : Lib.hasPrefix (s.data.toList.drop i) [239, 191, 189]
        · rfl
        · unfold Lib.hasPrefix at hp
          rw [List.isPrefixOf_iff_prefix] at hp
          obtain ⟨r, hr⟩ := hp
          rw [← hr] at h1
          have := fffd_wide r
          rw [show [239, 191, 189] ++ r = 239 :: 191 :: 189 :: r from rfl] at h1
          omega
      · exact absurd h1 h2
    · right
      rw [decode_ascii s i h (by rw [h1]; decide), h1]; rfl
  · rintro (⟨h1, h2⟩ | h1)
    · left
      by_cases hw : wideL (s.data.toList.drop i) = 0
      · exact hw
      · obtain ⟨r, hr⟩ := fffd_read s i h h1 hw
        rw [hr] at h2
        unfold Lib.hasPrefix at h2
        simp [List.isPrefixOf] at h2
    · by_cases ha : s[i].toNat < 128
      · rw [decode_ascii s i h ha] at h1
        exact .inr (UInt8.toNat.inj h1)
      · have := (decode_high s i h (by omega)).1
        omega
theorem read_wide (s : ByteArray) (i : Nat) (h : i < s.size) (hw : wideL (s.data.toList.drop i) ≠ 0) : (Utf8.decode s i).2 = wideL (s.data.toList.drop i) := by
  rcases wide_told s i h with ⟨h1, -⟩ | ⟨-, h2, -, -⟩
  · exact absurd h1 hw
  · exact h2
/-- How long a source is one. -/
def goodN (l : List UInt8) : Nat := match badL 0 l with
  | some k => k
  | none => l.length
theorem goodN_some {l : List UInt8} {k : Nat} (h : badL 0 l = some k) : goodN l = k := by simp [goodN, h]
theorem goodN_none {l : List UInt8} (h : badL 0 l = none) : goodN l = l.length := by simp [goodN, h]
set_option maxRecDepth 100000 in
set_option maxHeartbeats 1600000 in
theorem valid_any (s : ByteArray) (hs : s.size ≤ 20400) (w : World) : Calls Tryz.prog 9 #[.string s] w fun e w' => e = .returned (.int .i64 (goodN s.data.toList : Nat)) ∧ Below w.heap.size w w' := by
  go_enter Tryz.func9, Tryz.ntmps9
  go_wp2
  go_loopw [2] (fun n w' => ∃ k : Nat, w' = w.iter s k ∧ n = .int .i64 0 ∧ Hid (NewTo s k)) (fun _ w' => s.size - w'.iterPos w.heap.size)
  case atStart => exact ⟨0, rfl, rfl, Lib.hid (NewTo.start s)⟩
  case round =>
    obtain ⟨k, rfl, rfl, HN⟩ := hrel
    by_cases hp : k < s.size
    · have hnx : ∀ ty, (Instr.next (.pointer (some ⟨w.heap.size, 0, none⟩)) true ty).run Tryz.prog (w.iter s k) = _ := fun ty => run_next_any w s k ty hp
      have hwd := read_pos s k hp
      have HBad := Lib.hid (fun e => goodN_some (HN.out.bad hp ((bad_here s k hp).2 e)))
      have HOn := Lib.hid (fun (e : ¬ (((Utf8.decode s k).1 = 65533 ∧ Lib.hasPrefix (s.data.toList.drop k) [239, 191, 189] = false) ∨ (Utf8.decode s k).1 = 0)) => HN.out.on hp (fun x => e ((bad_here s k hp).1 x)))
      have HW := Lib.hid (fun (e : ¬ (((Utf8.decode s k).1 = 65533 ∧ Lib.hasPrefix (s.data.toList.drop k) [239, 191, 189] = false) ∨ (Utf8.decode s k).1 = 0)) => read_wide s k hp (fun x => e ((bad_here s k hp).1 (.inl x))))
      have hpre := fun w => Tryz.strings_HasPrefix (s.extract k s.size) ⟨#[239, 191, 189]⟩ w
      rw [extract_tail] at hpre
      have HP : Hid (∀ w, Calls Tryz.prog 20 #[.string (s.extract k s.size), .string ⟨#[239, 191, 189]⟩] w fun e w' => e = .returned (.bool (Lib.hasPrefix (s.data.toList.drop k) [239, 191, 189])) ∧ w' = w) := Lib.hid hpre
      generalize Lib.hasPrefix (s.data.toList.drop k) [239, 191, 189] = hb at *
      generalize hr : (Utf8.decode s k).1 = r at *
      generalize hn : (Utf8.decode s k).2 = n at *
      generalize wideL (s.data.toList.drop k) = wd at *
      clear hr hn HN hpre
      by_cases r0 : r = 0
      · have HH := Lib.hid (HBad.out (.inr r0))
        subst r0
        go_wp2
        go_ret
        exact ⟨ret_int (by rw [HH.out]), iter_below w s _⟩
      · by_cases r1 : r = 65533
        · subst r1
          cases hb
          · have HH := Lib.hid (HBad.out (.inl ⟨rfl, rfl⟩))
            go_wp2_with (go_at_call 20; refine (HP.out _).mono ?_; rintro _ _ ⟨rfl, rfl⟩)
            go_ret
            exact ⟨ret_int (by rw [HH.out]), iter_below w s _⟩
          · have hno : ¬ ((65533 = 65533 ∧ true = false) ∨ 65533 = 0) := by simp
            have HH := Lib.hid (HOn.out hno)
            have HW2 := Lib.hid (HW.out hno)
            clear hno
            go_wp2_with (go_at_call 20; refine (HP.out _).mono ?_; rintro _ _ ⟨rfl, rfl⟩)
            go_roundw
            case rel => exact ⟨k + n, rfl, rfl, Lib.hid (by rw [HW2.out]; exact HH.out)⟩
            case measure => simp; omega
        · have hno : ¬ ((r = 65533 ∧ hb = false) ∨ r = 0) := fun x => by
            rcases x with ⟨x, -⟩ | x
            · exact r1 x
            · exact r0 x
          have HH := Lib.hid (HOn.out hno)
          have HW2 := Lib.hid (HW.out hno)
          have q0 : ¬ (r : Int) = 0 := by omega
          have q1 : ¬ (r : Int) = 65533 := by omega
          clear hno r0 r1
          go_wp2
          go_roundw
          case rel => exact ⟨k + n, rfl, rfl, Lib.hid (by rw [HW2.out]; exact HH.out)⟩
          case measure => simp; omega
    · have hnx : ∀ ty, (Instr.next (.pointer (some ⟨w.heap.size, 0, none⟩)) true ty).run Tryz.prog (w.iter s k) = _ := fun ty => run_next_end w s k ty hp
      have HH := Lib.hid (goodN_none (HN.out.done (by omega)))
      clear HN
      go_wp2
      go_ret
      exact ⟨ret_int (by rw [HH.out, size_data]), iter_below w s _⟩

theorem bad_lt : ∀ (n : Nat) (l : List UInt8) (k j : Nat), l.length ≤ n → badL k l = some j → k ≤ j ∧ j < k + l.length
  | n, [], k, j, _, h => by rw [bad_nil] at h; cases h
  | 0, c :: r, k, j, hn, h => by simp at hn
  | n + 1, c :: r, k, j, hn, h => by
    by_cases e : wideL (c :: r) = 0 ∨ c = 0
    · rw [bad_yes e] at h
      obtain rfl := Option.some.inj h
      exact ⟨Nat.le_refl _, by simp⟩
    · rw [bad_on e] at h
      have h0 : wideL (c :: r) ≠ 0 := fun x => e (.inl x)
      have h1 := wideL_le (c :: r)
      have := bad_lt n _ _ _ (by rw [List.length_drop]; simp only [List.length_cons] at hn h1 ⊢; omega) h
      rw [List.length_drop] at this
      simp only [List.length_cons] at this h1 ⊢
      omega
/-- A scanner in memory: what is not told yet, the line in which it begins, and may a line end there. -/
def ScanP (w : World) (p : Nat) (rest : ByteArray) (line : Nat) (semi : Bool) : Prop := GBlk w p 44 #[.string rest, .int .i64 (line : Int), .bool semi]
theorem GBlk.set3 {w : World} {B : Nat} {t : TypeId} {a b c : Value} (h : GBlk w B t #[a, b, c]) (x y z : Value) : GBlk (((w.setCell ⟨B, 0, none⟩ x).setCell ⟨B, 1, none⟩ y).setCell ⟨B, 2, none⟩ z) B t #[x, y, z] := ((h.set 0 x).set 1 y).set 2 z
theorem below_set3 {k : Nat} {w0 w : World} {B : Nat} (h : Below k w0 w) (hB : k ≤ B) (x y z : Value) : Below k w0 (((w.setCell ⟨B, 0, none⟩ x).setCell ⟨B, 1, none⟩ y).setCell ⟨B, 2, none⟩ z) :=
  ((h.setCell (p := ⟨B, 0, none⟩) hB x).setCell (p := ⟨B, 1, none⟩) hB y).setCell (p := ⟨B, 2, none⟩) hB z
theorem GBlk.other3 {w : World} {B B' : Nat} {t : TypeId} {cs : Array Value} (h : GBlk w B t cs) (hne : B ≠ B') (x y z : Value) : GBlk (((w.setCell ⟨B', 0, none⟩ x).setCell ⟨B', 1, none⟩ y).setCell ⟨B', 2, none⟩ z) B t cs := ((h.setOther hne).setOther hne).setOther hne
/-- What New tells. -/
def NewAt (s : ByteArray) (w : World) (e : Ending) (w' : World) : Prop := Below w.heap.size w w' ∧
  ((∃ k, badL 0 s.data.toList = some k ∧ e = .returned (.tuple #[.pointer none, .agg #[.int .i64 100, .string ⟨#[]⟩, .int .i64 (lineL (s.data.toList.take k) : Nat)]])) ∨
   (badL 0 s.data.toList = none ∧ ∃ p, w.heap.size ≤ p ∧ e = .returned (.tuple #[.pointer (some ⟨p, 0, none⟩), .agg #[.int .i64 0, .string ⟨#[]⟩, .int .i64 0]]) ∧ ScanP w' p (s.extract (bomN s) s.size) 1 false))
theorem trim_bom (s : ByteArray) : (⟨(Lib.trimPrefix s.data.toList [239, 187, 191]).toArray⟩ : ByteArray) = s.extract (bomN s) s.size := by
  rw [Lib.extract_eq]
  congr 2
  unfold Lib.trimPrefix Lib.hasPrefix bomN
  by_cases h : s.data.toList.take 3 = [239, 187, 191]
  · rw [if_pos (by rw [List.isPrefixOf_iff_prefix]; rw [← h]; exact List.take_prefix _ _), if_pos h]
    rw [List.take_of_length_le (by rw [List.length_drop, size_data]; exact Nat.le_refl _)]
    rfl
  · rw [if_neg (fun x => h (by rw [List.isPrefixOf_iff_prefix] at x; exact (List.prefix_iff_eq_take.1 x).symm)), if_neg h, List.drop_zero, Nat.sub_zero, List.take_of_length_le (by rw [size_data]; exact Nat.le_refl _)]
set_option maxRecDepth 100000 in
set_option maxHeartbeats 1600000 in
theorem new_any (s : ByteArray) (hs : s.size ≤ 20400) (w : World) : Calls Tryz.prog 5 #[.string s] w (NewAt s w) := by
  have HV := Lib.hid (valid_any s hs)
  have HT := Lib.hid (trim_bom s)
  have hP := fun w => Tryz.strings_TrimPrefix s ⟨#[239, 187, 191]⟩ w
  have HP : Hid (∀ w, Calls Tryz.prog 11 #[.string s, .string ⟨#[239, 187, 191]⟩] w fun e w' => e = .returned (.string (s.extract (bomN s) s.size)) ∧ w' = w) := Lib.hid (fun w => by
    refine (hP w).mono ?_
    rintro _ _ ⟨rfl, rfl⟩
    exact ⟨ret_string HT.out, rfl⟩)
  have HG := Lib.hid (GBlk.new w 26 #[.int .i64 0, .string ⟨#[]⟩, .int .i64 0])
  clear hP
  cases hb : badL 0 s.data.toList with
  | some k =>
    have hk := (bad_lt _ _ _ _ (Nat.le_refl _) hb).2
    rw [Nat.zero_add, size_data] at hk
    have hg := goodN_some hb
    rw [hg] at HV
    have i1 : (k : Int) < (s.size : Int) := by omega
    have HB := Lib.hid hb
    clear hg hb
    go_enter Tryz.func5, Tryz.ntmps5
    go_wp2_with (first
      | (go_at_call 9; refine (HV.out _).mono ?_; rintro _ w1 ⟨rfl, hB⟩; have gB := HG.out.below hB; have HBl := Lib.hid hB; have f0 : w1.cell? ⟨w.heap.size, 0, none⟩ = some (.int .i64 0) := gB.cell 0; have f1 : w1.cell? ⟨w.heap.size, 1, none⟩ = some (.string ⟨#[]⟩) := gB.cell 1; have f2 : w1.cell? ⟨w.heap.size, 2, none⟩ = some (.int .i64 0) := gB.cell 2; have f3 := gB.frozen 0; have f4 := gB.frozen 1; have f5 := gB.frozen 2; have HGB := Lib.hid gB; clear gB hB)
      | (go_at_call 10; refine (line_any _ hs _ _).mono ?_; rintro _ _ ⟨rfl, rfl⟩; rw [Int.toNat_natCast]))
    rename_i w1
    have gW := HGB.out.set3 (.int .i64 100) (.string ⟨#[]⟩) (.int .i64 (lineL (s.data.toList.take k) : Nat))
    have hW := below_set3 (HBl.out.mono (by simp)) (Nat.le_refl _) (.int .i64 100) (.string ⟨#[]⟩) (.int .i64 (lineL (s.data.toList.take k) : Nat)) (k := w.heap.size) (B := w.heap.size)
    generalize (((w1.setCell ⟨w.heap.size, 0, none⟩ (.int .i64 100)).setCell ⟨w.heap.size, 1, none⟩ (.string ⟨#[]⟩)).setCell ⟨w.heap.size, 2, none⟩ (.int .i64 (lineL (s.data.toList.take k) : Nat))) = W at *
    have y0 : W.cell? ⟨w.heap.size, 0, none⟩ = some (.int .i64 100) := gW.cell 0
    have y1 : W.cell? ⟨w.heap.size, 1, none⟩ = some (.string ⟨#[]⟩) := gW.cell 1
    have y2 : W.cell? ⟨w.heap.size, 2, none⟩ = some (.int .i64 (lineL (s.data.toList.take k) : Nat)) := gW.cell 2
    exact bodyPost_ret (v := .tuple #[.pointer none, .agg #[.int .i64 100, .string ⟨#[]⟩, .int .i64 (lineL (s.data.toList.take k) : Nat)]]) (by simp [results, Tryz.results5, go_sem, y0, y1, y2]) rfl ⟨((Below.refl _ w).alloc (Nat.le_refl _) _).trans hW, .inl ⟨k, HB.out, rfl⟩⟩
  | none =>
    have hg := goodN_none hb
    rw [hg, size_data] at HV
    have HB := Lib.hid hb
    clear hg hb
    go_enter Tryz.func5, Tryz.ntmps5
    go_wp2_with (first
      | (go_at_call 9; refine (HV.out _).mono ?_; rintro _ w1 ⟨rfl, hB⟩; have gB := HG.out.below hB; have HBl := Lib.hid hB; have f0 : ∀ o, (w1.alloc o).cell? ⟨w.heap.size, 0, none⟩ = some (.int .i64 0) := fun o => (gB.alloc o).cell 0; have f1 : ∀ o, (w1.alloc o).cell? ⟨w.heap.size, 1, none⟩ = some (.string ⟨#[]⟩) := fun o => (gB.alloc o).cell 1; have f2 : ∀ o, (w1.alloc o).cell? ⟨w.heap.size, 2, none⟩ = some (.int .i64 0) := fun o => (gB.alloc o).cell 2; have f3 : ∀ o, (w1.alloc o).frozen? ⟨w.heap.size, 0, none⟩ = false := fun o => (gB.alloc o).frozen 0; have f4 : ∀ o, (w1.alloc o).frozen? ⟨w.heap.size, 1, none⟩ = false := fun o => (gB.alloc o).frozen 1; have f5 : ∀ o, (w1.alloc o).frozen? ⟨w.heap.size, 2, none⟩ = false := fun o => (gB.alloc o).frozen 2; have HGB := Lib.hid gB; clear gB hB)
      | (go_at_call 11; refine (HP.out _).mono ?_; rintro _ _ ⟨rfl, rfl⟩))
    rename_i w1
    have hlt : w.heap.size < w1.heap.size := HGB.out.lt
    have gR := GBlk.new w1 44 #[.string (s.extract (bomN s) s.size), .int .i64 1, .bool false]
    have gW := (HGB.out.alloc (.cells #[.string (s.extract (bomN s) s.size), .int .i64 1, .bool false] 44)).set3 (.int .i64 0) (.string ⟨#[]⟩) (.int .i64 0)
    have gS := gR.other3 (B' := w.heap.size) (by omega) (.int .i64 0) (.string ⟨#[]⟩) (.int .i64 0)
    have hW := below_set3 ((HBl.out.mono (show w.heap.size ≤ _ by simp)).alloc (by omega) (.cells #[.string (s.extract (bomN s) s.size), .int .i64 1, .bool false] 44)) (Nat.le_refl _) (.int .i64 0) (.string ⟨#[]⟩) (.int .i64 0) (k := w.heap.size) (B := w.heap.size)
    generalize ((((w1.alloc (.cells #[.string (s.extract (bomN s) s.size), .int .i64 1, .bool false] 44)).setCell ⟨w.heap.size, 0, none⟩ (.int .i64 0)).setCell ⟨w.heap.size, 1, none⟩ (.string ⟨#[]⟩)).setCell ⟨w.heap.size, 2, none⟩ (.int .i64 0)) = W at *
    have y0 : W.cell? ⟨w.heap.size, 0, none⟩ = some (.int .i64 0) := gW.cell 0
    have y1 : W.cell? ⟨w.heap.size, 1, none⟩ = some (.string ⟨#[]⟩) := gW.cell 1
    have y2 : W.cell? ⟨w.heap.size, 2, none⟩ = some (.int .i64 0) := gW.cell 2
    exact bodyPost_ret (v := .tuple #[.pointer (some ⟨w1.heap.size, 0, none⟩), .agg #[.int .i64 0, .string ⟨#[]⟩, .int .i64 0]]) (by simp [results, Tryz.results5, go_sem, y0, y1, y2]) rfl ⟨((Below.refl _ w).alloc (Nat.le_refl _) _).trans hW, .inr ⟨HB.out, w1.heap.size, by omega, rfl, gS⟩⟩
end Go.Proofs.YtinaeegijmkbhaaGreatDoor
