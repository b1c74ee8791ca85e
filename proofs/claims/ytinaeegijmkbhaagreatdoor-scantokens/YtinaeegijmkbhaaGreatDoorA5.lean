/-
  The program's scanner: comments, texts in backquotes, where a text's quote is.
-/
import Derived.Test.YtinaeegijmkbhaaGreatDoorA4
import Derived.Test.YtinaeegijmkbhaaGreatDoorA10
import Derived.Test.YtinaeegijmkbhaaGreatDoorR1
set_option linter.unusedVariables false
namespace Go.Proofs.YtinaeegijmkbhaaGreatDoor
open Go.RowKit Go.Shelf

/-- A piece, as it is handed back. -/
def pieceV (k : Nat) (t : ByteArray) (n : Nat) : Value := .agg #[.int .i64 (k : Int), .string t, .int .i64 (n : Int)]
/-- What is told of a piece. -/
def PieceOut (o : Option (Nat × List UInt8 × Nat)) (w : World) (e : Ending) (w' : World) : Prop := Below w.heap.size w w' ∧ match o with
  | some (k, t, n) => e = .returned (.tuple #[pieceV k (mkB t) n, .bool true])
  | none => ∃ (a : Int) (b : ByteArray) (c : Int), e = .returned (.tuple #[.agg #[.int .i64 a, .string b, .int .i64 c], .bool false])
theorem cut1_any (s : ByteArray) (hs : s.size ≤ 20400) (c : UInt8) (w : World) (hE : Env w) : Calls Tryz.prog 49 #[.string s, .string ⟨#[c]⟩] w fun e w' => (∃ y, e = .returned (.tuple #[.string (mkB (s.data.toList.takeWhile (· ≠ c))), y, .bool (decide ((s.data.toList.takeWhile (· ≠ c)).length ≠ s.size))])) ∧ Below w.heap.size w w' := by
  obtain ⟨m, hm⟩ := hE.max
  refine (Tryz.strings_Cut s ⟨#[c]⟩ m w (by omega) hm).mono ?_
  rintro _ w' ⟨rfl, n, rfl⟩
  obtain ⟨h1, h2⟩ := cut_one c s.data.toList
  have e : (⟨#[c]⟩ : ByteArray).data.toList = [c] := rfl
  rw [e, h1, h2, size_data]
  exact ⟨⟨_, rfl⟩, below_drewN (Below.refl _ _) n⟩
theorem cut2_any (s : ByteArray) (hs : s.size ≤ 20400) (w : World) (hE : Env w) : Calls Tryz.prog 49 #[.string s, .string ⟨#[42, 47]⟩] w fun e w' => (∃ x y, e = .returned (.tuple #[.string x, y, .bool (comL s.data.toList).isSome]) ∧ x.size ≤ s.size ∧ ∀ k, comL s.data.toList = some k → x.size = k) ∧ Below w.heap.size w w' := by
  obtain ⟨m, hm⟩ := hE.max
  refine (Tryz.strings_Cut s ⟨#[42, 47]⟩ m w (by omega) hm).mono ?_
  rintro _ w' ⟨rfl, n, rfl⟩
  obtain ⟨h1, h2⟩ := cut_com s.data.toList
  have e : (⟨#[42, 47]⟩ : ByteArray).data.toList = [42, 47] := rfl
  rw [e, h1]
  refine ⟨⟨_, _, rfl, ?_, fun k hk => ?_⟩, below_drewN (Below.refl _ _) n⟩
  · show (Lib.cut s.data.toList [42, 47]).1.length ≤ s.size
    unfold Lib.cut
    split
    · rw [List.length_take, size_data]; omega
    · show s.data.toList.length ≤ s.size
      rw [size_data]; omega
  · show (Lib.cut s.data.toList [42, 47]).1.length = k
    rw [h2 k hk, List.length_take]
    have := com_lt hk
    omega
/-- The comment of two slashes. -/
def lineC (l : List UInt8) : List UInt8 := if (l.takeWhile (· ≠ 10)).getLast? = some 13 then (l.takeWhile (· ≠ 10)).dropLast else l.takeWhile (· ≠ 10)
set_option maxRecDepth 100000 in
set_option maxHeartbeats 1600000 in
theorem lineC_any (s : ByteArray) (hs : s.size ≤ 20400) (w : World) (hE : Env w) : Calls Tryz.prog 38 #[.string s] w fun e w' => e = .returned (pieceV 4 (mkB (lineC s.data.toList)) (s.data.toList.takeWhile (· ≠ 10)).length) ∧ Below w.heap.size w w' := by
  have HC := Lib.hid (fun w h => cut1_any s hs 10 w h)
  have hle := takeWhile_le (fun x : UInt8 => decide (x ≠ 10)) s.data.toList
  rw [size_data] at hle
  have hT := fun w => Tryz.strings_TrimSuffix (mkB (s.data.toList.takeWhile (· ≠ 10))) ⟨#[13]⟩ w (by
    show (s.data.toList.takeWhile (· ≠ 10)).length ≤ _
    omega)
  have HT : Hid (∀ w, Calls Tryz.prog 50 #[.string (mkB (s.data.toList.takeWhile (· ≠ 10))), .string ⟨#[13]⟩] w fun e w' => e = .returned (.string (mkB (lineC s.data.toList))) ∧ w' = w) := Lib.hid (fun w => by
    refine (hT w).mono ?_
    rintro _ _ ⟨rfl, rfl⟩
    refine ⟨ret_string ?_, rfl⟩
    rw [data_mkB, show (⟨#[13]⟩ : ByteArray).data.toList = [13] from rfl, trimSuf_one]; rfl)
  have hsz : (mkB (s.data.toList.takeWhile (· ≠ 10))).size = (s.data.toList.takeWhile (· ≠ 10)).length := rfl
  have HG := Lib.hid (GBlk.new w 50 #[.int .i64 0, .string ⟨#[]⟩, .int .i64 0])
  have HE := Lib.hid (hE.on ((Below.refl _ _).alloc (Nat.le_refl _) (.cells #[.int .i64 0, .string ⟨#[]⟩, .int .i64 0] 50)))
  unfold pieceV
  clear hT hE
  generalize mkB (lineC s.data.toList) = c at *
  generalize hb : mkB (s.data.toList.takeWhile (· ≠ 10)) = b at *
  generalize (s.data.toList.takeWhile (· ≠ 10)).length = n at *
  clear hb
  go_enter Tryz.func38, Tryz.ntmps38
  go_wp2_with (first
    | (go_at_call 49; refine (HC.out _ HE.out).mono ?_; rintro _ w1 ⟨⟨y, rfl⟩, hB⟩; have HBl := Lib.hid (show Below (w.alloc (.cells #[.int .i64 0, .string ⟨#[]⟩, .int .i64 0] 50)).heap.size (w.alloc (.cells #[.int .i64 0, .string ⟨#[]⟩, .int .i64 0] 50)) w1 from hB); have gB := HG.out.below HBl.out; have f0 : w1.cell? ⟨w.heap.size, 0, none⟩ = some (.int .i64 0) := gB.cell 0; have f1 : w1.cell? ⟨w.heap.size, 1, none⟩ = some (.string ⟨#[]⟩) := gB.cell 1; have f2 : w1.cell? ⟨w.heap.size, 2, none⟩ = some (.int .i64 0) := gB.cell 2; have f3 := gB.frozen 0; have f4 := gB.frozen 1; have f5 := gB.frozen 2; have HGB := Lib.hid gB; clear gB; clear hB)
    | (go_at_call 50; refine (HT.out _).mono ?_; rintro _ _ ⟨rfl, rfl⟩))
  rename_i w1
  have gW := HGB.out.set3 (.int .i64 4) (.string c) (.int .i64 (n : Int))
  have hW := below_set3 (HBl.out.mono (show w.heap.size ≤ _ by simp)) (Nat.le_refl _) (.int .i64 4) (.string c) (.int .i64 (n : Int)) (k := w.heap.size) (B := w.heap.size)
  generalize (((w1.setCell ⟨w.heap.size, 0, none⟩ (.int .i64 4)).setCell ⟨w.heap.size, 1, none⟩ (.string c)).setCell ⟨w.heap.size, 2, none⟩ (.int .i64 (n : Int))) = W at *
  have y0 : W.cell? ⟨w.heap.size, 0, none⟩ = some (.int .i64 4) := gW.cell 0
  have y1 : W.cell? ⟨w.heap.size, 1, none⟩ = some (.string c) := gW.cell 1
  have y2 : W.cell? ⟨w.heap.size, 2, none⟩ = some (.int .i64 (n : Int)) := gW.cell 2
  have hF : Below w.heap.size w W := ((Below.refl _ w).alloc (Nat.le_refl _) _).trans hW
  exact bodyPost_ret (v := .agg #[.int .i64 4, .string c, .int .i64 (n : Int)]) (by simp [results, Tryz.results38, go_sem, y0, y1, y2]) rfl ⟨rfl, hF⟩

/-- The comment of a slash and a star. -/
def longC (l : List UInt8) : Option (Nat × List UInt8 × Nat) := match comL (l.drop 2) with
  | none => none
  | some k => some (4, l.take (k + 4), k + 4)
theorem longC_none {l : List UInt8} (h : comL (l.drop 2) = none) : longC l = none := by simp [longC, h]
theorem longC_some {l : List UInt8} {k : Nat} (h : comL (l.drop 2) = some k) : longC l = some (4, l.take (k + 4), k + 4) := by simp [longC, h]
theorem mkB_take (s : ByteArray) (k : Nat) : s.extract 0 k = mkB (s.data.toList.take k) := by
  rw [Lib.extract_eq, List.drop_zero, Nat.sub_zero]; rfl
set_option maxRecDepth 100000 in
set_option maxHeartbeats 1600000 in
theorem longC_any (s : ByteArray) (hs : s.size ≤ 20400) (h2 : 2 ≤ s.size) (w : World) (hE : Env w) : Calls Tryz.prog 39 #[.string s] w (PieceOut (longC s.data.toList) w) := by
  have hx := extract_tail s 2
  have hz := size_tail s 2
  have HC := Lib.hid (fun w h => cut2_any (s.extract 2 s.size) (by omega) w h)
  rw [hx] at HC
  have i1 : (2 : Int) ≤ (s.size : Int) := by omega
  have HG := Lib.hid (GBlk.new w 50 #[.int .i64 0, .string ⟨#[]⟩, .int .i64 0])
  have HE := Lib.hid (hE.on ((Below.refl _ _).alloc (Nat.le_refl _) (.cells #[.int .i64 0, .string ⟨#[]⟩, .int .i64 0] 50)))
  have HTk := Lib.hid (fun k => mkB_take s k)
  have HZ := Lib.hid hz
  clear hE hx hz h2
  unfold PieceOut pieceV
  cases hc : comL (s.data.toList.drop 2) with
  | none =>
    rw [hc] at HC
    have HL := Lib.hid (longC_none hc)
    rw [HL.out]
    clear hc HL
    go_enter Tryz.func39, Tryz.ntmps39
    go_wp2_with (go_at_call 49; refine (HC.out _ HE.out).mono ?_; rintro _ w1 ⟨⟨x, y, rfl, hx, hk⟩, hB⟩; have hx3 : x.size ≤ 20400 := (by have := HZ.out; omega); have HBl := Lib.hid (show Below (w.alloc (.cells #[.int .i64 0, .string ⟨#[]⟩, .int .i64 0] 50)).heap.size (w.alloc (.cells #[.int .i64 0, .string ⟨#[]⟩, .int .i64 0] 50)) w1 from hB); have gB := HG.out.below HBl.out; have f0 : w1.cell? ⟨w.heap.size, 0, none⟩ = some (.int .i64 0) := gB.cell 0; have f1 : w1.cell? ⟨w.heap.size, 1, none⟩ = some (.string ⟨#[]⟩) := gB.cell 1; have f2 : w1.cell? ⟨w.heap.size, 2, none⟩ = some (.int .i64 0) := gB.cell 2; have f3 := gB.frozen 0; have f4 := gB.frozen 1; have f5 := gB.frozen 2; have HGB := Lib.hid gB; clear gB; clear hB)
    have gW := HGB.out.set3 (.int .i64 0) (.string ⟨#[]⟩) (.int .i64 0)
    have hW := below_set3 (HBl.out.mono (show w.heap.size ≤ _ by simp)) (Nat.le_refl _) (.int .i64 0) (.string ⟨#[]⟩) (.int .i64 0) (k := w.heap.size) (B := w.heap.size)
    generalize (((w1.setCell ⟨w.heap.size, 0, none⟩ (.int .i64 0)).setCell ⟨w.heap.size, 1, none⟩ (.string ⟨#[]⟩)).setCell ⟨w.heap.size, 2, none⟩ (.int .i64 0)) = W at *
    have y0 : W.cell? ⟨w.heap.size, 0, none⟩ = some (.int .i64 0) := gW.cell 0
    have y1 : W.cell? ⟨w.heap.size, 1, none⟩ = some (.string ⟨#[]⟩) := gW.cell 1
    have y2 : W.cell? ⟨w.heap.size, 2, none⟩ = some (.int .i64 0) := gW.cell 2
    have hF : Below w.heap.size w W := ((Below.refl _ w).alloc (Nat.le_refl _) _).trans hW
    exact bodyPost_ret (v := .tuple #[.agg #[.int .i64 0, .string ⟨#[]⟩, .int .i64 0], .bool false]) (by simp [results, Tryz.results39, go_sem, y0, y1, y2]) rfl ⟨hF, _, _, _, rfl⟩
  | some k =>
    rw [hc] at HC
    have HL := Lib.hid (longC_some hc)
    rw [HL.out]
    have hk := com_lt hc
    rw [List.length_drop, size_data] at hk
    have i2 : (k : Int) + 4 ≤ (s.size : Int) := by omega
    clear hc HL
    go_enter Tryz.func39, Tryz.ntmps39
    go_wp2_with (go_at_call 49; refine (HC.out _ HE.out).mono ?_; rintro _ w1 ⟨⟨x, y, rfl, hx, hk⟩, hB⟩; have hx2 : x.size = k := hk k rfl; have hx3 : 2 + (x.size : Int) + 2 = (k : Int) + 4 := (by omega); have HBl := Lib.hid (show Below (w.alloc (.cells #[.int .i64 0, .string ⟨#[]⟩, .int .i64 0] 50)).heap.size (w.alloc (.cells #[.int .i64 0, .string ⟨#[]⟩, .int .i64 0] 50)) w1 from hB); have gB := HG.out.below HBl.out; have f0 : w1.cell? ⟨w.heap.size, 0, none⟩ = some (.int .i64 0) := gB.cell 0; have f1 : w1.cell? ⟨w.heap.size, 1, none⟩ = some (.string ⟨#[]⟩) := gB.cell 1; have f2 : w1.cell? ⟨w.heap.size, 2, none⟩ = some (.int .i64 0) := gB.cell 2; have f3 := gB.frozen 0; have f4 := gB.frozen 1; have f5 := gB.frozen 2; have HGB := Lib.hid gB; clear gB; clear hB hk)
    have gW := HGB.out.set3 (.int .i64 4) (.string (s.extract 0 (2 + k + 2))) (.int .i64 (2 + (k : Int) + 2))
    have hW := below_set3 (HBl.out.mono (show w.heap.size ≤ _ by simp)) (Nat.le_refl _) (.int .i64 4) (.string (s.extract 0 (2 + k + 2))) (.int .i64 (2 + (k : Int) + 2)) (k := w.heap.size) (B := w.heap.size)
    generalize (((w1.setCell ⟨w.heap.size, 0, none⟩ (.int .i64 4)).setCell ⟨w.heap.size, 1, none⟩ (.string (s.extract 0 (2 + k + 2)))).setCell ⟨w.heap.size, 2, none⟩ (.int .i64 (2 + (k : Int) + 2))) = W at *
    have y0 : W.cell? ⟨w.heap.size, 0, none⟩ = some (.int .i64 4) := gW.cell 0
    have y1 : W.cell? ⟨w.heap.size, 1, none⟩ = some (.string (s.extract 0 (2 + k + 2))) := gW.cell 1
    have y2 : W.cell? ⟨w.heap.size, 2, none⟩ = some (.int .i64 (2 + (k : Int) + 2)) := gW.cell 2
    have hF : Below w.heap.size w W := ((Below.refl _ w).alloc (Nat.le_refl _) _).trans hW
    exact bodyPost_ret (v := .tuple #[.agg #[.int .i64 4, .string (s.extract 0 (2 + k + 2)), .int .i64 (2 + (k : Int) + 2)], .bool true]) (by simp [results, Tryz.results39, go_sem, y0, y1, y2]) rfl ⟨hF, by rw [show 2 + k + 2 = k + 4 by omega, HTk.out, show (2 : Int) + (k : Int) + 2 = ((k + 4 : Nat) : Int) by omega]; rfl⟩

/-- The text in backquotes. -/
def rawC (l : List UInt8) : Option (Nat × List UInt8 × Nat) := if ((l.drop 1).takeWhile (· ≠ 96)).length = (l.drop 1).length then none else some (2, ((l.drop 1).takeWhile (· ≠ 96)).filter (· ≠ 13), ((l.drop 1).takeWhile (· ≠ 96)).length + 2)
set_option maxRecDepth 100000 in
set_option maxHeartbeats 1600000 in
theorem rawC_any (s : ByteArray) (hs : s.size ≤ 20400) (h1 : 1 ≤ s.size) (w : World) (hE : Env w) : Calls Tryz.prog 41 #[.string s] w (PieceOut (rawC s.data.toList) w) := by
  have hx := extract_tail s 1
  have hz := size_tail s 1
  have HC := Lib.hid (fun w h => cut1_any (s.extract 1 s.size) (by omega) 96 w h)
  rw [hx] at HC
  have i1 : (1 : Int) ≤ (s.size : Int) := by omega
  have HG := Lib.hid (GBlk.new w 50 #[.int .i64 0, .string ⟨#[]⟩, .int .i64 0])
  have HE := Lib.hid (hE.on ((Below.refl _ _).alloc (Nat.le_refl _) (.cells #[.int .i64 0, .string ⟨#[]⟩, .int .i64 0] 50)))
  have hE2 : Hid (∀ w2, Below (w.alloc (.cells #[.int .i64 0, .string ⟨#[]⟩, .int .i64 0] 50)).heap.size (w.alloc (.cells #[.int .i64 0, .string ⟨#[]⟩, .int .i64 0] 50)) w2 → Env w2) := Lib.hid (fun w2 h => HE.out.on h)
  have hle := takeWhile_le (fun x : UInt8 => decide (x ≠ 96)) (s.data.toList.drop 1)
  have hln : (s.data.toList.drop 1).length = s.size - 1 := by rw [List.length_drop, size_data]
  have hR : ∀ w2, Env w2 → Calls Tryz.prog 53 #[.string (mkB ((s.data.toList.drop 1).takeWhile (· ≠ 96))), .string ⟨#[13]⟩, .string ⟨#[]⟩] w2 fun e w' => e = .returned (.string (mkB (((s.data.toList.drop 1).takeWhile (· ≠ 96)).filter (· ≠ 13)))) ∧ Below w2.heap.size w2 w' := fun w2 h => by
    obtain ⟨m, hm⟩ := h.max
    have hsz : (mkB ((s.data.toList.drop 1).takeWhile (· ≠ 96))).size ≤ 20400 := by
      show ((s.data.toList.drop 1).takeWhile (· ≠ 96)).length ≤ 20400
      omega
    refine (Tryz.strings_ReplaceAll _ ⟨#[13]⟩ ⟨#[]⟩ m w2 (by omega) hm (by decide) (by rw [show (⟨#[]⟩ : ByteArray).size = 0 from rfl, Nat.mul_zero]; omega)).mono ?_
    rintro _ w' ⟨rfl, hB⟩
    refine ⟨ret_string ?_, hB⟩
    rw [data_mkB, show (⟨#[13]⟩ : ByteArray).data.toList = [13] from rfl, show (⟨#[]⟩ : ByteArray).data.toList = [] from rfl, repl_one]; rfl
  have HR := Lib.hid hR
  have hsz : (mkB ((s.data.toList.drop 1).takeWhile (· ≠ 96))).size = ((s.data.toList.drop 1).takeWhile (· ≠ 96)).length := rfl
  have HD : Hid (rawC s.data.toList = if ((s.data.toList.drop 1).takeWhile (· ≠ 96)).length = (s.data.toList.drop 1).length then none else some (2, ((s.data.toList.drop 1).takeWhile (· ≠ 96)).filter (· ≠ 13), ((s.data.toList.drop 1).takeWhile (· ≠ 96)).length + 2)) := Lib.hid rfl
  rw [hln] at HD
  rw [hz] at HC
  have HZ := Lib.hid hz
  clear hE hx hz hR
  unfold PieceOut pieceV
  generalize hc : mkB (((s.data.toList.drop 1).takeWhile (· ≠ 96)).filter (· ≠ 13)) = c at *
  generalize hb : mkB ((s.data.toList.drop 1).takeWhile (· ≠ 96)) = b at *
  generalize ((s.data.toList.drop 1).takeWhile (· ≠ 96)).length = n at *
  have HCc := Lib.hid hc
  clear hb hc
  have hs3 : 2 + (n : Int) ≤ 20402 := by omega
  by_cases hn : n = s.size - 1
  · have HL := Lib.hid (HD.out.trans (if_pos hn))
    rw [HL.out]
    have hd : decide (n ≠ s.size - 1) = false := decide_eq_false (not_not_intro hn)
    rw [hd] at HC
    clear hd hn HD hln
    go_enter Tryz.func41, Tryz.ntmps41
    go_wp2_with (first
      | (go_at_call 49; refine (HC.out _ HE.out).mono ?_; rintro _ w1 ⟨⟨y, rfl⟩, hB⟩; have HBa := Lib.hid hB; clear hB)
      | (go_at_call 53; refine (HR.out _ (hE2.out _ HBa.out)).mono ?_; rintro _ w2 ⟨rfl, hB⟩; have HBl := Lib.hid (show Below (w.alloc (.cells #[.int .i64 0, .string ⟨#[]⟩, .int .i64 0] 50)).heap.size (w.alloc (.cells #[.int .i64 0, .string ⟨#[]⟩, .int .i64 0] 50)) w2 from HBa.out.trans (hB.mono HBa.out.size)); have gB := HG.out.below HBl.out; have f0 : w2.cell? ⟨w.heap.size, 0, none⟩ = some (.int .i64 0) := gB.cell 0; have f1 : w2.cell? ⟨w.heap.size, 1, none⟩ = some (.string ⟨#[]⟩) := gB.cell 1; have f2 : w2.cell? ⟨w.heap.size, 2, none⟩ = some (.int .i64 0) := gB.cell 2; have f3 := gB.frozen 0; have f4 := gB.frozen 1; have f5 := gB.frozen 2; have HGB := Lib.hid gB; clear gB; clear hB))
    have gW := HGB.out.set3 (.int .i64 2) (.string c) (.int .i64 ((n : Int) + 2))
    have hW := below_set3 (HBl.out.mono (show w.heap.size ≤ _ by simp)) (Nat.le_refl _) (.int .i64 2) (.string c) (.int .i64 ((n : Int) + 2)) (k := w.heap.size) (B := w.heap.size)
    generalize (((w2.setCell ⟨w.heap.size, 0, none⟩ (.int .i64 2)).setCell ⟨w.heap.size, 1, none⟩ (.string c)).setCell ⟨w.heap.size, 2, none⟩ (.int .i64 ((n : Int) + 2))) = W at *
    have y0 : W.cell? ⟨w.heap.size, 0, none⟩ = some (.int .i64 2) := gW.cell 0
    have y1 : W.cell? ⟨w.heap.size, 1, none⟩ = some (.string c) := gW.cell 1
    have y2 : W.cell? ⟨w.heap.size, 2, none⟩ = some (.int .i64 ((n : Int) + 2)) := gW.cell 2
    have hF : Below w.heap.size w W := ((Below.refl _ w).alloc (Nat.le_refl _) _).trans hW
    exact bodyPost_ret (v := .tuple #[.agg #[.int .i64 2, .string c, .int .i64 ((n : Int) + 2)], .bool false]) (by simp [results, Tryz.results41, go_sem, y0, y1, y2]) rfl ⟨hF, _, _, _, rfl⟩
  · have HL := Lib.hid (HD.out.trans (if_neg hn))
    rw [HL.out]
    have hd : decide (n ≠ s.size - 1) = true := decide_eq_true hn
    rw [hd] at HC
    clear hd hn HD hln
    go_enter Tryz.func41, Tryz.ntmps41
    go_wp2_with (first
      | (go_at_call 49; refine (HC.out _ HE.out).mono ?_; rintro _ w1 ⟨⟨y, rfl⟩, hB⟩; have HBa := Lib.hid hB; clear hB)
      | (go_at_call 53; refine (HR.out _ (hE2.out _ HBa.out)).mono ?_; rintro _ w2 ⟨rfl, hB⟩; have HBl := Lib.hid (show Below (w.alloc (.cells #[.int .i64 0, .string ⟨#[]⟩, .int .i64 0] 50)).heap.size (w.alloc (.cells #[.int .i64 0, .string ⟨#[]⟩, .int .i64 0] 50)) w2 from HBa.out.trans (hB.mono HBa.out.size)); have gB := HG.out.below HBl.out; have f0 : w2.cell? ⟨w.heap.size, 0, none⟩ = some (.int .i64 0) := gB.cell 0; have f1 : w2.cell? ⟨w.heap.size, 1, none⟩ = some (.string ⟨#[]⟩) := gB.cell 1; have f2 : w2.cell? ⟨w.heap.size, 2, none⟩ = some (.int .i64 0) := gB.cell 2; have f3 := gB.frozen 0; have f4 := gB.frozen 1; have f5 := gB.frozen 2; have HGB := Lib.hid gB; clear gB; clear hB))
    have gW := HGB.out.set3 (.int .i64 2) (.string c) (.int .i64 ((n : Int) + 2))
    have hW := below_set3 (HBl.out.mono (show w.heap.size ≤ _ by simp)) (Nat.le_refl _) (.int .i64 2) (.string c) (.int .i64 ((n : Int) + 2)) (k := w.heap.size) (B := w.heap.size)
    generalize (((w2.setCell ⟨w.heap.size, 0, none⟩ (.int .i64 2)).setCell ⟨w.heap.size, 1, none⟩ (.string c)).setCell ⟨w.heap.size, 2, none⟩ (.int .i64 ((n : Int) + 2))) = W at *
    have y0 : W.cell? ⟨w.heap.size, 0, none⟩ = some (.int .i64 2) := gW.cell 0
    have y1 : W.cell? ⟨w.heap.size, 1, none⟩ = some (.string c) := gW.cell 1
    have y2 : W.cell? ⟨w.heap.size, 2, none⟩ = some (.int .i64 ((n : Int) + 2)) := gW.cell 2
    have hF : Below w.heap.size w W := ((Below.refl _ w).alloc (Nat.le_refl _) _).trans hW
    exact bodyPost_ret (v := .tuple #[.agg #[.int .i64 2, .string c, .int .i64 ((n : Int) + 2)], .bool true]) (by simp [results, Tryz.results41, go_sem, y0, y1, y2]) rfl ⟨hF, by rw [HCc.out]; rfl⟩

theorem cutQ_nil : cutQ [] = none := by rw [cutQ]
theorem cutQ_quote (r : List UInt8) : cutQ (34 :: r) = some 0 := by cases r <;> simp [cutQ]
theorem cutQ_end : cutQ [92] = none := by simp [cutQ]
theorem cutQ_skip (d : UInt8) (r : List UInt8) : cutQ (92 :: d :: r) = (cutQ r).map (· + 2) := by simp [cutQ]
theorem cutQ_on {c : UInt8} {r : List UInt8} (h : c ≠ 34) (k : c ≠ 92) : cutQ (c :: r) = (cutQ r).map (· + 1) := by cases r <;> simp [cutQ, h, k]
/-- How far a quote was looked for. -/
def CutTo (s : ByteArray) (k : Nat) : Prop := cutQ s.data.toList = (cutQ (s.data.toList.drop k)).map (k + ·)
theorem CutTo.start (s : ByteArray) : CutTo s 0 := by unfold CutTo; rw [List.drop_zero]; cases cutQ s.data.toList <;> simp
theorem CutTo.done {s : ByteArray} {k : Nat} (h : CutTo s k) (hk : s.size ≤ k) : cutQ s.data.toList = none := by
  unfold CutTo at h
  rw [h, List.drop_of_length_le (by rw [size_data]; exact hk), cutQ_nil]; rfl
theorem CutTo.quote {s : ByteArray} {k : Nat} (h : CutTo s k) (hk : k < s.size) (e : s[k] = 34) : cutQ s.data.toList = some k := by
  unfold CutTo at h
  rw [h, drop_get s k hk, e, cutQ_quote]; rfl
theorem CutTo.on {s : ByteArray} {k : Nat} (h : CutTo s k) (hk : k < s.size) (e : s[k] ≠ 34) (e' : s[k] ≠ 92) : CutTo s (k + 1) := by
  unfold CutTo at h ⊢
  rw [h, drop_get s k hk, cutQ_on e e']
  cases cutQ (s.data.toList.drop (k + 1)) <;> simp; omega
theorem CutTo.skip {s : ByteArray} {k : Nat} (h : CutTo s k) (hk : k < s.size) (e : s[k] = 92) : CutTo s (k + 2) := by
  unfold CutTo at h ⊢
  rw [h, drop_get s k hk, e]
  by_cases h2 : k + 1 < s.size
  · rw [drop_get s (k + 1) h2, cutQ_skip]
    cases cutQ (s.data.toList.drop (k + 1 + 1)) <;> simp; omega
  · rw [List.drop_of_length_le (by rw [size_data]; omega), List.drop_of_length_le (l := s.data.toList) (i := k + 2) (by rw [size_data]; omega), cutQ_end, cutQ_nil]; rfl
/-- What cutQuoted tells. -/
def CutOut (s : ByteArray) (e : Ending) : Prop := match cutQ s.data.toList with
  | none => e = .returned (.tuple #[.string ⟨#[]⟩, .bool false])
  | some k => e = .returned (.tuple #[.string (s.extract 0 k), .bool true])
theorem CutOut.none {s : ByteArray} (h : cutQ s.data.toList = none) : CutOut s (.returned (.tuple #[.string ⟨#[]⟩, .bool false])) := by simp [CutOut, h]
theorem CutOut.some {s : ByteArray} {k : Nat} (h : cutQ s.data.toList = some k) : CutOut s (.returned (.tuple #[.string (s.extract 0 k), .bool true])) := by simp [CutOut, h]
set_option maxRecDepth 100000 in
set_option maxHeartbeats 1600000 in
theorem cutq_any (s : ByteArray) (hs : s.size ≤ 20400) (w : World) : Calls Tryz.prog 51 #[.string s] w fun e w' => CutOut s e ∧ w' = w := by
  go_enter Tryz.func51, Tryz.ntmps51
  go_wp2
  go_loop [4] (fun i => ∃ k : Nat, i = .int .i64 k ∧ k ≤ s.size + 1 ∧ Hid (CutTo s k)) (fun i => s.size + 1 - (intOf i).toNat)
  case atStart => exact ⟨0, rfl, by omega, Lib.hid (CutTo.start s)⟩
  case round =>
    obtain ⟨k, rfl, hk1, HQ⟩ := hrel
    by_cases hk : k < s.size
    · have q1 : (k : Int) < (s.size : Int) := by omega
      generalize hc : s[k] = c at *
      by_cases c34 : c = 34
      · have HH := Lib.hid (CutOut.some (HQ.out.quote hk (hc.trans c34)))
        subst c34
        have k1 : ((34 : UInt8).toNat : Int) = 34 := rfl
        go_wp2
        go_ret2
        exact ⟨HH.out, rfl⟩
      · have k1 : ¬ (c.toNat : Int) = 34 := fun h => c34 (UInt8.toNat.inj (by show c.toNat = 34; omega))
        by_cases c92 : c = 92
        · have HH := Lib.hid (HQ.out.skip hk (hc.trans c92))
          have k2 : (c.toNat : Int) = 92 := by rw [c92]; rfl
          clear c34 c92
          go_wp2
          go_round
          case rel => exact ⟨k + 2, by go_num, by omega, HH⟩
          case measure => simp [intOf]; omega
        · have k2 : ¬ (c.toNat : Int) = 92 := fun h => c92 (UInt8.toNat.inj (by show c.toNat = 92; omega))
          have HH := Lib.hid (HQ.out.on hk (by rw [hc]; exact c34) (by rw [hc]; exact c92))
          clear c34 c92
          go_wp2
          go_round
          case rel => exact ⟨k + 1, by go_num, by omega, HH⟩
          case measure => simp [intOf]; omega
    · have HH := Lib.hid (CutOut.none (HQ.out.done (by omega)))
      have q1 : ¬ (k : Int) < (s.size : Int) := by omega
      go_wp2
      go_ret2
      exact ⟨HH.out, rfl⟩
end Go.Proofs.YtinaeegijmkbhaaGreatDoor
