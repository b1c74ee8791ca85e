/-
  The program's scanner: texts in quotes; the piece with which a source begins.
-/
import Derived.Test.YtinaeegijmkbhaaGreatDoorA5
set_option linter.unusedVariables false
namespace Go.Proofs.YtinaeegijmkbhaaGreatDoor
open Go.RowKit Go.Shelf

/-- The text in quotes. -/
def quoC (l : List UInt8) : Option (Nat × List UInt8 × Nat) := match quoL (l.drop 1) with
  | none => none
  | some k => (unqL ((l.drop 1).take k)).map fun u => (2, u, k + 2)
theorem quoC_none {l : List UInt8} (h : quoL (l.drop 1) = none) : quoC l = none := by unfold quoC; rw [h]
theorem quoC_bad {l : List UInt8} {k : Nat} (h : quoL (l.drop 1) = some k) (u : unqL ((l.drop 1).take k) = none) : quoC l = none := by unfold quoC; rw [h]; show Option.map _ (unqL _) = _; rw [u]; rfl
theorem quoC_some {l t : List UInt8} {k : Nat} (h : quoL (l.drop 1) = some k) (u : unqL ((l.drop 1).take k) = some t) : quoC l = some (2, t, k + 2) := by unfold quoC; rw [h]; show Option.map _ (unqL _) = _; rw [u]; rfl
set_option maxRecDepth 100000 in
set_option maxHeartbeats 1600000 in
theorem quoC_any (s : ByteArray) (hs : s.size ≤ 20400) (h1 : 1 ≤ s.size) (w : World) (hE : Env w) : Calls Tryz.prog 40 #[.string s] w (PieceOut (quoC s.data.toList) w) := by
  have hx := extract_tail s 1
  have hz := size_tail s 1
  have HC := Lib.hid (fun w h => cut1_any (s.extract 1 s.size) (by omega) 10 w h)
  rw [hx] at HC
  have i1 : (1 : Int) ≤ (s.size : Int) := by omega
  have HG := Lib.hid (GBlk.new w 50 #[.int .i64 0, .string ⟨#[]⟩, .int .i64 0])
  have HE := Lib.hid (hE.on ((Below.refl _ _).alloc (Nat.le_refl _) (.cells #[.int .i64 0, .string ⟨#[]⟩, .int .i64 0] 50)))
  have HE2 : Hid (∀ w2, Below (w.alloc (.cells #[.int .i64 0, .string ⟨#[]⟩, .int .i64 0] 50)).heap.size (w.alloc (.cells #[.int .i64 0, .string ⟨#[]⟩, .int .i64 0] 50)) w2 → Env w2) := Lib.hid (fun w2 h => HE.out.on h)
  have hle := takeWhile_le (fun x : UInt8 => decide (x ≠ 10)) (s.data.toList.drop 1)
  have hln : (s.data.toList.drop 1).length = s.size - 1 := by rw [List.length_drop, size_data]
  have hq := quo_cut (s.data.toList.drop 1)
  have hbl : (mkB ((s.data.toList.drop 1).takeWhile (· ≠ 10))).data.toList = (s.data.toList.drop 1).takeWhile (· ≠ 10) := rfl
  have hbs : (mkB ((s.data.toList.drop 1).takeWhile (· ≠ 10))).size ≤ 20400 := by
    show ((s.data.toList.drop 1).takeWhile (· ≠ 10)).length ≤ 20400
    omega
  have HQ := Lib.hid (cutq_any (mkB ((s.data.toList.drop 1).takeWhile (· ≠ 10))) hbs)
  have HTk := Lib.hid (fun k (h : k ≤ ((s.data.toList.drop 1).takeWhile (· ≠ 10)).length) => take_while_take (p := fun x : UInt8 => decide (x ≠ 10)) (l := s.data.toList.drop 1) h)
  unfold PieceOut pieceV
  clear hE hx hz hle hln
  cases hc : cutQ ((s.data.toList.drop 1).takeWhile (· ≠ 10)) with
  | none =>
    have HL := Lib.hid (quoC_none (hq.trans hc))
    have hcc : ∀ e, CutOut (mkB ((s.data.toList.drop 1).takeWhile (· ≠ 10))) e → e = .returned (.tuple #[.string ⟨#[]⟩, .bool false]) := fun e h => by
      unfold CutOut at h
      rw [hbl, hc] at h; exact h
    have HCC := Lib.hid hcc
    rw [HL.out]
    clear hc hcc HL hq hbl
    generalize mkB ((s.data.toList.drop 1).takeWhile (· ≠ 10)) = b at *
    generalize decide (((s.data.toList.drop 1).takeWhile (· ≠ 10)).length ≠ (s.extract 1 s.size).size) = d at *
    go_enter Tryz.func40, Tryz.ntmps40
    go_wp2_with (first
      | (go_at_call 49; refine (HC.out _ HE.out).mono ?_; rintro _ w1 ⟨⟨y, rfl⟩, hB⟩; have HBl := Lib.hid (show Below (w.alloc (.cells #[.int .i64 0, .string ⟨#[]⟩, .int .i64 0] 50)).heap.size (w.alloc (.cells #[.int .i64 0, .string ⟨#[]⟩, .int .i64 0] 50)) w1 from hB); have gB := HG.out.below HBl.out; have f0 : w1.cell? ⟨w.heap.size, 0, none⟩ = some (.int .i64 0) := gB.cell 0; have f1 : w1.cell? ⟨w.heap.size, 1, none⟩ = some (.string ⟨#[]⟩) := gB.cell 1; have f2 : w1.cell? ⟨w.heap.size, 2, none⟩ = some (.int .i64 0) := gB.cell 2; have f3 := gB.frozen 0; have f4 := gB.frozen 1; have f5 := gB.frozen 2; have HGB := Lib.hid gB; clear gB; clear hB)
      | (go_at_call 51; refine (HQ.out _).mono ?_; rintro e w9 ⟨he, rfl⟩; obtain rfl := HCC.out e he))
    have gW := HGB.out.set3 (.int .i64 0) (.string ⟨#[]⟩) (.int .i64 0)
    have hW := below_set3 (HBl.out.mono (show w.heap.size ≤ _ by simp)) (Nat.le_refl _) (.int .i64 0) (.string ⟨#[]⟩) (.int .i64 0) (k := w.heap.size) (B := w.heap.size)
    generalize (((w9.setCell ⟨w.heap.size, 0, none⟩ (.int .i64 0)).setCell ⟨w.heap.size, 1, none⟩ (.string ⟨#[]⟩)).setCell ⟨w.heap.size, 2, none⟩ (.int .i64 0)) = W at *
    have y0 : W.cell? ⟨w.heap.size, 0, none⟩ = some (.int .i64 0) := gW.cell 0
    have y1 : W.cell? ⟨w.heap.size, 1, none⟩ = some (.string ⟨#[]⟩) := gW.cell 1
    have y2 : W.cell? ⟨w.heap.size, 2, none⟩ = some (.int .i64 0) := gW.cell 2
    have hF : Below w.heap.size w W := ((Below.refl _ w).alloc (Nat.le_refl _) _).trans hW
    exact bodyPost_ret (v := .tuple #[.agg #[.int .i64 0, .string ⟨#[]⟩, .int .i64 0], .bool false]) (by simp [results, Tryz.results40, go_sem, y0, y1, y2]) rfl ⟨hF, _, _, _, rfl⟩
  | some k =>
    have hk := cutQ_lt hc
    have hcc : ∀ e, CutOut (mkB ((s.data.toList.drop 1).takeWhile (· ≠ 10))) e → e = .returned (.tuple #[.string (mkB ((s.data.toList.drop 1).take k)), .bool true]) := fun e h => by
      unfold CutOut at h
      rw [hbl, hc] at h
      rw [h, mkB_take, data_mkB, HTk.out k (Nat.le_of_lt hk)]
    have HCC := Lib.hid hcc
    have his : (mkB ((s.data.toList.drop 1).take k)).size = k := by
      show ((s.data.toList.drop 1).take k).length = k
      have := takeWhile_le (fun x : UInt8 => decide (x ≠ 10)) (s.data.toList.drop 1)
      rw [List.length_take]; omega
    have hks : k ≤ 20400 := by
      have : ((s.data.toList.drop 1).takeWhile (· ≠ 10)).length ≤ 20400 := hbs
      omega
    have HU := Lib.hid (fun w h => unquote_any (mkB ((s.data.toList.drop 1).take k)) (by omega) w h)
    rw [data_mkB] at HU
    have i2 : ((mkB ((s.data.toList.drop 1).take k)).size : Int) + 2 = (k : Int) + 2 := by omega
    cases hu : unqL ((s.data.toList.drop 1).take k) with
    | none =>
      have HL := Lib.hid (quoC_bad (hq.trans hc) hu)
      have hO := unqO_none hu
      rw [hO] at HU
      rw [HL.out]
      clear hc hcc HL hq hbl hO hu
      generalize mkB ((s.data.toList.drop 1).take k) = ins at *
      generalize mkB ((s.data.toList.drop 1).takeWhile (· ≠ 10)) = b at *
      generalize decide (((s.data.toList.drop 1).takeWhile (· ≠ 10)).length ≠ (s.extract 1 s.size).size) = d at *
      go_enter Tryz.func40, Tryz.ntmps40
      go_wp2_with (first
        | (go_at_call 49; refine (HC.out _ HE.out).mono ?_; rintro _ w1 ⟨⟨y, rfl⟩, hB⟩; have HBa := Lib.hid hB; clear hB)
        | (go_at_call 51; refine (HQ.out _).mono ?_; rintro e _ ⟨he, rfl⟩; obtain rfl := HCC.out e he)
        | (go_at_call 52; refine (HU.out _ (HE2.out _ HBa.out)).mono ?_; rintro _ w2 ⟨rfl, hB⟩; have HBl := Lib.hid (show Below (w.alloc (.cells #[.int .i64 0, .string ⟨#[]⟩, .int .i64 0] 50)).heap.size (w.alloc (.cells #[.int .i64 0, .string ⟨#[]⟩, .int .i64 0] 50)) w2 from HBa.out.trans (hB.mono HBa.out.size)); have gB := HG.out.below HBl.out; have f0 : w2.cell? ⟨w.heap.size, 0, none⟩ = some (.int .i64 0) := gB.cell 0; have f1 : w2.cell? ⟨w.heap.size, 1, none⟩ = some (.string ⟨#[]⟩) := gB.cell 1; have f2 : w2.cell? ⟨w.heap.size, 2, none⟩ = some (.int .i64 0) := gB.cell 2; have f3 := gB.frozen 0; have f4 := gB.frozen 1; have f5 := gB.frozen 2; have HGB := Lib.hid gB; clear gB; clear hB))
      have gW := HGB.out.set3 (.int .i64 2) (.string ⟨#[]⟩) (.int .i64 ((k : Int) + 2))
      have hW := below_set3 (HBl.out.mono (show w.heap.size ≤ _ by simp)) (Nat.le_refl _) (.int .i64 2) (.string ⟨#[]⟩) (.int .i64 ((k : Int) + 2)) (k := w.heap.size) (B := w.heap.size)
      generalize (((w2.setCell ⟨w.heap.size, 0, none⟩ (.int .i64 2)).setCell ⟨w.heap.size, 1, none⟩ (.string ⟨#[]⟩)).setCell ⟨w.heap.size, 2, none⟩ (.int .i64 ((k : Int) + 2))) = W at *
      have y0 : W.cell? ⟨w.heap.size, 0, none⟩ = some (.int .i64 2) := gW.cell 0
      have y1 : W.cell? ⟨w.heap.size, 1, none⟩ = some (.string ⟨#[]⟩) := gW.cell 1
      have y2 : W.cell? ⟨w.heap.size, 2, none⟩ = some (.int .i64 ((k : Int) + 2)) := gW.cell 2
      have hF : Below w.heap.size w W := ((Below.refl _ w).alloc (Nat.le_refl _) _).trans hW
      exact bodyPost_ret (v := .tuple #[.agg #[.int .i64 2, .string ⟨#[]⟩, .int .i64 ((k : Int) + 2)], .bool false]) (by simp [results, Tryz.results40, go_sem, y0, y1, y2]) rfl ⟨hF, _, _, _, rfl⟩
    | some t =>
      have HL := Lib.hid (quoC_some (hq.trans hc) hu)
      have hO := unqO_some hu
      rw [hO] at HU
      rw [HL.out]
      clear hc hcc HL hq hbl hO hu
      generalize mkB ((s.data.toList.drop 1).take k) = ins at *
      generalize mkB ((s.data.toList.drop 1).takeWhile (· ≠ 10)) = b at *
      generalize decide (((s.data.toList.drop 1).takeWhile (· ≠ 10)).length ≠ (s.extract 1 s.size).size) = d at *
      go_enter Tryz.func40, Tryz.ntmps40
      go_wp2_with (first
        | (go_at_call 49; refine (HC.out _ HE.out).mono ?_; rintro _ w1 ⟨⟨y, rfl⟩, hB⟩; have HBa := Lib.hid hB; clear hB)
        | (go_at_call 51; refine (HQ.out _).mono ?_; rintro e _ ⟨he, rfl⟩; obtain rfl := HCC.out e he)
        | (go_at_call 52; refine (HU.out _ (HE2.out _ HBa.out)).mono ?_; rintro _ w2 ⟨rfl, hB⟩; have HBl := Lib.hid (show Below (w.alloc (.cells #[.int .i64 0, .string ⟨#[]⟩, .int .i64 0] 50)).heap.size (w.alloc (.cells #[.int .i64 0, .string ⟨#[]⟩, .int .i64 0] 50)) w2 from HBa.out.trans (hB.mono HBa.out.size)); have gB := HG.out.below HBl.out; have f0 : w2.cell? ⟨w.heap.size, 0, none⟩ = some (.int .i64 0) := gB.cell 0; have f1 : w2.cell? ⟨w.heap.size, 1, none⟩ = some (.string ⟨#[]⟩) := gB.cell 1; have f2 : w2.cell? ⟨w.heap.size, 2, none⟩ = some (.int .i64 0) := gB.cell 2; have f3 := gB.frozen 0; have f4 := gB.frozen 1; have f5 := gB.frozen 2; have HGB := Lib.hid gB; clear gB; clear hB))
      have gW := HGB.out.set3 (.int .i64 2) (.string (mkB t)) (.int .i64 ((k : Int) + 2))
      have hW := below_set3 (HBl.out.mono (show w.heap.size ≤ _ by simp)) (Nat.le_refl _) (.int .i64 2) (.string (mkB t)) (.int .i64 ((k : Int) + 2)) (k := w.heap.size) (B := w.heap.size)
      generalize (((w2.setCell ⟨w.heap.size, 0, none⟩ (.int .i64 2)).setCell ⟨w.heap.size, 1, none⟩ (.string (mkB t))).setCell ⟨w.heap.size, 2, none⟩ (.int .i64 ((k : Int) + 2))) = W at *
      have y0 : W.cell? ⟨w.heap.size, 0, none⟩ = some (.int .i64 2) := gW.cell 0
      have y1 : W.cell? ⟨w.heap.size, 1, none⟩ = some (.string (mkB t)) := gW.cell 1
      have y2 : W.cell? ⟨w.heap.size, 2, none⟩ = some (.int .i64 ((k : Int) + 2)) := gW.cell 2
      have hF : Below w.heap.size w W := ((Below.refl _ w).alloc (Nat.le_refl _) _).trans hW
      exact bodyPost_ret (v := .tuple #[.agg #[.int .i64 2, .string (mkB t), .int .i64 ((k : Int) + 2)], .bool true]) (by simp [results, Tryz.results40, go_sem, y0, y1, y2]) rfl ⟨hF, rfl⟩

end Go.Proofs.YtinaeegijmkbhaaGreatDoor
