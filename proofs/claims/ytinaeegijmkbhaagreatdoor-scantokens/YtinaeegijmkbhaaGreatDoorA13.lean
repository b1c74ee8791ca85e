/-
  The program's scanner: does a line end here? The piece that comes next.
-/
import Derived.Test.YtinaeegijmkbhaaGreatDoorA12
import Derived.BigQuiet
import Derived.Deep.QuietTactic
set_option linter.unusedVariables false
namespace Go.Proofs.YtinaeegijmkbhaaGreatDoor
open Go.RowKit Go.Shelf

/-- Does a line end here? -/
def endsT : Option (Nat × List UInt8 × Nat) → Bool
  | none => false
  | some (k, t, _) => k == 4 && decide (1 < lineL t)
def endsB (l : List UInt8) : Bool := l.isEmpty || l.head? == some 10 || endsT (tokL l)
theorem endsB_nil : endsB [] = true := rfl
theorem endsB_lf {l : List UInt8} (h : l.head? = some 10) : endsB l = true := by simp [endsB, h]
theorem endsB_no {l : List UInt8} (h0 : l ≠ []) (h : l.head? ≠ some 10) : endsB l = endsT (tokL l) := by
  unfold endsB
  rw [show l.isEmpty = false by cases l with
    | nil => exact absurd rfl h0
    | cons c r => rfl, show (l.head? == some 10) = false from beq_eq_false_iff_ne.2 h]; rfl
theorem pre_one (l : List UInt8) : Lib.hasPrefix l [10] = decide (l.head? = some 10) := by
  cases l with
  | nil => rfl
  | cons c r =>
    rw [Bool.eq_iff_iff]
    simp [Lib.hasPrefix, List.isPrefixOf]
    exact eq_comm
set_option maxRecDepth 100000 in
set_option maxHeartbeats 3200000 in
theorem ends_any (s : ByteArray) (hs : s.size ≤ 20400) (w : World) (hE : Env w) : Calls Tryz.prog 24 #[.string s] w fun e w' => e = .returned (.bool (endsB s.data.toList)) ∧ Below w.heap.size w w' := by
  have hF := first_any s hs w hE
  have HP : Hid (∀ w, Calls Tryz.prog 20 #[.string s, .string ⟨#[10]⟩] w fun e w' => e = .returned (.bool (decide (s.data.toList.head? = some 10))) ∧ w' = w) := Lib.hid (fun w => by
    refine (Tryz.strings_HasPrefix s ⟨#[10]⟩ w).mono ?_
    rintro _ _ ⟨rfl, rfl⟩
    rw [show (⟨#[10]⟩ : ByteArray).data.toList = [10] from rfl, pre_one]
    exact ⟨rfl, rfl⟩)
  by_cases hz : s.size = 0
  · have hl : s.data.toList = [] := List.length_eq_zero_iff.1 (by rw [size_data]; exact hz)
    have hse : s = ⟨#[]⟩ := by
      apply ByteArray.ext
      exact Array.eq_empty_of_size_eq_zero hz
    rw [hl, endsB_nil]
    subst hse
    clear hF HP hl
    go_enter Tryz.func24, Tryz.ntmps24
    go_wp2
    go_ret
    exact ⟨rfl, Below.refl _ _⟩
  have hne : s.toList.isEmpty = false := by
    rw [← decide_eq_emptyBytes]
    exact decide_eq_false (fun h => hz (by rw [h]; rfl))
  have hl0 : s.data.toList ≠ [] := fun h => hz (by have := congrArg List.length h; rw [size_data] at this; exact this)
  by_cases hh : s.data.toList.head? = some 10
  · rw [endsB_lf hh]
    rw [decide_eq_true hh] at HP
    clear hF hl0 hh hz
    go_enter Tryz.func24, Tryz.ntmps24
    go_wp2_with (go_at_call 20; refine (HP.out _).mono ?_; rintro _ _ ⟨rfl, rfl⟩)
    go_ret
    exact ⟨rfl, Below.refl _ _⟩
  · rw [endsB_no hl0 hh]
    rw [decide_eq_false hh] at HP
    clear hl0 hh hz
    cases ht : tokL s.data.toList with
    | none =>
      rw [ht] at hF
      have HF := Lib.hid hF
      clear hF ht
      go_enter Tryz.func24, Tryz.ntmps24
      go_wp2_with (first
        | (go_at_call 20; refine (HP.out _).mono ?_; rintro _ _ ⟨rfl, rfl⟩)
        | (go_at_call 25; refine HF.out.mono ?_; rintro e w9 ⟨hB, a, b, c, rfl⟩; have HB := Lib.hid hB; clear hB))
      go_ret
      exact ⟨rfl, HB.out.alloc HB.out.size _⟩
    | some x =>
      obtain ⟨k, t, n⟩ := x
      rw [ht] at hF
      have HF := Lib.hid hF
      have HC : Hid (∀ w, Calls Tryz.prog 37 #[.string (mkB t), .string ⟨#[10]⟩] w fun e w' => e = .returned (.bool (decide (1 < lineL t))) ∧ w' = w) := Lib.hid (fun w => by
        refine (Tryz.strings_Contains_one (mkB t) 10 w).mono ?_
        rintro _ _ ⟨rfl, rfl⟩
        rw [data_mkB, byte_in, lf_in]
        exact ⟨rfl, rfl⟩)
      unfold PieceOut pieceV at HF
      have HT : Hid (endsT (some (k, t, n)) = (k == 4 && decide (1 < lineL t))) := Lib.hid rfl
      rw [HT.out]
      clear hF ht HT
      generalize decide (1 < lineL t) = d at *
      by_cases hk : k = 4
      · subst hk
        go_enter Tryz.func24, Tryz.ntmps24
        go_wp2_with (first
          | (go_at_call 20; refine (HP.out _).mono ?_; rintro _ _ ⟨rfl, rfl⟩)
          | (go_at_call 25; refine HF.out.mono ?_; rintro e w9 ⟨hB, rfl⟩; have HB := Lib.hid hB; clear hB)
          | (go_at_call 37; refine (HC.out _).mono ?_; rintro _ _ ⟨rfl, rfl⟩))
        go_ret
        exact ⟨rfl, HB.out.alloc HB.out.size _⟩
      · have k1 : ¬ (k : Int) = 4 := by omega
        have k2 : (k == 4) = false := beq_eq_false_iff_ne.2 hk
        rw [k2]
        clear hk k2
        go_enter Tryz.func24, Tryz.ntmps24
        go_wp2_with (first
          | (go_at_call 20; refine (HP.out _).mono ?_; rintro _ _ ⟨rfl, rfl⟩)
          | (go_at_call 25; refine HF.out.mono ?_; rintro e w9 ⟨hB, rfl⟩; have HB := Lib.hid hB; clear hB))
        go_ret
        exact ⟨rfl, HB.out.alloc HB.out.size _⟩
/-- The piece that comes next, where no blanks do. -/
def pieceL (semi : Bool) (l : List UInt8) : Option (Nat × List UInt8 × Nat) := if semi && endsB l then some (3, [10], if l.head? = some 10 then 1 else 0) else tokL l
theorem trim_lf (s : ByteArray) : ∃ x : ByteArray, (⟨(Lib.trimPrefix s.data.toList [10]).toArray⟩ : ByteArray) = x ∧ x.size ≤ s.size ∧ (s.size : Int) - x.size = ((if s.data.toList.head? = some 10 then 1 else 0 : Nat) : Int) := by
  refine ⟨_, rfl, ?_⟩
  have h := pre_one s.data.toList
  show (Lib.trimPrefix s.data.toList [10]).length ≤ s.size ∧ (s.size : Int) - ((Lib.trimPrefix s.data.toList [10]).length : Int) = _
  unfold Lib.trimPrefix
  rw [h]
  have hs := size_data s
  by_cases e : s.data.toList.head? = some 10
  · rw [if_pos (by simpa using e), if_pos e, List.length_drop, hs]
    have : 1 ≤ s.data.toList.length := by
      cases hl : s.data.toList with
      | nil => rw [hl] at e; cases e
      | cons c r => simp
    rw [hs] at this
    simp only [List.length_singleton]
    omega
  · rw [if_neg (by simpa using e), if_neg e, hs]
    omega
set_option maxRecDepth 100000 in
set_option maxHeartbeats 3200000 in
theorem piece_any (p : Nat) (rest : ByteArray) (hs : rest.size ≤ 20400) (line : Nat) (semi : Bool) (w : World) (hE : Env w) (hp : ScanP w p rest line semi) : Calls Tryz.prog 16 #[.pointer (some ⟨p, 0, none⟩)] w (PieceOut (pieceL semi rest.data.toList) w) := by
  have HG := Lib.hid (GBlk.new w 50 #[.int .i64 0, .string ⟨#[]⟩, .int .i64 0])
  have HE := Lib.hid (hE.on ((Below.refl _ _).alloc (Nat.le_refl _) (.cells #[.int .i64 0, .string ⟨#[]⟩, .int .i64 0] 50)))
  have HP := Lib.hid (hp.alloc (.cells #[.int .i64 0, .string ⟨#[]⟩, .int .i64 0] 50))
  have p0 : (w.alloc (.cells #[.int .i64 0, .string ⟨#[]⟩, .int .i64 0] 50)).cell? ⟨p, 0, none⟩ = some (.string rest) := HP.out.cell 0
  have p2 : (w.alloc (.cells #[.int .i64 0, .string ⟨#[]⟩, .int .i64 0] 50)).cell? ⟨p, 2, none⟩ = some (.bool semi) := HP.out.cell 2
  have HF := Lib.hid (fun w h => first_any rest hs w h)
  have HN := Lib.hid (fun w h => ends_any rest hs w h)
  have hF2 : ∀ w2, Below (w.alloc (.cells #[.int .i64 0, .string ⟨#[]⟩, .int .i64 0] 50)).heap.size (w.alloc (.cells #[.int .i64 0, .string ⟨#[]⟩, .int .i64 0] 50)) w2 → Env w2 := fun w2 h => HE.out.on h
  have HE2 := Lib.hid hF2
  clear hp hE hF2
  cases semi
  · have HL : Hid (pieceL false rest.data.toList = tokL rest.data.toList) := Lib.hid (by unfold pieceL; rw [Bool.false_and, if_neg (by simp)])
    rw [HL.out]
    clear HL
    go_enter Tryz.func16, Tryz.ntmps16
    go_wp2_with (go_at_call 25; refine (HF.out _ HE.out).mono ?_; rintro e w9 hO; obtain ⟨a, b, c, ok, rfl⟩ := hO.form; have HO := Lib.hid hO; have HBl := Lib.hid (show Below (w.alloc (.cells #[.int .i64 0, .string ⟨#[]⟩, .int .i64 0] 50)).heap.size (w.alloc (.cells #[.int .i64 0, .string ⟨#[]⟩, .int .i64 0] 50)) w9 from HO.out.1); have gB := HG.out.below HBl.out; have f0 : w9.cell? ⟨w.heap.size, 0, none⟩ = some (.int .i64 0) := gB.cell 0; have f1 : w9.cell? ⟨w.heap.size, 1, none⟩ = some (.string ⟨#[]⟩) := gB.cell 1; have f2 : w9.cell? ⟨w.heap.size, 2, none⟩ = some (.int .i64 0) := gB.cell 2; have f3 := gB.frozen 0; have f4 := gB.frozen 1; have f5 := gB.frozen 2; have HGB := Lib.hid gB; clear gB; clear hO)
    have gW := HGB.out.set3 (.int .i64 a) (.string b) (.int .i64 c)
    have hW := below_set3 (HBl.out.mono (show w.heap.size ≤ _ by simp)) (Nat.le_refl _) (.int .i64 a) (.string b) (.int .i64 c) (k := w.heap.size) (B := w.heap.size)
    generalize (((w9.setCell ⟨w.heap.size, 0, none⟩ (.int .i64 a)).setCell ⟨w.heap.size, 1, none⟩ (.string b)).setCell ⟨w.heap.size, 2, none⟩ (.int .i64 c)) = W at *
    have y0 : W.cell? ⟨w.heap.size, 0, none⟩ = some (.int .i64 a) := gW.cell 0
    have y1 : W.cell? ⟨w.heap.size, 1, none⟩ = some (.string b) := gW.cell 1
    have y2 : W.cell? ⟨w.heap.size, 2, none⟩ = some (.int .i64 c) := gW.cell 2
    have hF : Below w.heap.size w W := ((Below.refl _ w).alloc (Nat.le_refl _) _).trans hW
    exact bodyPost_ret (v := .tuple #[.agg #[.int .i64 a, .string b, .int .i64 c], .bool ok]) (by simp [results, Tryz.results16, go_sem, y0, y1, y2]) rfl (HO.out.world hF)
  · cases he : endsB rest.data.toList
    · have HL : Hid (pieceL true rest.data.toList = tokL rest.data.toList) := Lib.hid (by unfold pieceL; rw [Bool.true_and, he, if_neg (by simp)])
      rw [HL.out]
      rw [he] at HN
      clear HL he
      go_enter Tryz.func16, Tryz.ntmps16
      go_wp2_with (first
        | (go_at_call 24; refine (HN.out _ HE.out).mono ?_; rintro _ w8 ⟨rfl, hB⟩; have gP := HP.out.below hB; have HBa := Lib.hid hB; have p3 : w8.cell? ⟨p, 0, none⟩ = some (.string rest) := gP.cell 0; clear gP hB)
        | (go_at_call 25; refine (HF.out _ (HE2.out _ HBa.out)).mono ?_; rintro e w9 hO; obtain ⟨a, b, c, ok, rfl⟩ := hO.form; have HO := Lib.hid hO; have HBl := Lib.hid (show Below (w.alloc (.cells #[.int .i64 0, .string ⟨#[]⟩, .int .i64 0] 50)).heap.size (w.alloc (.cells #[.int .i64 0, .string ⟨#[]⟩, .int .i64 0] 50)) w9 from HBa.out.trans (HO.out.1.mono HBa.out.size)); have gB := HG.out.below HBl.out; have f0 : w9.cell? ⟨w.heap.size, 0, none⟩ = some (.int .i64 0) := gB.cell 0; have f1 : w9.cell? ⟨w.heap.size, 1, none⟩ = some (.string ⟨#[]⟩) := gB.cell 1; have f2 : w9.cell? ⟨w.heap.size, 2, none⟩ = some (.int .i64 0) := gB.cell 2; have f3 := gB.frozen 0; have f4 := gB.frozen 1; have f5 := gB.frozen 2; have HGB := Lib.hid gB; clear gB; clear hO))
      have gW := HGB.out.set3 (.int .i64 a) (.string b) (.int .i64 c)
      have hW := below_set3 (HBl.out.mono (show w.heap.size ≤ _ by simp)) (Nat.le_refl _) (.int .i64 a) (.string b) (.int .i64 c) (k := w.heap.size) (B := w.heap.size)
      generalize (((w9.setCell ⟨w.heap.size, 0, none⟩ (.int .i64 a)).setCell ⟨w.heap.size, 1, none⟩ (.string b)).setCell ⟨w.heap.size, 2, none⟩ (.int .i64 c)) = W at *
      have y0 : W.cell? ⟨w.heap.size, 0, none⟩ = some (.int .i64 a) := gW.cell 0
      have y1 : W.cell? ⟨w.heap.size, 1, none⟩ = some (.string b) := gW.cell 1
      have y2 : W.cell? ⟨w.heap.size, 2, none⟩ = some (.int .i64 c) := gW.cell 2
      have hF : Below w.heap.size w W := ((Below.refl _ w).alloc (Nat.le_refl _) _).trans hW
      exact bodyPost_ret (v := .tuple #[.agg #[.int .i64 a, .string b, .int .i64 c], .bool ok]) (by simp [results, Tryz.results16, go_sem, y0, y1, y2]) rfl (HO.out.world hF)
    · have HL : Hid (pieceL true rest.data.toList = some (3, [10], if rest.data.toList.head? = some 10 then 1 else 0)) := Lib.hid (by unfold pieceL; rw [Bool.true_and, he, if_pos rfl])
      rw [HL.out]
      rw [he] at HN
      obtain ⟨x, hx, hx1, hx2⟩ := trim_lf rest
      have HT : Hid (∀ w, Calls Tryz.prog 11 #[.string rest, .string ⟨#[10]⟩] w fun e w' => e = .returned (.string x) ∧ w' = w) := Lib.hid (fun w => by
        refine (Tryz.strings_TrimPrefix rest ⟨#[10]⟩ w).mono ?_
        rintro _ _ ⟨rfl, rfl⟩
        rw [show (⟨#[10]⟩ : ByteArray).data.toList = [10] from rfl, hx]
        exact ⟨rfl, rfl⟩)
      generalize (if rest.data.toList.head? = some 10 then 1 else 0 : Nat) = n at *
      have s1 : IntKind.i64.wrap ((rest.size : Int) - (x.size : Int)) = (n : Int) := by rw [IntWalk.i64_in _ (by omega)]; exact hx2
      clear HL he hx hx1 hx2
      go_enter Tryz.func16, Tryz.ntmps16
      go_wp2_with (go_at_call 24; refine (HN.out _ HE.out).mono ?_; rintro _ w8 ⟨rfl, hB⟩; have gP := HP.out.below hB; have HBa := Lib.hid hB; have p3 : w8.cell? ⟨p, 0, none⟩ = some (.string rest) := gP.cell 0; clear gP; have HBl := Lib.hid (show Below (w.alloc (.cells #[.int .i64 0, .string ⟨#[]⟩, .int .i64 0] 50)).heap.size (w.alloc (.cells #[.int .i64 0, .string ⟨#[]⟩, .int .i64 0] 50)) w8 from hB); have gB := HG.out.below HBl.out; have f0 : w8.cell? ⟨w.heap.size, 0, none⟩ = some (.int .i64 0) := gB.cell 0; have f1 : w8.cell? ⟨w.heap.size, 1, none⟩ = some (.string ⟨#[]⟩) := gB.cell 1; have f2 : w8.cell? ⟨w.heap.size, 2, none⟩ = some (.int .i64 0) := gB.cell 2; have f3 := gB.frozen 0; have f4 := gB.frozen 1; have f5 := gB.frozen 2; have HGB := Lib.hid gB; clear gB; clear hB)
      go_quiet ((go_at_call 11; refine Calls.quiet_of_same (HT.out _)))
      go_wp2
      have HGB := Lib.hid (HGB.out.drewN nq)
      have HBl := Lib.hid (below_drewN HBl.out nq)
      have gW := HGB.out.set3 (.int .i64 3) (.string ⟨#[10]⟩) (.int .i64 (n : Int))
      have hW := below_set3 (HBl.out.mono (show w.heap.size ≤ _ by simp)) (Nat.le_refl _) (.int .i64 3) (.string ⟨#[10]⟩) (.int .i64 (n : Int)) (k := w.heap.size) (B := w.heap.size)
      generalize ((((w8.drewN nq).setCell ⟨w.heap.size, 0, none⟩ (.int .i64 3)).setCell ⟨w.heap.size, 1, none⟩ (.string ⟨#[10]⟩)).setCell ⟨w.heap.size, 2, none⟩ (.int .i64 (n : Int))) = W at *
      have y0 : W.cell? ⟨w.heap.size, 0, none⟩ = some (.int .i64 3) := gW.cell 0
      have y1 : W.cell? ⟨w.heap.size, 1, none⟩ = some (.string ⟨#[10]⟩) := gW.cell 1
      have y2 : W.cell? ⟨w.heap.size, 2, none⟩ = some (.int .i64 (n : Int)) := gW.cell 2
      have hF : Below w.heap.size w W := ((Below.refl _ w).alloc (Nat.le_refl _) _).trans hW
      exact bodyPost_ret (v := .tuple #[.agg #[.int .i64 3, .string ⟨#[10]⟩, .int .i64 (n : Int)], .bool true]) (by simp [results, Tryz.results16, go_sem, y0, y1, y2]) rfl ⟨hF, rfl⟩
end Go.Proofs.YtinaeegijmkbhaaGreatDoor
