/-
  ScanLines: the walk.
-/
import Derived.Test.YtinaeegijmkbhaaDoorS1
set_option linter.unusedVariables false
namespace Go.Proofs.YtinaeegijmkbhaaDoor
open Go.RowKit Go.Shelf

/-- Where the law's loop is. -/
structure LineTo (s : ByteArray) (pos : Nat) (semi : Bool) (last k : Nat) : Prop where
  lo : last ≤ lineL (s.data.toList.take pos)
  one : 1 ≤ last
  left : 2 * (s.size - pos) + semi.toNat + k ≤ 2 * s.size
theorem LineTo.none {s : ByteArray} {pos : Nat} {semi : Bool} {last k : Nat} (h : LineTo s pos semi last k) (hp : pos ≤ s.size) : last ≤ (stepP s.data.toList pos semi).line ∧ (stepP s.data.toList pos semi).line ≤ lineL s.data.toList := by
  have g := next_goes semi (l := s.data.toList) (pos := pos) (by rw [size_data]; exact hp)
  rw [step_same.2]
  exact ⟨Nat.le_trans h.lo g.line1, g.line2⟩
theorem LineTo.some {s : ByteArray} {pos : Nat} {semi : Bool} {last k : Nat} (h : LineTo s pos semi last k) (hp : pos ≤ s.size) {kd : Nat} {t : List UInt8} (e : (stepP s.data.toList pos semi).tok = some (kd, t)) :
    kd ≤ 4 ∧ (kd = 0 → t = []) ∧ (kd ≠ 0 → LineTo s (stepP s.data.toList pos semi).pos (stepP s.data.toList pos semi).semi (stepP s.data.toList pos semi).line (k + 1)) := by
  have g := next_goes semi (l := s.data.toList) (pos := pos) (by rw [size_data]; exact hp)
  have hs := step_tok (l := s.data.toList) (pos := pos) (semi := semi) (by rw [e]; simp)
  rw [hs] at e ⊢
  obtain ⟨h1, h2⟩ := g.kind e
  refine ⟨h1, h2, fun hk => ⟨g.line3 (by rw [e]; simp), ?_, ?_⟩⟩
  · have := g.line1; have := line_pos (s.data.toList.take pos); omega
  · have h3 := g.less e hk
    rw [size_data] at h3
    have := h.left
    omega
theorem LineTo.start (s : ByteArray) : LineTo s (bomN s) false 1 0 := by
  obtain ⟨h1, h2⟩ := bom_line s
  exact ⟨by rw [h1]; exact Nat.le_refl _, Nat.le_refl _, by simp; omega⟩
set_option maxRecDepth 100000 in
set_option maxHeartbeats 6400000 in
theorem lines_walk (s : ByteArray) (hm : s.size ≤ maxLen) (w : World) (hE : Env w) : Calls Tryd.prog 4 #[.string s] w fun e w' => e = .returned (.bool true) ∧ Below w.heap.size w w' := by
  have HSh := Lib.hid (fun (W : World) (b : Below w.heap.size w W) => shown_any W (hE.on b))
  by_cases hbig : 1024 < s.size
  · have i1 : (1024 : Int) < (s.size : Int) := by omega
    go_enter Tryd.func4, Tryd.ntmps4
    go_wp2_with (go_at_call 13; refine (HSh.out _ (Below.refl _ _)).mono ?_; rintro _ w1 ⟨rfl, hB⟩)
    go_ret
    exact ⟨rfl, hB⟩
  have hs : s.size ≤ 20400 := by omega
  have i1 : ¬ (1024 : Int) < (s.size : Int) := by omega
  have HN := Lib.hid (fun (W : World) (hB : Below w.heap.size w W) => new_law s hs (w0 := w) (W := W) hB hE)
  have HR := Lib.hid (rnew_any s hs)
  have HL := Lib.hid (line_any s hs (s.size : Int))
  rw [Int.toNat_natCast, take_size (Nat.le_refl _)] at HL
  have HNx := Lib.hid (fun (W : World) (p pos : Nat) (semi : Bool) (h : LS w W p s pos semi) => next_law s hs h)
  clear hbig
  cases hb : badL 0 s.data.toList with
  | some k =>
    have hN : ∀ W, Below w.heap.size w W → Calls Tryd.prog 14 #[.string s] W fun e w' => e = .returned (.tuple #[.pointer none, .agg #[.int .i64 100, .string ⟨#[]⟩, .int .i64 (lineL (s.data.toList.take k) : Nat)]]) ∧ Below W.heap.size W w' := fun W hW => by
      refine (HN.out W hW).mono ?_
      rintro e w' ⟨hB, (⟨j, hj, rfl⟩ | ⟨hj, -⟩)⟩
      · obtain rfl := Option.some.inj (hb.symm.trans hj)
        exact ⟨rfl, hB⟩
      · rw [hb] at hj; cases hj
    have hR : ∀ W, Calls Tryd.prog 15 #[.string s] W fun e w' => e = .returned (.tuple #[.pointer none, .agg #[.int .i64 100, .string ⟨#[]⟩, .int .i64 (lineL (s.data.toList.take k) : Nat)]]) ∧ Below W.heap.size W w' := fun W => by
      refine (HR.out W).mono ?_
      rintro e w' ⟨hB, (⟨j, hj, rfl⟩ | ⟨hj, -⟩)⟩
      · obtain rfl := Option.some.inj (hb.symm.trans hj)
        exact ⟨rfl, hB⟩
      · rw [hb] at hj; cases hj
    clear HN HR hb
    have HN := Lib.hid hN
    have HR := Lib.hid hR
    clear hN hR
    generalize lineL (s.data.toList.take k) = L at *
    go_enter Tryd.func4, Tryd.ntmps4
    go_wp2_with (first
      | (go_at_call 13; refine (HSh.out _ (Below.refl _ _)).mono ?_; rintro _ w1 ⟨rfl, hB1⟩; have HB1 := Lib.hid hB1; clear hB1)
      | (go_at_call 14; refine (HN.out _ HB1.out).mono ?_; rintro _ w2 ⟨rfl, hB2⟩; have HB2 := Lib.hid (HB1.out.trans (hB2.mono HB1.out.size)); clear hB2)
      | (go_at_call 15; refine (HR.out _).mono ?_; rintro _ w3 ⟨rfl, hB3⟩; have HB3 := Lib.hid (((HB2.out.alloc HB2.out.size (.cells #[.int .i64 100, .string ⟨#[]⟩, .int .i64 (L : Int)] 30))).trans (hB3.mono (by have := HB2.out.size; simp; omega))); have gB := (GBlk.new w2 30 #[.int .i64 100, .string ⟨#[]⟩, .int .i64 (L : Int)]).below hB3; have b0 : ∀ o, (w3.alloc o).cell? ⟨w2.heap.size, 0, none⟩ = some (.int .i64 100) := fun o => (gB.alloc o).cell 0; have b1 : ∀ o, (w3.alloc o).cell? ⟨w2.heap.size, 1, none⟩ = some (.string ⟨#[]⟩) := fun o => (gB.alloc o).cell 1; have b2 : ∀ o, (w3.alloc o).cell? ⟨w2.heap.size, 2, none⟩ = some (.int .i64 (L : Int)) := fun o => (gB.alloc o).cell 2; clear hB3 gB))
    go_ret
    exact ⟨rfl, HB3.out.alloc HB3.out.size _⟩
  | none =>
    have hN : ∀ W, Below w.heap.size w W → Calls Tryd.prog 14 #[.string s] W fun e w' => Below W.heap.size W w' ∧ ∃ p, e = .returned (.tuple #[.pointer (some ⟨p, 0, none⟩), .agg #[.int .i64 0, .string ⟨#[]⟩, .int .i64 0]]) ∧ LS w w' p s (bomN s) false := fun W hW => by
      refine (HN.out W hW).mono ?_
      rintro e w' ⟨hB, (⟨j, hj, -⟩ | ⟨-, p, hp, he, hl⟩)⟩
      · rw [hb] at hj; cases hj
      · exact ⟨hB, p, he, hl⟩
    have hR : ∀ W, Calls Tryd.prog 15 #[.string s] W fun e w' => (∃ q, e = .returned (.tuple #[.pointer (some ⟨q, 0, none⟩), .agg #[.int .i64 0, .string ⟨#[]⟩, .int .i64 0]])) ∧ Below W.heap.size W w' := fun W => by
      refine (HR.out W).mono ?_
      rintro e w' ⟨hB, (⟨j, hj, -⟩ | ⟨-, q, -, he, -⟩)⟩
      · rw [hb] at hj; cases hj
      · exact ⟨⟨q, he⟩, hB⟩
    clear HN HR hb
    have HN := Lib.hid hN
    have HR := Lib.hid hR
    have HBm := Lib.hid (bom_line s)
    clear hN hR
    go_enter Tryd.func4, Tryd.ntmps4
    go_wp2_with (first
      | (go_at_call 13; refine (HSh.out _ (Below.refl _ _)).mono ?_; rintro _ w1 ⟨rfl, hB1⟩; have HB1 := Lib.hid hB1; clear hB1)
      | (go_at_call 14; refine (HN.out _ HB1.out).mono ?_; rintro _ w2 ⟨hB2, p, rfl, hL⟩; have HL2 := Lib.hid (hL.alloc (.cells #[.int .i64 0, .string ⟨#[]⟩, .int .i64 0] 30)); clear hB2 hL)
      | (go_at_call 15; refine (HR.out _).mono ?_; rintro _ w3 ⟨⟨q, rfl⟩, hB3⟩; have HL3 := Lib.hid ((HL2.out.on hB3).alloc (.cells #[.int .i64 0, .string ⟨#[]⟩, .int .i64 0] 30)); have gB := (GBlk.new w2 30 #[.int .i64 0, .string ⟨#[]⟩, .int .i64 0]).below hB3; have b0 : ∀ o, (w3.alloc o).cell? ⟨w2.heap.size, 0, none⟩ = some (.int .i64 0) := fun o => (gB.alloc o).cell 0; have b1 : ∀ o, (w3.alloc o).cell? ⟨w2.heap.size, 1, none⟩ = some (.string ⟨#[]⟩) := fun o => (gB.alloc o).cell 1; have b2 : ∀ o, (w3.alloc o).cell? ⟨w2.heap.size, 2, none⟩ = some (.int .i64 0) := fun o => (gB.alloc o).cell 2; clear hB3 gB))
    have H0 := Lib.hid (LineTo.start s)
    go_loopw [7, 8] (fun a i wr => ∃ last k pos : Nat, ∃ semi : Bool, a = .int .i64 last ∧ i = .int .i64 k ∧ Hid (LineTo s pos semi last k ∧ k ≤ 2 * s.size) ∧ Hid (LS w wr p s pos semi)) (fun _ i _ => 2 * s.size + 4 - (intOf i).toNat)
    case atStart => exact ⟨1, 0, bomN s, false, rfl, rfl, Lib.hid ⟨H0.out, Nat.zero_le _⟩, HL3⟩
    case round =>
      obtain ⟨last, k, pos, semi, rfl, rfl, HT, HW⟩ := hrel
      clear HL3 HL2 HN HR HSh b0 b1 b2 H0 HB1
      have hk := HT.out.2
      have i2 : (k : Int) < 2 * (s.size : Int) + 4 := by omega
      have HX := Lib.hid (HNx.out _ _ _ _ HW.out)
      have hpos := HW.out.pos
      have hlsm := line_small s.data.toList (by rw [size_data]; exact hs)
      cases hx : (stepP s.data.toList pos semi).tok with
      | none =>
        have hn := HT.out.1.none hpos
        have hv : StepOut (stepP s.data.toList pos semi) = .tuple #[.agg #[.int .i64 0, .string ⟨#[]⟩, .int .i64 0], .agg #[.int .i64 100, .string ⟨#[]⟩, .int .i64 ((stepP s.data.toList pos semi).line : Nat)]] := by unfold StepOut; rw [hx]
        rw [hv] at HX
        generalize (stepP s.data.toList pos semi).line = ln at *
        generalize lineL s.data.toList = LL at *
        have j1 : (last : Int) ≤ (ln : Int) := by omega
        have j2 : (ln : Int) ≤ (LL : Int) := by omega
        clear hn hv hx HT HW
        go_wp2_with (go_at_call 16; refine HX.out.mono ?_; rintro _ w4 ⟨rfl, hL4, -⟩; have HL4 := Lib.hid (((hL4.alloc (.cells #[.int .i64 0, .string ⟨#[]⟩, .int .i64 0] 37)).alloc (.cells #[.int .i64 100, .string ⟨#[]⟩, .int .i64 (ln : Int)] 30))); clear hL4)
        go_quiet ((go_at_call 11; refine Calls.quiet_of_same (HL.out _)))
        go_wp2
        go_ret
        exact ⟨rfl, (HL4.out.drewN nq).bel⟩
      | some y =>
        obtain ⟨kd, t⟩ := y
        have hn := HT.out.1.some hpos hx
        have hl1 : last ≤ (stepP s.data.toList pos semi).line ∧ (stepP s.data.toList pos semi).line ≤ lineL s.data.toList := HT.out.1.none hpos
        have hv : StepOut (stepP s.data.toList pos semi) = .tuple #[.agg #[.int .i64 (kd : Nat), .string (mkB t), .int .i64 ((stepP s.data.toList pos semi).line : Nat)], .agg #[.int .i64 0, .string ⟨#[]⟩, .int .i64 0]] := by unfold StepOut; rw [hx]
        rw [hv] at HX
        have HNn := Lib.hid hn.2.1
        have HNx2 := Lib.hid hn.2.2
        have hk4 := hn.1
        generalize (stepP s.data.toList pos semi).line = ln at *
        generalize (stepP s.data.toList pos semi).pos = pos' at *
        generalize (stepP s.data.toList pos semi).semi = semi' at *
        generalize lineL s.data.toList = LL at *
        generalize hkz : (kd : Int) = kz at *
        have d1 : decide (ln < last) = false := decide_eq_false (by omega)
        have d2 : decide (LL < ln) = false := decide_eq_false (by omega)
        have d3 : decide (kz < 0) = false := decide_eq_false (by omega)
        have d4 : decide (4 < kz) = false := decide_eq_false (by omega)
        have HKz := Lib.hid hkz
        clear hn hv hx hkz hl1 hk4
        go_wp2_with (go_at_call 16; refine HX.out.mono ?_; rintro _ w4 ⟨rfl, hL4, -⟩; have HL4 := Lib.hid (((hL4.alloc (.cells #[.int .i64 kz, .string (mkB t), .int .i64 (ln : Int)] 37)).alloc (.cells #[.int .i64 0, .string ⟨#[]⟩, .int .i64 0] 30))); clear hL4)
        go_quiet ((go_at_call 11; refine Calls.quiet_of_same (HL.out _)))
        by_cases hz : kz = 0
        · subst hz
          obtain rfl := HNn.out (by have := HKz.out; omega)
          rw [show mkB [] = (⟨#[]⟩ : ByteArray) from rfl]
          go_wp2
          go_ret
          exact ⟨rfl, (HL4.out.drewN nq).bel⟩
        · have hz' : (kz == 0) = false := beq_eq_false_iff_ne.2 hz
          have HF := Lib.hid (HNx2.out (by have := HKz.out; omega))
          clear d1 d2 d3 d4
          go_wp2
          have hl := HF.out.left
          go_roundw
          case rel => exact ⟨ln, k + 1, pos', semi', rfl, by go_num, Lib.hid ⟨HF.out, by omega⟩, Lib.hid (HL4.out.drewN nq)⟩
          case measure => simp [intOf]; omega
end Go.Proofs.YtinaeegijmkbhaaDoor
