/-
  ScanTokens: the walk.
-/
import Derived.Test.YtinaeegijmkbhaaGreatDoorZ1
set_option linter.unusedVariables false
namespace Go.Proofs.YtinaeegijmkbhaaGreatDoor
open Go.RowKit Go.Shelf

theorem GBlk.new1 (w : World) (o : Obj) (t : TypeId) (cs : Array Value) : GBlk ((w.alloc o).alloc (.cells cs t)) (w.heap.size + 1) t cs := by
  have := GBlk.new (w.alloc o) t cs
  rw [show (w.alloc o).heap.size = w.heap.size + 1 from by simp] at this
  exact this
structure Pair (w W : World) (s : ByteArray) (p q pos pos2 : Nat) (semi semi2 : Bool) (b : Nat) (x y z u v r : Value) : Prop where
  ls : LS w W p s pos semi
  lr : LR w W q s pos2 semi2
  gt : GBlk W b 33 #[x, y, z]
  ge : GBlk W (b + 1) 26 #[u, v, r]
  n1 : b ≠ p
  n2 : b ≠ q
  n3 : b + 1 ≠ p
  n4 : b + 1 ≠ q
  pq : p ≠ q
theorem Pair.mk' {w w4 : World} {s : ByteArray} {p q pos pos2 : Nat} {semi semi2 : Bool} (x y z u v r : Value) (h : LS w w4 p s pos semi) (k : LR w w4 q s pos2 semi2) (hpq : p ≠ q) :
    Pair w ((w4.alloc (.cells #[x, y, z] 33)).alloc (.cells #[u, v, r] 26)) s p q pos pos2 semi semi2 w4.heap.size x y z u v r := by
  have h1 := h.sc.lt
  have h2 := k.lt
  exact ⟨(h.alloc _).alloc _, (k.alloc _).alloc _, (GBlk.new w4 33 _).alloc _, GBlk.new1 _ _ _ _, by omega, by omega, by omega, by omega, hpq⟩
section
variable {w W W' : World} {s : ByteArray} {p q pos pos2 pos' : Nat} {semi semi2 semi' : Bool} {b : Nat} {x y z u v r : Value}
theorem Pair.stepq (h : Pair w W s p q pos pos2 semi semi2 b x y z u v r) (hL : LR w W' q s pos' semi') (o : Only q W W') : Pair w W' s p q pos pos' semi semi' b x y z u v r :=
  ⟨h.ls.only o h.lr.new h.pq, hL, h.gt.only o h.n2, h.ge.only o h.n4, h.n1, h.n2, h.n3, h.n4, h.pq⟩
theorem Pair.stepp (h : Pair w W s p q pos pos2 semi semi2 b x y z u v r) (hL : LS w W' p s pos' semi') (o : Only p W W') : Pair w W' s p q pos' pos2 semi' semi2 b x y z u v r :=
  ⟨hL, h.lr.only o h.ls.new h.pq.symm, h.gt.only o h.n1, h.ge.only o h.n3, h.n1, h.n2, h.n3, h.n4, h.pq⟩
theorem Pair.alloc (h : Pair w W s p q pos pos2 semi semi2 b x y z u v r) (o : Obj) : Pair w (W.alloc o) s p q pos pos2 semi semi2 b x y z u v r :=
  ⟨h.ls.alloc _, h.lr.alloc _, h.gt.alloc _, h.ge.alloc _, h.n1, h.n2, h.n3, h.n4, h.pq⟩
end
set_option maxRecDepth 100000 in
set_option maxHeartbeats 6400000 in
theorem tokens_walk (s : ByteArray) (hm : s.size ≤ maxLen) (w : World) (hE : Env w) : Calls Tryz.prog 3 #[.string s] w fun e w' => e = .returned (.bool true) ∧ Below w.heap.size w w' := by
  have HSh := Lib.hid (fun (W : World) (b : Below w.heap.size w W) => shown_any W (hE.on b))
  by_cases hbig : 1024 < s.size
  · have i1 : (1024 : Int) < (s.size : Int) := by omega
    go_enter Tryz.func3, Tryz.ntmps3
    go_wp2_with (go_at_call 4; refine (HSh.out _ (Below.refl _ _)).mono ?_; rintro _ w1 ⟨rfl, hB⟩)
    go_ret
    exact ⟨rfl, hB⟩
  have hs : s.size ≤ 20400 := by omega
  have i1 : ¬ (1024 : Int) < (s.size : Int) := by omega
  clear hbig
  cases hx : badL 0 s.data.toList with
  | some k =>
    have HN := Lib.hid (new_no s hs hx)
    have HM := Lib.hid (rnew_no s hs hx)
    generalize lineL (s.data.toList.take k) = K at *
    clear hx
    go_enter Tryz.func3, Tryz.ntmps3
    go_wp2_with (first
      | (go_at_call 4; refine (HSh.out _ (Below.refl _ _)).mono ?_; rintro _ w1 ⟨rfl, hB⟩; have HB1 := Lib.hid hB; clear hB)
      | (go_at_call 5; (with_reducible refine (HN.out _).mono ?_); rintro _ w2 ⟨rfl, hB⟩; have HB2 := Lib.hid (HB1.out.trans (hB.mono HB1.out.size)); clear hB)
      | (go_at_call 6; (with_reducible refine (HM.out _).mono ?_); rintro _ w3 ⟨rfl, hB⟩; have HB3 := Lib.hid ((HB2.out.alloc HB2.out.size (.cells #[.int .i64 100, .string ⟨#[]⟩, .int .i64 (K : Int)] 26)).trans (hB.mono (by have := HB2.out.size; simp; omega))); have gB := (GBlk.new w2 26 #[.int .i64 100, .string ⟨#[]⟩, .int .i64 (K : Int)]).below hB; have b0 : ∀ o, (w3.alloc o).cell? ⟨w2.heap.size, 0, none⟩ = some (.int .i64 100) := fun o => (gB.alloc o).cell 0; have b1 : ∀ o, (w3.alloc o).cell? ⟨w2.heap.size, 1, none⟩ = some (.string ⟨#[]⟩) := fun o => (gB.alloc o).cell 1; have b2 : ∀ o, (w3.alloc o).cell? ⟨w2.heap.size, 2, none⟩ = some (.int .i64 (K : Int)) := fun o => (gB.alloc o).cell 2; clear hB gB))
    go_loopw [7] (fun i wr => Hid (Below w.heap.size w wr)) (fun i _ => 1)
    case atStart => exact Lib.hid (HB3.out.alloc HB3.out.size _)
    case round =>
      go_wp2
      go_ret
      exact ⟨rfl, hrel.out⟩
  | none =>
    have HN := Lib.hid (fun W hW => new_yes s hs hx hE W hW)
    have HM := Lib.hid (fun W hW => rnew_yes (w0 := w) s hs hx W hW)
    have HNx := Lib.hid (fun (W : World) (p pos : Nat) (semi : Bool) (h : LS w W p s pos semi) => next_law s hs h)
    have HNy := Lib.hid (fun (W : World) (p pos : Nat) (semi : Bool) (h : LR w W p s pos semi) => rnext_law s hs h)
    have hbl := (bom_line s).2
    clear hx
    go_enter Tryz.func3, Tryz.ntmps3
    go_wp2_with (first
      | (go_at_call 4; refine (HSh.out _ (Below.refl _ _)).mono ?_; rintro _ w1 ⟨rfl, hB⟩; have HB1 := Lib.hid hB; clear hB)
      | (go_at_call 5; (with_reducible refine (HN.out _ HB1.out).mono ?_); rintro _ w2 ⟨hB, p, -, rfl, hL⟩; have HL2 := Lib.hid (hL.alloc (.cells #[.int .i64 0, .string ⟨#[]⟩, .int .i64 0] 26)); clear hB hL)
      | (go_at_call 6; (with_reducible refine (HM.out _ HL2.out.bel).mono ?_); rintro _ w3 ⟨hB, q, hq, rfl, hL⟩; have hpq : p ≠ q := (by have := HL2.out.sc.lt; omega); have HM3 := Lib.hid (hL.alloc (.cells #[.int .i64 0, .string ⟨#[]⟩, .int .i64 0] 26)); have HL3 := Lib.hid ((HL2.out.on hB).alloc (.cells #[.int .i64 0, .string ⟨#[]⟩, .int .i64 0] 26)); have gB := (GBlk.new w2 26 #[.int .i64 0, .string ⟨#[]⟩, .int .i64 0]).below hB; have b0 : ∀ o, (w3.alloc o).cell? ⟨w2.heap.size, 0, none⟩ = some (.int .i64 0) := fun o => (gB.alloc o).cell 0; have b1 : ∀ o, (w3.alloc o).cell? ⟨w2.heap.size, 1, none⟩ = some (.string ⟨#[]⟩) := fun o => (gB.alloc o).cell 1; have b2 : ∀ o, (w3.alloc o).cell? ⟨w2.heap.size, 2, none⟩ = some (.int .i64 0) := fun o => (gB.alloc o).cell 2; clear hB gB hL hq))
    go_loopw [7] (fun i wr => ∃ k pos : Nat, ∃ semi : Bool, i = .int .i64 k ∧ Hid (k + 2 * (s.size - pos) + semi.toNat ≤ 2 * s.size) ∧ Hid (LS w wr p s pos semi ∧ LR w wr q s pos semi)) (fun i _ => 2 * s.size + 4 - (intOf i).toNat)
    case atStart => exact ⟨0, bomN s, false, rfl, Lib.hid (by simp; omega), Lib.hid ⟨HL3.out, HM3.out⟩⟩
    case round =>
      obtain ⟨k, pos, semi, rfl, HT, HW⟩ := hrel
      clear HL3 HL2 HN HM HM3 HSh b0 b1 b2 HB1
      have hk := HT.out
      have i2 : (k : Int) < 2 * (s.size : Int) + 4 := by omega
      have HX := Lib.hid (HNx.out _ _ _ _ HW.out.1)
      have HYn := Lib.hid (fun (W : World) (h : LR w W q s pos semi) => HNy.out W q pos semi h)
      have hG := next_goes semi (l := s.data.toList) (pos := pos) (by rw [size_data]; exact HW.out.1.pos)
      have HQ := HW.out.2
      have hnw := HW.out.1.new
      have hnq := HW.out.2.new
      cases hx : (stepP s.data.toList pos semi).tok with
      | none =>
        have hv : StepOut (stepP s.data.toList pos semi) = .tuple #[.agg #[.int .i64 0, .string ⟨#[]⟩, .int .i64 0], .agg #[.int .i64 100, .string ⟨#[]⟩, .int .i64 ((stepP s.data.toList pos semi).line : Nat)]] := by unfold StepOut; rw [hx]
        have ha := fault_again hx
        have HX2 := Lib.hid (fun (W : World) (h : LS w W p s (stepP s.data.toList pos semi).pos (stepP s.data.toList pos semi).semi) => HNx.out W p _ _ h)
        rw [ha, hv] at HX2
        rw [hv] at HX HYn
        clear HNx HNy hG hv ha hx
        generalize (stepP s.data.toList pos semi).line = ln at *
        generalize (stepP s.data.toList pos semi).pos = pos' at *
        generalize (stepP s.data.toList pos semi).semi = semi' at *
        go_wp2_with (first
          | (go_at_call 7; (with_reducible refine HX.out.mono ?_); rintro _ w4 ⟨rfl, hL4, hO⟩; have HK4 := Lib.hid (Pair.mk' (.int .i64 0) (.string ⟨#[]⟩) (.int .i64 0) (.int .i64 100) (.string ⟨#[]⟩) (.int .i64 (ln : Int)) hL4 (HQ.only hO hnw hpq.symm) hpq); clear hL4 hO)
          | (go_at_call 8; (with_reducible refine (HYn.out _ HK4.out.lr).mono ?_); rintro _ w5 ⟨rfl, hL5, hO⟩; have HK5 := Lib.hid (HK4.out.stepq hL5 hO); have gt := HK5.out.gt; have ge := HK5.out.ge; have at0 : ∀ o o', ((w5.alloc o).alloc o').cell? ⟨w4.heap.size, 0, none⟩ = some (.int .i64 0) := fun o o' => ((gt.alloc o).alloc o').cell 0; have at1 : ∀ o o', ((w5.alloc o).alloc o').cell? ⟨w4.heap.size, 1, none⟩ = some (.string ⟨#[]⟩) := fun o o' => ((gt.alloc o).alloc o').cell 1; have at2 : ∀ o o', ((w5.alloc o).alloc o').cell? ⟨w4.heap.size, 2, none⟩ = some (.int .i64 0) := fun o o' => ((gt.alloc o).alloc o').cell 2; have ae0 : ∀ o o', ((w5.alloc o).alloc o').cell? ⟨w4.heap.size + 1, 0, none⟩ = some (.int .i64 100) := fun o o' => ((ge.alloc o).alloc o').cell 0; have ae1 : ∀ o o', ((w5.alloc o).alloc o').cell? ⟨w4.heap.size + 1, 1, none⟩ = some (.string ⟨#[]⟩) := fun o o' => ((ge.alloc o).alloc o').cell 1; have ae2 : ∀ o o', ((w5.alloc o).alloc o').cell? ⟨w4.heap.size + 1, 2, none⟩ = some (.int .i64 (ln : Int)) := fun o o' => ((ge.alloc o).alloc o').cell 2; have HK6 := Lib.hid ((HK5.out.alloc (.cells #[.int .i64 0, .string ⟨#[]⟩, .int .i64 0] 36)).alloc (.cells #[.int .i64 100, .string ⟨#[]⟩, .int .i64 (ln : Int)] 26)); clear hL5 hO gt ge)
          | (go_at_call 7; (with_reducible refine (HX2.out _ HK6.out.ls).mono ?_); rintro _ w7 ⟨rfl, hL7, hO⟩; have HK7 := Lib.hid (HK6.out.stepp hL7 hO); have gt := HK7.out.gt; have ge := HK7.out.ge; have bt0 : ∀ o o', ((w7.alloc o).alloc o').cell? ⟨w4.heap.size, 0, none⟩ = some (.int .i64 0) := fun o o' => ((gt.alloc o).alloc o').cell 0; have bt1 : ∀ o o', ((w7.alloc o).alloc o').cell? ⟨w4.heap.size, 1, none⟩ = some (.string ⟨#[]⟩) := fun o o' => ((gt.alloc o).alloc o').cell 1; have bt2 : ∀ o o', ((w7.alloc o).alloc o').cell? ⟨w4.heap.size, 2, none⟩ = some (.int .i64 0) := fun o o' => ((gt.alloc o).alloc o').cell 2; have be0 : ∀ o o', ((w7.alloc o).alloc o').cell? ⟨w4.heap.size + 1, 0, none⟩ = some (.int .i64 100) := fun o o' => ((ge.alloc o).alloc o').cell 0; have be1 : ∀ o o', ((w7.alloc o).alloc o').cell? ⟨w4.heap.size + 1, 1, none⟩ = some (.string ⟨#[]⟩) := fun o o' => ((ge.alloc o).alloc o').cell 1; have be2 : ∀ o o', ((w7.alloc o).alloc o').cell? ⟨w4.heap.size + 1, 2, none⟩ = some (.int .i64 (ln : Int)) := fun o o' => ((ge.alloc o).alloc o').cell 2; have HK8 := Lib.hid (((HK7.out.alloc (.cells #[.int .i64 0, .string ⟨#[]⟩, .int .i64 0] 33)).alloc (.cells #[.int .i64 100, .string ⟨#[]⟩, .int .i64 (ln : Int)] 26)).ls.bel); clear hL7 hO gt ge))
        go_ret
        exact ⟨rfl, HK8.out⟩
      | some y =>
        obtain ⟨kd, t⟩ := y
        have hst := step_tok (l := s.data.toList) (pos := pos) (semi := semi) (by rw [hx]; simp)
        have hv : StepOut (stepP s.data.toList pos semi) = .tuple #[.agg #[.int .i64 (kd : Nat), .string (mkB t), .int .i64 ((stepP s.data.toList pos semi).line : Nat)], .agg #[.int .i64 0, .string ⟨#[]⟩, .int .i64 0]] := by unfold StepOut; rw [hx]
        have HX2 := Lib.hid (fun (hk : kd = 0) (W : World) (h : LS w W p s (stepP s.data.toList pos semi).pos (stepP s.data.toList pos semi).semi) => show Calls Tryz.prog 7 #[.pointer (some ⟨p, 0, none⟩)] W fun e w' => e = .returned (.tuple #[.agg #[.int .i64 (kd : Nat), .string (mkB t), .int .i64 ((stepP s.data.toList pos semi).line : Nat)], .agg #[.int .i64 0, .string ⟨#[]⟩, .int .i64 0]]) ∧ LS w w' p s (stepP s.data.toList (stepP s.data.toList pos semi).pos (stepP s.data.toList pos semi).semi).pos (stepP s.data.toList (stepP s.data.toList pos semi).pos (stepP s.data.toList pos semi).semi).semi ∧ Only p W w' from by
          subst hk
          have g := HNx.out W p _ _ h
          rw [end_again hx, hv] at g
          exact g)
        have HLess := Lib.hid (fun (hk : kd ≠ 0) => show 2 * (s.size - (stepP s.data.toList pos semi).pos) + (stepP s.data.toList pos semi).semi.toNat < 2 * (s.size - pos) + semi.toNat from by
          have := hG.less (by rw [← step_same.1]; exact hx) hk
          rw [size_data, ← hst] at this
          exact this)
        have hns := congrArg Step.pos hst
        have hns2 := congrArg Step.semi hst
        rw [← hst] at HYn
        rw [hv] at HX HYn
        clear HNx HNy hG hv hx hst hns hns2
        generalize hkz : (kd : Int) = kz at *
        have HKz := Lib.hid hkz
        generalize (stepP s.data.toList pos semi).line = ln at *
        generalize hPQ : stepP s.data.toList (stepP s.data.toList pos semi).pos (stepP s.data.toList pos semi).semi = PQ at *
        generalize (stepP s.data.toList pos semi).pos = pos' at *
        generalize (stepP s.data.toList pos semi).semi = semi' at *
        clear hkz
        generalize mkB t = TX at *
        by_cases hz : kz = 0
        · subst hz
          have HX2 := Lib.hid (HX2.out (by have := HKz.out; omega))
          clear HLess
          go_wp2_with (first
          | (go_at_call 7; (with_reducible refine HX.out.mono ?_); rintro _ w4 ⟨rfl, hL4, hO⟩; have HK4 := Lib.hid (Pair.mk' (.int .i64 0) (.string TX) (.int .i64 (ln : Int)) (.int .i64 0) (.string ⟨#[]⟩) (.int .i64 0) hL4 (HQ.only hO hnw hpq.symm) hpq); clear hL4 hO)
          | (go_at_call 8; (with_reducible refine (HYn.out _ HK4.out.lr).mono ?_); rintro _ w5 ⟨rfl, hL5, hO⟩; have HK5 := Lib.hid (HK4.out.stepq hL5 hO); have gt := HK5.out.gt; have ge := HK5.out.ge; have at0 : ∀ o o', ((w5.alloc o).alloc o').cell? ⟨w4.heap.size, 0, none⟩ = some (.int .i64 0) := fun o o' => ((gt.alloc o).alloc o').cell 0; have at1 : ∀ o o', ((w5.alloc o).alloc o').cell? ⟨w4.heap.size, 1, none⟩ = some (.string TX) := fun o o' => ((gt.alloc o).alloc o').cell 1; have at2 : ∀ o o', ((w5.alloc o).alloc o').cell? ⟨w4.heap.size, 2, none⟩ = some (.int .i64 (ln : Int)) := fun o o' => ((gt.alloc o).alloc o').cell 2; have ae0 : ∀ o o', ((w5.alloc o).alloc o').cell? ⟨w4.heap.size + 1, 0, none⟩ = some (.int .i64 0) := fun o o' => ((ge.alloc o).alloc o').cell 0; have ae1 : ∀ o o', ((w5.alloc o).alloc o').cell? ⟨w4.heap.size + 1, 1, none⟩ = some (.string ⟨#[]⟩) := fun o o' => ((ge.alloc o).alloc o').cell 1; have ae2 : ∀ o o', ((w5.alloc o).alloc o').cell? ⟨w4.heap.size + 1, 2, none⟩ = some (.int .i64 0) := fun o o' => ((ge.alloc o).alloc o').cell 2; have HK6 := Lib.hid ((HK5.out.alloc (.cells #[.int .i64 0, .string TX, .int .i64 (ln : Int)] 36)).alloc (.cells #[.int .i64 0, .string ⟨#[]⟩, .int .i64 0] 26)); clear hL5 hO gt ge)
          | (go_at_call 7; (with_reducible refine (HX2.out _ HK6.out.ls).mono ?_); rintro _ w7 ⟨rfl, hL7, hO⟩; have HK7 := Lib.hid (HK6.out.stepp hL7 hO); have gt := HK7.out.gt; have ge := HK7.out.ge; have bt0 : ∀ o o', ((w7.alloc o).alloc o').cell? ⟨w4.heap.size, 0, none⟩ = some (.int .i64 0) := fun o o' => ((gt.alloc o).alloc o').cell 0; have bt1 : ∀ o o', ((w7.alloc o).alloc o').cell? ⟨w4.heap.size, 1, none⟩ = some (.string TX) := fun o o' => ((gt.alloc o).alloc o').cell 1; have bt2 : ∀ o o', ((w7.alloc o).alloc o').cell? ⟨w4.heap.size, 2, none⟩ = some (.int .i64 (ln : Int)) := fun o o' => ((gt.alloc o).alloc o').cell 2; have be0 : ∀ o o', ((w7.alloc o).alloc o').cell? ⟨w4.heap.size + 1, 0, none⟩ = some (.int .i64 0) := fun o o' => ((ge.alloc o).alloc o').cell 0; have be1 : ∀ o o', ((w7.alloc o).alloc o').cell? ⟨w4.heap.size + 1, 1, none⟩ = some (.string ⟨#[]⟩) := fun o o' => ((ge.alloc o).alloc o').cell 1; have be2 : ∀ o o', ((w7.alloc o).alloc o').cell? ⟨w4.heap.size + 1, 2, none⟩ = some (.int .i64 0) := fun o o' => ((ge.alloc o).alloc o').cell 2; have HK8 := Lib.hid (((HK7.out.alloc (.cells #[.int .i64 0, .string TX, .int .i64 (ln : Int)] 33)).alloc (.cells #[.int .i64 0, .string ⟨#[]⟩, .int .i64 0] 26)).ls.bel); clear hL7 hO gt ge))
          go_ret
          exact ⟨rfl, HK8.out⟩
        · have hz' : (kz == 0) = false := beq_eq_false_iff_ne.2 hz
          have HL := Lib.hid (HLess.out (by have := HKz.out; omega))
          clear HLess HX2
          go_wp2_with (first
          | (go_at_call 7; (with_reducible refine HX.out.mono ?_); rintro _ w4 ⟨rfl, hL4, hO⟩; have HK4 := Lib.hid (Pair.mk' (.int .i64 kz) (.string TX) (.int .i64 (ln : Int)) (.int .i64 0) (.string ⟨#[]⟩) (.int .i64 0) hL4 (HQ.only hO hnw hpq.symm) hpq); clear hL4 hO)
          | (go_at_call 8; (with_reducible refine (HYn.out _ HK4.out.lr).mono ?_); rintro _ w5 ⟨rfl, hL5, hO⟩; have HK5 := Lib.hid (HK4.out.stepq hL5 hO); have gt := HK5.out.gt; have ge := HK5.out.ge; have at0 : ∀ o o', ((w5.alloc o).alloc o').cell? ⟨w4.heap.size, 0, none⟩ = some (.int .i64 kz) := fun o o' => ((gt.alloc o).alloc o').cell 0; have at1 : ∀ o o', ((w5.alloc o).alloc o').cell? ⟨w4.heap.size, 1, none⟩ = some (.string TX) := fun o o' => ((gt.alloc o).alloc o').cell 1; have at2 : ∀ o o', ((w5.alloc o).alloc o').cell? ⟨w4.heap.size, 2, none⟩ = some (.int .i64 (ln : Int)) := fun o o' => ((gt.alloc o).alloc o').cell 2; have ae0 : ∀ o o', ((w5.alloc o).alloc o').cell? ⟨w4.heap.size + 1, 0, none⟩ = some (.int .i64 0) := fun o o' => ((ge.alloc o).alloc o').cell 0; have ae1 : ∀ o o', ((w5.alloc o).alloc o').cell? ⟨w4.heap.size + 1, 1, none⟩ = some (.string ⟨#[]⟩) := fun o o' => ((ge.alloc o).alloc o').cell 1; have ae2 : ∀ o o', ((w5.alloc o).alloc o').cell? ⟨w4.heap.size + 1, 2, none⟩ = some (.int .i64 0) := fun o o' => ((ge.alloc o).alloc o').cell 2; have HK6 := Lib.hid ((HK5.out.alloc (.cells #[.int .i64 kz, .string TX, .int .i64 (ln : Int)] 36)).alloc (.cells #[.int .i64 0, .string ⟨#[]⟩, .int .i64 0] 26)); clear hL5 hO gt ge))
          have hl := HL.out
          go_roundw
          case rel => exact ⟨k + 1, pos', semi', by go_num, Lib.hid (by omega), Lib.hid ⟨HK6.out.ls, HK6.out.lr⟩⟩
          case measure => simp [intOf]; omega
end Go.Proofs.YtinaeegijmkbhaaGreatDoor
