/-
  show.Require.
-/
import Derived.Test.YtmdlmjcejeejfaaGreatDoorE4
import Derived.Test.YtmdlmjcejeejfaaGreatDoorC8
namespace Go.Proofs.YtmdlmjcejeejfaaGreatDoor
open Go.RowKit Go.Shelf

theorem idxL_lt {α : Type} (p : α → Bool) : ∀ xs : List α, idxL p xs < xs.length
  | [] => by simp [idxL]
  | x :: r => by
    have ih := idxL_lt p r
    rw [show idxL p (x :: r) = if p x then 0 else if idxL p r < 0 then -1 else idxL p r + 1 from rfl]
    rw [List.length_cons]
    split
    · omega
    · split <;> omega
theorem GBlk.symm {w : World} {B : Nat} {t : TypeId} {cs : Array Value} (h : GBlk w B t cs) : some (Obj.cells cs t (0, 0)) = w.heap[B]? := Eq.symm h

/-- A file and an error. -/
def FileErr (r : FileG × Int) (w : World) (e : Ending) (w' : World) : Prop := ∃ a b c d, e = .returned (.tuple #[.agg #[.string r.1.mo, .string r.1.go, a, b, c, d], .int .i64 r.2]) ∧ FileAt w' a b c d r.1 ∧ Below w.heap.size w w'
theorem FileErr.zero {r : FileG × Int} {w w' : World} {n : Int} (h : r = (zeroG, n)) (hb : Below w.heap.size w w') : FileErr r w (.returned (.tuple #[.agg #[.string ⟨#[]⟩, .string ⟨#[]⟩, .slice none 0 0, .slice none 0 0, .slice none 0 0, .slice none 0 0], .int .i64 n])) w' := by
  subst h
  exact ⟨_, _, _, _, rfl, ⟨RRow.nil _, RRow.nil _, RRow.nil _, RRow.nil _⟩, hb⟩
/-- What a function tells that tells a file and an error; what of the argument lay off a block lies off it still. -/
def FileErrO (r : FileG × Int) (a b c d : Value) (f : FileG) (w : World) (e : Ending) (w' : World) : Prop := ∃ a' b' c' d', e = .returned (.tuple #[.agg #[.string r.1.mo, .string r.1.go, a', b', c', d'], .int .i64 r.2]) ∧ FileAt w' a' b' c' d' r.1 ∧ Below w.heap.size w w' ∧ ∀ B, B < w.heap.size → FileOff B a b c d f → FileOff B a' b' c' d' r.1
theorem FileErrO.zero {r : FileG × Int} {a b c d : Value} {f : FileG} {w w' : World} {n : Int} (h : r = (zeroG, n)) (hb : Below w.heap.size w w') : FileErrO r a b c d f w (.returned (.tuple #[.agg #[.string ⟨#[]⟩, .string ⟨#[]⟩, .slice none 0 0, .slice none 0 0, .slice none 0 0, .slice none 0 0], .int .i64 n])) w' := by
  subst h
  exact ⟨_, _, _, _, rfl, ⟨RRow.nil _, RRow.nil _, RRow.nil _, RRow.nil _⟩, hb, fun B _ _ => ⟨fun h => absurd rfl h, fun h => absurd rfl h, fun h => absurd rfl h, fun h => absurd rfl h⟩⟩
theorem below_six {B b : Nat} {w w' : World} (h : Below B w w') (hb : B ≤ b) (v0 v1 v2 v3 v4 v5 : Value) : Below B w ((((((w'.setCell ⟨b, 0, none⟩ v0).setCell ⟨b, 1, none⟩ v1).setCell ⟨b, 2, none⟩ v2).setCell ⟨b, 3, none⟩ v3).setCell ⟨b, 4, none⟩ v4).setCell ⟨b, 5, none⟩ v5) :=
  (((((h.setCell (p := ⟨b, 0, none⟩) hb _).setCell (p := ⟨b, 1, none⟩) hb _).setCell (p := ⟨b, 2, none⟩) hb _).setCell (p := ⟨b, 3, none⟩) hb _).setCell (p := ⟨b, 4, none⟩) hb _).setCell (p := ⟨b, 5, none⟩) hb _

set_option maxRecDepth 100000 in
set_option maxHeartbeats 8000000 in
theorem require_file (f : FileG) (hS : Sized f) (m1 m2 : ByteArray) (sm1 : m1.size ≤ 20000) (sm2 : m2.size ≤ 20000) (a b c d : Value) (w : World) (hF : FileAt w a b c d f) :
    Calls Tryz.prog 13 #[.agg #[.string f.mo, .string f.go, a, b, c, d], .agg #[.string m1, .string m2]] w (FileErr (reqO f (m1, m2)) w) := by
  have hS2 : Sized (f.with [((m1, m2), false)]) := ⟨hS.mo, hS.go, by simp [FileG.with], hS.nreps, hS.nexcs, hS.nrets, by simp [FileG.with]; exact ⟨sm1, sm2⟩, hS.reps, hS.excs, hS.rets⟩
  obtain ⟨n1, n2, n3, n4⟩ : f.reqs.length ≤ 1000 ∧ f.reps.length ≤ 1000 ∧ f.excs.length ≤ 1000 ∧ f.rets.length ≤ 1000 := ⟨hS.nreqs, hS.nreps, hS.nexcs, hS.nrets⟩
  have SQ := Lib.hid hS.reqs
  obtain ⟨mo, go, reqs, reps, excs, rets⟩ := f
  obtain ⟨hr, hp, hx, ht⟩ := hF
  dsimp only at *
  obtain ⟨ra, rc, rfl⟩ := hr.form
  obtain ⟨pa, pc, rfl⟩ := hp.form
  obtain ⟨xa, xc, rfl⟩ := hx.form
  obtain ⟨ta, tc, rfl⟩ := ht.form
  have hB := ((((Below.refl w.heap.size w).alloc (Nat.le_refl _) (.cells #[.string mo, .string go, .slice ra reqs.length rc, .slice pa reps.length pc, .slice xa excs.length xc, .slice ta rets.length tc] 27)).alloc (by simp) (.cells #[.string m1, .string m2] 41)).alloc (by simp; omega) (.cells #[.string ⟨#[]⟩, .string ⟨#[]⟩, .slice none 0 0, .slice none 0 0, .slice none 0 0, .slice none 0 0] 27))
  have HK := Lib.hid (check_file ⟨mo, go, reqs, reps, excs, rets⟩ hS _ _ _ _ _ ⟨hr.below hB, hp.below hB, hx.below hB, ht.below hB⟩)
  have gF := ((GBlk.new w 27 #[.string mo, .string go, .slice ra reqs.length rc, .slice pa reps.length pc, .slice xa excs.length xc, .slice ta rets.length tc]).alloc (.cells #[.string m1, .string m2] 41)).alloc (.cells #[.string ⟨#[]⟩, .string ⟨#[]⟩, .slice none 0 0, .slice none 0 0, .slice none 0 0, .slice none 0 0] 27)
  have gM := (GBlk.new (w.alloc (.cells #[.string mo, .string go, .slice ra reqs.length rc, .slice pa reps.length pc, .slice xa excs.length xc, .slice ta rets.length tc] 27)) 41 #[.string m1, .string m2]).alloc (.cells #[.string ⟨#[]⟩, .string ⟨#[]⟩, .slice none 0 0, .slice none 0 0, .slice none 0 0, .slice none 0 0] 27)
  have gZ := GBlk.new ((w.alloc (.cells #[.string mo, .string go, .slice ra reqs.length rc, .slice pa reps.length pc, .slice xa excs.length xc, .slice ta rets.length tc] 27)).alloc (.cells #[.string m1, .string m2] 41)) 27 #[.string ⟨#[]⟩, .string ⟨#[]⟩, .slice none 0 0, .slice none 0 0, .slice none 0 0, .slice none 0 0]
  rw [World.size_alloc] at gM
  rw [World.size_alloc, World.size_alloc] at gZ
  have HS := Lib.hid hS2
  have HR := Lib.hid hr
  have HP := Lib.hid hp
  have HX := Lib.hid hx
  have HT := Lib.hid ht
  clear hS hS2 hr hp hx ht
  go_enter Tryz.func13, Tryz.ntmps13
  go_wp2_with fail
  refine HK.out.mono ?_
  generalize (((w.alloc (.cells #[.string mo, .string go, .slice ra reqs.length rc, .slice pa reps.length pc, .slice xa excs.length xc, .slice ta rets.length tc] 27)).alloc (.cells #[.string m1, .string m2] 41)).alloc (.cells #[.string ⟨#[]⟩, .string ⟨#[]⟩, .slice none 0 0, .slice none 0 0, .slice none 0 0, .slice none 0 0] 27)) = W at *
  rintro _ w1 ⟨rfl, hb1⟩
  replace hB := hB.trans (hb1.mono hB.size)
  replace gF := gF.below hb1
  replace gM := gM.below hb1
  replace gZ := gZ.below hb1
  clear HK hb1 W
  by_cases h1 : chkE ⟨mo, go, reqs, reps, excs, rets⟩ = 0
  · have H1 := Lib.hid h1
    rw [h1]
    clear h1
    have c0 : w1.cell? ⟨w.heap.size, 0, none⟩ = some (.string mo) := gF.cell 0
    have c1 : w1.cell? ⟨w.heap.size, 1, none⟩ = some (.string go) := gF.cell 1
    have c2 : w1.cell? ⟨w.heap.size, 2, none⟩ = some (.slice ra reqs.length rc) := gF.cell 2
    have c3 : w1.cell? ⟨w.heap.size, 3, none⟩ = some (.slice pa reps.length pc) := gF.cell 3
    have c4 : w1.cell? ⟨w.heap.size, 4, none⟩ = some (.slice xa excs.length xc) := gF.cell 4
    have c5 : w1.cell? ⟨w.heap.size, 5, none⟩ = some (.slice ta rets.length tc) := gF.cell 5
    have e0 : w1.cell? ⟨w.heap.size + 1, 0, none⟩ = some (.string m1) := gM.cell 0
    have e1 : w1.cell? ⟨w.heap.size + 1, 1, none⟩ = some (.string m2) := gM.cell 1
    have gA := (GBlk.new w1 27 #[.string mo, .string go, .slice ra reqs.length rc, .slice pa reps.length pc, .slice xa excs.length xc, .slice ta rets.length tc]).alloc (.cells #[.string m1, .string m2, .bool false] 50)
    have kc : ((w1.alloc (.cells #[.string mo, .string go, .slice ra reqs.length rc, .slice pa reps.length pc, .slice xa excs.length xc, .slice ta rets.length tc] 27)).alloc (.cells #[.string m1, .string m2, .bool false] 50)).cell? ⟨w1.heap.size, 2, none⟩ = some (.slice ra reqs.length rc) := gA.cell 2
    have kf := gA.frozen 2
    have ea0 : ∀ o, (w1.alloc o).cell? ⟨w.heap.size + 1, 0, none⟩ = some (.string m1) := fun o => (gM.alloc o).cell 0
    have ea1 : ∀ o, (w1.alloc o).cell? ⟨w.heap.size + 1, 1, none⟩ = some (.string m2) := fun o => (gM.alloc o).cell 1
    have gA2 := gA.set 2 (.slice (some ⟨w1.heap.size + 1, 0, none⟩) 1 1)
    go_wp2_with fail
    have hB2 := (hB.alloc hB.size (.cells #[.string mo, .string go, .slice (some ⟨w1.heap.size + 1, 0, none⟩) 1 1, .slice pa reps.length pc, .slice xa excs.length xc, .slice ta rets.length tc] 27)).alloc (by have := hB.size; simp; omega) (.cells #[.string m1, .string m2, .bool false] 50)
    have HO := Lib.hid (RRow.one' (R := reqR) (w := w1.alloc (.cells #[.string mo, .string go, .slice (some ⟨w1.heap.size + 1, 0, none⟩) 1 1, .slice pa reps.length pc, .slice xa excs.length xc, .slice ta rets.length tc] 27)) 50 ((m1, m2), false) #[.string m1, .string m2, .bool false] (w1.heap.size + 1) (by simp) rfl)
    replace gF := (gF.alloc (.cells #[.string mo, .string go, .slice (some ⟨w1.heap.size + 1, 0, none⟩) 1 1, .slice pa reps.length pc, .slice xa excs.length xc, .slice ta rets.length tc] 27)).alloc (.cells #[.string m1, .string m2, .bool false] 50)
    replace gM := (gM.alloc (.cells #[.string mo, .string go, .slice (some ⟨w1.heap.size + 1, 0, none⟩) 1 1, .slice pa reps.length pc, .slice xa excs.length xc, .slice ta rets.length tc] 27)).alloc (.cells #[.string m1, .string m2, .bool false] 50)
    replace gZ := (gZ.alloc (.cells #[.string mo, .string go, .slice (some ⟨w1.heap.size + 1, 0, none⟩) 1 1, .slice pa reps.length pc, .slice xa excs.length xc, .slice ta rets.length tc] 27)).alloc (.cells #[.string m1, .string m2, .bool false] 50)
    clear c0 c1 c2 c3 c4 c5 e0 e1 gA kc kf ea0 ea1 gA2 hB
    refine (check_file (FileG.with ⟨mo, go, reqs, reps, excs, rets⟩ [((m1, m2), false)]) HS.out _ _ _ _ _ ⟨HO.out, HP.out.below hB2, HX.out.below hB2, HT.out.below hB2⟩).mono ?_
    generalize (w1.alloc (.cells #[.string mo, .string go, .slice (some ⟨w1.heap.size + 1, 0, none⟩) 1 1, .slice pa reps.length pc, .slice xa excs.length xc, .slice ta rets.length tc] 27)).alloc (.cells #[.string m1, .string m2, .bool false] 50) = W2 at *
    rintro _ w2 ⟨rfl, hb2⟩
    replace hB2 := hB2.trans (hb2.mono hB2.size)
    replace gF := gF.below hb2
    replace gM := gM.below hb2
    replace gZ := gZ.below hb2
    clear hb2 HO
    by_cases h2 : chkE (FileG.with ⟨mo, go, reqs, reps, excs, rets⟩ [((m1, m2), false)]) = 0
    · have HE := Lib.hid (reqO_3 (m := (m1, m2)) H1.out h2)
      have HO := Lib.hid (chk_once H1.out)
      rw [h2]
      clear h2
      have c0 : w2.cell? ⟨w.heap.size, 0, none⟩ = some (.string mo) := gF.cell 0
      have c1 : w2.cell? ⟨w.heap.size, 1, none⟩ = some (.string go) := gF.cell 1
      have c2 : w2.cell? ⟨w.heap.size, 2, none⟩ = some (.slice ra reqs.length rc) := gF.cell 2
      have c3 : w2.cell? ⟨w.heap.size, 3, none⟩ = some (.slice pa reps.length pc) := gF.cell 3
      have c4 : w2.cell? ⟨w.heap.size, 4, none⟩ = some (.slice xa excs.length xc) := gF.cell 4
      have c5 : w2.cell? ⟨w.heap.size, 5, none⟩ = some (.slice ta rets.length tc) := gF.cell 5
      go_wp2_with fail
      clear c0 c1 c2 c3 c4 c5
      refine (copied_file ⟨mo, go, reqs, reps, excs, rets⟩ n1 n2 n3 n4 _ _ _ _ _ ⟨HR.out.below hB2, HP.out.below hB2, HX.out.below hB2, HT.out.below hB2⟩).mono ?_
      rintro _ w3 ⟨la, lb, lc, ld, rfl, l0, l1, l2, l3⟩
      obtain ⟨A0, c0, rfl⟩ := l0.own.form
      obtain ⟨A1, c1, rfl⟩ := l1.own.form
      obtain ⟨A2, c2, rfl⟩ := l2.own.form
      obtain ⟨A3, c3, rfl⟩ := l3.own.form
      dsimp only at *
      replace gF := gF.below l0.below
      replace gM := gM.below l0.below
      replace gZ := gZ.below l0.below
      replace l0 := l0.since hB2
      replace l1 := l1.since hB2
      replace l2 := l2.since hB2
      replace l3 := l3.since hB2
      clear hB2
      have x0 : w3.cell? ⟨w.heap.size, 0, none⟩ = some (.string mo) := gF.cell 0
      have x1 : w3.cell? ⟨w.heap.size, 1, none⟩ = some (.string go) := gF.cell 1
      have x2 : w3.cell? ⟨w.heap.size, 2, none⟩ = some (.slice ra reqs.length rc) := gF.cell 2
      have x3 : w3.cell? ⟨w.heap.size, 3, none⟩ = some (.slice pa reps.length pc) := gF.cell 3
      have x4 : w3.cell? ⟨w.heap.size, 4, none⟩ = some (.slice xa excs.length xc) := gF.cell 4
      have x5 : w3.cell? ⟨w.heap.size, 5, none⟩ = some (.slice ta rets.length tc) := gF.cell 5
      have y0 := gF.frozen 0
      have y1 := gF.frozen 1
      have y2 := gF.frozen 2
      have y3 := gF.frozen 3
      have y4 := gF.frozen 4
      have y5 := gF.frozen 5
      have sM := ((((((gM.setOther (B' := w.heap.size) (i := 0) (u := .string mo) (by omega)).setOther (B' := w.heap.size) (i := 1) (u := .string go) (by omega)).setOther (B' := w.heap.size) (i := 2) (u := .slice A0 reqs.length c0) (by omega)).setOther (B' := w.heap.size) (i := 3) (u := .slice A1 reps.length c1) (by omega)).setOther (B' := w.heap.size) (i := 4) (u := .slice A2 excs.length c2) (by omega)).setOther (B' := w.heap.size) (i := 5) (u := .slice A3 rets.length c3) (by omega))
      have sZ := ((((((gZ.setOther (B' := w.heap.size) (i := 0) (u := .string mo) (by omega)).setOther (B' := w.heap.size) (i := 1) (u := .string go) (by omega)).setOther (B' := w.heap.size) (i := 2) (u := .slice A0 reqs.length c0) (by omega)).setOther (B' := w.heap.size) (i := 3) (u := .slice A1 reps.length c1) (by omega)).setOther (B' := w.heap.size) (i := 4) (u := .slice A2 excs.length c2) (by omega)).setOther (B' := w.heap.size) (i := 5) (u := .slice A3 rets.length c3) (by omega))
      have sF := gF.six (.string mo) (.string go) (.slice A0 reqs.length c0) (.slice A1 reps.length c1) (.slice A2 excs.length c2) (.slice A3 rets.length c3)
      have s0 := l0.six gF (by decide) (Nat.le_refl _) (.string mo) (.string go) (.slice A0 reqs.length c0) (.slice A1 reps.length c1) (.slice A2 excs.length c2) (.slice A3 rets.length c3)
      have s1 := l1.six gF (by decide) (Nat.le_refl _) (.string mo) (.string go) (.slice A0 reqs.length c0) (.slice A1 reps.length c1) (.slice A2 excs.length c2) (.slice A3 rets.length c3)
      have s2 := l2.six gF (by decide) (Nat.le_refl _) (.string mo) (.string go) (.slice A0 reqs.length c0) (.slice A1 reps.length c1) (.slice A2 excs.length c2) (.slice A3 rets.length c3)
      have s3 := l3.six gF (by decide) (Nat.le_refl _) (.string mo) (.string go) (.slice A0 reqs.length c0) (.slice A1 reps.length c1) (.slice A2 excs.length c2) (.slice A3 rets.length c3)
      have kc : ((((((w3.setCell ⟨w.heap.size, 0, none⟩ (.string mo)).setCell ⟨w.heap.size, 1, none⟩ (.string go)).setCell ⟨w.heap.size, 2, none⟩ (.slice A0 reqs.length c0)).setCell ⟨w.heap.size, 3, none⟩ (.slice A1 reps.length c1)).setCell ⟨w.heap.size, 4, none⟩ (.slice A2 excs.length c2)).setCell ⟨w.heap.size, 5, none⟩ (.slice A3 rets.length c3)).cell? ⟨w.heap.size, 2, none⟩ = some (.slice A0 reqs.length c0) := sF.cell 2
      go_wp2_with fail
      clear x0 x1 x2 x3 x4 x5 y0 y1 y2 y3 y4 y5 kc gF gM gZ l0 l1 l2 l3
      generalize ((((((w3.setCell ⟨w.heap.size, 0, none⟩ (.string mo)).setCell ⟨w.heap.size, 1, none⟩ (.string go)).setCell ⟨w.heap.size, 2, none⟩ (.slice A0 reqs.length c0)).setCell ⟨w.heap.size, 3, none⟩ (.slice A1 reps.length c1)).setCell ⟨w.heap.size, 4, none⟩ (.slice A2 excs.length c2)).setCell ⟨w.heap.size, 5, none⟩ (.slice A3 rets.length c3)) = w4 at *
      refine (idxReq_any 34 again2_test _ reqs (w.heap.size + 1) m1 _ s0.own.row n1 sM.lt (sM.cell 0)).mono ?_
      rintro _ w5 ⟨rfl, hb5⟩
      replace sF := sF.below hb5
      replace sM := sM.below hb5
      replace sZ := sZ.below hb5
      replace s0 := s0.call hb5
      replace s1 := s1.call hb5
      replace s2 := s2.call hb5
      replace s3 := s3.call hb5
      clear hb5
      have HI := Lib.hid (idxL_range (fun a : ReqB => sameP a m1) reqs)
      by_cases h3 : idxL (fun a : ReqB => sameP a m1) reqs < 0
      · have HE2 := Lib.hid (raise_new (m := (m1, m2)) h3)
        have h3' : decide (idxL (fun a : ReqB => sameP a m1) reqs < 0) = true := by simp [h3]
        have kn : w5.cell? ⟨w.heap.size, 2, none⟩ = some (.slice A0 reqs.length c0) := sF.cell 2
        have e0 : w5.cell? ⟨w.heap.size + 1, 0, none⟩ = some (.string m1) := sM.cell 0
        have e1 : w5.cell? ⟨w.heap.size + 1, 1, none⟩ = some (.string m2) := sM.cell 1
        generalize idxL (fun a : ReqB => sameP a m1) reqs = ix at *
        go_wp2_with (at_builtin; refine wpList_racc preqT rfl _ _ rfl (s0.alloc _) rfl (RRow.one' _ ((m1, m2), false) _ _ (by simp) rfl) rfl (by simp; omega) ?_; intro A4 c4 acc4 w6 hgr; have F6 := (sF.alloc _).grew (s0.alloc _).own hgr (by decide); have Z6 := (sZ.alloc _).grew (s0.alloc _).own hgr (by decide); have t1 := (s1.alloc _).other (s0.alloc _).own hgr (by decide); have t2 := (s2.alloc _).other (s0.alloc _).own hgr (by decide); have t3 := (s3.alloc _).other (s0.alloc _).own hgr (by decide); have t0 := hgr.acc; have HL4 := Lib.hid hgr.list; clear hgr; have kc : w6.cell? ⟨w.heap.size, 2, none⟩ = some (.slice A0 reqs.length c0) := F6.cell 2; have kf := F6.frozen 2; have F7 := F6.set 2 (.slice A4 acc4.length c4); have Z7 := Z6.setOther (B' := w.heap.size) (i := 2) (u := .slice A4 acc4.length c4) (by omega); have x0 : (w6.setCell ⟨w.heap.size, 2, none⟩ (.slice A4 acc4.length c4)).cell? ⟨w.heap.size, 0, none⟩ = some (.string mo) := F7.cell 0; have x1 : (w6.setCell ⟨w.heap.size, 2, none⟩ (.slice A4 acc4.length c4)).cell? ⟨w.heap.size, 1, none⟩ = some (.string go) := F7.cell 1; have x2 : (w6.setCell ⟨w.heap.size, 2, none⟩ (.slice A4 acc4.length c4)).cell? ⟨w.heap.size, 2, none⟩ = some (.slice A4 acc4.length c4) := F7.cell 2; have x3 : (w6.setCell ⟨w.heap.size, 2, none⟩ (.slice A4 acc4.length c4)).cell? ⟨w.heap.size, 3, none⟩ = some (.slice A1 reps.length c1) := F7.cell 3; have x4 : (w6.setCell ⟨w.heap.size, 2, none⟩ (.slice A4 acc4.length c4)).cell? ⟨w.heap.size, 4, none⟩ = some (.slice A2 excs.length c2) := F7.cell 4; have x5 : (w6.setCell ⟨w.heap.size, 2, none⟩ (.slice A4 acc4.length c4)).cell? ⟨w.heap.size, 5, none⟩ = some (.slice A3 rets.length c3) := F7.cell 5; have z0 : (w6.setCell ⟨w.heap.size, 2, none⟩ (.slice A4 acc4.length c4)).cell? ⟨w.heap.size + 1 + 1, 0, none⟩ = some (.string ⟨#[]⟩) := Z7.cell 0; have z1 : (w6.setCell ⟨w.heap.size, 2, none⟩ (.slice A4 acc4.length c4)).cell? ⟨w.heap.size + 1 + 1, 1, none⟩ = some (.string ⟨#[]⟩) := Z7.cell 1; have z2 : (w6.setCell ⟨w.heap.size, 2, none⟩ (.slice A4 acc4.length c4)).cell? ⟨w.heap.size + 1 + 1, 2, none⟩ = some (.slice none 0 0) := Z7.cell 2; have z3 : (w6.setCell ⟨w.heap.size, 2, none⟩ (.slice A4 acc4.length c4)).cell? ⟨w.heap.size + 1 + 1, 3, none⟩ = some (.slice none 0 0) := Z7.cell 3; have z4 : (w6.setCell ⟨w.heap.size, 2, none⟩ (.slice A4 acc4.length c4)).cell? ⟨w.heap.size + 1 + 1, 4, none⟩ = some (.slice none 0 0) := Z7.cell 4; have z5 : (w6.setCell ⟨w.heap.size, 2, none⟩ (.slice A4 acc4.length c4)).cell? ⟨w.heap.size + 1 + 1, 5, none⟩ = some (.slice none 0 0) := Z7.cell 5; have y0 := Z7.frozen 0; have y1 := Z7.frozen 1; have y2 := Z7.frozen 2; have y3 := Z7.frozen 3; have y4 := Z7.frozen 4; have y5 := Z7.frozen 5)
        have hS6 := Z7.six (.string mo) (.string go) (.slice A4 acc4.length c4) (.slice A1 reps.length c1) (.slice A2 excs.length c2) (.slice A3 rets.length c3)
        have r0 := ((t0.set (i := 2) (u := .slice A4 acc4.length c4) F6 (by decide) (Nat.le_refl _)).six Z7 (by decide) (by omega) (.string mo) (.string go) (.slice A4 acc4.length c4) (.slice A1 reps.length c1) (.slice A2 excs.length c2) (.slice A3 rets.length c3))
        have r1 := ((t1.set (i := 2) (u := .slice A4 acc4.length c4) F6 (by decide) (Nat.le_refl _)).six Z7 (by decide) (by omega) (.string mo) (.string go) (.slice A4 acc4.length c4) (.slice A1 reps.length c1) (.slice A2 excs.length c2) (.slice A3 rets.length c3))
        have r2 := ((t2.set (i := 2) (u := .slice A4 acc4.length c4) F6 (by decide) (Nat.le_refl _)).six Z7 (by decide) (by omega) (.string mo) (.string go) (.slice A4 acc4.length c4) (.slice A1 reps.length c1) (.slice A2 excs.length c2) (.slice A3 rets.length c3))
        have r3 := ((t3.set (i := 2) (u := .slice A4 acc4.length c4) F6 (by decide) (Nat.le_refl _)).six Z7 (by decide) (by omega) (.string mo) (.string go) (.slice A4 acc4.length c4) (.slice A1 reps.length c1) (.slice A2 excs.length c2) (.slice A3 rets.length c3))
        have Y0 := hS6.cell 0
        have Y1 := hS6.cell 1
        have Y2 := hS6.cell 2
        have Y3 := hS6.cell 3
        have Y4 := hS6.cell 4
        have Y5 := hS6.cell 5
        refine bodyPost_ret (v := .tuple #[.agg #[.string mo, .string go, .slice A4 acc4.length c4, .slice A1 reps.length c1, .slice A2 excs.length c2, .slice A3 rets.length c3], .int .i64 0]) (by simp [results, Tryz.results13, go_sem, Y0, Y1, Y2, Y3, Y4, Y5]) rfl ?_
        rw [HE.out, show raiseL (FileG.reqs ⟨mo, go, reqs, reps, excs, rets⟩) (m1, m2) = acc4 from HE2.out.trans HL4.out.symm]
        exact ⟨_, _, _, _, rfl, ⟨r0.own.row, r1.own.row, r2.own.row, r3.own.row⟩, r0.below⟩
      · obtain ⟨k, hk⟩ : ∃ k : Nat, idxL (fun a : ReqB => sameP a m1) reqs = k := ⟨(idxL (fun a : ReqB => sameP a m1) reqs).toNat, by omega⟩
        have hlt : k < reqs.length := by have := idxL_lt (fun a : ReqB => sameP a m1) reqs; omega
        have HE2 := Lib.hid (raise_set (m := (m1, m2)) HO.out hlt hk)
        obtain ⟨z1, z2⟩ := SQ.out _ (List.getElem_mem hlt)
        have l0 := s0.own.spot (ne_of_lt hlt)
        obtain ⟨g, cur, rfl, -, hgb, gG, hcap, hat⟩ := l0
        obtain ⟨q1, q2, q3⟩ := req_at hat k hlt
        rw [Nat.zero_add] at q1 q2 q3
        have HY := Lib.hid (fun (y : ReqB) (h : reqR.cells y = (reqR.cells reqs[k]).set 1 (.string (maxS reqs[k].1.2 m2))) (w6 : World) (h0 : RAcc reqR 50 w w6 (.slice (some ⟨g, 0, none⟩) reqs.length c0) reqs) => h0.put hlt (j := 1) (by decide) h)
        have HC := Lib.hid (show reqR.cells ((reqs[k].1.1, maxS reqs[k].1.2 m2), reqs[k].2) = (reqR.cells reqs[k]).set 1 (.string (maxS reqs[k].1.2 m2)) from rfl)
        have HF := Lib.hid (show w.heap.size ≠ g from fun e => by subst e; have := sF.symm.trans gG; simp at this)
        have HZ := Lib.hid (show w.heap.size + 1 + 1 ≠ g from fun e => by subst e; have := sZ.symm.trans gG; simp at this)
        rw [hk]
        have h3' : decide ((k : Int) < 0) = false := by simp
        have kn : w5.cell? ⟨w.heap.size, 2, none⟩ = some (.slice (some ⟨g, 0, none⟩) reqs.length c0) := sF.cell 2
        have e1 : w5.cell? ⟨w.heap.size + 1, 1, none⟩ = some (.string m2) := sM.cell 1
        have i0 : (0 : Int) ≤ (k : Int) := by omega
        have i1 : (k : Int) < (reqs.length : Int) := by omega
        clear hat hk h3 HI
        generalize reqs[k] = x at *
        obtain ⟨⟨p, v⟩, bb⟩ := x
        dsimp only at q1 q2 q3 z1 z2 HE2 HY HC
        go_wp2
        go_region_law ((go_simp; go_at_call 35; refine (max_any v m2 (by omega) (by omega) _).mono ?_; rintro e w6 ⟨rfl, hb6'⟩; have hb6 := (below_drewN' (n := 1) hb6' : Below w5.heap.size w5 w6); have F6 := sF.below hb6; have Z6 := sZ.below hb6; have G6 := gG.below hb6; have t0 := s0.call hb6; have t1 := s1.call hb6; have t2 := s2.call hb6; have t3 := s3.call hb6; have kc : w6.cell? ⟨g, k * 3 + 1, none⟩ = some (.string v) := (hb6.cell (p := ⟨g, k * 3 + 1, none⟩) gG.lt).trans q2; have kf := G6.frozen (k * 3 + 1); have F7 := F6.setOther (B' := g) (i := k * 3 + 1) (u := (.string (maxS v m2))) HF.out; have Z7 := Z6.setOther (B' := g) (i := k * 3 + 1) (u := (.string (maxS v m2))) HZ.out; have x0 : (w6.setCell ⟨g, k * 3 + 1, none⟩ (.string (maxS v m2))).cell? ⟨w.heap.size, 0, none⟩ = some (.string mo) := F7.cell 0; have x1 : (w6.setCell ⟨g, k * 3 + 1, none⟩ (.string (maxS v m2))).cell? ⟨w.heap.size, 1, none⟩ = some (.string go) := F7.cell 1; have x2 : (w6.setCell ⟨g, k * 3 + 1, none⟩ (.string (maxS v m2))).cell? ⟨w.heap.size, 2, none⟩ = some (.slice (some ⟨g, 0, none⟩) reqs.length c0) := F7.cell 2; have x3 : (w6.setCell ⟨g, k * 3 + 1, none⟩ (.string (maxS v m2))).cell? ⟨w.heap.size, 3, none⟩ = some (.slice A1 reps.length c1) := F7.cell 3; have x4 : (w6.setCell ⟨g, k * 3 + 1, none⟩ (.string (maxS v m2))).cell? ⟨w.heap.size, 4, none⟩ = some (.slice A2 excs.length c2) := F7.cell 4; have x5 : (w6.setCell ⟨g, k * 3 + 1, none⟩ (.string (maxS v m2))).cell? ⟨w.heap.size, 5, none⟩ = some (.slice A3 rets.length c3) := F7.cell 5; have z0 : (w6.setCell ⟨g, k * 3 + 1, none⟩ (.string (maxS v m2))).cell? ⟨w.heap.size + 1 + 1, 0, none⟩ = some (.string ⟨#[]⟩) := Z7.cell 0; have z1 : (w6.setCell ⟨g, k * 3 + 1, none⟩ (.string (maxS v m2))).cell? ⟨w.heap.size + 1 + 1, 1, none⟩ = some (.string ⟨#[]⟩) := Z7.cell 1; have z2 : (w6.setCell ⟨g, k * 3 + 1, none⟩ (.string (maxS v m2))).cell? ⟨w.heap.size + 1 + 1, 2, none⟩ = some (.slice none 0 0) := Z7.cell 2; have z3 : (w6.setCell ⟨g, k * 3 + 1, none⟩ (.string (maxS v m2))).cell? ⟨w.heap.size + 1 + 1, 3, none⟩ = some (.slice none 0 0) := Z7.cell 3; have z4 : (w6.setCell ⟨g, k * 3 + 1, none⟩ (.string (maxS v m2))).cell? ⟨w.heap.size + 1 + 1, 4, none⟩ = some (.slice none 0 0) := Z7.cell 4; have z5 : (w6.setCell ⟨g, k * 3 + 1, none⟩ (.string (maxS v m2))).cell? ⟨w.heap.size + 1 + 1, 5, none⟩ = some (.slice none 0 0) := Z7.cell 5; have y0 := Z7.frozen 0; have y1 := Z7.frozen 1; have y2 := Z7.frozen 2; have y3 := Z7.frozen 3; have y4 := Z7.frozen 4; have y5 := Z7.frozen 5))
        all_goals
          go_wp2
          have hS6 := Z7.six (.string mo) (.string go) (.slice (some ⟨g, 0, none⟩) reqs.length c0) (.slice A1 reps.length c1) (.slice A2 excs.length c2) (.slice A3 rets.length c3)
          have u0 := HY.out _ HC.out _ t0
          have u1 := t1.putOther (i := k * 3 + 1) (u := (.string (maxS v m2))) G6 (by decide) hgb
          have u2 := t2.putOther (i := k * 3 + 1) (u := (.string (maxS v m2))) G6 (by decide) hgb
          have u3 := t3.putOther (i := k * 3 + 1) (u := (.string (maxS v m2))) G6 (by decide) hgb
          have r0 := u0.six Z7 (by decide) (by omega) (.string mo) (.string go) (.slice (some ⟨g, 0, none⟩) reqs.length c0) (.slice A1 reps.length c1) (.slice A2 excs.length c2) (.slice A3 rets.length c3)
          have r1 := u1.six Z7 (by decide) (by omega) (.string mo) (.string go) (.slice (some ⟨g, 0, none⟩) reqs.length c0) (.slice A1 reps.length c1) (.slice A2 excs.length c2) (.slice A3 rets.length c3)
          have r2 := u2.six Z7 (by decide) (by omega) (.string mo) (.string go) (.slice (some ⟨g, 0, none⟩) reqs.length c0) (.slice A1 reps.length c1) (.slice A2 excs.length c2) (.slice A3 rets.length c3)
          have r3 := u3.six Z7 (by decide) (by omega) (.string mo) (.string go) (.slice (some ⟨g, 0, none⟩) reqs.length c0) (.slice A1 reps.length c1) (.slice A2 excs.length c2) (.slice A3 rets.length c3)
          have Y0 := hS6.cell 0
          have Y1 := hS6.cell 1
          have Y2 := hS6.cell 2
          have Y3 := hS6.cell 3
          have Y4 := hS6.cell 4
          have Y5 := hS6.cell 5
          refine bodyPost_ret (v := .tuple #[.agg #[.string mo, .string go, .slice (some ⟨g, 0, none⟩) reqs.length c0, .slice A1 reps.length c1, .slice A2 excs.length c2, .slice A3 rets.length c3], .int .i64 0]) (by simp [results, Tryz.results13, go_sem, Y0, Y1, Y2, Y3, Y4, Y5]) rfl ?_
          rw [HE.out, show raiseL (FileG.reqs ⟨mo, go, reqs, reps, excs, rets⟩) (m1, m2) = _ from HE2.out]
          exact ⟨_, _, _, _, rfl, ⟨r0.own.row, r1.own.row, r2.own.row, r3.own.row⟩, r0.below⟩
    · have HE := Lib.hid (reqO_2 (m := (m1, m2)) H1.out h2)
      generalize chkE (FileG.with ⟨mo, go, reqs, reps, excs, rets⟩ [((m1, m2), false)]) = e at *
      have h2' : (e != 0) = true := by simp [h2]
      clear h2
      have z0 : w2.cell? ⟨w.heap.size + 1 + 1, 0, none⟩ = some (.string ⟨#[]⟩) := gZ.cell 0
      have z1 : w2.cell? ⟨w.heap.size + 1 + 1, 1, none⟩ = some (.string ⟨#[]⟩) := gZ.cell 1
      have z2 : w2.cell? ⟨w.heap.size + 1 + 1, 2, none⟩ = some (.slice none 0 0) := gZ.cell 2
      have z3 : w2.cell? ⟨w.heap.size + 1 + 1, 3, none⟩ = some (.slice none 0 0) := gZ.cell 3
      have z4 : w2.cell? ⟨w.heap.size + 1 + 1, 4, none⟩ = some (.slice none 0 0) := gZ.cell 4
      have z5 : w2.cell? ⟨w.heap.size + 1 + 1, 5, none⟩ = some (.slice none 0 0) := gZ.cell 5
      have f0 := gZ.frozen 0
      have f1 := gZ.frozen 1
      have f2 := gZ.frozen 2
      have f3 := gZ.frozen 3
      have f4 := gZ.frozen 4
      have f5 := gZ.frozen 5
      go_wp2
      have hS6 := gZ.six (.string ⟨#[]⟩) (.string ⟨#[]⟩) (.slice none 0 0) (.slice none 0 0) (.slice none 0 0) (.slice none 0 0)
      have y0 := hS6.cell 0
      have y1 := hS6.cell 1
      have y2 := hS6.cell 2
      have y3 := hS6.cell 3
      have y4 := hS6.cell 4
      have y5 := hS6.cell 5
      exact bodyPost_ret (v := .tuple #[.agg #[.string ⟨#[]⟩, .string ⟨#[]⟩, .slice none 0 0, .slice none 0 0, .slice none 0 0, .slice none 0 0], .int .i64 e]) (by simp [results, Tryz.results13, go_sem, y0, y1, y2, y3, y4, y5]) rfl (FileErr.zero HE.out (below_six hB2 (by omega) _ _ _ _ _ _))
  · have HE := Lib.hid (reqO_1 (m := (m1, m2)) h1)
    generalize chkE ⟨mo, go, reqs, reps, excs, rets⟩ = e at *
    have h1' : (e != 0) = true := by simp [h1]
    clear h1
    have z0 : w1.cell? ⟨w.heap.size + 1 + 1, 0, none⟩ = some (.string ⟨#[]⟩) := gZ.cell 0
    have z1 : w1.cell? ⟨w.heap.size + 1 + 1, 1, none⟩ = some (.string ⟨#[]⟩) := gZ.cell 1
    have z2 : w1.cell? ⟨w.heap.size + 1 + 1, 2, none⟩ = some (.slice none 0 0) := gZ.cell 2
    have z3 : w1.cell? ⟨w.heap.size + 1 + 1, 3, none⟩ = some (.slice none 0 0) := gZ.cell 3
    have z4 : w1.cell? ⟨w.heap.size + 1 + 1, 4, none⟩ = some (.slice none 0 0) := gZ.cell 4
    have z5 : w1.cell? ⟨w.heap.size + 1 + 1, 5, none⟩ = some (.slice none 0 0) := gZ.cell 5
    have f0 := gZ.frozen 0
    have f1 := gZ.frozen 1
    have f2 := gZ.frozen 2
    have f3 := gZ.frozen 3
    have f4 := gZ.frozen 4
    have f5 := gZ.frozen 5
    go_wp2
    have hS6 := gZ.six (.string ⟨#[]⟩) (.string ⟨#[]⟩) (.slice none 0 0) (.slice none 0 0) (.slice none 0 0) (.slice none 0 0)
    have y0 := hS6.cell 0
    have y1 := hS6.cell 1
    have y2 := hS6.cell 2
    have y3 := hS6.cell 3
    have y4 := hS6.cell 4
    have y5 := hS6.cell 5
    exact bodyPost_ret (v := .tuple #[.agg #[.string ⟨#[]⟩, .string ⟨#[]⟩, .slice none 0 0, .slice none 0 0, .slice none 0 0, .slice none 0 0], .int .i64 e]) (by simp [results, Tryz.results13, go_sem, y0, y1, y2, y3, y4, y5]) rfl (FileErr.zero HE.out (below_six hB (by omega) _ _ _ _ _ _))
end Go.Proofs.YtmdlmjcejeejfaaGreatDoor
