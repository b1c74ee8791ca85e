/-
  semver.Parse: the parts of a version, and its error.
-/
import Derived.Test.YtmdlmjcejeejfaaGreatDoorP5
namespace Go.Proofs.YtmdlmjcejeejfaaGreatDoor
open Go.RowKit Go.Shelf

def verV (v : Ver) : Value := .agg #[.int .i64 v.ma, .int .i64 v.mi, .int .i64 v.pa, .string v.pre, .string v.mta]
/-- The cells of a version. -/
structure VerC (B : Nat) (W : World) (a b c : Int) (p m : ByteArray) : Prop where
  c0 : Cell1 W ⟨B, 0, none⟩ (.int .i64 a)
  c1 : Cell1 W ⟨B, 1, none⟩ (.int .i64 b)
  c2 : Cell1 W ⟨B, 2, none⟩ (.int .i64 c)
  c3 : Cell1 W ⟨B, 3, none⟩ (.string p)
  c4 : Cell1 W ⟨B, 4, none⟩ (.string m)
theorem VerC.kept {B : Nat} {A C : World} {a b c : Int} {p m : ByteArray} {row : Option Nat} (h : VerC B A a b c p m) (hg : A.grownBy C row) (hr : ∀ r, row = some r → ∃ o : Obj, A.heap[r]? = some o ∧ o.isCells = false) : VerC B C a b c p m :=
  ⟨h.c0.kept hg hr, h.c1.kept hg hr, h.c2.kept hg hr, h.c3.kept hg hr, h.c4.kept hg hr⟩
theorem VerC.below {B : Nat} {A C : World} {a b c : Int} {p m : ByteArray} (h : VerC B A a b c p m) (hb : Below A.heap.size A C) : VerC B C a b c p m := h.kept (grown_of_below hb) (fun r e => by cases e)
theorem VerC.new (w : World) (t : TypeId) : VerC w.heap.size (w.alloc (.cells #[.int .i64 0, .int .i64 0, .int .i64 0, .string ⟨#[]⟩, .string ⟨#[]⟩] t)) 0 0 0 ⟨#[]⟩ ⟨#[]⟩ := by
  refine ⟨⟨?_, ?_⟩, ⟨?_, ?_⟩, ⟨?_, ?_⟩, ⟨?_, ?_⟩, ⟨?_, ?_⟩⟩ <;> first | (unfold World.cell?; dsimp only; rw [World.alloc_heap_new]; rfl) | (unfold World.frozen?; dsimp only; rw [World.alloc_heap_new]; rfl)
theorem VerC.full {B : Nat} {A : World} {a b c : Int} {p m : ByteArray} (h : VerC B A a b c p m) (a' b' c' : Int) (p' m' : ByteArray) :
    VerC B (((((A.setCell ⟨B, 0, none⟩ (.int .i64 a')).setCell ⟨B, 1, none⟩ (.int .i64 b')).setCell ⟨B, 2, none⟩ (.int .i64 c')).setCell ⟨B, 3, none⟩ (.string p')).setCell ⟨B, 4, none⟩ (.string m')) a' b' c' p' m' :=
  ⟨((((h.c0.same _).other _ (addr_ne (by omega))).other _ (addr_ne (by omega))).other _ (addr_ne (by omega))).other _ (addr_ne (by omega)),
   ((((h.c1.other _ (addr_ne (by omega))).same _).other _ (addr_ne (by omega))).other _ (addr_ne (by omega))).other _ (addr_ne (by omega)),
   ((((h.c2.other _ (addr_ne (by omega))).other _ (addr_ne (by omega))).same _).other _ (addr_ne (by omega))).other _ (addr_ne (by omega)),
   ((((h.c3.other _ (addr_ne (by omega))).other _ (addr_ne (by omega))).other _ (addr_ne (by omega))).same _).other _ (addr_ne (by omega)),
   ((((h.c4.other _ (addr_ne (by omega))).other _ (addr_ne (by omega))).other _ (addr_ne (by omega))).other _ (addr_ne (by omega))).same _⟩
theorem Below.five {n B : Nat} {w A : World} (h : Below n w A) (hB : n ≤ B) (v0 v1 v2 v3 v4 : Value) :
    Below n w (((((A.setCell ⟨B, 0, none⟩ v0).setCell ⟨B, 1, none⟩ v1).setCell ⟨B, 2, none⟩ v2).setCell ⟨B, 3, none⟩ v3).setCell ⟨B, 4, none⟩ v4) :=
  ((((h.setCell (p := ⟨B, 0, none⟩) hB _).setCell (p := ⟨B, 1, none⟩) hB _).setCell (p := ⟨B, 2, none⟩) hB _).setCell (p := ⟨B, 3, none⟩) hB _).setCell (p := ⟨B, 4, none⟩) hB _
/-- The cells of three numbers. -/
structure ThreeC (B : Nat) (W : World) (a b c : Int) : Prop where
  c0 : Cell1 W ⟨B, 0, none⟩ (.int .i64 a)
  c1 : Cell1 W ⟨B, 1, none⟩ (.int .i64 b)
  c2 : Cell1 W ⟨B, 2, none⟩ (.int .i64 c)
theorem ThreeC.kept {B : Nat} {A C : World} {a b c : Int} {row : Option Nat} (h : ThreeC B A a b c) (hg : A.grownBy C row) (hr : ∀ r, row = some r → ∃ o : Obj, A.heap[r]? = some o ∧ o.isCells = false) : ThreeC B C a b c :=
  ⟨h.c0.kept hg hr, h.c1.kept hg hr, h.c2.kept hg hr⟩
theorem ThreeC.below {B : Nat} {A C : World} {a b c : Int} (h : ThreeC B A a b c) (hb : Below A.heap.size A C) : ThreeC B C a b c := h.kept (grown_of_below hb) (fun r e => by cases e)

theorem three_any (w : World) (t : TypeId) (a b c : Int) : ThreeC w.heap.size (w.alloc (.cells #[.int .i64 a, .int .i64 b, .int .i64 c] t)) a b c := by
  refine ⟨⟨?_, ?_⟩, ⟨?_, ?_⟩, ⟨?_, ?_⟩⟩ <;> first | (unfold World.cell?; dsimp only; rw [World.alloc_heap_new]; rfl) | (unfold World.frozen?; dsimp only; rw [World.alloc_heap_new]; rfl)
def retP (l : List UInt8) : Value := .tuple #[verV (verL l), .int .i64 (errL l)]
theorem ret_none {l : List UInt8} (h : okV l = false) : Ending.returned (.tuple #[.agg #[.int .i64 0, .int .i64 0, .int .i64 0, .string ⟨#[]⟩, .string ⟨#[]⟩], .int .i64 30]) = .returned (retP l) := by
  simp only [retP, verL, errL, h]; rfl
theorem ret_some {l : List UInt8} {a b c : Int} {p m : ByteArray} (h : okV l = true) (ha : a = numsV (coreOf l) 0) (hb : b = numsV (coreOf l) 1) (hc : c = numsV (coreOf l) 2) (hp : p = mkB (preOf l)) (hm : m = mkB (metaOf l)) : Ending.returned (.tuple #[.agg #[.int .i64 a, .int .i64 b, .int .i64 c, .string p, .string m], .int .i64 0]) = .returned (retP l) := by
  have hn : numsOk (coreOf l) = true := by
    unfold okV at h
    simp only [Bool.and_eq_true] at h
    exact h.1.1.2
  simp only [retP, verL, errL, h, ha, hb, hc, hp, hm, numsV, hn]; rfl

set_option maxRecDepth 100000 in
set_option maxHeartbeats 4000000 in
theorem parse_any (s : ByteArray) (hs : s.size ≤ 20400) (w : World) :
    Calls Tryz.prog 71 #[.string s] w fun e w' => e = .returned (retP s.data.toList) ∧ Below w.heap.size w w' := by
  have hV := VerC.new w 113
  have hb0 : Below w.heap.size w (w.alloc (.cells #[.int .i64 0, .int .i64 0, .int .i64 0, .string ⟨#[]⟩, .string ⟨#[]⟩] 113)) := (Below.refl _ w).alloc (Nat.le_refl _) _
  by_cases h60 : s.size ≤ 60
  · have hl60 : decide (s.data.toList.length ≤ 60) = true := decide_eq_true (by rw [size_data]; exact h60)
    have HL := Lib.hid hl60
    clear hl60
    go_enter Tryz.func71, Tryz.ntmps71
    go_wp2_with fail
    refine (cutD_any 43 s _ hs).mono ?_
    rintro _ w1 ⟨rfl, n1, rfl⟩
    replace hV := hV.kept (grownBy_drewN _ n1) (fun r e => by cases e)
    replace hb0 := below_drewN hb0 n1
    generalize (w.alloc (.cells #[.int .i64 0, .int .i64 0, .int .i64 0, .string ⟨#[]⟩, .string ⟨#[]⟩] 113)).drewN n1 = w1 at *
    obtain ⟨r, hr⟩ : ∃ r, r = (cutD 43 s).1 := ⟨_, rfl⟩
    obtain ⟨m, hm⟩ : ∃ r, r = (cutD 43 s).2.1 := ⟨_, rfl⟩
    obtain ⟨b3, hb3⟩ : ∃ r, r = (cutD 43 s).2.2 := ⟨_, rfl⟩
    rw [← hr, ← hm, ← hb3]
    have hr' : r.data.toList = headL 43 s.data.toList := by rw [hr]; rfl
    have hrs : r.size ≤ 60 := by rw [← size_data, hr']; exact Nat.le_trans (headL_len _) (by rw [size_data]; exact h60)
    have hms : m.size ≤ 60 := by rw [← size_data, hm]; exact Nat.le_trans (restL_len _) (by rw [size_data]; exact h60)
    have HM := Lib.hid (show m = mkB (metaOf s.data.toList) by rw [hm]; rfl)
    have HB3 := Lib.hid (show b3 = hasL 43 s.data.toList by rw [hb3]; rfl)
    have HR := Lib.hid hr'
    clear hr hm hb3 hr'
    go_wp2_with fail
    refine (cutD_any 45 r _ (by omega)).mono ?_
    rintro _ w2 ⟨rfl, n2, rfl⟩
    replace hV := hV.kept (grownBy_drewN _ n2) (fun r e => by cases e)
    replace hb0 := below_drewN hb0 n2
    generalize w1.drewN n2 = w2 at *
    obtain ⟨c, hc⟩ : ∃ x, x = (cutD 45 r).1 := ⟨_, rfl⟩
    obtain ⟨p, hp⟩ : ∃ x, x = (cutD 45 r).2.1 := ⟨_, rfl⟩
    obtain ⟨b1, hb1⟩ : ∃ x, x = (cutD 45 r).2.2 := ⟨_, rfl⟩
    rw [← hc, ← hp, ← hb1]
    have hc' : c.data.toList = coreOf s.data.toList := by rw [hc, coreOf, ← HR.out]; rfl
    have hcs : c.size ≤ 60 := by rw [← size_data, hc]; exact Nat.le_trans (headL_len _) (by rw [size_data]; exact hrs)
    have hps : p.size ≤ 60 := by rw [← size_data, hp]; exact Nat.le_trans (restL_len _) (by rw [size_data]; exact hrs)
    have HP := Lib.hid (show p = mkB (preOf s.data.toList) by rw [hp, preOf, ← HR.out]; rfl)
    have HB1 := Lib.hid (show b1 = hasL 45 (headL 43 s.data.toList) by rw [hb1, ← HR.out]; rfl)
    have HCo := Lib.hid hc'
    clear hc hp hb1 hc'
    go_wp2_with fail
    refine (numbers_any c (by omega) _).mono ?_
    rintro _ w3 ⟨rfl, hb3⟩
    replace hV := hV.below hb3
    replace hb0 := hb0.trans (hb3.mono hb0.size)
    clear hb3
    obtain ⟨x0, hx0⟩ : ∃ x, x = numsV c.data.toList 0 := ⟨_, rfl⟩
    obtain ⟨x1, hx1⟩ : ∃ x, x = numsV c.data.toList 1 := ⟨_, rfl⟩
    obtain ⟨x2, hx2⟩ : ∃ x, x = numsV c.data.toList 2 := ⟨_, rfl⟩
    rw [← hx0, ← hx1, ← hx2]
    have HX := Lib.hid (show x0 = numsV (coreOf s.data.toList) 0 ∧ x1 = numsV (coreOf s.data.toList) 1 ∧ x2 = numsV (coreOf s.data.toList) 2 by rw [← HCo.out]; exact ⟨hx0, hx1, hx2⟩)
    clear hx0 hx1 hx2
    obtain ⟨b0, hb0'⟩ : ∃ x, x = numsOk c.data.toList := ⟨_, rfl⟩
    rw [← hb0']
    have HB0 := Lib.hid (show b0 = numsOk (coreOf s.data.toList) by rw [← HCo.out]; exact hb0')
    clear hb0'
    have hT : ThreeC w3.heap.size (w3.alloc (.cells #[.int .i64 x0, .int .i64 x1, .int .i64 x2] 159)) x0 x1 x2 := three_any w3 159 x0 x1 x2
    have hV4 := hV.kept (World.grownBy_alloc w3 (.cells #[.int .i64 x0, .int .i64 x1, .int .i64 x2] 159) none) (fun r e => by cases e)
    have hb4 : Below w.heap.size w (w3.alloc (.cells #[.int .i64 x0, .int .i64 x1, .int .i64 x2] 159)) := hb0.alloc hb0.size _
    cases b0
    · have q0 := hV4.c0.cell
      have q1 := hV4.c1.cell
      have q2 := hV4.c2.cell
      have q3 := hV4.c3.cell
      have q4 := hV4.c4.cell
      have f0 := hV4.c0.frozen
      have f1 := hV4.c1.frozen
      have f2 := hV4.c2.frozen
      have f3 := hV4.c3.frozen
      have f4 := hV4.c4.frozen
      have H := Lib.hid (show okV s.data.toList = false by unfold okV; rw [← HB0.out]; simp)
      clear hT
      go_wp2
      have z := hV4.full 0 0 0 ⟨#[]⟩ ⟨#[]⟩
      have y0 := z.c0.cell
      have y1 := z.c1.cell
      have y2 := z.c2.cell
      have y3 := z.c3.cell
      have y4 := z.c4.cell
      exact bodyPost_ret (v := .tuple #[.agg #[.int .i64 0, .int .i64 0, .int .i64 0, .string ⟨#[]⟩, .string ⟨#[]⟩], .int .i64 30]) (by simp [results, Tryz.results71, go_sem, y0, y1, y2, y3, y4]) rfl ⟨ret_none H.out, Below.five hb4 (Nat.le_refl _) _ _ _ _ _⟩
    · cases b1
      · have HQ := Lib.hid (show (!hasL 45 (headL 43 s.data.toList) || (sp 46 (preOf s.data.toList)).all preId) = true by rw [← HB1.out]; rfl)
        cases b3
        · have q0 := hV4.c0.cell
          have q1 := hV4.c1.cell
          have q2 := hV4.c2.cell
          have q3 := hV4.c3.cell
          have q4 := hV4.c4.cell
          have f0 := hV4.c0.frozen
          have f1 := hV4.c1.frozen
          have f2 := hV4.c2.frozen
          have f3 := hV4.c3.frozen
          have f4 := hV4.c4.frozen
          have g0 := hT.c0.cell
          have g1 := hT.c1.cell
          have g2 := hT.c2.cell
          have H := Lib.hid (show okV s.data.toList = true by unfold okV; rw [HL.out, ← HB0.out, HQ.out, ← HB3.out]; rfl)
          clear hT
          go_wp2
          have z := hV4.full x0 x1 x2 p m
          have y0 := z.c0.cell
          have y1 := z.c1.cell
          have y2 := z.c2.cell
          have y3 := z.c3.cell
          have y4 := z.c4.cell
          exact bodyPost_ret (v := .tuple #[.agg #[.int .i64 x0, .int .i64 x1, .int .i64 x2, .string p, .string m], .int .i64 0]) (by simp [results, Tryz.results71, go_sem, y0, y1, y2, y3, y4]) rfl ⟨ret_some H.out HX.out.1 HX.out.2.1 HX.out.2.2 HP.out HM.out, Below.five hb4 (Nat.le_refl _) _ _ _ _ _⟩
        · go_wp2_with fail
          refine (everyD_any _ _ idtest m (by omega) _).mono ?_
          rintro _ w4 ⟨rfl, hb5⟩
          replace hV4 := hV4.below hb5
          replace hT := hT.below hb5
          replace hb4 := hb4.trans (hb5.mono hb4.size)
          clear hb5
          have HE := Lib.hid (show everyD m idn = (sp 46 (metaOf s.data.toList)).all idn by rw [HM.out]; rfl)
          cases h4 : everyD m idn
          · rw [h4] at HE
            have q0 := hV4.c0.cell
            have q1 := hV4.c1.cell
            have q2 := hV4.c2.cell
            have q3 := hV4.c3.cell
            have q4 := hV4.c4.cell
            have f0 := hV4.c0.frozen
            have f1 := hV4.c1.frozen
            have f2 := hV4.c2.frozen
            have f3 := hV4.c3.frozen
            have f4 := hV4.c4.frozen
            have H := Lib.hid (show okV s.data.toList = false by unfold okV; rw [← HB3.out, ← HE.out]; simp)
            clear hT
            go_wp2
            have z := hV4.full 0 0 0 ⟨#[]⟩ ⟨#[]⟩
            have y0 := z.c0.cell
            have y1 := z.c1.cell
            have y2 := z.c2.cell
            have y3 := z.c3.cell
            have y4 := z.c4.cell
            exact bodyPost_ret (v := .tuple #[.agg #[.int .i64 0, .int .i64 0, .int .i64 0, .string ⟨#[]⟩, .string ⟨#[]⟩], .int .i64 30]) (by simp [results, Tryz.results71, go_sem, y0, y1, y2, y3, y4]) rfl ⟨ret_none H.out, Below.five hb4 (Nat.le_refl _) _ _ _ _ _⟩
          · rw [h4] at HE
            have q0 := hV4.c0.cell
            have q1 := hV4.c1.cell
            have q2 := hV4.c2.cell
            have q3 := hV4.c3.cell
            have q4 := hV4.c4.cell
            have f0 := hV4.c0.frozen
            have f1 := hV4.c1.frozen
            have f2 := hV4.c2.frozen
            have f3 := hV4.c3.frozen
            have f4 := hV4.c4.frozen
            have g0 := hT.c0.cell
            have g1 := hT.c1.cell
            have g2 := hT.c2.cell
            have H := Lib.hid (show okV s.data.toList = true by unfold okV; rw [HL.out, ← HB0.out, HQ.out, ← HB3.out, ← HE.out]; rfl)
            clear hT
            go_wp2
            have z := hV4.full x0 x1 x2 p m
            have y0 := z.c0.cell
            have y1 := z.c1.cell
            have y2 := z.c2.cell
            have y3 := z.c3.cell
            have y4 := z.c4.cell
            exact bodyPost_ret (v := .tuple #[.agg #[.int .i64 x0, .int .i64 x1, .int .i64 x2, .string p, .string m], .int .i64 0]) (by simp [results, Tryz.results71, go_sem, y0, y1, y2, y3, y4]) rfl ⟨ret_some H.out HX.out.1 HX.out.2.1 HX.out.2.2 HP.out HM.out, Below.five hb4 (Nat.le_refl _) _ _ _ _ _⟩
      · go_wp2_with fail
        refine (everyD_any _ _ pretest p (by omega) _).mono ?_
        rintro _ w4 ⟨rfl, hb5⟩
        replace hV4 := hV4.below hb5
        replace hT := hT.below hb5
        replace hb4 := hb4.trans (hb5.mono hb4.size)
        clear hb5
        have HE := Lib.hid (show everyD p preId = (sp 46 (preOf s.data.toList)).all preId by rw [HP.out]; rfl)
        cases h2 : everyD p preId
        · rw [h2] at HE
          have q0 := hV4.c0.cell
          have q1 := hV4.c1.cell
          have q2 := hV4.c2.cell
          have q3 := hV4.c3.cell
          have q4 := hV4.c4.cell
          have f0 := hV4.c0.frozen
          have f1 := hV4.c1.frozen
          have f2 := hV4.c2.frozen
          have f3 := hV4.c3.frozen
          have f4 := hV4.c4.frozen
          have H := Lib.hid (show okV s.data.toList = false by unfold okV; rw [← HB1.out, ← HE.out]; simp)
          clear hT
          go_wp2
          have z := hV4.full 0 0 0 ⟨#[]⟩ ⟨#[]⟩
          have y0 := z.c0.cell
          have y1 := z.c1.cell
          have y2 := z.c2.cell
          have y3 := z.c3.cell
          have y4 := z.c4.cell
          exact bodyPost_ret (v := .tuple #[.agg #[.int .i64 0, .int .i64 0, .int .i64 0, .string ⟨#[]⟩, .string ⟨#[]⟩], .int .i64 30]) (by simp [results, Tryz.results71, go_sem, y0, y1, y2, y3, y4]) rfl ⟨ret_none H.out, Below.five hb4 (Nat.le_refl _) _ _ _ _ _⟩
        · rw [h2] at HE
          have HQ := Lib.hid (show (!hasL 45 (headL 43 s.data.toList) || (sp 46 (preOf s.data.toList)).all preId) = true by rw [← HB1.out, ← HE.out]; rfl)
          clear HE h2
          cases b3
          · have q0 := hV4.c0.cell
            have q1 := hV4.c1.cell
            have q2 := hV4.c2.cell
            have q3 := hV4.c3.cell
            have q4 := hV4.c4.cell
            have f0 := hV4.c0.frozen
            have f1 := hV4.c1.frozen
            have f2 := hV4.c2.frozen
            have f3 := hV4.c3.frozen
            have f4 := hV4.c4.frozen
            have g0 := hT.c0.cell
            have g1 := hT.c1.cell
            have g2 := hT.c2.cell
            have H := Lib.hid (show okV s.data.toList = true by unfold okV; rw [HL.out, ← HB0.out, HQ.out, ← HB3.out]; rfl)
            clear hT
            go_wp2
            have z := hV4.full x0 x1 x2 p m
            have y0 := z.c0.cell
            have y1 := z.c1.cell
            have y2 := z.c2.cell
            have y3 := z.c3.cell
            have y4 := z.c4.cell
            exact bodyPost_ret (v := .tuple #[.agg #[.int .i64 x0, .int .i64 x1, .int .i64 x2, .string p, .string m], .int .i64 0]) (by simp [results, Tryz.results71, go_sem, y0, y1, y2, y3, y4]) rfl ⟨ret_some H.out HX.out.1 HX.out.2.1 HX.out.2.2 HP.out HM.out, Below.five hb4 (Nat.le_refl _) _ _ _ _ _⟩
          · go_wp2_with fail
            refine (everyD_any _ _ idtest m (by omega) _).mono ?_
            rintro _ w4 ⟨rfl, hb5⟩
            replace hV4 := hV4.below hb5
            replace hT := hT.below hb5
            replace hb4 := hb4.trans (hb5.mono hb4.size)
            clear hb5
            have HE := Lib.hid (show everyD m idn = (sp 46 (metaOf s.data.toList)).all idn by rw [HM.out]; rfl)
            cases h4 : everyD m idn
            · rw [h4] at HE
              have q0 := hV4.c0.cell
              have q1 := hV4.c1.cell
              have q2 := hV4.c2.cell
              have q3 := hV4.c3.cell
              have q4 := hV4.c4.cell
              have f0 := hV4.c0.frozen
              have f1 := hV4.c1.frozen
              have f2 := hV4.c2.frozen
              have f3 := hV4.c3.frozen
              have f4 := hV4.c4.frozen
              have H := Lib.hid (show okV s.data.toList = false by unfold okV; rw [← HB3.out, ← HE.out]; simp)
              clear hT
              go_wp2
              have z := hV4.full 0 0 0 ⟨#[]⟩ ⟨#[]⟩
              have y0 := z.c0.cell
              have y1 := z.c1.cell
              have y2 := z.c2.cell
              have y3 := z.c3.cell
              have y4 := z.c4.cell
              exact bodyPost_ret (v := .tuple #[.agg #[.int .i64 0, .int .i64 0, .int .i64 0, .string ⟨#[]⟩, .string ⟨#[]⟩], .int .i64 30]) (by simp [results, Tryz.results71, go_sem, y0, y1, y2, y3, y4]) rfl ⟨ret_none H.out, Below.five hb4 (Nat.le_refl _) _ _ _ _ _⟩
            · rw [h4] at HE
              have q0 := hV4.c0.cell
              have q1 := hV4.c1.cell
              have q2 := hV4.c2.cell
              have q3 := hV4.c3.cell
              have q4 := hV4.c4.cell
              have f0 := hV4.c0.frozen
              have f1 := hV4.c1.frozen
              have f2 := hV4.c2.frozen
              have f3 := hV4.c3.frozen
              have f4 := hV4.c4.frozen
              have g0 := hT.c0.cell
              have g1 := hT.c1.cell
              have g2 := hT.c2.cell
              have H := Lib.hid (show okV s.data.toList = true by unfold okV; rw [HL.out, ← HB0.out, HQ.out, ← HB3.out, ← HE.out]; rfl)
              clear hT
              go_wp2
              have z := hV4.full x0 x1 x2 p m
              have y0 := z.c0.cell
              have y1 := z.c1.cell
              have y2 := z.c2.cell
              have y3 := z.c3.cell
              have y4 := z.c4.cell
              exact bodyPost_ret (v := .tuple #[.agg #[.int .i64 x0, .int .i64 x1, .int .i64 x2, .string p, .string m], .int .i64 0]) (by simp [results, Tryz.results71, go_sem, y0, y1, y2, y3, y4]) rfl ⟨ret_some H.out HX.out.1 HX.out.2.1 HX.out.2.2 HP.out HM.out, Below.five hb4 (Nat.le_refl _) _ _ _ _ _⟩
  · have H := Lib.hid (show okV s.data.toList = false by unfold okV; rw [decide_eq_false (by rw [size_data]; exact h60)]; rfl)
    go_enter Tryz.func71, Tryz.ntmps71
    go_wp2
    exact bodyPost_ret (v := .tuple #[.agg #[.int .i64 0, .int .i64 0, .int .i64 0, .string ⟨#[]⟩, .string ⟨#[]⟩], .int .i64 30]) (by simp [results, Tryz.results71, go_sem]) rfl ⟨ret_none H.out, hb0⟩
end Go.Proofs.YtmdlmjcejeejfaaGreatDoor
