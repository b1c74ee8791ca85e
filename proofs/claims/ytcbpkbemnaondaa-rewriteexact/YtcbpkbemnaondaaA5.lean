/-
  A replace of just a module's version counts ahead of one of each version: the law's own walk.
-/
import Derived.Test.YtcbpkbemnaondaaA4
namespace Go.Proofs.Ytcbpkbemnaondaa
open Go.RowKit Go.Shelf

theorem find_app {α : Type} (q : α → Bool) {xs ys : List α} (h : xs.find? q = none) : (xs ++ ys).find? q = ys.find? q := by
  rw [List.find?_append, h]; rfl
theorem below_drew {B : Nat} {w w' : World} (h : Below B w w') : Below B w w'.drew := ⟨h.os, h.tape, h.output, h.size, h.block⟩
/-- None of the replaces is of that path. -/
def NoPath (p : ByteArray) (xs : List RepB) : Prop := ∀ x ∈ xs, (x.1.1.toList == p.toList) = false
theorem NoPath.none {p : ByteArray} {xs : List RepB} (h : NoPath p xs) (q : ByteArray) : xs.find? (fun x => sameM x.1 (p, q)) = none := by
  rw [List.find?_eq_none]
  intro x hx
  simp [sameM, h x hx]
theorem list_ne_append {v : List UInt8} (c : UInt8) : (v == v ++ [c]) = false := by
  rw [beq_eq_false_iff_ne]
  intro e
  have := congrArg List.length e
  simp at this
theorem app_toList (v : ByteArray) (c : UInt8) : (v ++ ⟨#[c]⟩ : ByteArray).toList = v.toList ++ [c] := by
  rw [ByteArray.toList_eq, ByteArray.toList_eq]
  simp
/-- The list with both, in whichever order. -/
def withB (xs : List RepB) (m : ModB) (a b : ModB) (turn : Bool) : List RepB := xs ++ (if turn then [(m, a), ((m.1, ⟨#[]⟩), b)] else [((m.1, ⟨#[]⟩), b), (m, a)])
theorem exact_facts {xs : List RepB} {p v : ByteArray} {a b : ModB} (turn : Bool) (h : NoPath p xs) (hv : (v.toList == []) = false) :
    replL xs (p, v) = ((p, v), false) ∧ replL (withB xs (p, v) a b turn) (p, v) = (a, true) ∧ replL (withB xs (p, v) a b turn) (p, v ++ ⟨#[120]⟩) = (b, true) := by
  have n1 : sameM (p, ⟨#[]⟩) (p, v) = false := by
    have : (([] : List UInt8) == v.toList) = false := by
      rw [beq_eq_false_iff_ne] at hv ⊢; exact fun e => hv e.symm
    have e : (ByteArray.mk #[]).toList = [] := by rw [ByteArray.toList_eq]
    simp only [sameM, e, this]; simp
  have n2 : sameM (p, v) (p, v ++ ⟨#[120]⟩) = false := by
    simp only [sameM, app_toList, list_ne_append]; simp
  have n3 : sameM (p, ⟨#[]⟩) (p, v ++ ⟨#[120]⟩) = false := by
    have e : (ByteArray.mk #[]).toList = [] := by rw [ByteArray.toList_eq]
    have : (([] : List UInt8) == v.toList ++ [120]) = false := by cases v.toList <;> rfl
    simp only [sameM, app_toList, e, this]; simp
  have n4 : sameM (p, v) (p, ⟨#[]⟩) = false := by
    have e : (ByteArray.mk #[]).toList = [] := by rw [ByteArray.toList_eq]
    simp only [sameM, e, hv]; simp
  have s1 := sameM_self (p, v)
  have s2 := sameM_self (p, (⟨#[]⟩ : ByteArray))
  refine ⟨replL_none (h.none _) (h.none _), ?_, ?_⟩
  · cases turn
    · exact replL_some (x := ((p, v), a)) (by rw [withB, find_app _ (h.none _)]; simp [n1, s1])
    · exact replL_some (x := ((p, v), a)) (by rw [withB, find_app _ (h.none _)]; simp [s1])
  · cases turn
    · exact replL_path (x := ((p, ⟨#[]⟩), b)) (by rw [withB, find_app _ (h.none _)]; simp [n2, n3]) (by rw [withB, find_app _ (h.none _)]; simp [s2])
    · exact replL_path (x := ((p, ⟨#[]⟩), b)) (by rw [withB, find_app _ (h.none _)]; simp [n2, n3]) (by rw [withB, find_app _ (h.none _)]; simp [s2, n4])

def NoTo (p : ByteArray) (xs : List RepB) (k : Nat) : Prop := ∀ i (h : i < xs.length), i < k → (xs[i].1.1.toList == p.toList) = false
theorem NoTo.snoc {p : ByteArray} {xs : List RepB} {k : Nat} (h : NoTo p xs k) (hk : k < xs.length) (e : (xs[k].1.1.toList == p.toList) = false) : NoTo p xs (k + 1) := fun i hi hik => by
  by_cases c : i = k
  · subst c; exact e
  · exact h i hi (by omega)
theorem NoTo.all {p : ByteArray} {xs : List RepB} (h : NoTo p xs xs.length) : NoPath p xs := fun x hx => by
  obtain ⟨i, hi, rfl⟩ := List.getElem_of_mem hx
  exact h i hi hi
theorem repTy : RTy Try.prog repR 23 33 (.agg #[.string ⟨#[]⟩, .string ⟨#[]⟩, .string ⟨#[]⟩, .string ⟨#[]⟩]) 64 := ⟨Try.underlying23, by kernel_rfl, rfl, by decide⟩
theorem ROwn.setCell {α : Type} {R : Rec α} {et : TypeId} {w : World} {base : Nat} {v : Value} {xs : List α} (h : ROwn R et w base v xs) {B i : Nat} (hB : B < base) (u : Value) : ROwn R et (w.setCell ⟨B, i, none⟩ u) base v xs := by
  obtain ⟨hl, ⟨rfl, h0⟩ | ⟨g, cap, cur, rfl, hg, hh, hr⟩⟩ := h
  · exact ⟨hl, .inl ⟨rfl, h0⟩⟩
  · exact ⟨hl, .inr ⟨g, cap, cur, rfl, hg, (Below.heap_setCell w ⟨B, i, none⟩ u g (show g ≠ B by omega)).trans hh, hr⟩⟩

theorem RRow.many {α : Type} {R : Rec α} {w : World} (t : TypeId) (xs : List α) (cs : Array Value) (h : cs = (R.flat xs).toArray) (n : Nat) (hn : n = xs.length) : RRow R (w.alloc (.cells cs t)) (.slice (some ⟨w.heap.size, 0, none⟩) n n) xs := by
  subst h hn
  refine ⟨_, _, rfl, Nat.le_refl _, fun _ => ⟨w.heap.size, 0, rfl, by simp, RAt.mk fun j u hu => ?_⟩⟩
  rw [cell_newR, Nat.zero_add]
  simpa using hu

set_option maxRecDepth 100000 in
set_option maxHeartbeats 8000000 in
theorem exact_walk (f : FileG) (a b c d : Value) (p v a1 a2 b1 b2 : ByteArray) (turn : Bool) (w : World) (hF : FileAt w a b c d f) (y1 : a1.size ≤ 140737488355328) (y2 : a2.size ≤ 140737488355328) (y3 : b1.size ≤ 140737488355328) (y4 : b2.size ≤ 140737488355328) (y5 : v.size ≤ 140737488355328) :
    Calls Try.prog 3 #[.agg #[.string f.mo, .string f.go, a, b, c, d], .agg #[.string p, .string v], .agg #[.string a1, .string a2], .agg #[.string b1, .string b2], .bool turn] w fun e w' => e = .returned (.bool true) ∧ Below w.heap.size w w' := by
  obtain ⟨A1, C1, rfl⟩ := hF.reps.form
  have hb0 := (Below.refl w.heap.size w).alloc (Nat.le_refl _) (.cells #[.string f.mo, .string f.go, a, .slice A1 f.reps.length C1, c, d] 27)
  have hs0 : (w.alloc (.cells #[.string f.mo, .string f.go, a, .slice A1 f.reps.length C1, c, d] 27)).heap.size = w.heap.size + 1 := by simp
  have g0 := GBlk.new w 27 #[.string f.mo, .string f.go, a, .slice A1 f.reps.length C1, c, d]
  generalize hw0 : w.alloc (.cells #[.string f.mo, .string f.go, a, .slice A1 f.reps.length C1, c, d] 27) = W0 at *
  have hb1 := hb0.alloc (by omega) (.cells #[.string p, .string v] 29)
  have hs1 : (W0.alloc (.cells #[.string p, .string v] 29)).heap.size = w.heap.size + 2 := by simp; omega
  have g1 := GBlk.new W0 29 #[.string p, .string v]
  rw [hs0] at g1
  replace g0 := g0.alloc (.cells #[.string p, .string v] 29)
  generalize hw1 : W0.alloc (.cells #[.string p, .string v] 29) = W1 at *
  have hb2 := hb1.alloc (by omega) (.cells #[.string a1, .string a2] 29)
  have hs2 : (W1.alloc (.cells #[.string a1, .string a2] 29)).heap.size = w.heap.size + 3 := by simp; omega
  have g2 := GBlk.new W1 29 #[.string a1, .string a2]
  rw [hs1] at g2
  replace g0 := g0.alloc (.cells #[.string a1, .string a2] 29)
  replace g1 := g1.alloc (.cells #[.string a1, .string a2] 29)
  generalize hw2 : W1.alloc (.cells #[.string a1, .string a2] 29) = W2 at *
  have hb3 := hb2.alloc (by omega) (.cells #[.string b1, .string b2] 29)
  have hs3 : (W2.alloc (.cells #[.string b1, .string b2] 29)).heap.size = w.heap.size + 4 := by simp; omega
  have g3 := GBlk.new W2 29 #[.string b1, .string b2]
  rw [hs2] at g3
  replace g0 := g0.alloc (.cells #[.string b1, .string b2] 29)
  replace g1 := g1.alloc (.cells #[.string b1, .string b2] 29)
  replace g2 := g2.alloc (.cells #[.string b1, .string b2] 29)
  generalize hw3 : W2.alloc (.cells #[.string b1, .string b2] 29) = W3 at *
  have HF := Lib.hid (hF.below hb3)
  have HB3 := Lib.hid hb3
  have HG0 := Lib.hid g0
  have HG1 := Lib.hid g1
  have HG2 := Lib.hid g2
  have HG3 := Lib.hid g3
  have z0 := g0.cell 0
  have z1 := g0.cell 1
  have z2 := g0.cell 2
  have z3 := g0.cell 3
  have z4 := g0.cell 4
  have z5 := g0.cell 5
  have m0 := g1.cell 0
  have m1 := g1.cell 1
  simp only [List.getElem?_toArray, List.getElem?_cons_succ, List.getElem?_cons_zero] at z0 z1 z2 z3 z4 z5 m0 m1
  clear hb0 hb1 hb2 hb3 g0 g1 g2 g3 hF
  go_enter Try.func3, Try.ntmps3
  go_wp2_with fail
  clear hs0 hs1 hs2 hs3 hw0 hw1 hw2 hw3
  refine (heavyR_any f a _ c d [] (.slice none 0 0) p v W3 HF.out (RRow.nil W3) (fun x h => by cases h)).mono ?_
  rintro _ w4 ⟨hv, rfl, hlight, hb4⟩
  have HB4 := Lib.hid (HB3.out.trans (hb4.mono HB3.out.size))
  have HL4 := Lib.hid hlight
  clear z0 z1 z2 z3 z4 z5 m0 m1 hlight
  have m1 := (HG1.out.below hb4).cell 1
  have r0 := (HG2.out.below hb4).cell 0
  have r1 := (HG2.out.below hb4).cell 1
  have s0 := (HG3.out.below hb4).cell 0
  have s1 := (HG3.out.below hb4).cell 1
  simp only [List.getElem?_toArray, List.getElem?_cons_succ, List.getElem?_cons_zero] at m1 r0 r1 s0 s1
  have HT := Lib.hid hb4
  clear hb4
  cases hv
  · have HR30 := Lib.hid (HL4.out rfl).reps
    clear HL4
    have hve0 : ((v.toList == []) = true) ∨ ((v.toList == []) = false) := by cases (v.toList == []) <;> simp
    by_cases ha : (400 : Int) < (a1.size : Int) + (a2.size : Int)
    · go_wp2_with (first | (go_at_call 5; refine (shownR_any _).mono ?_; rintro _ w5 ⟨rfl, hb5⟩; replace HB4 := Lib.hid (HB4.out.trans (hb5.mono HB4.out.size)); replace HT := Lib.hid (HT.out.trans (hb5.mono HT.out.size)); clear hb5; have m1' := (HG1.out.below HT.out).cell 1; simp only [List.getElem?_toArray, List.getElem?_cons_succ, List.getElem?_cons_zero] at m1'))
      go_ret
      exact ⟨rfl, HB4.out⟩
    · by_cases hb : (400 : Int) < (b1.size : Int) + (b2.size : Int)
      · go_wp2_with (first | (go_at_call 5; refine (shownR_any _).mono ?_; rintro _ w5 ⟨rfl, hb5⟩; replace HB4 := Lib.hid (HB4.out.trans (hb5.mono HB4.out.size)); replace HT := Lib.hid (HT.out.trans (hb5.mono HT.out.size)); clear hb5; have m1' := (HG1.out.below HT.out).cell 1; simp only [List.getElem?_toArray, List.getElem?_cons_succ, List.getElem?_cons_zero] at m1'))
        go_ret
        exact ⟨rfl, HB4.out⟩
      · rcases hve0 with hve | hve
        · go_wp2_with (first | (go_at_call 5; refine (shownR_any _).mono ?_; rintro _ w5 ⟨rfl, hb5⟩; replace HB4 := Lib.hid (HB4.out.trans (hb5.mono HB4.out.size)); replace HT := Lib.hid (HT.out.trans (hb5.mono HT.out.size)); clear hb5; have m1' := (HG1.out.below HT.out).cell 1; simp only [List.getElem?_toArray, List.getElem?_cons_succ, List.getElem?_cons_zero] at m1'))
          go_ret
          exact ⟨rfl, HB4.out⟩
        · go_upto_block 0 with (first | (go_at_call 5; refine (shownR_any _).mono ?_; rintro _ w5 ⟨rfl, hb5⟩; replace HB4 := Lib.hid (HB4.out.trans (hb5.mono HB4.out.size)); replace HT := Lib.hid (HT.out.trans (hb5.mono HT.out.size)); clear hb5; have m1' := (HG1.out.below HT.out).cell 1; simp only [List.getElem?_toArray, List.getElem?_cons_succ, List.getElem?_cons_zero] at m1'))
          rename_i hjunk
          clear r0 r1 s0 s1 m1 m1'
          go_wp2_with fail
          go_loopw [11] (fun i wr => ∃ k : Nat, k ≤ f.reps.length ∧ i = .int .i64 k ∧ NoTo p f.reps k ∧ Below W3.heap.size W3 wr) (fun i _ => f.reps.length - (intOf i).toNat)
          case atStart => exact ⟨0, Nat.zero_le _, rfl, (fun i hi h => absurd h (Nat.not_lt_zero _)), HT.out⟩
          case round =>
            obtain ⟨k, hk, rfl, hno, hbw⟩ := hrel
            have z0 := (HG0.out.below hbw).cell 0
            have z1 := (HG0.out.below hbw).cell 1
            have z2 := (HG0.out.below hbw).cell 2
            have z3 := (HG0.out.below hbw).cell 3
            have z4 := (HG0.out.below hbw).cell 4
            have z5 := (HG0.out.below hbw).cell 5
            have m0 := (HG1.out.below hbw).cell 0
            have m1 := (HG1.out.below hbw).cell 1
            have r0 := (HG2.out.below hbw).cell 0
            have r1 := (HG2.out.below hbw).cell 1
            have s0 := (HG3.out.below hbw).cell 0
            have s1 := (HG3.out.below hbw).cell 1
            simp only [List.getElem?_toArray, List.getElem?_cons_succ, List.getElem?_cons_zero] at z0 z1 z2 z3 z4 z5 m0 m1 r0 r1 s0 s1
            have HBW := Lib.hid hbw
            have hr30 := HR30.out
            have HNO := Lib.hid hno
            clear hno HB4 HT
            by_cases hlt : k < f.reps.length
            · obtain ⟨a', c', e, -, hc⟩ := (HF.out.below hbw).reps
              simp only [Value.slice.injEq] at e
              obtain ⟨rfl, -, rfl⟩ := e
              obtain ⟨g, o, rfl, hg, hat⟩ := hc (by intro e; rw [e] at hlt; simp at hlt)
              obtain ⟨q1, q2, q3, q4⟩ := rep_at hat k hlt
              have HS := Lib.hid (HNO.out.snoc hlt)
              clear hat hc hbw HNO
              generalize f.reps[k] = x at *
              obtain ⟨⟨x1, x2⟩, x3, x4⟩ := x
              dsimp only at q1 q2 q3 q4 HS
              cases hxp : (x1.toList == p.toList)
              · have HS2 := Lib.hid (HS.out hxp)
                clear HS
                go_wp2
                go_region
                go_wp2
                go_roundw
                case rel => exact ⟨k + 1, by omega, by go_num, HS2.out, below_drew HBW.out⟩
                case measure => simp [intOf]; omega
              · clear HS
                go_wp2
                go_region
                go_wp2_with (first | (go_at_call 5; refine (shownR_any _).mono ?_; rintro _ w6 ⟨rfl, hb6⟩))
                go_ret
                exact ⟨rfl, HB3.out.trans (((below_drew HBW.out).trans (hb6.mono HBW.out.size)).mono HB3.out.size)⟩
            · have hkl : k = f.reps.length := by omega
              have HNP := Lib.hid (show NoPath p f.reps from NoTo.all (by rw [← hkl]; exact HNO.out))
              clear HNO hbw
              have hba := (Below.refl wr.heap.size wr).alloc (Nat.le_refl _) (.cells #[] 33)
              have HBA := Lib.hid (HBW.out.trans (hba.mono HBW.out.size))
              have HRow := Lib.hid ((HF.out.below HBW.out).reps.below hba)
              have HAcc := Lib.hid (RAcc.start (R := repR) (et := 33) wr)
              clear z0 z1 z2 z4 z5 m0 m1 r0 r1 s0 s1
              have z3' := (HG0.out.below HBA.out).cell 3
              simp only [List.getElem?_toArray, List.getElem?_cons_succ, List.getElem?_cons_zero] at z3'
              cases turn
              · go_wp2_with (first
                  | (at_builtin; refine wpList_racc repTy rfl _ _ rfl (HGR.out.acc.alloc _) rfl (RRow.many (R := repR) 33 [((p, ⟨#[]⟩), (b1, b2)), ((p, v), (a1, a2))] #[.string p, .string ⟨#[]⟩, .string b1, .string b2, .string p, .string v, .string a1, .string a2] rfl 2 rfl) rfl (by rw [HL6.out]; simp; have := HR30.out; omega) ?_; intro A7 c7 L7 w7 hgr7; have hB7 := HBW.out.trans (hgr7.acc.below.mono HBW.out.size); have HB7 := Lib.hid hB7; have HA7 := Lib.hid hgr7.acc; have HL7 := Lib.hid (show L7 = withB f.reps (p, v) (a1, a2) (b1, b2) false by rw [hgr7.list, HL6.out]; rfl); clear hgr7 hB7; have z0 := (HG0.out.below HB7.out).cell 0; have z1 := (HG0.out.below HB7.out).cell 1; have z2 := (HG0.out.below HB7.out).cell 2; have z3 := (HG0.out.below HB7.out).cell 3; have z4 := (HG0.out.below HB7.out).cell 4; have z5 := (HG0.out.below HB7.out).cell 5; have m0 := (HG1.out.below HB7.out).cell 0; have m1 := (HG1.out.below HB7.out).cell 1; have r0 := (HG2.out.below HB7.out).cell 0; have r1 := (HG2.out.below HB7.out).cell 1; have s0 := (HG3.out.below HB7.out).cell 0; have s1 := (HG3.out.below HB7.out).cell 1; simp only [List.getElem?_toArray, List.getElem?_cons_succ, List.getElem?_cons_zero] at z0 z1 z2 z3 z4 z5 m0 m1 r0 r1 s0 s1)
                  | (at_builtin; refine wpList_racc repTy rfl _ _ rfl HAcc.out rfl HRow.out rfl (by simp; have := HR30.out; omega) ?_; intro A6 c6 L6 w6 hgr; have hB6 := HBW.out.trans (hgr.acc.below.mono HBW.out.size); have HB6 := Lib.hid hB6; have HGR := Lib.hid hgr; have HL6 := Lib.hid (show L6 = f.reps from hgr.list); clear hgr hB6; have m0 := (HG1.out.below HB6.out).cell 0; have m1 := (HG1.out.below HB6.out).cell 1; have r0 := (HG2.out.below HB6.out).cell 0; have r1 := (HG2.out.below HB6.out).cell 1; have s0 := (HG3.out.below HB6.out).cell 0; have s1 := (HG3.out.below HB6.out).cell 1; simp only [List.getElem?_toArray, List.getElem?_cons_succ, List.getElem?_cons_zero] at m0 m1 r0 r1 s0 s1))
                clear HGR HL6 HAcc HRow HBA hba HB6
                have hwr : w.heap.size + 3 < wr.heap.size := Nat.lt_of_lt_of_le HG3.out.lt HBW.out.size
                have EX := Lib.hid (exact_facts (xs := f.reps) (p := p) (v := v) (a := (a1, a2)) (b := (b1, b2)) false HNP.out hve)
                rw [← HL7.out] at EX
                have hlen7 : L7.length ≤ 1000 := by rw [HL7.out]; unfold withB; simp; have := HR30.out; omega
                refine (replaced_any f.mo f.go a _ c d f.reps p v w7 ((HF.out.below HB7.out).reps) (by have := HR30.out; omega)).mono ?_
                rintro _ w8 ⟨r8, b8, hr8, rfl, hb8⟩
                rw [EX.out.1] at hr8
                simp only [Prod.mk.injEq] at hr8
                obtain ⟨rfl, rfl⟩ := hr8
                clear z0 z1 z2 z3 z4 z5 m0 m1 r0 r1 s0 s1
                have hb9 := hb8.alloc hb8.size (.cells #[.string p, .string v] 29)
                have hB9 := HB7.out.trans (hb9.mono HB7.out.size)
                have g0 := HG0.out.below hB9
                have k1 := (HG1.out.below hB9).setOther (B' := w.heap.size) (i := 3) (u := .slice A7 L7.length c7) (by omega)
                have k2 := (HG2.out.below hB9).setOther (B' := w.heap.size) (i := 3) (u := .slice A7 L7.length c7) (by omega)
                have k3 := (HG3.out.below hB9).setOther (B' := w.heap.size) (i := 3) (u := .slice A7 L7.length c7) (by omega)
                have hw8 : w.heap.size < w8.heap.size := by have := hb8.size; have := HA7.out.below.size; omega
                have k4 := (GBlk.new w8 29 #[.string p, .string v]).setOther (B' := w.heap.size) (i := 3) (u := .slice A7 L7.length c7) (by omega)
                have fz3 := g0.frozen 3
                have z3o := g0.cell 3
                simp only [List.getElem?_toArray, List.getElem?_cons_succ, List.getElem?_cons_zero] at z3o
                have k0 : GBlk ((w8.alloc (.cells #[.string p, .string v] 29)).setCell ⟨w.heap.size, 3, none⟩ (.slice A7 L7.length c7)) w.heap.size 27 #[.string f.mo, .string f.go, a, .slice A7 L7.length c7, c, d] := g0.set 3 (.slice A7 L7.length c7)
                have ho := ((HA7.out.own.below hb9).setCell (B := w.heap.size) (i := 3) (by omega) (.slice A7 L7.length c7)).row
                have hB10 := below_set (HB3.out.trans (hB9.mono HB3.out.size)) (Nat.le_refl _) (i := 3) (u := .slice A7 L7.length c7)
                generalize hw10 : (w8.alloc (.cells #[.string p, .string v] 29)).setCell ⟨w.heap.size, 3, none⟩ (.slice A7 L7.length c7) = w10 at *
                have K0 := Lib.hid k0
                have K1 := Lib.hid k1
                have K2 := Lib.hid k2
                have K3 := Lib.hid k3
                have K4 := Lib.hid k4
                have HO := Lib.hid ho
                have HB10 := Lib.hid hB10
                have z0 := k0.cell 0
                have z1 := k0.cell 1
                have z2 := k0.cell 2
                have z3 := k0.cell 3
                have z4 := k0.cell 4
                have z5 := k0.cell 5
                have m0 := k1.cell 0
                have m1 := k1.cell 1
                simp only [List.getElem?_toArray, List.getElem?_cons_succ, List.getElem?_cons_zero] at z0 z1 z2 z3 z4 z5 m0 m1
                clear k0 k1 k2 k3 k4 ho hB10 hb8 hb9 hB9 g0
                go_wp2_with fail
                refine (replaced_any f.mo f.go a _ c d L7 p v w10 HO.out hlen7).mono ?_
                rintro _ w11 ⟨r11, b11, hr11, rfl, hb11⟩
                rw [EX.out.2.1] at hr11
                simp only [Prod.mk.injEq] at hr11
                obtain ⟨rfl, rfl⟩ := hr11
                clear z0 z1 z2 z3 z4 z5 m0 m1 hw10 fz3 z3o
                have hb12 := hb11.alloc hb11.size (.cells #[.string a1, .string a2] 29)
                have k5 := GBlk.new w11 29 #[.string a1, .string a2]
                have k0 := K0.out.below hb12
                have k1 := K1.out.below hb12
                have z0 := k0.cell 0
                have z1 := k0.cell 1
                have z2 := k0.cell 2
                have z3 := k0.cell 3
                have z4 := k0.cell 4
                have z5 := k0.cell 5
                have m0 := k1.cell 0
                have m1 := k1.cell 1
                simp only [List.getElem?_toArray, List.getElem?_cons_succ, List.getElem?_cons_zero] at z0 z1 z2 z3 z4 z5 m0 m1
                have K5 := Lib.hid k5
                have H12 := Lib.hid hb12
                clear k0 k1 k5 hb11 hb12
                go_wp2_with fail
                clear z0 z1 z2 z3 z4 z5 m0 m1
                generalize w11.alloc (.cells #[.string a1, .string a2] 29) = w12 at *
                have hX := replaced_any f.mo f.go a (.slice A7 L7.length c7) c d L7 p (v ++ ⟨#[120]⟩) w12 (HO.out.below H12.out) hlen7
                have E3 := EX.out.2.2
                generalize v ++ ⟨#[120]⟩ = vx at *
                refine hX.mono ?_
                rintro _ w13 ⟨r13, b13, hr13, rfl, hb13⟩
                rw [E3] at hr13
                simp only [Prod.mk.injEq] at hr13
                obtain ⟨rfl, rfl⟩ := hr13
                clear E3 hX EX
                have hb14 := hb13.alloc hb13.size (.cells #[.string b1, .string b2] 29)
                have hB14 := H12.out.trans (hb14.mono H12.out.size)
                have k1 := K1.out.below hB14
                have k2 := K2.out.below hB14
                have k3 := K3.out.below hB14
                have k4 := K4.out.below hB14
                have k5 := K5.out.below hb14
                have k6 := GBlk.new w13 29 #[.string b1, .string b2]
                have m0 := k1.cell 0
                have m1 := k1.cell 1
                have r0 := k2.cell 0
                have r1 := k2.cell 1
                have s0 := k3.cell 0
                have s1 := k3.cell 1
                have x0 := k4.cell 0
                have x1 := k4.cell 1
                have x2 := k5.cell 0
                have x3 := k5.cell 1
                have x4 := k6.cell 0
                have x5 := k6.cell 1
                simp only [List.getElem?_toArray, List.getElem?_cons_succ, List.getElem?_cons_zero] at m0 m1 r0 r1 s0 s1 x0 x1 x2 x3 x4 x5
                have HEnd := Lib.hid (HB10.out.trans (hB14.mono HB10.out.size))
                clear k1 k2 k3 k4 k5 k6 hb13 hb14 hB14
                go_wp2
                go_ret
                exact ⟨by simp, HEnd.out⟩
              · go_wp2_with (first
                  | (at_builtin; refine wpList_racc repTy rfl _ _ rfl (HGR.out.acc.alloc _) rfl (RRow.many (R := repR) 33 [((p, v), (a1, a2)), ((p, ⟨#[]⟩), (b1, b2))] #[.string p, .string v, .string a1, .string a2, .string p, .string ⟨#[]⟩, .string b1, .string b2] rfl 2 rfl) rfl (by rw [HL6.out]; simp; have := HR30.out; omega) ?_; intro A7 c7 L7 w7 hgr7; have hB7 := HBW.out.trans (hgr7.acc.below.mono HBW.out.size); have HB7 := Lib.hid hB7; have HA7 := Lib.hid hgr7.acc; have HL7 := Lib.hid (show L7 = withB f.reps (p, v) (a1, a2) (b1, b2) true by rw [hgr7.list, HL6.out]; rfl); clear hgr7 hB7; have z0 := (HG0.out.below HB7.out).cell 0; have z1 := (HG0.out.below HB7.out).cell 1; have z2 := (HG0.out.below HB7.out).cell 2; have z3 := (HG0.out.below HB7.out).cell 3; have z4 := (HG0.out.below HB7.out).cell 4; have z5 := (HG0.out.below HB7.out).cell 5; have m0 := (HG1.out.below HB7.out).cell 0; have m1 := (HG1.out.below HB7.out).cell 1; have r0 := (HG2.out.below HB7.out).cell 0; have r1 := (HG2.out.below HB7.out).cell 1; have s0 := (HG3.out.below HB7.out).cell 0; have s1 := (HG3.out.below HB7.out).cell 1; simp only [List.getElem?_toArray, List.getElem?_cons_succ, List.getElem?_cons_zero] at z0 z1 z2 z3 z4 z5 m0 m1 r0 r1 s0 s1)
                  | (at_builtin; refine wpList_racc repTy rfl _ _ rfl HAcc.out rfl HRow.out rfl (by simp; have := HR30.out; omega) ?_; intro A6 c6 L6 w6 hgr; have hB6 := HBW.out.trans (hgr.acc.below.mono HBW.out.size); have HB6 := Lib.hid hB6; have HGR := Lib.hid hgr; have HL6 := Lib.hid (show L6 = f.reps from hgr.list); clear hgr hB6; have m0 := (HG1.out.below HB6.out).cell 0; have m1 := (HG1.out.below HB6.out).cell 1; have r0 := (HG2.out.below HB6.out).cell 0; have r1 := (HG2.out.below HB6.out).cell 1; have s0 := (HG3.out.below HB6.out).cell 0; have s1 := (HG3.out.below HB6.out).cell 1; simp only [List.getElem?_toArray, List.getElem?_cons_succ, List.getElem?_cons_zero] at m0 m1 r0 r1 s0 s1))
                clear HGR HL6 HAcc HRow HBA hba HB6
                have hwr : w.heap.size + 3 < wr.heap.size := Nat.lt_of_lt_of_le HG3.out.lt HBW.out.size
                have EX := Lib.hid (exact_facts (xs := f.reps) (p := p) (v := v) (a := (a1, a2)) (b := (b1, b2)) true HNP.out hve)
                rw [← HL7.out] at EX
                have hlen7 : L7.length ≤ 1000 := by rw [HL7.out]; unfold withB; simp; have := HR30.out; omega
                refine (replaced_any f.mo f.go a _ c d f.reps p v w7 ((HF.out.below HB7.out).reps) (by have := HR30.out; omega)).mono ?_
                rintro _ w8 ⟨r8, b8, hr8, rfl, hb8⟩
                rw [EX.out.1] at hr8
                simp only [Prod.mk.injEq] at hr8
                obtain ⟨rfl, rfl⟩ := hr8
                clear z0 z1 z2 z3 z4 z5 m0 m1 r0 r1 s0 s1
                have hb9 := hb8.alloc hb8.size (.cells #[.string p, .string v] 29)
                have hB9 := HB7.out.trans (hb9.mono HB7.out.size)
                have g0 := HG0.out.below hB9
                have k1 := (HG1.out.below hB9).setOther (B' := w.heap.size) (i := 3) (u := .slice A7 L7.length c7) (by omega)
                have k2 := (HG2.out.below hB9).setOther (B' := w.heap.size) (i := 3) (u := .slice A7 L7.length c7) (by omega)
                have k3 := (HG3.out.below hB9).setOther (B' := w.heap.size) (i := 3) (u := .slice A7 L7.length c7) (by omega)
                have hw8 : w.heap.size < w8.heap.size := by have := hb8.size; have := HA7.out.below.size; omega
                have k4 := (GBlk.new w8 29 #[.string p, .string v]).setOther (B' := w.heap.size) (i := 3) (u := .slice A7 L7.length c7) (by omega)
                have fz3 := g0.frozen 3
                have z3o := g0.cell 3
                simp only [List.getElem?_toArray, List.getElem?_cons_succ, List.getElem?_cons_zero] at z3o
                have k0 : GBlk ((w8.alloc (.cells #[.string p, .string v] 29)).setCell ⟨w.heap.size, 3, none⟩ (.slice A7 L7.length c7)) w.heap.size 27 #[.string f.mo, .string f.go, a, .slice A7 L7.length c7, c, d] := g0.set 3 (.slice A7 L7.length c7)
                have ho := ((HA7.out.own.below hb9).setCell (B := w.heap.size) (i := 3) (by omega) (.slice A7 L7.length c7)).row
                have hB10 := below_set (HB3.out.trans (hB9.mono HB3.out.size)) (Nat.le_refl _) (i := 3) (u := .slice A7 L7.length c7)
                generalize hw10 : (w8.alloc (.cells #[.string p, .string v] 29)).setCell ⟨w.heap.size, 3, none⟩ (.slice A7 L7.length c7) = w10 at *
                have K0 := Lib.hid k0
                have K1 := Lib.hid k1
                have K2 := Lib.hid k2
                have K3 := Lib.hid k3
                have K4 := Lib.hid k4
                have HO := Lib.hid ho
                have HB10 := Lib.hid hB10
                have z0 := k0.cell 0
                have z1 := k0.cell 1
                have z2 := k0.cell 2
                have z3 := k0.cell 3
                have z4 := k0.cell 4
                have z5 := k0.cell 5
                have m0 := k1.cell 0
                have m1 := k1.cell 1
                simp only [List.getElem?_toArray, List.getElem?_cons_succ, List.getElem?_cons_zero] at z0 z1 z2 z3 z4 z5 m0 m1
                clear k0 k1 k2 k3 k4 ho hB10 hb8 hb9 hB9 g0
                go_wp2_with fail
                refine (replaced_any f.mo f.go a _ c d L7 p v w10 HO.out hlen7).mono ?_
                rintro _ w11 ⟨r11, b11, hr11, rfl, hb11⟩
                rw [EX.out.2.1] at hr11
                simp only [Prod.mk.injEq] at hr11
                obtain ⟨rfl, rfl⟩ := hr11
                clear z0 z1 z2 z3 z4 z5 m0 m1 hw10 fz3 z3o
                have hb12 := hb11.alloc hb11.size (.cells #[.string a1, .string a2] 29)
                have k5 := GBlk.new w11 29 #[.string a1, .string a2]
                have k0 := K0.out.below hb12
                have k1 := K1.out.below hb12
                have z0 := k0.cell 0
                have z1 := k0.cell 1
                have z2 := k0.cell 2
                have z3 := k0.cell 3
                have z4 := k0.cell 4
                have z5 := k0.cell 5
                have m0 := k1.cell 0
                have m1 := k1.cell 1
                simp only [List.getElem?_toArray, List.getElem?_cons_succ, List.getElem?_cons_zero] at z0 z1 z2 z3 z4 z5 m0 m1
                have K5 := Lib.hid k5
                have H12 := Lib.hid hb12
                clear k0 k1 k5 hb11 hb12
                go_wp2_with fail
                clear z0 z1 z2 z3 z4 z5 m0 m1
                generalize w11.alloc (.cells #[.string a1, .string a2] 29) = w12 at *
                have hX := replaced_any f.mo f.go a (.slice A7 L7.length c7) c d L7 p (v ++ ⟨#[120]⟩) w12 (HO.out.below H12.out) hlen7
                have E3 := EX.out.2.2
                generalize v ++ ⟨#[120]⟩ = vx at *
                refine hX.mono ?_
                rintro _ w13 ⟨r13, b13, hr13, rfl, hb13⟩
                rw [E3] at hr13
                simp only [Prod.mk.injEq] at hr13
                obtain ⟨rfl, rfl⟩ := hr13
                clear E3 hX EX
                have hb14 := hb13.alloc hb13.size (.cells #[.string b1, .string b2] 29)
                have hB14 := H12.out.trans (hb14.mono H12.out.size)
                have k1 := K1.out.below hB14
                have k2 := K2.out.below hB14
                have k3 := K3.out.below hB14
                have k4 := K4.out.below hB14
                have k5 := K5.out.below hb14
                have k6 := GBlk.new w13 29 #[.string b1, .string b2]
                have m0 := k1.cell 0
                have m1 := k1.cell 1
                have r0 := k2.cell 0
                have r1 := k2.cell 1
                have s0 := k3.cell 0
                have s1 := k3.cell 1
                have x0 := k4.cell 0
                have x1 := k4.cell 1
                have x2 := k5.cell 0
                have x3 := k5.cell 1
                have x4 := k6.cell 0
                have x5 := k6.cell 1
                simp only [List.getElem?_toArray, List.getElem?_cons_succ, List.getElem?_cons_zero] at m0 m1 r0 r1 s0 s1 x0 x1 x2 x3 x4 x5
                have HEnd := Lib.hid (HB10.out.trans (hB14.mono HB10.out.size))
                clear k1 k2 k3 k4 k5 k6 hb13 hb14 hB14
                go_wp2
                go_ret
                exact ⟨by simp, HEnd.out⟩
  · go_wp2_with (first | (go_at_call 5; refine (shownR_any _).mono ?_; rintro _ w5 ⟨rfl, hb5⟩))
    go_ret
    exact ⟨rfl, HB4.out.trans (hb5.mono HB4.out.size)⟩
end Go.Proofs.Ytcbpkbemnaondaa
