/-
  The document's own Check.
-/
import Derived.Test.YtmdlmjcejeejfaaGreatDoorD0
import Derived.Deep.RegionLaw
import Derived.Deep.DeepCutAuto
namespace Go.Proofs.YtmdlmjcejeejfaaGreatDoor
open Go.RowKit Go.Shelf

theorem RRow.oneD {α : Type} {R : Rec α} {w : World} (t : TypeId) (x : α) (cs : Array Value) (b : Nat) (hb : b = w.heap.size) (h : cs = (R.cells x).toArray) : RRow R (w.alloc (.cells cs t)).drew (.slice (some ⟨b, 0, none⟩) 1 1) [x] := RRow.one' t x cs b hb h
theorem reqE_m {x : ReqB} {xs : List ReqB} (h : ¬ modE x.1 = 0) : reqE x xs = modE x.1 := by rw [reqE, orL_two, orI, if_neg h]
theorem reqE_a {x : ReqB} {xs : List ReqB} (h : modE x.1 = 0) (k : xs.any (fun a => sameP a x.1.1) = true) : reqE x xs = 52 := by rw [reqE, orL_two, h, k]; rfl
theorem reqE_0 {x : ReqB} {xs : List ReqB} (h : modE x.1 = 0) (k : xs.any (fun a => sameP a x.1.1) = false) : reqE x xs = 0 := by rw [reqE, orL_two, h, k]; rfl
theorem acc_on {α : Type} {F : α → List α → Int} {xs : List α} {k : Nat} (h : accE F xs 0 k = 0) (hk : k < xs.length) (e : F xs[k] (xs.take k) = 0) : accE F xs 0 (k + 1) = 0 := by rw [accE_snoc hk, h, e]; rfl
theorem acc_stop {α : Type} {F : α → List α → Int} {xs : List α} {k : Nat} (h : accE F xs 0 k = 0) (hk : k < xs.length) (e : ¬ F xs[k] (xs.take k) = 0) : allE F xs 0 = F xs[k] (xs.take k) := by
  have h1 : accE F xs 0 (k + 1) = F xs[k] (xs.take k) := by rw [accE_snoc hk, h]; rfl
  rw [accE_end (k := k + 1) hk (by rw [h1]; exact e), h1]
theorem chk_1 {f : FileG} (h : ¬ startE f = 0) : chkE f = startE f := by
  have h1 : reqsE f = startE f := allE_stay h
  have h2 : repsE f = startE f := by rw [repsE, allE_stay (by rw [h1]; exact h), h1]
  have h3 : excsE f = startE f := by rw [excsE, allE_stay (by rw [h2]; exact h), h2]
  rw [chkE, allE_stay (by rw [h3]; exact h), h3]
theorem chk_2 {f : FileG} (h : ¬ reqsE f = 0) : chkE f = reqsE f := by
  have h2 : repsE f = reqsE f := allE_stay h
  have h3 : excsE f = reqsE f := by rw [excsE, allE_stay (by rw [h2]; exact h), h2]
  rw [chkE, allE_stay (by rw [h3]; exact h), h3]
theorem chk_3 {f : FileG} (h : ¬ repsE f = 0) : chkE f = repsE f := by
  have h3 : excsE f = repsE f := allE_stay h
  rw [chkE, allE_stay (by rw [h3]; exact h), h3]
theorem chk_4 {f : FileG} (h : ¬ excsE f = 0) : chkE f = excsE f := allE_stay h
theorem repE_m {x : RepB} {xs : List RepB} (h : ¬ wordsE x = 0) : repE x xs = wordsE x := by
  unfold repE wordsE at *
  by_cases h1 : oldE x.1 = 0
  · rw [h1] at h ⊢
    exact or3_2 rfl h
  · rw [or3_1 h1, orI, if_neg h1]
theorem repE_w {x : RepB} {xs : List RepB} (h : wordsE x = 0) : repE x xs = unl (!xs.any fun a => sameM a.1 x.1) 52 := or3_3 (orI_zero.1 h).1 (orI_zero.1 h).2
theorem repE_a {x : RepB} {xs : List RepB} (h : wordsE x = 0) (k : xs.any (fun a => sameM a.1 x.1) = true) : repE x xs = 52 := by rw [repE_w h, k]; rfl
theorem repE_0 {x : RepB} {xs : List RepB} (h : wordsE x = 0) (k : xs.any (fun a => sameM a.1 x.1) = false) : repE x xs = 0 := by rw [repE_w h, k]; rfl
theorem excE_m {x : ModB} {xs : List ModB} (h : ¬ modE x = 0) : excE x xs = modE x := by rw [excE, orL_two, orI, if_neg h]
theorem excE_a {x : ModB} {xs : List ModB} (h : modE x = 0) (k : xs.any (fun a => sameM a x) = true) : excE x xs = 52 := by rw [excE, orL_two, h, k]; rfl
theorem excE_0 {x : ModB} {xs : List ModB} (h : modE x = 0) (k : xs.any (fun a => sameM a x) = false) : excE x xs = 0 := by rw [excE, orL_two, h, k]; rfl
theorem why_at (y : ByteArray) (hy : y.size ≤ 20400) {b : Bool} (h : whyB y.data.toList = b) (w : World) : Calls Tryz.prog 82 #[.string y] w fun e w' => e = .returned (.bool b) ∧ w' = w :=
  (rwhy_any y hy w).mono fun _ _ k => ⟨by rw [k.1, h], k.2.symm⟩
theorem text_ne {s : ByteArray} (h : s.toList.isEmpty = false) : (s.toList != []) = true := by
  cases hh : s.toList
  · rw [hh] at h; cases h
  · rfl
def goBad (s : ByteArray) : Bool := !s.toList.isEmpty && !relL s.data.toList
theorem goE_bad {s : ByteArray} (h : goBad s = true) : goE s = 30 := by
  simp only [goBad, Bool.and_eq_true, Bool.not_eq_true'] at h
  rw [goE_2 h.1, h.2]; rfl
theorem goE_good {s : ByteArray} (h : goBad s = false) : goE s = 0 := by
  cases e : s.toList.isEmpty
  · rw [goE_2 e]
    simp only [goBad, e, Bool.not_false, Bool.true_and, Bool.not_eq_false'] at h
    rw [h]; rfl
  · exact goE_1 e
theorem againG_p {reqs : List ReqB} {reps : List RepB} {q : ByteArray} {b : Bool} {old m : ModB} (n : reqs.any (fun a => sameP a q) = false) (h : reps.any (fun a => sameM a.1 old) = b) : againG reqs reps [] q old m = b := by simp [againG, h, n]
theorem againG_x {reqs : List ReqB} {reps : List RepB} {excs : List ModB} {q : ByteArray} {b : Bool} {old m : ModB} (n : reqs.any (fun a => sameP a q) = false) (n2 : reps.any (fun a => sameM a.1 old) = false) (h : excs.any (fun a => sameM a m) = b) : againG reqs reps excs q old m = b := by simp [againG, h, n, n2]
theorem againG_r {reqs : List ReqB} {q : ByteArray} {b : Bool} {old m : ModB} (h : reqs.any (fun a => sameP a q) = b) : againG reqs [] [] q old m = b := by simp [againG, h]

set_option maxRecDepth 100000 in
set_option maxHeartbeats 8000000 in
theorem rcheck_file (f : FileG) (hS : Sized f) (a b c d : Value) (w : World) (hF : FileAt w a b c d f) :
    Calls Tryz.prog 36 #[.agg #[.string f.mo, .string f.go, a, b, c, d]] w fun e w' => e = .returned (.int .i64 (chkE f)) ∧ Below w.heap.size w w' := by
  obtain ⟨mo, go, reqs, reps, excs, rets⟩ := f
  obtain ⟨hr, hp, hx, ht⟩ := hF
  obtain ⟨s1, s2, n1, n2, n3, n4, S1, S2, S3, S4⟩ := hS
  dsimp only at *
  replace S1 := Lib.hid S1
  replace S2 := Lib.hid S2
  replace S3 := Lib.hid S3
  replace S4 := Lib.hid S4
  obtain ⟨ra, rc, rfl⟩ := hr.form
  obtain ⟨pa, pc, rfl⟩ := hp.form
  obtain ⟨xa, xc, rfl⟩ := hx.form
  obtain ⟨ta, tc, rfl⟩ := ht.form
  have hb0 := (Below.refl w.heap.size w).alloc (Nat.le_refl _) (.cells #[.string mo, .string go, .slice ra reqs.length rc, .slice pa reps.length pc, .slice xa excs.length xc, .slice ta rets.length tc] 35)
  have HR := Lib.hid (hr.below hb0)
  have HP := Lib.hid (hp.below hb0)
  have HX := Lib.hid (hx.below hb0)
  have HT := Lib.hid (ht.below hb0)
  have HB := Lib.hid (GBlk.new w 35 #[.string mo, .string go, .slice ra reqs.length rc, .slice pa reps.length pc, .slice xa excs.length xc, .slice ta rets.length tc])
  clear hr hp hx ht
  have hz : w.heap.size < (w.alloc (.cells #[.string mo, .string go, .slice ra reqs.length rc, .slice pa reps.length pc, .slice xa excs.length xc, .slice ta rets.length tc] 35)).heap.size := by simp
  have Q1 := Lib.hid (fun h => chk_1 (f := ⟨mo, go, reqs, reps, excs, rets⟩) h)
  have Q2 := Lib.hid (fun h => chk_2 (f := ⟨mo, go, reqs, reps, excs, rets⟩) h)
  have Q3 := Lib.hid (fun h => chk_3 (f := ⟨mo, go, reqs, reps, excs, rets⟩) h)
  have Q4 := Lib.hid (fun h => chk_4 (f := ⟨mo, go, reqs, reps, excs, rets⟩) h)
  have QS := Lib.hid (show startE ⟨mo, go, reqs, reps, excs, rets⟩ = orI (moduleN mo) (goE go) from rfl)
  go_enter Tryz.func36, Tryz.ntmps36
  go_wp2_with fail
  generalize w.alloc (.cells #[.string mo, .string go, .slice ra reqs.length rc, .slice pa reps.length pc, .slice xa excs.length xc, .slice ta rets.length tc] 35) = W at *
  refine (rmodule_any mo (by omega) _).mono ?_
  rintro _ w1 ⟨rfl, hb1⟩
  have c1 : w1.cell? ⟨w.heap.size, 1, none⟩ = some (.string go) := (HB.out.below hb1).cell 1
  by_cases h1 : moduleN mo = 0
  · have H1 := Lib.hid h1
    rw [h1]
    clear h1
    have GB := Lib.hid (fun h => goE_bad (s := go) h)
    have GG := Lib.hid (fun h => goE_good (s := go) h)
    go_upto_region 4 with fail
    go_cut [24] (fun s24 wx => s24 = .bool (goBad go) ∧ w1 = wx)
    case first =>
      cases eg : go.toList.isEmpty
      · have eg' := text_ne eg
        have HE := Lib.hid (show goBad go = !relL go.data.toList by simp [goBad, eg])
        clear GB GG
        go_wp2_with fail
        refine (rrelease_any go (by omega) _).mono ?_
        rintro _ w2 ⟨rfl, rfl⟩
        go_wp2_with fail
        go_meet
        exact ⟨by rw [HE.out], rfl⟩
      · have HE := Lib.hid (show goBad go = false by simp [goBad, eg])
        clear GB GG
        go_wp2_with fail
        go_meet
        exact ⟨by rw [HE.out], rfl⟩
    case rest =>
      obtain ⟨rfl, rfl⟩ := hcut
      cases gb : goBad go
      · have HS0 := Lib.hid (show startE ⟨mo, go, reqs, reps, excs, rets⟩ = 0 by rw [QS.out, H1.out, GG.out gb]; rfl)
        clear GB GG gb
        go_wp2
        have HG := Lib.hid (GBlk.new w1 35 #[.string ⟨#[]⟩, .string ⟨#[]⟩, .slice none 0 0, .slice none 0 0, .slice none 0 0, .slice none 0 0])
        have HB1 := Lib.hid (HB.out.below hb1)
        have HR1 := Lib.hid (HR.out.below hb1)
        have HP1 := Lib.hid (HP.out.below hb1)
        have HX1 := Lib.hid (HX.out.below hb1)
        have HT1 := Lib.hid (HT.out.below hb1)
        have QR := Lib.hid (show allE reqE reqs (startE ⟨mo, go, reqs, reps, excs, rets⟩) = allE reqE reqs 0 by rw [HS0.out])
        change Hid (reqsE ⟨mo, go, reqs, reps, excs, rets⟩ = allE reqE reqs 0) at QR
        have HZ := Lib.hid (hb0.trans (hb1.mono hb0.size))
        clear HB HR HP HX HT hb0 hb1 c1
        go_loopw [5] (fun i wr => ∃ (k : Nat) (acc : List ReqB) (A : Option Addr) (c : Nat), k ≤ reqs.length ∧ i = .int .i64 k ∧ acc = reqs.take k ∧ accE reqE reqs 0 k = 0 ∧ GBlk wr w1.heap.size 35 #[.string ⟨#[]⟩, .string ⟨#[]⟩, .slice A acc.length c, .slice none 0 0, .slice none 0 0, .slice none 0 0] ∧ RAcc reqR 61 w1 wr (.slice A acc.length c) acc) (fun i _ => reqs.length - (intOf i).toNat)
        case atStart => exact ⟨0, [], none, 0, Nat.zero_le _, rfl, rfl, rfl, HG.out, (RAcc.nil w1).alloc _⟩
        case round =>
          clear HG
          obtain ⟨k, acc, A, c, hk, rfl, hL, hE, hG, hacc⟩ := hrel
          have HL := Lib.hid hL
          have hal : acc.length ≤ k := by rw [hL, List.length_take]; omega
          have HE := Lib.hid hE
          clear hL hE
          have u0 : wr.cell? ⟨w.heap.size, 2, none⟩ = some (.slice ra reqs.length rc) := (HB1.out.below hacc.below).cell 2
          by_cases hlt : k < reqs.length
          · obtain ⟨-, hcap, hsp⟩ := (HR1.out.below hacc.below).spot
            obtain ⟨g, o, rfl, hg, hat⟩ := hsp (ne_of_lt hlt)
            obtain ⟨q1, q2, q3⟩ := req_at hat k hlt
            obtain ⟨z1, z2⟩ := S1.out _ (List.getElem_mem hlt)
            have HN := Lib.hid (show acc ++ [reqs[k]] = reqs.take (k + 1) by rw [HL.out, List.take_succ_eq_append_getElem hlt])
            have HO := Lib.hid (fun e => acc_on HE.out hlt e)
            have HH := Lib.hid (fun e => by have h1 := acc_stop HE.out hlt e; rw [← QR.out] at h1; exact (Q2.out (by rw [h1]; exact e)).trans h1)
            rw [← HL.out] at HO HH
            clear hat hsp
            generalize reqs[k] = x at *
            obtain ⟨⟨p, v⟩, bb⟩ := x
            dsimp only at q1 q2 q3 z1 z2
            go_wp2_with fail
            refine (rmod_any p v (by omega) (by omega) _).mono ?_
            rintro _ w2 ⟨rfl, hb2⟩
            have hX2 := (GBlk.new wr 61 #[.string p, .string v, .bool bb]).below hb2
            have hG2 := (hG.alloc (.cells #[.string p, .string v, .bool bb] 61)).below hb2
            have hacc2 := (hacc.alloc (.cells #[.string p, .string v, .bool bb] 61)).call hb2
            clear hG hacc u0 q1 q2 q3 hb2
            have d0 : w2.cell? ⟨wr.heap.size, 0, none⟩ = some (.string p) := hX2.cell 0
            have d1 : w2.cell? ⟨wr.heap.size, 1, none⟩ = some (.string v) := hX2.cell 1
            have d2 : w2.cell? ⟨wr.heap.size, 2, none⟩ = some (.bool bb) := hX2.cell 2
            have g0 : w2.cell? ⟨w1.heap.size, 0, none⟩ = some (.string ⟨#[]⟩) := hG2.cell 0
            have g1 : w2.cell? ⟨w1.heap.size, 1, none⟩ = some (.string ⟨#[]⟩) := hG2.cell 1
            have g2 : w2.cell? ⟨w1.heap.size, 2, none⟩ = some (.slice A acc.length c) := hG2.cell 2
            have g3 : w2.cell? ⟨w1.heap.size, 3, none⟩ = some (.slice none 0 0) := hG2.cell 3
            have g4 : w2.cell? ⟨w1.heap.size, 4, none⟩ = some (.slice none 0 0) := hG2.cell 4
            have g5 : w2.cell? ⟨w1.heap.size, 5, none⟩ = some (.slice none 0 0) := hG2.cell 5
            by_cases h2 : modE (p, v) = 0
            · cases ha : acc.any (fun a => sameP a p)
              · have HE2 := Lib.hid (HO.out (reqE_0 (x := ((p, v), bb)) h2 ha))
                rw [h2]
                clear h2
                go_wp2_with fail
                refine (again_any _ _ acc [] [] (by omega) (by simp) (by simp) (.slice A acc.length c) _ _ _ _ _ _ _ p v bb _ _ w2 hacc2.own.row (RRow.nil _) (RRow.nil _)).mono ?_
                rw [againG_r ha]
                rintro _ w3 ⟨rfl, hb3⟩
                replace hX2 := hX2.below hb3
                have hG3 := hG2.below hb3
                have hacc3 := hacc2.call hb3
                clear hG2 hacc2 d0 d1 d2 g0 g1 g2 g3 g4 g5 hb3 ha
                have d0 : w3.cell? ⟨wr.heap.size, 0, none⟩ = some (.string p) := hX2.cell 0
                have d1 : w3.cell? ⟨wr.heap.size, 1, none⟩ = some (.string v) := hX2.cell 1
                have d2 : w3.cell? ⟨wr.heap.size, 2, none⟩ = some (.bool bb) := hX2.cell 2
                have g2 : w3.cell? ⟨w1.heap.size, 2, none⟩ = some (.slice A acc.length c) := hG3.cell 2
                go_wp2_with (at_builtin; refine wpList_racc reqT rfl _ _ rfl (hacc3.alloc _) rfl (RRow.one' _ ((p, v), bb) _ _ (by simp) rfl) rfl (by simp; omega) ?_; intro A4 c4 acc4 w4 hgr; have hG4 := (hG3.alloc _).grew (hacc3.alloc _).own hgr (by decide); have kc : w4.cell? ⟨w1.heap.size, 2, none⟩ = some (.slice A acc.length c) := hG4.cell 2; have kf := hG4.frozen 2; have hacc4 := hgr.acc; have HL4 := Lib.hid hgr.list; clear hgr)
                go_roundw
                case rel => exact ⟨k + 1, acc4, A4, c4, by omega, by go_num, HL4.out.trans HN.out, HE2.out, hG4.set 2 _, hacc4.set hG4 (by decide) (Nat.le_refl _)⟩
                case measure => simp [intOf]; omega
              · have HE2 := Lib.hid ((HH.out (by rw [reqE_a (x := ((p, v), bb)) h2 ha]; decide)).trans (reqE_a (x := ((p, v), bb)) h2 ha))
                rw [h2]
                clear h2
                go_wp2_with fail
                refine (again_any _ _ acc [] [] (by omega) (by simp) (by simp) (.slice A acc.length c) _ _ _ _ _ _ _ p v bb _ _ w2 hacc2.own.row (RRow.nil _) (RRow.nil _)).mono ?_
                rw [againG_r ha]
                rintro _ w3 ⟨rfl, hb3⟩
                have hacc3 := hacc2.call hb3
                clear hG2 hacc2 d0 d1 d2 g0 g1 g2 g3 g4 g5 hb3 ha
                go_wp2
                go_ret
                exact ⟨ret_int HE2.out.symm, HZ.out.trans (hacc3.below.mono HZ.out.size)⟩
            · have HE2 := Lib.hid ((HH.out (by rw [reqE_m (x := ((p, v), bb)) h2]; exact h2)).trans (reqE_m (x := ((p, v), bb)) h2))
              generalize modE (p, v) = e at *
              have h2' : (e == 0) = false := by simp [h2]
              have h2'' : (e != 0) = true := by simp [h2]
              clear h2
              go_wp2
              go_ret
              exact ⟨ret_int HE2.out.symm, HZ.out.trans (hacc2.below.mono HZ.out.size)⟩
          · obtain rfl : k = reqs.length := by omega
            have hacq : reqs = acc := by rw [HL.out, List.take_length]
            subst hacq
            have HR0 := Lib.hid (QR.out.trans HE.out)
            have NP := Lib.hid (noP fun k hk => (allE_nought.1 HE.out).2 k hk)
            have QP := Lib.hid (show allE repE reps (reqsE ⟨mo, go, reqs, reps, excs, rets⟩) = allE repE reps 0 by rw [HR0.out])
            change Hid (repsE ⟨mo, go, reqs, reps, excs, rets⟩ = allE repE reps 0) at QP
            clear HL HE QR Q2
            go_wp2
            clear u0
            obtain ⟨v0, hv0⟩ : ∃ v, v = wr := ⟨_, rfl⟩
            subst hv0
            have haccR := hacc
            clear hacc
            go_loopw [7] (fun i wr => ∃ (k : Nat) (acc : List RepB) (A2 : Option Addr) (c2 : Nat), k ≤ reps.length ∧ i = .int .i64 k ∧ acc = reps.take k ∧ accE repE reps 0 k = 0 ∧ GBlk wr w1.heap.size 35 #[.string ⟨#[]⟩, .string ⟨#[]⟩, .slice A reqs.length c, .slice A2 acc.length c2, .slice none 0 0, .slice none 0 0] ∧ RAcc reqR 61 w1 wr (.slice A reqs.length c) reqs ∧ RAcc repR 62 w1 wr (.slice A2 acc.length c2) acc) (fun i _ => reps.length - (intOf i).toNat)
            case atStart => exact ⟨0, [], none, 0, Nat.zero_le _, rfl, rfl, rfl, hG, haccR, ROwn.nil _ _, haccR.below⟩
            case round =>
              clear hG haccR
              obtain ⟨k, acc, A2, c2, hk, rfl, hL, hE, hG, haccR, hacc⟩ := hrel
              have HL := Lib.hid hL
              have hal : acc.length ≤ k := by rw [hL, List.length_take]; omega
              have HE := Lib.hid hE
              clear hL hE
              have u0 : wr.cell? ⟨w.heap.size, 3, none⟩ = some (.slice pa reps.length pc) := (HB1.out.below hacc.below).cell 3
              by_cases hlt : k < reps.length
              · obtain ⟨-, hcap, hsp⟩ := (HP1.out.below hacc.below).spot
                obtain ⟨g, o, rfl, hg, hat⟩ := hsp (ne_of_lt hlt)
                obtain ⟨q1, q2, q3, q4⟩ := rep_at hat k hlt
                obtain ⟨z1, z2, z3, z4⟩ := S2.out _ (List.getElem_mem hlt)
                have HN := Lib.hid (show acc ++ [reps[k]] = reps.take (k + 1) by rw [HL.out, List.take_succ_eq_append_getElem hlt])
                have HO := Lib.hid (fun e => acc_on HE.out hlt e)
                have HH := Lib.hid (fun e => by have h1 := acc_stop HE.out hlt e; rw [← QP.out] at h1; exact (Q3.out (by rw [h1]; exact e)).trans h1)
                rw [← HL.out] at HO HH
                clear hat hsp
                generalize reps[k] = x at *
                obtain ⟨⟨p, v⟩, p2, v2⟩ := x
                dsimp only at q1 q2 q3 q4 z1 z2 z3 z4
                have i0 : (0 : Int) ≤ (k : Int) := by omega
                have i1 : (k : Int) < (reps.length : Int) := by omega
                go_wp2_with fail
                refine (rreplaced_any p v p2 v2 (by omega) (by omega) (by omega) (by omega) _).mono ?_
                rintro _ w2 ⟨rfl, hb2⟩
                replace hG := hG.below hb2
                replace haccR := haccR.call hb2
                replace hacc := hacc.call hb2
                replace q1 := (hb2.cell (p := ⟨g, o + k * 4, none⟩) hg).trans q1
                replace q2 := (hb2.cell (p := ⟨g, o + k * 4 + 1, none⟩) hg).trans q2
                replace q3 := (hb2.cell (p := ⟨g, o + k * 4 + 2, none⟩) hg).trans q3
                replace q4 := (hb2.cell (p := ⟨g, o + k * 4 + 3, none⟩) hg).trans q4
                replace hg := Nat.lt_of_lt_of_le hg hb2.size
                clear u0 hb2
                have u0 : w2.cell? ⟨w.heap.size, 3, none⟩ = some (.slice (some ⟨g, o, none⟩) reps.length pc) := (HB1.out.below hacc.below).cell 3
                have g0 : w2.cell? ⟨w1.heap.size, 0, none⟩ = some (.string ⟨#[]⟩) := hG.cell 0
                have g1 : w2.cell? ⟨w1.heap.size, 1, none⟩ = some (.string ⟨#[]⟩) := hG.cell 1
                have g2 : w2.cell? ⟨w1.heap.size, 2, none⟩ = some (.slice A reqs.length c) := hG.cell 2
                have g3 : w2.cell? ⟨w1.heap.size, 3, none⟩ = some (.slice A2 acc.length c2) := hG.cell 3
                have g4 : w2.cell? ⟨w1.heap.size, 4, none⟩ = some (.slice none 0 0) := hG.cell 4
                have g5 : w2.cell? ⟨w1.heap.size, 5, none⟩ = some (.slice none 0 0) := hG.cell 5
                by_cases h2 : wordsE ((p, v), p2, v2) = 0
                · cases ha : acc.any (fun a => sameM a.1 (p, v))
                  · have HE2 := Lib.hid (HO.out (repE_0 (x := ((p, v), p2, v2)) h2 ha))
                    rw [h2]
                    clear h2
                    go_wp2
                    go_region_held3 (fun w' => w'.cell? ⟨w1.heap.size, 0, none⟩ = some (.string ⟨#[]⟩) ∧ w'.cell? ⟨w1.heap.size, 1, none⟩ = some (.string ⟨#[]⟩) ∧ w'.cell? ⟨w1.heap.size, 2, none⟩ = some (.slice A reqs.length c) ∧ w'.cell? ⟨w1.heap.size, 3, none⟩ = some (.slice A2 acc.length c2) ∧ w'.cell? ⟨w1.heap.size, 4, none⟩ = some (.slice none 0 0) ∧ w'.cell? ⟨w1.heap.size, 5, none⟩ = some (.slice none 0 0) ∧ w'.cell? ⟨w.heap.size, 3, none⟩ = some (.slice (some ⟨g, o, none⟩) reps.length pc) ∧ w'.cell? ⟨g, o + k * 4, none⟩ = some (.string p) ∧ w'.cell? ⟨g, o + k * 4 + 1, none⟩ = some (.string v) ∧ w'.cell? ⟨g, o + k * 4 + 2, none⟩ = some (.string p2) ∧ w'.cell? ⟨g, o + k * 4 + 3, none⟩ = some (.string v2))
                      (first | go_keep | assumption | exact ⟨m0, m1, m2, m3, m4, m5, u3, k1, k2, k3, k4⟩)
                      (first
                        | (go_at_call 79; refine (again_any _ _ reqs acc [] (by omega) (by omega) (by simp) (.slice A reqs.length c) (.slice A2 acc.length c2) _ _ p v p2 v2 _ _ _ _ _ w2.drew haccR.drew.own.row hacc.drew.own.row (RRow.nil _)).mono ?_; rw [againG_p NP.out ha]; rintro e w3 ⟨rfl, hb3'⟩; have hb3 := (below_drewN' (n := 1) hb3' : Below w2.heap.size w2 w3); have hG3 := hG.below hb3; have m0 : w3.cell? ⟨w1.heap.size, 0, none⟩ = some (.string ⟨#[]⟩) := hG3.cell 0; have m1 : w3.cell? ⟨w1.heap.size, 1, none⟩ = some (.string ⟨#[]⟩) := hG3.cell 1; have m2 : w3.cell? ⟨w1.heap.size, 2, none⟩ = some (.slice A reqs.length c) := hG3.cell 2; have m3 : w3.cell? ⟨w1.heap.size, 3, none⟩ = some (.slice A2 acc.length c2) := hG3.cell 3; have m4 : w3.cell? ⟨w1.heap.size, 4, none⟩ = some (.slice none 0 0) := hG3.cell 4; have m5 : w3.cell? ⟨w1.heap.size, 5, none⟩ = some (.slice none 0 0) := hG3.cell 5; have haccR3 := haccR.call hb3; have hacc3 := hacc.call hb3; have u3 : w3.cell? ⟨w.heap.size, 3, none⟩ = some (.slice (some ⟨g, o, none⟩) reps.length pc) := (HB1.out.below hacc3.below).cell 3; have k1 := (hb3.cell (p := ⟨g, o + k * 4, none⟩) hg).trans q1; have k2 := (hb3.cell (p := ⟨g, o + k * 4 + 1, none⟩) hg).trans q2; have k3 := (hb3.cell (p := ⟨g, o + k * 4 + 2, none⟩) hg).trans q3; have k4 := (hb3.cell (p := ⟨g, o + k * 4 + 3, none⟩) hg).trans q4; have hg3 := Nat.lt_of_lt_of_le hg hb3.size))
                    rename_i hheld
                    clear hheld g0 g1 g2 g3 g4 g5 u0 q1 q2 q3 q4 hb3' hb3 hG hacc haccR ha
                    have ma3 : ∀ o, (w3.alloc o).cell? ⟨w1.heap.size, 3, none⟩ = some (.slice A2 acc.length c2) := fun o => (hG3.alloc o).cell 3
                    go_wp2
                    go_region_law (refine step_racc repT rfl _ _ rfl (hacc3.alloc _).drew rfl (RRow.oneD _ ((p, v), p2, v2) _ _ (by simp) rfl) rfl (by simp; omega) ?_; intro A4 c4 acc4 w4 hgr; have hG4 := (hG3.alloc _).drew.grew (hacc3.alloc _).drew.own hgr (by decide); have haccR4 := (haccR3.alloc _).drew.other (hacc3.alloc _).drew.own hgr (by decide); have kc : w4.cell? ⟨w1.heap.size, 3, none⟩ = some (.slice A2 acc.length c2) := hG4.cell 3; have kf := hG4.frozen 3; have hacc4 := hgr.acc; have HL4 := Lib.hid hgr.list; clear hgr)
                    all_goals
                      go_wp2
                      go_roundw
                      case rel => exact ⟨k + 1, acc4, A4, c4, by omega, by go_num, HL4.out.trans HN.out, HE2.out, hG4.set 3 _, haccR4.set hG4 (by decide) (Nat.le_refl _), hacc4.set hG4 (by decide) (Nat.le_refl _)⟩
                      case measure => simp [intOf]; omega
                  · have HE2 := Lib.hid ((HH.out (by rw [repE_a (x := ((p, v), p2, v2)) h2 ha]; decide)).trans (repE_a (x := ((p, v), p2, v2)) h2 ha))
                    rw [h2]
                    clear h2
                    go_wp2
                    go_region_held3 (fun w' => w'.cell? ⟨w1.heap.size, 0, none⟩ = some (.string ⟨#[]⟩) ∧ w'.cell? ⟨w1.heap.size, 1, none⟩ = some (.string ⟨#[]⟩) ∧ w'.cell? ⟨w1.heap.size, 2, none⟩ = some (.slice A reqs.length c) ∧ w'.cell? ⟨w1.heap.size, 3, none⟩ = some (.slice A2 acc.length c2) ∧ w'.cell? ⟨w1.heap.size, 4, none⟩ = some (.slice none 0 0) ∧ w'.cell? ⟨w1.heap.size, 5, none⟩ = some (.slice none 0 0) ∧ w'.cell? ⟨w.heap.size, 3, none⟩ = some (.slice (some ⟨g, o, none⟩) reps.length pc) ∧ w'.cell? ⟨g, o + k * 4, none⟩ = some (.string p) ∧ w'.cell? ⟨g, o + k * 4 + 1, none⟩ = some (.string v) ∧ w'.cell? ⟨g, o + k * 4 + 2, none⟩ = some (.string p2) ∧ w'.cell? ⟨g, o + k * 4 + 3, none⟩ = some (.string v2))
                      (first | go_keep | assumption | exact ⟨m0, m1, m2, m3, m4, m5, u3, k1, k2, k3, k4⟩)
                      (first
                        | (go_at_call 79; refine (again_any _ _ reqs acc [] (by omega) (by omega) (by simp) (.slice A reqs.length c) (.slice A2 acc.length c2) _ _ p v p2 v2 _ _ _ _ _ w2.drew haccR.drew.own.row hacc.drew.own.row (RRow.nil _)).mono ?_; rw [againG_p NP.out ha]; rintro e w3 ⟨rfl, hb3'⟩; have hb3 := (below_drewN' (n := 1) hb3' : Below w2.heap.size w2 w3); have hG3 := hG.below hb3; have m0 : w3.cell? ⟨w1.heap.size, 0, none⟩ = some (.string ⟨#[]⟩) := hG3.cell 0; have m1 : w3.cell? ⟨w1.heap.size, 1, none⟩ = some (.string ⟨#[]⟩) := hG3.cell 1; have m2 : w3.cell? ⟨w1.heap.size, 2, none⟩ = some (.slice A reqs.length c) := hG3.cell 2; have m3 : w3.cell? ⟨w1.heap.size, 3, none⟩ = some (.slice A2 acc.length c2) := hG3.cell 3; have m4 : w3.cell? ⟨w1.heap.size, 4, none⟩ = some (.slice none 0 0) := hG3.cell 4; have m5 : w3.cell? ⟨w1.heap.size, 5, none⟩ = some (.slice none 0 0) := hG3.cell 5; have haccR3 := haccR.call hb3; have hacc3 := hacc.call hb3; have u3 : w3.cell? ⟨w.heap.size, 3, none⟩ = some (.slice (some ⟨g, o, none⟩) reps.length pc) := (HB1.out.below hacc3.below).cell 3; have k1 := (hb3.cell (p := ⟨g, o + k * 4, none⟩) hg).trans q1; have k2 := (hb3.cell (p := ⟨g, o + k * 4 + 1, none⟩) hg).trans q2; have k3 := (hb3.cell (p := ⟨g, o + k * 4 + 2, none⟩) hg).trans q3; have k4 := (hb3.cell (p := ⟨g, o + k * 4 + 3, none⟩) hg).trans q4; have hg3 := Nat.lt_of_lt_of_le hg hb3.size))
                    rename_i hheld
                    clear hheld g0 g1 g2 g3 g4 g5 u0 q1 q2 q3 q4 hb3' hb3 hG hacc haccR ha
                    go_wp2
                    go_ret
                    exact ⟨ret_int HE2.out.symm, HZ.out.trans (hacc3.below.mono HZ.out.size)⟩
                · have HE2 := Lib.hid ((HH.out (by rw [repE_m (x := ((p, v), p2, v2)) h2]; exact h2)).trans (repE_m (x := ((p, v), p2, v2)) h2))
                  generalize wordsE ((p, v), p2, v2) = e at *
                  have h2' : (e == 0) = false := by simp [h2]
                  have h2'' : (e != 0) = true := by simp [h2]
                  clear h2
                  go_wp2
                  go_quiet (fail)
                  go_wp2
                  go_ret
                  exact ⟨ret_int HE2.out.symm, below_drewN (HZ.out.trans (hacc.below.mono HZ.out.size)) _⟩
              · obtain rfl : k = reps.length := by omega
                have hacq : reps = acc := by rw [HL.out, List.take_length]
                subst hacq
                have HR0 := Lib.hid (QP.out.trans HE.out)
                have NM := Lib.hid (noM fun k hk => (allE_nought.1 HE.out).2 k hk)
                have QX := Lib.hid (show allE excE excs (repsE ⟨mo, go, reqs, reps, excs, rets⟩) = allE excE excs 0 by rw [HR0.out])
                change Hid (excsE ⟨mo, go, reqs, reps, excs, rets⟩ = allE excE excs 0) at QX
                clear HL HE QP Q3
                go_wp2
                clear u0
                obtain ⟨v1, hv1⟩ : ∃ v, v = wr := ⟨_, rfl⟩
                subst hv1
                have haccP := hacc
                clear hacc
                go_loopw [8] (fun i wr => ∃ (k : Nat) (acc : List ModB) (A3 : Option Addr) (c3 : Nat), k ≤ excs.length ∧ i = .int .i64 k ∧ acc = excs.take k ∧ accE excE excs 0 k = 0 ∧ GBlk wr w1.heap.size 35 #[.string ⟨#[]⟩, .string ⟨#[]⟩, .slice A reqs.length c, .slice A2 reps.length c2, .slice A3 acc.length c3, .slice none 0 0] ∧ RAcc reqR 61 w1 wr (.slice A reqs.length c) reqs ∧ RAcc repR 62 w1 wr (.slice A2 reps.length c2) reps ∧ RAcc modR 41 w1 wr (.slice A3 acc.length c3) acc) (fun i _ => excs.length - (intOf i).toNat)
                case atStart => exact ⟨0, [], none, 0, Nat.zero_le _, rfl, rfl, rfl, hG, haccR, haccP, ROwn.nil _ _, haccR.below⟩
                case round =>
                  clear hG haccR haccP
                  obtain ⟨k, acc, A3, c3, hk, rfl, hL, hE, hG, haccR, haccP, hacc⟩ := hrel
                  have HL := Lib.hid hL
                  have hal : acc.length ≤ k := by rw [hL, List.length_take]; omega
                  have HE := Lib.hid hE
                  clear hL hE
                  have u0 : wr.cell? ⟨w.heap.size, 4, none⟩ = some (.slice xa excs.length xc) := (HB1.out.below hacc.below).cell 4
                  by_cases hlt : k < excs.length
                  · obtain ⟨-, hcap, hsp⟩ := (HX1.out.below hacc.below).spot
                    obtain ⟨g, o, rfl, hg, hat⟩ := hsp (ne_of_lt hlt)
                    obtain ⟨q1, q2⟩ := mod_at hat k hlt
                    obtain ⟨z1, z2⟩ := S3.out _ (List.getElem_mem hlt)
                    have HN := Lib.hid (show acc ++ [excs[k]] = excs.take (k + 1) by rw [HL.out, List.take_succ_eq_append_getElem hlt])
                    have HO := Lib.hid (fun e => acc_on HE.out hlt e)
                    have HH := Lib.hid (fun e => by have h1 := acc_stop HE.out hlt e; rw [← QX.out] at h1; exact (Q4.out (by rw [h1]; exact e)).trans h1)
                    rw [← HL.out] at HO HH
                    clear hat hsp
                    generalize excs[k] = x at *
                    obtain ⟨p, v⟩ := x
                    dsimp only at q1 q2 z1 z2
                    have i0 : (0 : Int) ≤ (k : Int) := by omega
                    have i1 : (k : Int) < (excs.length : Int) := by omega
                    go_wp2_with fail
                    refine (rmod_any p v (by omega) (by omega) _).mono ?_
                    rintro _ w2 ⟨rfl, hb2⟩
                    replace hG := hG.below hb2
                    replace haccR := haccR.call hb2
                    replace haccP := haccP.call hb2
                    replace hacc := hacc.call hb2
                    replace q1 := (hb2.cell (p := ⟨g, o + k * 2, none⟩) hg).trans q1
                    replace q2 := (hb2.cell (p := ⟨g, o + k * 2 + 1, none⟩) hg).trans q2
                    replace hg := Nat.lt_of_lt_of_le hg hb2.size
                    clear u0 hb2
                    have u0 : w2.cell? ⟨w.heap.size, 4, none⟩ = some (.slice (some ⟨g, o, none⟩) excs.length xc) := (HB1.out.below hacc.below).cell 4
                    have g0 : w2.cell? ⟨w1.heap.size, 0, none⟩ = some (.string ⟨#[]⟩) := hG.cell 0
                    have g1 : w2.cell? ⟨w1.heap.size, 1, none⟩ = some (.string ⟨#[]⟩) := hG.cell 1
                    have g2 : w2.cell? ⟨w1.heap.size, 2, none⟩ = some (.slice A reqs.length c) := hG.cell 2
                    have g3 : w2.cell? ⟨w1.heap.size, 3, none⟩ = some (.slice A2 reps.length c2) := hG.cell 3
                    have g4 : w2.cell? ⟨w1.heap.size, 4, none⟩ = some (.slice A3 acc.length c3) := hG.cell 4
                    have g5 : w2.cell? ⟨w1.heap.size, 5, none⟩ = some (.slice none 0 0) := hG.cell 5
                    by_cases h2 : modE (p, v) = 0
                    · cases ha : acc.any (fun a => sameM a (p, v))
                      · have HE2 := Lib.hid (HO.out (excE_0 (x := (p, v)) h2 ha))
                        rw [h2]
                        clear h2
                        go_wp2
                        go_region_held3 (fun w' => w'.cell? ⟨w1.heap.size, 0, none⟩ = some (.string ⟨#[]⟩) ∧ w'.cell? ⟨w1.heap.size, 1, none⟩ = some (.string ⟨#[]⟩) ∧ w'.cell? ⟨w1.heap.size, 2, none⟩ = some (.slice A reqs.length c) ∧ w'.cell? ⟨w1.heap.size, 3, none⟩ = some (.slice A2 reps.length c2) ∧ w'.cell? ⟨w1.heap.size, 4, none⟩ = some (.slice A3 acc.length c3) ∧ w'.cell? ⟨w1.heap.size, 5, none⟩ = some (.slice none 0 0) ∧ w'.cell? ⟨w.heap.size, 4, none⟩ = some (.slice (some ⟨g, o, none⟩) excs.length xc) ∧ w'.cell? ⟨g, o + k * 2, none⟩ = some (.string p) ∧ w'.cell? ⟨g, o + k * 2 + 1, none⟩ = some (.string v))
                          (first | go_keep | assumption | exact ⟨m0, m1, m2, m3, m4, m5, u3, k1, k2⟩)
                          (first
                            | (go_at_call 79; refine (again_any _ _ reqs reps acc (by omega) (by omega) (by omega) (.slice A reqs.length c) (.slice A2 reps.length c2) (.slice A3 acc.length c3) _ _ _ _ _ _ _ _ p v w2.drew haccR.drew.own.row haccP.drew.own.row hacc.drew.own.row).mono ?_; rw [againG_x NP.out NM.out ha]; rintro e w3 ⟨rfl, hb3'⟩; have hb3 := (below_drewN' (n := 1) hb3' : Below w2.heap.size w2 w3); have hG3 := hG.below hb3; have m0 : w3.cell? ⟨w1.heap.size, 0, none⟩ = some (.string ⟨#[]⟩) := hG3.cell 0; have m1 : w3.cell? ⟨w1.heap.size, 1, none⟩ = some (.string ⟨#[]⟩) := hG3.cell 1; have m2 : w3.cell? ⟨w1.heap.size, 2, none⟩ = some (.slice A reqs.length c) := hG3.cell 2; have m3 : w3.cell? ⟨w1.heap.size, 3, none⟩ = some (.slice A2 reps.length c2) := hG3.cell 3; have m4 : w3.cell? ⟨w1.heap.size, 4, none⟩ = some (.slice A3 acc.length c3) := hG3.cell 4; have m5 : w3.cell? ⟨w1.heap.size, 5, none⟩ = some (.slice none 0 0) := hG3.cell 5; have haccR3 := haccR.call hb3; have haccP3 := haccP.call hb3; have hacc3 := hacc.call hb3; have u3 : w3.cell? ⟨w.heap.size, 4, none⟩ = some (.slice (some ⟨g, o, none⟩) excs.length xc) := (HB1.out.below hacc3.below).cell 4; have k1 := (hb3.cell (p := ⟨g, o + k * 2, none⟩) hg).trans q1; have k2 := (hb3.cell (p := ⟨g, o + k * 2 + 1, none⟩) hg).trans q2; have hg3 := Nat.lt_of_lt_of_le hg hb3.size))
                        rename_i hheld
                        clear hheld g0 g1 g2 g3 g4 g5 u0 q1 q2 hb3' hb3 hG hacc haccR haccP ha
                        have ma4 : ∀ o, (w3.alloc o).cell? ⟨w1.heap.size, 4, none⟩ = some (.slice A3 acc.length c3) := fun o => (hG3.alloc o).cell 4
                        go_wp2
                        go_region_law (refine step_racc modT rfl _ _ rfl (hacc3.alloc _).drew rfl (RRow.oneD _ (p, v) _ _ (by simp) rfl) rfl (by simp; omega) ?_; intro A4 c4 acc4 w4 hgr; have hG4 := (hG3.alloc _).drew.grew (hacc3.alloc _).drew.own hgr (by decide); have haccR4 := (haccR3.alloc _).drew.other (hacc3.alloc _).drew.own hgr (by decide); have haccP4 := (haccP3.alloc _).drew.other (hacc3.alloc _).drew.own hgr (by decide); have kc : w4.cell? ⟨w1.heap.size, 4, none⟩ = some (.slice A3 acc.length c3) := hG4.cell 4; have kf := hG4.frozen 4; have hacc4 := hgr.acc; have HL4 := Lib.hid hgr.list; clear hgr)
                        all_goals
                          go_wp2
                          go_roundw
                          case rel => exact ⟨k + 1, acc4, A4, c4, by omega, by go_num, HL4.out.trans HN.out, HE2.out, hG4.set 4 _, haccR4.set hG4 (by decide) (Nat.le_refl _), haccP4.set hG4 (by decide) (Nat.le_refl _), hacc4.set hG4 (by decide) (Nat.le_refl _)⟩
                          case measure => simp [intOf]; omega
                      · have HE2 := Lib.hid ((HH.out (by rw [excE_a (x := (p, v)) h2 ha]; decide)).trans (excE_a (x := (p, v)) h2 ha))
                        rw [h2]
                        clear h2
                        go_wp2
                        go_region_held3 (fun w' => w'.cell? ⟨w1.heap.size, 0, none⟩ = some (.string ⟨#[]⟩) ∧ w'.cell? ⟨w1.heap.size, 1, none⟩ = some (.string ⟨#[]⟩) ∧ w'.cell? ⟨w1.heap.size, 2, none⟩ = some (.slice A reqs.length c) ∧ w'.cell? ⟨w1.heap.size, 3, none⟩ = some (.slice A2 reps.length c2) ∧ w'.cell? ⟨w1.heap.size, 4, none⟩ = some (.slice A3 acc.length c3) ∧ w'.cell? ⟨w1.heap.size, 5, none⟩ = some (.slice none 0 0) ∧ w'.cell? ⟨w.heap.size, 4, none⟩ = some (.slice (some ⟨g, o, none⟩) excs.length xc) ∧ w'.cell? ⟨g, o + k * 2, none⟩ = some (.string p) ∧ w'.cell? ⟨g, o + k * 2 + 1, none⟩ = some (.string v))
                          (first | go_keep | assumption | exact ⟨m0, m1, m2, m3, m4, m5, u3, k1, k2⟩)
                          (first
                            | (go_at_call 79; refine (again_any _ _ reqs reps acc (by omega) (by omega) (by omega) (.slice A reqs.length c) (.slice A2 reps.length c2) (.slice A3 acc.length c3) _ _ _ _ _ _ _ _ p v w2.drew haccR.drew.own.row haccP.drew.own.row hacc.drew.own.row).mono ?_; rw [againG_x NP.out NM.out ha]; rintro e w3 ⟨rfl, hb3'⟩; have hb3 := (below_drewN' (n := 1) hb3' : Below w2.heap.size w2 w3); have hG3 := hG.below hb3; have m0 : w3.cell? ⟨w1.heap.size, 0, none⟩ = some (.string ⟨#[]⟩) := hG3.cell 0; have m1 : w3.cell? ⟨w1.heap.size, 1, none⟩ = some (.string ⟨#[]⟩) := hG3.cell 1; have m2 : w3.cell? ⟨w1.heap.size, 2, none⟩ = some (.slice A reqs.length c) := hG3.cell 2; have m3 : w3.cell? ⟨w1.heap.size, 3, none⟩ = some (.slice A2 reps.length c2) := hG3.cell 3; have m4 : w3.cell? ⟨w1.heap.size, 4, none⟩ = some (.slice A3 acc.length c3) := hG3.cell 4; have m5 : w3.cell? ⟨w1.heap.size, 5, none⟩ = some (.slice none 0 0) := hG3.cell 5; have haccR3 := haccR.call hb3; have haccP3 := haccP.call hb3; have hacc3 := hacc.call hb3; have u3 : w3.cell? ⟨w.heap.size, 4, none⟩ = some (.slice (some ⟨g, o, none⟩) excs.length xc) := (HB1.out.below hacc3.below).cell 4; have k1 := (hb3.cell (p := ⟨g, o + k * 2, none⟩) hg).trans q1; have k2 := (hb3.cell (p := ⟨g, o + k * 2 + 1, none⟩) hg).trans q2; have hg3 := Nat.lt_of_lt_of_le hg hb3.size))
                        rename_i hheld
                        clear hheld g0 g1 g2 g3 g4 g5 u0 q1 q2 hb3' hb3 hG hacc haccR haccP ha
                        go_wp2
                        go_ret
                        exact ⟨ret_int HE2.out.symm, HZ.out.trans (hacc3.below.mono HZ.out.size)⟩
                    · have HE2 := Lib.hid ((HH.out (by rw [excE_m (x := (p, v)) h2]; exact h2)).trans (excE_m (x := (p, v)) h2))
                      generalize modE (p, v) = e at *
                      have h2' : (e == 0) = false := by simp [h2]
                      have h2'' : (e != 0) = true := by simp [h2]
                      clear h2
                      go_wp2
                      go_quiet (fail)
                      go_wp2
                      go_ret
                      exact ⟨ret_int HE2.out.symm, below_drewN (HZ.out.trans (hacc.below.mono HZ.out.size)) _⟩
                  · obtain rfl : k = excs.length := by omega
                    have HR0 := Lib.hid (QX.out.trans HE.out)
                    have QT := Lib.hid (show allE retF rets (excsE ⟨mo, go, reqs, reps, excs, rets⟩) = allE retF rets 0 by rw [HR0.out])
                    change Hid (chkE ⟨mo, go, reqs, reps, excs, rets⟩ = allE retF rets 0) at QT
                    have hBw := hacc.below
                    clear HL HE QX Q4 hacc haccR haccP hG
                    go_wp2
                    clear u0
                    obtain ⟨v2, hv2⟩ : ∃ v, v = wr := ⟨_, rfl⟩
                    subst hv2
                    go_loopw [9] (fun i wr => ∃ k : Nat, k ≤ rets.length ∧ i = .int .i64 k ∧ accE retF rets 0 k = 0 ∧ Below w1.heap.size w1 wr) (fun i _ => rets.length - (intOf i).toNat)
                    case atStart => exact ⟨0, Nat.zero_le _, rfl, rfl, hBw⟩
                    case round =>
                      clear hBw
                      obtain ⟨k, hk, rfl, hE, hBw⟩ := hrel
                      have HE := Lib.hid hE
                      clear hE
                      have u0 : wr.cell? ⟨w.heap.size, 5, none⟩ = some (.slice ta rets.length tc) := (HB1.out.below hBw).cell 5
                      by_cases hlt : k < rets.length
                      · obtain ⟨-, hcap, hsp⟩ := (HT1.out.below hBw).spot
                        obtain ⟨g, o, rfl, hg, hat⟩ := hsp (ne_of_lt hlt)
                        obtain ⟨q1, q2, q3⟩ := ret_at hat k hlt
                        obtain ⟨z1, z2, z3⟩ := S4.out _ (List.getElem_mem hlt)
                        have HO := Lib.hid (fun e => acc_on HE.out hlt e)
                        have HH := Lib.hid (fun e => QT.out.trans (acc_stop HE.out hlt e))
                        unfold retF at HO HH
                        clear hat hsp
                        generalize rets[k] = x at *
                        obtain ⟨p, v, y⟩ := x
                        dsimp only at q1 q2 q3 z1 z2 z3 HO HH
                        have i0 : (0 : Int) ≤ (k : Int) := by omega
                        have i1 : (k : Int) < (rets.length : Int) := by omega
                        go_wp2_with fail
                        refine (rretracted_any p v y (by omega) (by omega) _).mono ?_
                        rintro _ w2 ⟨rfl, hb2⟩
                        replace q3 := (hb2.cell (p := ⟨g, o + k * 3 + 2, none⟩) hg).trans q3
                        replace hBw := hBw.trans (hb2.mono hBw.size)
                        clear u0 hb2 q1 q2
                        have u0 : w2.cell? ⟨w.heap.size, 5, none⟩ = some (.slice (some ⟨g, o, none⟩) rets.length tc) := (HB1.out.below hBw).cell 5
                        by_cases h2 : retE (p, v, y) = 0
                        · cases hy : whyB y.data.toList
                          · have HE2 := Lib.hid ((HH.out (by rw [h2, whyE, hy]; decide)).trans (show orI (retE (p, v, y)) (whyE y) = 51 by rw [h2, whyE, hy]; rfl))
                            have HW := Lib.hid (fun w => why_at y (by omega) hy w)
                            rw [h2]
                            clear h2 hy
                            go_wp2_with fail
                            refine (HW.out _).mono ?_
                            rintro _ w3 ⟨rfl, rfl⟩
                            go_wp2
                            go_ret
                            exact ⟨ret_int HE2.out.symm, HZ.out.trans (hBw.mono HZ.out.size)⟩
                          · have HE2 := Lib.hid (HO.out (show orI (retE (p, v, y)) (whyE y) = 0 by rw [h2, whyE, hy]; rfl))
                            have HW := Lib.hid (fun w => why_at y (by omega) hy w)
                            rw [h2]
                            clear h2 hy
                            go_wp2_with fail
                            refine (HW.out _).mono ?_
                            rintro _ w3 ⟨rfl, rfl⟩
                            go_wp2
                            go_roundw
                            case rel => exact ⟨k + 1, by omega, by go_num, HE2.out, hBw⟩
                            case measure => simp [intOf]; omega
                        · have HE2 := Lib.hid ((HH.out (by rw [orI, if_neg h2]; exact h2)).trans (show orI (retE (p, v, y)) (whyE y) = retE (p, v, y) by rw [orI, if_neg h2]))
                          generalize retE (p, v, y) = e at *
                          have h2' : (e == 0) = false := by simp [h2]
                          have h2'' : (e != 0) = true := by simp [h2]
                          clear h2
                          go_wp2
                          go_ret
                          exact ⟨ret_int HE2.out.symm, HZ.out.trans (hBw.mono HZ.out.size)⟩
                      · obtain rfl : k = rets.length := by omega
                        have HE2 := Lib.hid (QT.out.trans HE.out)
                        go_wp2
                        go_ret
                        exact ⟨ret_int HE2.out.symm, HZ.out.trans (hBw.mono HZ.out.size)⟩
      · have HGE := GB.out gb
        have HE := Lib.hid ((Q1.out (by rw [QS.out, H1.out, HGE]; decide)).trans (show startE ⟨mo, go, reqs, reps, excs, rets⟩ = 30 by rw [QS.out, H1.out, HGE]; rfl))
        clear HGE GB GG gb
        go_wp2
        go_ret
        exact ⟨ret_int HE.out.symm, hb0.trans (hb1.mono hb0.size)⟩
  · have HE := Lib.hid ((Q1.out (by rw [QS.out, orI, if_neg h1]; exact h1)).trans (by rw [QS.out, orI, if_neg h1]))
    generalize moduleN mo = e at *
    have h1' : (e != 0) = true := by simp [h1]
    clear h1
    go_wp2
    go_ret
    exact ⟨ret_int HE.out.symm, hb0.trans (hb1.mono hb0.size)⟩
end Go.Proofs.YtmdlmjcejeejfaaGreatDoor
