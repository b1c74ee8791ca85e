/-
  The walk of ShowRequires.
-/
import Derived.Test.YtmdlmjcejeejfaaGreatDoorH1
namespace Go.Proofs.YtmdlmjcejeejfaaGreatDoor
open Go.RowKit Go.Shelf

set_option maxRecDepth 100000 in
set_option maxHeartbeats 16000000 in
theorem showReq_walk (f : FileG) (a b c d : Value) (m1 m2 q : ByteArray) (w : World) (hF : FileAt w a b c d f) :
    Calls Tryz.prog 4 #[.agg #[.string f.mo, .string f.go, a, b, c, d], .agg #[.string m1, .string m2], .string q] w fun e w' => e = .returned (.bool true) ∧ Below w.heap.size w w' := by
  obtain ⟨mo, go, reqs, reps, excs, rets⟩ := f
  have HF0 := Lib.hid hF
  obtain ⟨hr, hp, hx, ht⟩ := hF
  dsimp only at *
  obtain ⟨ra, rc, rfl⟩ := hr.form
  obtain ⟨pa, pc, rfl⟩ := hp.form
  obtain ⟨xa, xc, rfl⟩ := hx.form
  obtain ⟨ta, tc, rfl⟩ := ht.form
  clear hr hp hx ht
  have hB := ((Below.refl w.heap.size w).alloc (Nat.le_refl _) (.cells #[.string mo, .string go, .slice ra reqs.length rc, .slice pa reps.length pc, .slice xa excs.length xc, .slice ta rets.length tc] 27)).alloc (by simp) (.cells #[.string m1, .string m2] 41)
  have gF := (GBlk.new w 27 #[.string mo, .string go, .slice ra reqs.length rc, .slice pa reps.length pc, .slice xa excs.length xc, .slice ta rets.length tc]).alloc (.cells #[.string m1, .string m2] 41)
  have gM := GBlk.new (w.alloc (.cells #[.string mo, .string go, .slice ra reqs.length rc, .slice pa reps.length pc, .slice xa excs.length xc, .slice ta rets.length tc] 27)) 41 #[.string m1, .string m2]
  rw [World.size_alloc] at gM
  go_enter Tryz.func4, Tryz.ntmps4
  go_wp2_with fail
  refine (large_file ⟨mo, go, reqs, reps, excs, rets⟩ _ _ _ _ _ (HF0.out.below hB)).mono ?_
  generalize ((w.alloc (.cells #[.string mo, .string go, .slice ra reqs.length rc, .slice pa reps.length pc, .slice xa excs.length xc, .slice ta rets.length tc] 27)).alloc (.cells #[.string m1, .string m2] 41)) = W at *
  rintro _ w1 ⟨bl, rfl, hsm, hb1⟩
  replace hB := hB.trans (hb1.mono hB.size)
  replace gF := gF.below hb1
  replace gM := gM.below hb1
  clear hb1 W
  have e0 : w1.cell? ⟨w.heap.size + 1, 0, none⟩ = some (.string m1) := gM.cell 0
  have e1 : w1.cell? ⟨w.heap.size + 1, 1, none⟩ = some (.string m2) := gM.cell 1
  cases bl
  · have hS := hsm rfl
    have HSm := Lib.hid hS
    clear hsm
    by_cases t0 : 200 < m1.size
    · have t0' : (200 : Int) < (m1.size : Int) := by omega
      go_wp2_with (go_at_call 7; refine (shown_any _).mono ?_; rintro e w9 ⟨rfl, hb9⟩)
      go_ret
      exact ⟨rfl, hB.trans (hb9.mono hB.size)⟩
    · have t0' : ¬ (200 : Int) < (m1.size : Int) := by omega
      by_cases t1 : 200 < m2.size
      · have t1' : (200 : Int) < (m2.size : Int) := by omega
        go_wp2_with (go_at_call 7; refine (shown_any _).mono ?_; rintro e w9 ⟨rfl, hb9⟩)
        go_ret
        exact ⟨rfl, hB.trans (hb9.mono hB.size)⟩
      · have t1' : ¬ (200 : Int) < (m2.size : Int) := by omega
        by_cases t2 : 200 < q.size
        · have t2' : (200 : Int) < (q.size : Int) := by omega
          go_wp2_with (go_at_call 7; refine (shown_any _).mono ?_; rintro e w9 ⟨rfl, hb9⟩)
          go_ret
          exact ⟨rfl, hB.trans (hb9.mono hB.size)⟩
        · have t2' : ¬ (200 : Int) < (q.size : Int) := by omega
          go_wp2_with fail
          refine (shown_any _).mono ?_
          rintro _ w2 ⟨rfl, hb2⟩
          replace hB := hB.trans (hb2.mono hB.size)
          replace gF := gF.below hb2
          replace gM := gM.below hb2
          clear hb2 e0 e1 t0' t1' t2'
          have HS := Lib.hid HSm.out.sized
          have e0 : w2.cell? ⟨w.heap.size + 1, 0, none⟩ = some (.string m1) := gM.cell 0
          have e1 : w2.cell? ⟨w.heap.size + 1, 1, none⟩ = some (.string m2) := gM.cell 1
          have f0 : w2.cell? ⟨w.heap.size, 0, none⟩ = some (.string mo) := gF.cell 0
          have f1 : w2.cell? ⟨w.heap.size, 1, none⟩ = some (.string go) := gF.cell 1
          have f2 : w2.cell? ⟨w.heap.size, 2, none⟩ = some (.slice ra reqs.length rc) := gF.cell 2
          have f3 : w2.cell? ⟨w.heap.size, 3, none⟩ = some (.slice pa reps.length pc) := gF.cell 3
          have f4 : w2.cell? ⟨w.heap.size, 4, none⟩ = some (.slice xa excs.length xc) := gF.cell 4
          have f5 : w2.cell? ⟨w.heap.size, 5, none⟩ = some (.slice ta rets.length tc) := gF.cell 5
          go_wp2_with fail
          refine (require_file ⟨mo, go, reqs, reps, excs, rets⟩ HS.out m1 m2 (by omega) (by omega) _ _ _ _ _ (HF0.out.below hB)).mono ?_
          intro e wa hfe
          obtain ⟨A0, c0, A1, c1, A2, c2, A3, c3, rfl, hFa, hb3⟩ := hfe.forms
          clear hfe
          have HZ := Lib.hid (reqO_sized (m := (m1, m2)) HS.out (show reqs.length ≤ 900 by have := HSm.out.nreqs; simp only at this; omega) (show m1.size ≤ 20000 by omega) (show m2.size ≤ 20000 by omega))
          have T1 := Lib.hid (show m1.size ≤ 200 by omega)
          have T2 := Lib.hid (show m2.size ≤ 200 by omega)
          clear t0 t1 t2 HSm
          generalize hR : reqO ⟨mo, go, reqs, reps, excs, rets⟩ (m1, m2) = R at *
          have HQ := Lib.hid hR
          clear hR
          obtain ⟨⟨pmo, pgo, preqs, preps, pexcs, prets⟩, er⟩ := R
          dsimp only at hFa HZ ⊢
          replace hB := hB.trans (hb3.mono hB.size)
          replace gF := (gF.below hb3).alloc (.cells #[.string pmo, .string pgo, .slice A0 preqs.length c0, .slice A1 preps.length c1, .slice A2 pexcs.length c2, .slice A3 prets.length c3] 27)
          replace gM := (gM.below hb3).alloc (.cells #[.string pmo, .string pgo, .slice A0 preqs.length c0, .slice A1 preps.length c1, .slice A2 pexcs.length c2, .slice A3 prets.length c3] 27)
          have gA := GBlk.new wa 27 #[.string pmo, .string pgo, .slice A0 preqs.length c0, .slice A1 preps.length c1, .slice A2 pexcs.length c2, .slice A3 prets.length c3]
          have hB3 := hB.alloc hB.size (.cells #[.string pmo, .string pgo, .slice A0 preqs.length c0, .slice A1 preps.length c1, .slice A2 pexcs.length c2, .slice A3 prets.length c3] 27)
          have hFa3 := hFa.below ((Below.refl _ _).alloc (Nat.le_refl _) (.cells #[.string pmo, .string pgo, .slice A0 preqs.length c0, .slice A1 preps.length c1, .slice A2 pexcs.length c2, .slice A3 prets.length c3] 27))
          clear f0 f1 f2 f3 f4 f5 e0 e1 hb3 hFa hB
          go_upto_region 4 with fail
          generalize wa.alloc (.cells #[.string pmo, .string pgo, .slice A0 preqs.length c0, .slice A1 preps.length c1, .slice A2 pexcs.length c2, .slice A3 prets.length c3] 27) = w4 at *
          have e0 : w4.cell? ⟨w.heap.size + 1, 0, none⟩ = some (.string m1) := gM.cell 0
          have e1 : w4.cell? ⟨w.heap.size + 1, 1, none⟩ = some (.string m2) := gM.cell 1
          have f0 : w4.cell? ⟨w.heap.size, 0, none⟩ = some (.string mo) := gF.cell 0
          have f1 : w4.cell? ⟨w.heap.size, 1, none⟩ = some (.string go) := gF.cell 1
          have f2 : w4.cell? ⟨w.heap.size, 2, none⟩ = some (.slice ra reqs.length rc) := gF.cell 2
          have f3 : w4.cell? ⟨w.heap.size, 3, none⟩ = some (.slice pa reps.length pc) := gF.cell 3
          have f4 : w4.cell? ⟨w.heap.size, 4, none⟩ = some (.slice xa excs.length xc) := gF.cell 4
          have f5 : w4.cell? ⟨w.heap.size, 5, none⟩ = some (.slice ta rets.length tc) := gF.cell 5
          have HFa := Lib.hid hFa3
          have HB3 := Lib.hid hB3
          have HgF := Lib.hid gF
          have HgM := Lib.hid gM
          have HgA := Lib.hid gA
          clear hFa3 hB3 gF gM gA
          go_cut [9, 10] (fun s9 s10 wx => ∃ Bb B0 d0 B1 d1 B2 d2 B3 d3, s9 = .pointer (some ⟨Bb, 0, none⟩) ∧ s10 = .int .i64 er ∧ GBlk wx Bb 35 #[.string pmo, .string pgo, .slice B0 preqs.length d0, .slice B1 preps.length d1, .slice B2 pexcs.length d2, .slice B3 prets.length d3] ∧ FileAt wx (.slice B0 preqs.length d0) (.slice B1 preps.length d1) (.slice B2 pexcs.length d2) (.slice B3 prets.length d3) ⟨pmo, pgo, preqs, preps, pexcs, prets⟩ ∧ Below w4.heap.size w4 wx)
          case first =>
            go_region_held3 (fun w' => (w'.cell? ⟨w.heap.size, 0, none⟩ = some (.string mo) ∧ w'.cell? ⟨w.heap.size, 1, none⟩ = some (.string go) ∧ w'.cell? ⟨w.heap.size, 2, none⟩ = some (.slice ra reqs.length rc) ∧ w'.cell? ⟨w.heap.size, 3, none⟩ = some (.slice pa reps.length pc) ∧ w'.cell? ⟨w.heap.size, 4, none⟩ = some (.slice xa excs.length xc) ∧ w'.cell? ⟨w.heap.size, 5, none⟩ = some (.slice ta rets.length tc)) ∧ (w'.cell? ⟨w.heap.size + 1, 0, none⟩ = some (.string m1) ∧ w'.cell? ⟨w.heap.size + 1, 1, none⟩ = some (.string m2)))
              (first | go_keep | with_reducible exact ⟨(HgF6.out.alloc _).cells6, (HgM6.out.alloc _).cells2⟩ | with_reducible exact ⟨(HgF6.out.sixO (Nat.ne_of_lt (HgF.out.below hb5).lt) _ _ _ _ _ _).cells6, (HgM6.out.sixO (Nat.ne_of_lt (HgM.out.below hb5).lt) _ _ _ _ _ _).cells2⟩ | with_reducible exact ⟨(HgF6.out.sixO (Nat.ne_of_lt HgF.out.lt) _ _ _ _ _ _).cells6, (HgM6.out.sixO (Nat.ne_of_lt HgM.out.lt) _ _ _ _ _ _).cells2⟩ | with_reducible exact K6.out | with_reducible exact K5.out)
              (first
                | (go_at_call 14; refine (rrequire_file ⟨mo, go, reqs, reps, excs, rets⟩ HS.out m1 m2 (Nat.le_trans T1.out (by decide)) (Nat.le_trans T2.out (by decide)) _ _ _ _ _ (by first | with_reducible exact hT | with_reducible exact hT.alloc _)).mono ?_; rw [HQ.out]; intro e w6 hfe; obtain ⟨B0, d0, B1, d1, B2, d2, B3, d3, rfl, hFb, hb6', hO6⟩ := hfe.forms; have hb6 : Below w5.heap.size w5 w6 := (by first | with_reducible exact hb6' | with_reducible exact below_zero2 hb6'); have HgF6 := Lib.hid ((HgF.out.below hb5).below hb6); have HgM6 := Lib.hid ((HgM.out.below hb5).below hb6); have K6 := Lib.hid (show (w6.cell? ⟨w.heap.size, 0, none⟩ = some (.string mo) ∧ w6.cell? ⟨w.heap.size, 1, none⟩ = some (.string go) ∧ w6.cell? ⟨w.heap.size, 2, none⟩ = some (.slice ra reqs.length rc) ∧ w6.cell? ⟨w.heap.size, 3, none⟩ = some (.slice pa reps.length pc) ∧ w6.cell? ⟨w.heap.size, 4, none⟩ = some (.slice xa excs.length xc) ∧ w6.cell? ⟨w.heap.size, 5, none⟩ = some (.slice ta rets.length tc)) ∧ (w6.cell? ⟨w.heap.size + 1, 0, none⟩ = some (.string m1) ∧ w6.cell? ⟨w.heap.size + 1, 1, none⟩ = some (.string m2)) from ⟨((HgF.out.below hb5).below hb6).cells6, ((HgM.out.below hb5).below hb6).cell 0, ((HgM.out.below hb5).below hb6).cell 1⟩); clear hfe; first | (have gZ6 : GBlk w6 w5.heap.size 35 #[.string ⟨#[]⟩, .string ⟨#[]⟩, .slice none 0 0, .slice none 0 0, .slice none 0 0, .slice none 0 0] := (by with_reducible exact gblk_zero2 hb6'); have y0 := gZ6.frozen 0; have y1 := gZ6.frozen 1; have y2 := gZ6.frozen 2; have y3 := gZ6.frozen 3; have y4 := gZ6.frozen 4; have y5 := gZ6.frozen 5; have z0 : w6.cell? ⟨w5.heap.size, 0, none⟩ = some (.string ⟨#[]⟩) := gZ6.cell 0; have z1 : w6.cell? ⟨w5.heap.size, 1, none⟩ = some (.string ⟨#[]⟩) := gZ6.cell 1; have z2 : w6.cell? ⟨w5.heap.size, 2, none⟩ = some (.slice none 0 0) := gZ6.cell 2; have z3 : w6.cell? ⟨w5.heap.size, 3, none⟩ = some (.slice none 0 0) := gZ6.cell 3; have z4 : w6.cell? ⟨w5.heap.size, 4, none⟩ = some (.slice none 0 0) := gZ6.cell 4; have z5 : w6.cell? ⟨w5.heap.size, 5, none⟩ = some (.slice none 0 0) := gZ6.cell 5) | (have gZ6 : GBlk w6 w4.heap.size 35 #[.string ⟨#[]⟩, .string ⟨#[]⟩, .slice none 0 0, .slice none 0 0, .slice none 0 0, .slice none 0 0] := gZ5.below hb6'; have y0 := gZ6.frozen 0; have y1 := gZ6.frozen 1; have y2 := gZ6.frozen 2; have y3 := gZ6.frozen 3; have y4 := gZ6.frozen 4; have y5 := gZ6.frozen 5; have z0 : w6.cell? ⟨w4.heap.size, 0, none⟩ = some (.string ⟨#[]⟩) := gZ6.cell 0; have z1 : w6.cell? ⟨w4.heap.size, 1, none⟩ = some (.string ⟨#[]⟩) := gZ6.cell 1; have z2 : w6.cell? ⟨w4.heap.size, 2, none⟩ = some (.slice none 0 0) := gZ6.cell 2; have z3 : w6.cell? ⟨w4.heap.size, 3, none⟩ = some (.slice none 0 0) := gZ6.cell 3; have z4 : w6.cell? ⟨w4.heap.size, 4, none⟩ = some (.slice none 0 0) := gZ6.cell 4; have z5 : w6.cell? ⟨w4.heap.size, 5, none⟩ = some (.slice none 0 0) := gZ6.cell 5) | skip)
                | (go_at_call 9; refine (theirs_file ⟨mo, go, reqs, reps, excs, rets⟩ HS.out.nreqs HS.out.nreps HS.out.nexcs HS.out.nrets _ _ _ _ _ (by first | with_reducible exact (HF0.out.below HB3.out).drew | with_reducible exact ((HF0.out.below HB3.out).alloc _).drew)).mono ?_; rintro e w5 ⟨va, vb, vc, vd, rfl, hT, hb5', hO5⟩; have hb5 : Below w4.heap.size w4 w5 := (by first | with_reducible exact below_drew1 hb5' | with_reducible exact below_zero hb5'); have K5 := Lib.hid (show (w5.cell? ⟨w.heap.size, 0, none⟩ = some (.string mo) ∧ w5.cell? ⟨w.heap.size, 1, none⟩ = some (.string go) ∧ w5.cell? ⟨w.heap.size, 2, none⟩ = some (.slice ra reqs.length rc) ∧ w5.cell? ⟨w.heap.size, 3, none⟩ = some (.slice pa reps.length pc) ∧ w5.cell? ⟨w.heap.size, 4, none⟩ = some (.slice xa excs.length xc) ∧ w5.cell? ⟨w.heap.size, 5, none⟩ = some (.slice ta rets.length tc)) ∧ (w5.cell? ⟨w.heap.size + 1, 0, none⟩ = some (.string m1) ∧ w5.cell? ⟨w.heap.size + 1, 1, none⟩ = some (.string m2)) from ⟨(HgF.out.below hb5).cells6, (HgM.out.below hb5).cell 0, (HgM.out.below hb5).cell 1⟩); first | (have gZ5 : GBlk w5 w4.heap.size 35 #[.string ⟨#[]⟩, .string ⟨#[]⟩, .slice none 0 0, .slice none 0 0, .slice none 0 0, .slice none 0 0] := (by with_reducible exact gblk_zero hb5')) | skip))
            all_goals
              go_wp2_with fail
              go_meet
              have hb56 := hb5.trans (hb6.mono hb5.size)
              first
                | with_reducible exact ⟨_, _, _, _, _, _, _, _, _, rfl, rfl, GBlk.new _ _ _, hFb.alloc _, hb56.alloc hb56.size _⟩
                | with_reducible exact ⟨_, _, _, _, _, _, _, _, _, rfl, rfl, gZ6.six _ _ _ _ _ _, hFb.six (hO6 _ (by simp) (hT.off (Nat.le_refl _))) _ _ _ _ _ _, below_six hb56 hb5.size _ _ _ _ _ _⟩
                | with_reducible exact ⟨_, _, _, _, _, _, _, _, _, rfl, rfl, gZ6.six _ _ _ _ _ _, hFb.six (hO6 _ gZ5.lt (hO5 _ (by simp) ((HF0.out.below HB3.out).off (Nat.le_refl _)))) _ _ _ _ _ _, below_six hb56 (Nat.le_refl _) _ _ _ _ _ _⟩
          case rest =>
            obtain ⟨wx, hwx⟩ : ∃ v, v = wc := ⟨_, rfl⟩
            subst hwx
            obtain ⟨Bb, B0, d0, B1, d1, B2, d2, B3, d3, rfl, rfl, gB, hFb, hbx⟩ := hcut
            have gF := HgF.out.below hbx
            have gM := HgM.out.below hbx
            have gA := HgA.out.below hbx
            have Fa := HFa.out.below hbx
            have Fb := hFb
            have hB := HB3.out.trans (hbx.mono HB3.out.size)
            clear HgF HgM HgA HFa HB3 hbx e0 e1 f0 f1 f2 f3 f4 f5 hFb
            have f0 : wx.cell? ⟨w.heap.size, 0, none⟩ = some (.string mo) := gF.cell 0
            have f1 : wx.cell? ⟨w.heap.size, 1, none⟩ = some (.string go) := gF.cell 1
            have f2 : wx.cell? ⟨w.heap.size, 2, none⟩ = some (.slice ra reqs.length rc) := gF.cell 2
            have f3 : wx.cell? ⟨w.heap.size, 3, none⟩ = some (.slice pa reps.length pc) := gF.cell 3
            have f4 : wx.cell? ⟨w.heap.size, 4, none⟩ = some (.slice xa excs.length xc) := gF.cell 4
            have f5 : wx.cell? ⟨w.heap.size, 5, none⟩ = some (.slice ta rets.length tc) := gF.cell 5
            go_wp2_with fail
            refine (drop_file ⟨mo, go, reqs, reps, excs, rets⟩ HS.out.nreqs HS.out.nreps HS.out.nexcs HS.out.nrets q _ _ _ _ _ (HF0.out.below hB)).mono ?_
            intro e wc hfe
            obtain ⟨C0, k0, C1, k1, C2, k2, C3, k3, rfl, Fc, hb7⟩ := hfe.forms
            clear hfe f0 f1 f2 f3 f4 f5
            have HY := Lib.hid (dropO_sized (q := q) HS.out)
            generalize hR : dropO ⟨mo, go, reqs, reps, excs, rets⟩ q = R at *
            have HD := Lib.hid hR
            clear hR
            obtain ⟨⟨cmo, cgo, creqs, creps, cexcs, crets⟩, hr⟩ := R
            dsimp only at Fc HY ⊢
            replace hB := hB.trans (hb7.mono hB.size)
            replace gF := (gF.below hb7).alloc (.cells #[.string cmo, .string cgo, .slice C0 creqs.length k0, .slice C1 creps.length k1, .slice C2 cexcs.length k2, .slice C3 crets.length k3] 27)
            replace gM := (gM.below hb7).alloc (.cells #[.string cmo, .string cgo, .slice C0 creqs.length k0, .slice C1 creps.length k1, .slice C2 cexcs.length k2, .slice C3 crets.length k3] 27)
            replace gA := (gA.below hb7).alloc (.cells #[.string cmo, .string cgo, .slice C0 creqs.length k0, .slice C1 creps.length k1, .slice C2 cexcs.length k2, .slice C3 crets.length k3] 27)
            replace gB := (gB.below hb7).alloc (.cells #[.string cmo, .string cgo, .slice C0 creqs.length k0, .slice C1 creps.length k1, .slice C2 cexcs.length k2, .slice C3 crets.length k3] 27)
            replace Fa := (Fa.below hb7).alloc (.cells #[.string cmo, .string cgo, .slice C0 creqs.length k0, .slice C1 creps.length k1, .slice C2 cexcs.length k2, .slice C3 crets.length k3] 27)
            replace Fb := (Fb.below hb7).alloc (.cells #[.string cmo, .string cgo, .slice C0 creqs.length k0, .slice C1 creps.length k1, .slice C2 cexcs.length k2, .slice C3 crets.length k3] 27)
            have gC := GBlk.new wc 27 #[.string cmo, .string cgo, .slice C0 creqs.length k0, .slice C1 creps.length k1, .slice C2 cexcs.length k2, .slice C3 crets.length k3]
            replace Fc := Fc.alloc (.cells #[.string cmo, .string cgo, .slice C0 creqs.length k0, .slice C1 creps.length k1, .slice C2 cexcs.length k2, .slice C3 crets.length k3] 27)
            replace hB := hB.alloc hB.size (.cells #[.string cmo, .string cgo, .slice C0 creqs.length k0, .slice C1 creps.length k1, .slice C2 cexcs.length k2, .slice C3 crets.length k3] 27)
            clear hb7
            go_upto_region 6 with fail
            generalize wc.alloc (.cells #[.string cmo, .string cgo, .slice C0 creqs.length k0, .slice C1 creps.length k1, .slice C2 cexcs.length k2, .slice C3 crets.length k3] 27) = w8 at *
            have f0 : w8.cell? ⟨w.heap.size, 0, none⟩ = some (.string mo) := gF.cell 0
            have f1 : w8.cell? ⟨w.heap.size, 1, none⟩ = some (.string go) := gF.cell 1
            have f2 : w8.cell? ⟨w.heap.size, 2, none⟩ = some (.slice ra reqs.length rc) := gF.cell 2
            have f3 : w8.cell? ⟨w.heap.size, 3, none⟩ = some (.slice pa reps.length pc) := gF.cell 3
            have f4 : w8.cell? ⟨w.heap.size, 4, none⟩ = some (.slice xa excs.length xc) := gF.cell 4
            have f5 : w8.cell? ⟨w.heap.size, 5, none⟩ = some (.slice ta rets.length tc) := gF.cell 5
            go_wp2_with fail
            refine (theirs_file ⟨mo, go, reqs, reps, excs, rets⟩ HS.out.nreqs HS.out.nreps HS.out.nexcs HS.out.nrets _ _ _ _ _ (HF0.out.below hB)).mono ?_
            rintro e w9 ⟨va, vb, vc, vd, rfl, hT, hb9, -⟩
            clear f0 f1 f2 f3 f4 f5
            go_wp2_with fail
            refine (rdrop_file ⟨mo, go, reqs, reps, excs, rets⟩ HS.out.nreqs HS.out.nreps HS.out.nexcs HS.out.nrets q _ _ _ _ _ hT).mono ?_
            rw [HD.out]
            intro e wd hfe
            obtain ⟨D0, l0, D1, l1, D2, l2, D3, l3, rfl, Fd, hbd, -⟩ := hfe.forms
            clear hfe hT
            replace hbd := hb9.trans (hbd.mono hb9.size)
            clear hb9
            dsimp only at Fd ⊢
            replace hB := hB.trans (hbd.mono hB.size)
            replace gM := (gM.below hbd).alloc (.cells #[.string cmo, .string cgo, .slice D0 creqs.length l0, .slice D1 creps.length l1, .slice D2 cexcs.length l2, .slice D3 crets.length l3] 35)
            replace gA := (gA.below hbd).alloc (.cells #[.string cmo, .string cgo, .slice D0 creqs.length l0, .slice D1 creps.length l1, .slice D2 cexcs.length l2, .slice D3 crets.length l3] 35)
            replace gB := (gB.below hbd).alloc (.cells #[.string cmo, .string cgo, .slice D0 creqs.length l0, .slice D1 creps.length l1, .slice D2 cexcs.length l2, .slice D3 crets.length l3] 35)
            replace gC := (gC.below hbd).alloc (.cells #[.string cmo, .string cgo, .slice D0 creqs.length l0, .slice D1 creps.length l1, .slice D2 cexcs.length l2, .slice D3 crets.length l3] 35)
            replace Fa := (Fa.below hbd).alloc (.cells #[.string cmo, .string cgo, .slice D0 creqs.length l0, .slice D1 creps.length l1, .slice D2 cexcs.length l2, .slice D3 crets.length l3] 35)
            replace Fb := (Fb.below hbd).alloc (.cells #[.string cmo, .string cgo, .slice D0 creqs.length l0, .slice D1 creps.length l1, .slice D2 cexcs.length l2, .slice D3 crets.length l3] 35)
            replace Fc := (Fc.below hbd).alloc (.cells #[.string cmo, .string cgo, .slice D0 creqs.length l0, .slice D1 creps.length l1, .slice D2 cexcs.length l2, .slice D3 crets.length l3] 35)
            have gD := GBlk.new wd 35 #[.string cmo, .string cgo, .slice D0 creqs.length l0, .slice D1 creps.length l1, .slice D2 cexcs.length l2, .slice D3 crets.length l3]
            replace Fd := Fd.alloc (.cells #[.string cmo, .string cgo, .slice D0 creqs.length l0, .slice D1 creps.length l1, .slice D2 cexcs.length l2, .slice D3 crets.length l3] 35)
            replace hB := hB.alloc hB.size (.cells #[.string cmo, .string cgo, .slice D0 creqs.length l0, .slice D1 creps.length l1, .slice D2 cexcs.length l2, .slice D3 crets.length l3] 35)
            clear hbd gF
            go_upto_region 7 with fail
            generalize wd.alloc (.cells #[.string cmo, .string cgo, .slice D0 creqs.length l0, .slice D1 creps.length l1, .slice D2 cexcs.length l2, .slice D3 crets.length l3] 35) = w10 at *
            have xa0 : w10.cell? ⟨wa.heap.size, 0, none⟩ = some (.string pmo) := gA.cell 0
            have xa1 : w10.cell? ⟨wa.heap.size, 1, none⟩ = some (.string pgo) := gA.cell 1
            have xa2 : w10.cell? ⟨wa.heap.size, 2, none⟩ = some (.slice A0 preqs.length c0) := gA.cell 2
            have xa3 : w10.cell? ⟨wa.heap.size, 3, none⟩ = some (.slice A1 preps.length c1) := gA.cell 3
            have xa4 : w10.cell? ⟨wa.heap.size, 4, none⟩ = some (.slice A2 pexcs.length c2) := gA.cell 4
            have xa5 : w10.cell? ⟨wa.heap.size, 5, none⟩ = some (.slice A3 prets.length c3) := gA.cell 5
            have xb0 : w10.cell? ⟨Bb, 0, none⟩ = some (.string pmo) := gB.cell 0
            have xb1 : w10.cell? ⟨Bb, 1, none⟩ = some (.string pgo) := gB.cell 1
            have xb2 : w10.cell? ⟨Bb, 2, none⟩ = some (.slice B0 preqs.length d0) := gB.cell 2
            have xb3 : w10.cell? ⟨Bb, 3, none⟩ = some (.slice B1 preps.length d1) := gB.cell 3
            have xb4 : w10.cell? ⟨Bb, 4, none⟩ = some (.slice B2 pexcs.length d2) := gB.cell 4
            have xb5 : w10.cell? ⟨Bb, 5, none⟩ = some (.slice B3 prets.length d3) := gB.cell 5
            have xc0 : w10.cell? ⟨wc.heap.size, 0, none⟩ = some (.string cmo) := gC.cell 0
            have xc1 : w10.cell? ⟨wc.heap.size, 1, none⟩ = some (.string cgo) := gC.cell 1
            have xc2 : w10.cell? ⟨wc.heap.size, 2, none⟩ = some (.slice C0 creqs.length k0) := gC.cell 2
            have xc3 : w10.cell? ⟨wc.heap.size, 3, none⟩ = some (.slice C1 creps.length k1) := gC.cell 3
            have xc4 : w10.cell? ⟨wc.heap.size, 4, none⟩ = some (.slice C2 cexcs.length k2) := gC.cell 4
            have xc5 : w10.cell? ⟨wc.heap.size, 5, none⟩ = some (.slice C3 crets.length k3) := gC.cell 5
            have xd0 : w10.cell? ⟨wd.heap.size, 0, none⟩ = some (.string cmo) := gD.cell 0
            have xd1 : w10.cell? ⟨wd.heap.size, 1, none⟩ = some (.string cgo) := gD.cell 1
            have xd2 : w10.cell? ⟨wd.heap.size, 2, none⟩ = some (.slice D0 creqs.length l0) := gD.cell 2
            have xd3 : w10.cell? ⟨wd.heap.size, 3, none⟩ = some (.slice D1 creps.length l1) := gD.cell 3
            have xd4 : w10.cell? ⟨wd.heap.size, 4, none⟩ = some (.slice D2 cexcs.length l2) := gD.cell 4
            have xd5 : w10.cell? ⟨wd.heap.size, 5, none⟩ = some (.slice D3 crets.length l3) := gD.cell 5
            have HgM := Lib.hid gM
            have HgA := Lib.hid gA
            have HgB := Lib.hid gB
            have HgC := Lib.hid gC
            have HgD := Lib.hid gD
            have HFa := Lib.hid Fa
            have HFb := Lib.hid Fb
            have HFc := Lib.hid Fc
            have HFd := Lib.hid Fd
            have HhB := Lib.hid hB
            clear gM gA gB gC gD Fa Fb Fc Fd hB
            go_region_held3 (fun w' => (w'.cell? ⟨wa.heap.size, 0, none⟩ = some (.string pmo) ∧ w'.cell? ⟨wa.heap.size, 1, none⟩ = some (.string pgo) ∧ w'.cell? ⟨wa.heap.size, 2, none⟩ = some (.slice A0 preqs.length c0) ∧ w'.cell? ⟨wa.heap.size, 3, none⟩ = some (.slice A1 preps.length c1) ∧ w'.cell? ⟨wa.heap.size, 4, none⟩ = some (.slice A2 pexcs.length c2) ∧ w'.cell? ⟨wa.heap.size, 5, none⟩ = some (.slice A3 prets.length c3)) ∧ (w'.cell? ⟨Bb, 0, none⟩ = some (.string pmo) ∧ w'.cell? ⟨Bb, 1, none⟩ = some (.string pgo) ∧ w'.cell? ⟨Bb, 2, none⟩ = some (.slice B0 preqs.length d0) ∧ w'.cell? ⟨Bb, 3, none⟩ = some (.slice B1 preps.length d1) ∧ w'.cell? ⟨Bb, 4, none⟩ = some (.slice B2 pexcs.length d2) ∧ w'.cell? ⟨Bb, 5, none⟩ = some (.slice B3 prets.length d3)) ∧ (w'.cell? ⟨wc.heap.size, 0, none⟩ = some (.string cmo) ∧ w'.cell? ⟨wc.heap.size, 1, none⟩ = some (.string cgo) ∧ w'.cell? ⟨wc.heap.size, 2, none⟩ = some (.slice C0 creqs.length k0) ∧ w'.cell? ⟨wc.heap.size, 3, none⟩ = some (.slice C1 creps.length k1) ∧ w'.cell? ⟨wc.heap.size, 4, none⟩ = some (.slice C2 cexcs.length k2) ∧ w'.cell? ⟨wc.heap.size, 5, none⟩ = some (.slice C3 crets.length k3)) ∧ (w'.cell? ⟨wd.heap.size, 0, none⟩ = some (.string cmo) ∧ w'.cell? ⟨wd.heap.size, 1, none⟩ = some (.string cgo) ∧ w'.cell? ⟨wd.heap.size, 2, none⟩ = some (.slice D0 creqs.length l0) ∧ w'.cell? ⟨wd.heap.size, 3, none⟩ = some (.slice D1 creps.length l1) ∧ w'.cell? ⟨wd.heap.size, 4, none⟩ = some (.slice D2 cexcs.length l2) ∧ w'.cell? ⟨wd.heap.size, 5, none⟩ = some (.slice D3 crets.length l3)))
              (first | go_keep | with_reducible exact K14.out | with_reducible exact K13.out | with_reducible exact K12.out | with_reducible exact K11.out)
              (first
                | (go_at_call 11; refine (same_file ⟨cmo, cgo, creqs, creps, cexcs, crets⟩ HY.out.nreqs HY.out.nreps HY.out.nexcs HY.out.nrets _ _ _ _ _ _ _ _ _ hT2 (HFd.out.below hb13)).mono ?_; rintro e w14 ⟨rfl, hb14'⟩; have hb14 := hb13.trans (hb14'.mono hb13.size); have K14 := Lib.hid (show (w14.cell? ⟨wa.heap.size, 0, none⟩ = some (.string pmo) ∧ w14.cell? ⟨wa.heap.size, 1, none⟩ = some (.string pgo) ∧ w14.cell? ⟨wa.heap.size, 2, none⟩ = some (.slice A0 preqs.length c0) ∧ w14.cell? ⟨wa.heap.size, 3, none⟩ = some (.slice A1 preps.length c1) ∧ w14.cell? ⟨wa.heap.size, 4, none⟩ = some (.slice A2 pexcs.length c2) ∧ w14.cell? ⟨wa.heap.size, 5, none⟩ = some (.slice A3 prets.length c3)) ∧ (w14.cell? ⟨Bb, 0, none⟩ = some (.string pmo) ∧ w14.cell? ⟨Bb, 1, none⟩ = some (.string pgo) ∧ w14.cell? ⟨Bb, 2, none⟩ = some (.slice B0 preqs.length d0) ∧ w14.cell? ⟨Bb, 3, none⟩ = some (.slice B1 preps.length d1) ∧ w14.cell? ⟨Bb, 4, none⟩ = some (.slice B2 pexcs.length d2) ∧ w14.cell? ⟨Bb, 5, none⟩ = some (.slice B3 prets.length d3)) ∧ (w14.cell? ⟨wc.heap.size, 0, none⟩ = some (.string cmo) ∧ w14.cell? ⟨wc.heap.size, 1, none⟩ = some (.string cgo) ∧ w14.cell? ⟨wc.heap.size, 2, none⟩ = some (.slice C0 creqs.length k0) ∧ w14.cell? ⟨wc.heap.size, 3, none⟩ = some (.slice C1 creps.length k1) ∧ w14.cell? ⟨wc.heap.size, 4, none⟩ = some (.slice C2 cexcs.length k2) ∧ w14.cell? ⟨wc.heap.size, 5, none⟩ = some (.slice C3 crets.length k3)) ∧ (w14.cell? ⟨wd.heap.size, 0, none⟩ = some (.string cmo) ∧ w14.cell? ⟨wd.heap.size, 1, none⟩ = some (.string cgo) ∧ w14.cell? ⟨wd.heap.size, 2, none⟩ = some (.slice D0 creqs.length l0) ∧ w14.cell? ⟨wd.heap.size, 3, none⟩ = some (.slice D1 creps.length l1) ∧ w14.cell? ⟨wd.heap.size, 4, none⟩ = some (.slice D2 cexcs.length l2) ∧ w14.cell? ⟨wd.heap.size, 5, none⟩ = some (.slice D3 crets.length l3)) from ⟨(HgA.out.below hb14).cells6, (HgB.out.below hb14).cells6, (HgC.out.below hb14).cells6, (HgD.out.below hb14).cells6⟩))
                | (go_at_call 9; refine (theirs_file ⟨cmo, cgo, creqs, creps, cexcs, crets⟩ HY.out.nreqs HY.out.nreps HY.out.nexcs HY.out.nrets _ _ _ _ _ (HFc.out.below hb12)).mono ?_; rintro e w13 ⟨va2, vb2, vc2, vd2, rfl, hT2, hb13', -⟩; have hb13 := hb12.trans (hb13'.mono hb12.size); have K13 := Lib.hid (show (w13.cell? ⟨wa.heap.size, 0, none⟩ = some (.string pmo) ∧ w13.cell? ⟨wa.heap.size, 1, none⟩ = some (.string pgo) ∧ w13.cell? ⟨wa.heap.size, 2, none⟩ = some (.slice A0 preqs.length c0) ∧ w13.cell? ⟨wa.heap.size, 3, none⟩ = some (.slice A1 preps.length c1) ∧ w13.cell? ⟨wa.heap.size, 4, none⟩ = some (.slice A2 pexcs.length c2) ∧ w13.cell? ⟨wa.heap.size, 5, none⟩ = some (.slice A3 prets.length c3)) ∧ (w13.cell? ⟨Bb, 0, none⟩ = some (.string pmo) ∧ w13.cell? ⟨Bb, 1, none⟩ = some (.string pgo) ∧ w13.cell? ⟨Bb, 2, none⟩ = some (.slice B0 preqs.length d0) ∧ w13.cell? ⟨Bb, 3, none⟩ = some (.slice B1 preps.length d1) ∧ w13.cell? ⟨Bb, 4, none⟩ = some (.slice B2 pexcs.length d2) ∧ w13.cell? ⟨Bb, 5, none⟩ = some (.slice B3 prets.length d3)) ∧ (w13.cell? ⟨wc.heap.size, 0, none⟩ = some (.string cmo) ∧ w13.cell? ⟨wc.heap.size, 1, none⟩ = some (.string cgo) ∧ w13.cell? ⟨wc.heap.size, 2, none⟩ = some (.slice C0 creqs.length k0) ∧ w13.cell? ⟨wc.heap.size, 3, none⟩ = some (.slice C1 creps.length k1) ∧ w13.cell? ⟨wc.heap.size, 4, none⟩ = some (.slice C2 cexcs.length k2) ∧ w13.cell? ⟨wc.heap.size, 5, none⟩ = some (.slice C3 crets.length k3)) ∧ (w13.cell? ⟨wd.heap.size, 0, none⟩ = some (.string cmo) ∧ w13.cell? ⟨wd.heap.size, 1, none⟩ = some (.string cgo) ∧ w13.cell? ⟨wd.heap.size, 2, none⟩ = some (.slice D0 creqs.length l0) ∧ w13.cell? ⟨wd.heap.size, 3, none⟩ = some (.slice D1 creps.length l1) ∧ w13.cell? ⟨wd.heap.size, 4, none⟩ = some (.slice D2 cexcs.length l2) ∧ w13.cell? ⟨wd.heap.size, 5, none⟩ = some (.slice D3 crets.length l3)) from ⟨(HgA.out.below hb13).cells6, (HgB.out.below hb13).cells6, (HgC.out.below hb13).cells6, (HgD.out.below hb13).cells6⟩))
                | (go_at_call 11; refine (same_file ⟨pmo, pgo, preqs, preps, pexcs, prets⟩ HZ.out.nreqs HZ.out.nreps HZ.out.nexcs HZ.out.nrets _ _ _ _ _ _ _ _ _ hT (HFb.out.below hb11)).mono ?_; rintro e w12 ⟨rfl, hb12'⟩; have hb12 := hb11.trans (hb12'.mono hb11.size); have K12 := Lib.hid (show (w12.cell? ⟨wa.heap.size, 0, none⟩ = some (.string pmo) ∧ w12.cell? ⟨wa.heap.size, 1, none⟩ = some (.string pgo) ∧ w12.cell? ⟨wa.heap.size, 2, none⟩ = some (.slice A0 preqs.length c0) ∧ w12.cell? ⟨wa.heap.size, 3, none⟩ = some (.slice A1 preps.length c1) ∧ w12.cell? ⟨wa.heap.size, 4, none⟩ = some (.slice A2 pexcs.length c2) ∧ w12.cell? ⟨wa.heap.size, 5, none⟩ = some (.slice A3 prets.length c3)) ∧ (w12.cell? ⟨Bb, 0, none⟩ = some (.string pmo) ∧ w12.cell? ⟨Bb, 1, none⟩ = some (.string pgo) ∧ w12.cell? ⟨Bb, 2, none⟩ = some (.slice B0 preqs.length d0) ∧ w12.cell? ⟨Bb, 3, none⟩ = some (.slice B1 preps.length d1) ∧ w12.cell? ⟨Bb, 4, none⟩ = some (.slice B2 pexcs.length d2) ∧ w12.cell? ⟨Bb, 5, none⟩ = some (.slice B3 prets.length d3)) ∧ (w12.cell? ⟨wc.heap.size, 0, none⟩ = some (.string cmo) ∧ w12.cell? ⟨wc.heap.size, 1, none⟩ = some (.string cgo) ∧ w12.cell? ⟨wc.heap.size, 2, none⟩ = some (.slice C0 creqs.length k0) ∧ w12.cell? ⟨wc.heap.size, 3, none⟩ = some (.slice C1 creps.length k1) ∧ w12.cell? ⟨wc.heap.size, 4, none⟩ = some (.slice C2 cexcs.length k2) ∧ w12.cell? ⟨wc.heap.size, 5, none⟩ = some (.slice C3 crets.length k3)) ∧ (w12.cell? ⟨wd.heap.size, 0, none⟩ = some (.string cmo) ∧ w12.cell? ⟨wd.heap.size, 1, none⟩ = some (.string cgo) ∧ w12.cell? ⟨wd.heap.size, 2, none⟩ = some (.slice D0 creqs.length l0) ∧ w12.cell? ⟨wd.heap.size, 3, none⟩ = some (.slice D1 creps.length l1) ∧ w12.cell? ⟨wd.heap.size, 4, none⟩ = some (.slice D2 cexcs.length l2) ∧ w12.cell? ⟨wd.heap.size, 5, none⟩ = some (.slice D3 crets.length l3)) from ⟨(HgA.out.below hb12).cells6, (HgB.out.below hb12).cells6, (HgC.out.below hb12).cells6, (HgD.out.below hb12).cells6⟩))
                | (go_at_call 9; refine (theirs_file ⟨pmo, pgo, preqs, preps, pexcs, prets⟩ HZ.out.nreqs HZ.out.nreps HZ.out.nexcs HZ.out.nrets _ _ _ _ _ HFa.out.drew).mono ?_; rintro e w11 ⟨va, vb, vc, vd, rfl, hT, hb11', -⟩; have hb11 := below_drew1 hb11'; have K11 := Lib.hid (show (w11.cell? ⟨wa.heap.size, 0, none⟩ = some (.string pmo) ∧ w11.cell? ⟨wa.heap.size, 1, none⟩ = some (.string pgo) ∧ w11.cell? ⟨wa.heap.size, 2, none⟩ = some (.slice A0 preqs.length c0) ∧ w11.cell? ⟨wa.heap.size, 3, none⟩ = some (.slice A1 preps.length c1) ∧ w11.cell? ⟨wa.heap.size, 4, none⟩ = some (.slice A2 pexcs.length c2) ∧ w11.cell? ⟨wa.heap.size, 5, none⟩ = some (.slice A3 prets.length c3)) ∧ (w11.cell? ⟨Bb, 0, none⟩ = some (.string pmo) ∧ w11.cell? ⟨Bb, 1, none⟩ = some (.string pgo) ∧ w11.cell? ⟨Bb, 2, none⟩ = some (.slice B0 preqs.length d0) ∧ w11.cell? ⟨Bb, 3, none⟩ = some (.slice B1 preps.length d1) ∧ w11.cell? ⟨Bb, 4, none⟩ = some (.slice B2 pexcs.length d2) ∧ w11.cell? ⟨Bb, 5, none⟩ = some (.slice B3 prets.length d3)) ∧ (w11.cell? ⟨wc.heap.size, 0, none⟩ = some (.string cmo) ∧ w11.cell? ⟨wc.heap.size, 1, none⟩ = some (.string cgo) ∧ w11.cell? ⟨wc.heap.size, 2, none⟩ = some (.slice C0 creqs.length k0) ∧ w11.cell? ⟨wc.heap.size, 3, none⟩ = some (.slice C1 creps.length k1) ∧ w11.cell? ⟨wc.heap.size, 4, none⟩ = some (.slice C2 cexcs.length k2) ∧ w11.cell? ⟨wc.heap.size, 5, none⟩ = some (.slice C3 crets.length k3)) ∧ (w11.cell? ⟨wd.heap.size, 0, none⟩ = some (.string cmo) ∧ w11.cell? ⟨wd.heap.size, 1, none⟩ = some (.string cgo) ∧ w11.cell? ⟨wd.heap.size, 2, none⟩ = some (.slice D0 creqs.length l0) ∧ w11.cell? ⟨wd.heap.size, 3, none⟩ = some (.slice D1 creps.length l1) ∧ w11.cell? ⟨wd.heap.size, 4, none⟩ = some (.slice D2 cexcs.length l2) ∧ w11.cell? ⟨wd.heap.size, 5, none⟩ = some (.slice D3 crets.length l3)) from ⟨(HgA.out.below hb11).cells6, (HgB.out.below hb11).cells6, (HgC.out.below hb11).cells6, (HgD.out.below hb11).cells6⟩)))
            rename_i hheld
            clear hheld K14 K13 K12 K11 hb11 hb11' hb12 hb12' hb13 hb13' hb14' hT hT2 xa0 xa1 xa2 xa3 xa4 xa5 xb0 xb1 xb2 xb3 xb4 xb5 xc0 xc1 xc2 xc3 xc4 xc5 xd0 xd1 xd2 xd3 xd4 xd5
            have hB := HhB.out.trans (hb14.mono HhB.out.size)
            by_cases he : er = 0
            · subst he
              obtain ⟨hC, hG, hR2, hK⟩ := req_all HQ.out
              dsimp only at hC hG hR2 hK
              have HhC := Lib.hid hC
              have HhG := Lib.hid hG
              have HhR2 := Lib.hid hR2
              have HhK := Lib.hid hK
              clear hC hG hR2 hK
              have gA := HgA.out.below hb14
              have gM := HgM.out.below hb14
              have Fa := HFa.out.below hb14
              clear HgA HgB HgC HgD HgM HFa HFb HFc HFd HhB hb14 HQ HD
              have HgA := Lib.hid gA
              have HgM := Lib.hid gM
              have HFa := Lib.hid Fa
              have HhB := Lib.hid hB
              clear gA gM Fa hB
              go_wp2
              go_loopw [15, 16] (fun n i wr => ∃ (k c : Nat), k ≤ preqs.length ∧ n = .int .i64 c ∧ i = .int .i64 k ∧ c = cntP (preqs.take k) m1 ∧ Below w14.heap.size w14 wr) (fun _ i _ => preqs.length - (intOf i).toNat)
              case atStart => exact ⟨0, 0, Nat.zero_le _, rfl, rfl, rfl, Below.refl _ _⟩
              case round =>
                obtain ⟨k, c, hk, rfl, rfl, hc, hBw⟩ := hrel
                have HCn := Lib.hid hc
                have hck : c ≤ k := by rw [hc]; have := cnt_le (preqs.take k) m1; rw [List.length_take] at this; omega
                have hpl := HZ.out.nreqs
                dsimp only at hpl
                clear hc
                have u0 : wr.cell? ⟨wa.heap.size, 2, none⟩ = some (.slice A0 preqs.length c0) := (HgA.out.below hBw).cell 2
                have u1 : wr.cell? ⟨w.heap.size + 1, 0, none⟩ = some (.string m1) := (HgM.out.below hBw).cell 0
                have u2 : wr.cell? ⟨w.heap.size + 1, 1, none⟩ = some (.string m2) := (HgM.out.below hBw).cell 1
                by_cases hlt : k < preqs.length
                · obtain ⟨-, hcap, hsp⟩ := (HFa.out.below hBw).reqs.spot
                  obtain ⟨g, o, rfl, hg, hat⟩ := hsp (ne_of_lt hlt)
                  obtain ⟨q1, q2, q3⟩ := req_at hat k hlt
                  have HS1 := Lib.hid (fun (h : sameP (preqs[k]'hlt) m1 = true) => cnt_same hlt h)
                  have HS2 := Lib.hid (fun (h : sameP (preqs[k]'hlt) m1 = false) => cnt_other hlt h)
                  have HS3 := Lib.hid (HhG.out _ (List.getElem_mem hlt))
                  have hsz := (HZ.out.reqs _ (List.getElem_mem hlt)).2
                  rw [← HCn.out] at HS1 HS2
                  clear hat hsp q3 HCn
                  unfold sameP at HS1 HS2 HS3
                  dsimp only at q1 q2 HS1 HS2 HS3 hsz
                  generalize preqs[k] = x at *
                  obtain ⟨⟨p, v⟩, bb⟩ := x
                  dsimp only at q1 q2 HS1 HS2 HS3 hsz
                  have i0 : (0 : Int) ≤ (k : Int) := by omega
                  have i1 : (k : Int) < (preqs.length : Int) := by omega
                  cases e : (p.toList == m1.toList)
                  · have HE := Lib.hid (HS2.out e)
                    go_wp2
                    go_quiet (fail)
                    go_wp2
                    go_roundw
                    case rel => exact ⟨k + 1, c, by omega, rfl, by go_num, HE.out.symm, below_drewN hBw _⟩
                    case measure => simp [intOf]; omega
                  · have HE := Lib.hid (HS1.out e)
                    obtain ⟨z, hz⟩ : ∃ z, scmp v.data.toList m2.data.toList = z := ⟨_, rfl⟩
                    have hz0 := HS3.out e
                    rw [hz] at hz0
                    have HZc := Lib.hid hz
                    have hz1 : decide (z < 0) = false := decide_eq_false (by omega)
                    have hz2 : ¬ z < 0 := by omega
                    clear hz HS1 HS2 HS3
                    go_wp2
                    go_quiet (fail)
                    go_wp2
                    go_region_held3 (fun w' => w'.cell? ⟨wa.heap.size, 2, none⟩ = some (.slice (some ⟨g, o, none⟩) preqs.length c0) ∧ w'.cell? ⟨g, o + k * 3 + 1, none⟩ = some (.string v) ∧ w'.cell? ⟨w.heap.size + 1, 1, none⟩ = some (.string m2))
                      (first | go_keep | with_reducible exact K15.out)
                      (first
                        | (go_at_call 17; refine (rcompare_any v m2 (Nat.le_trans hsz (by decide)) (Nat.le_trans T2.out (by decide)) _).mono ?_; rw [HZc.out]; rintro e w15 ⟨rfl, hb15'⟩; have hb15 : Below wr.heap.size wr w15 := ⟨hb15'.os, hb15'.tape, hb15'.output, hb15'.size, hb15'.block⟩; have K15 := Lib.hid (show w15.cell? ⟨wa.heap.size, 2, none⟩ = some (.slice (some ⟨g, o, none⟩) preqs.length c0) ∧ w15.cell? ⟨g, o + k * 3 + 1, none⟩ = some (.string v) ∧ w15.cell? ⟨w.heap.size + 1, 1, none⟩ = some (.string m2) from ⟨((HgA.out.below hBw).below hb15).cell 2, (hb15.cell (p := ⟨g, o + k * 3 + 1, none⟩) hg).trans q2, ((HgM.out.below hBw).below hb15).cell 1⟩)))
                    rename_i hheld
                    clear hheld K15 hb15' q1 q2 u0 u1 u2
                    go_wp2
                    go_roundw
                    case rel => exact ⟨k + 1, c + 1, by omega, by go_num, by go_num, HE.out.symm, hBw.trans (hb15.mono hBw.size)⟩
                    case measure => simp [intOf]; omega
                · obtain rfl : k = preqs.length := by omega
                  have hc1 : c = 1 := by rw [HCn.out, List.take_length]; exact HhC.out
                  subst hc1
                  clear HCn u0 u1 u2
                  have gA := HgA.out.below hBw
                  have gM := HgM.out.below hBw
                  have Fa := HFa.out.below hBw
                  have hB := HhB.out.trans (hBw.mono HhB.out.size)
                  clear HgA HgM HFa HhB hBw
                  have u0 : wr.cell? ⟨w.heap.size + 1, 0, none⟩ = some (.string m1) := gM.cell 0
                  have u1 : wr.cell? ⟨w.heap.size + 1, 1, none⟩ = some (.string m2) := gM.cell 1
                  have xa0 : wr.cell? ⟨wa.heap.size, 0, none⟩ = some (.string pmo) := gA.cell 0
                  have xa1 : wr.cell? ⟨wa.heap.size, 1, none⟩ = some (.string pgo) := gA.cell 1
                  have xa2 : wr.cell? ⟨wa.heap.size, 2, none⟩ = some (.slice A0 preqs.length c0) := gA.cell 2
                  have xa3 : wr.cell? ⟨wa.heap.size, 3, none⟩ = some (.slice A1 preps.length c1) := gA.cell 3
                  have xa4 : wr.cell? ⟨wa.heap.size, 4, none⟩ = some (.slice A2 pexcs.length c2) := gA.cell 4
                  have xa5 : wr.cell? ⟨wa.heap.size, 5, none⟩ = some (.slice A3 prets.length c3) := gA.cell 5
                  go_wp2_with fail
                  refine (require_file ⟨pmo, pgo, preqs, preps, pexcs, prets⟩ HZ.out m1 m2 (Nat.le_trans T1.out (by decide)) (Nat.le_trans T2.out (by decide)) _ _ _ _ _ Fa).mono ?_
                  rw [HhR2.out]
                  intro e wz hfe
                  obtain ⟨E0, s0, E1, s1, E2, s2, E3, s3, rfl, Fz, hbz⟩ := hfe.forms
                  dsimp only at Fz ⊢
                  clear hfe u0 u1 xa0 xa1 xa2 xa3 xa4 xa5
                  replace hB := hB.trans (hbz.mono hB.size)
                  replace gA := (gA.below hbz).alloc (.cells #[.string pmo, .string pgo, .slice E0 preqs.length s0, .slice E1 preps.length s1, .slice E2 pexcs.length s2, .slice E3 prets.length s3] 27)
                  replace Fa := (Fa.below hbz).alloc (.cells #[.string pmo, .string pgo, .slice E0 preqs.length s0, .slice E1 preps.length s1, .slice E2 pexcs.length s2, .slice E3 prets.length s3] 27)
                  have gZ := GBlk.new wz 27 #[.string pmo, .string pgo, .slice E0 preqs.length s0, .slice E1 preps.length s1, .slice E2 pexcs.length s2, .slice E3 prets.length s3]
                  replace Fz := Fz.alloc (.cells #[.string pmo, .string pgo, .slice E0 preqs.length s0, .slice E1 preps.length s1, .slice E2 pexcs.length s2, .slice E3 prets.length s3] 27)
                  replace hB := hB.alloc hB.size (.cells #[.string pmo, .string pgo, .slice E0 preqs.length s0, .slice E1 preps.length s1, .slice E2 pexcs.length s2, .slice E3 prets.length s3] 27)
                  clear hbz gM
                  go_upto_region 20 with fail
                  generalize wz.alloc (.cells #[.string pmo, .string pgo, .slice E0 preqs.length s0, .slice E1 preps.length s1, .slice E2 pexcs.length s2, .slice E3 prets.length s3] 27) = w20 at *
                  have xa0 : w20.cell? ⟨wa.heap.size, 0, none⟩ = some (.string pmo) := gA.cell 0
                  have xa1 : w20.cell? ⟨wa.heap.size, 1, none⟩ = some (.string pgo) := gA.cell 1
                  have xa2 : w20.cell? ⟨wa.heap.size, 2, none⟩ = some (.slice A0 preqs.length c0) := gA.cell 2
                  have xa3 : w20.cell? ⟨wa.heap.size, 3, none⟩ = some (.slice A1 preps.length c1) := gA.cell 3
                  have xa4 : w20.cell? ⟨wa.heap.size, 4, none⟩ = some (.slice A2 pexcs.length c2) := gA.cell 4
                  have xa5 : w20.cell? ⟨wa.heap.size, 5, none⟩ = some (.slice A3 prets.length c3) := gA.cell 5
                  have xz0 : w20.cell? ⟨wz.heap.size, 0, none⟩ = some (.string pmo) := gZ.cell 0
                  have xz1 : w20.cell? ⟨wz.heap.size, 1, none⟩ = some (.string pgo) := gZ.cell 1
                  have xz2 : w20.cell? ⟨wz.heap.size, 2, none⟩ = some (.slice E0 preqs.length s0) := gZ.cell 2
                  have xz3 : w20.cell? ⟨wz.heap.size, 3, none⟩ = some (.slice E1 preps.length s1) := gZ.cell 3
                  have xz4 : w20.cell? ⟨wz.heap.size, 4, none⟩ = some (.slice E2 pexcs.length s2) := gZ.cell 4
                  have xz5 : w20.cell? ⟨wz.heap.size, 5, none⟩ = some (.slice E3 prets.length s3) := gZ.cell 5
                  have HgA := Lib.hid gA
                  have HgZ := Lib.hid gZ
                  have HFa := Lib.hid Fa
                  have HFz := Lib.hid Fz
                  have HhB := Lib.hid hB
                  clear gA gZ Fa Fz hB
                  go_region_held3 (fun w' => (w'.cell? ⟨wz.heap.size, 0, none⟩ = some (.string pmo) ∧ w'.cell? ⟨wz.heap.size, 1, none⟩ = some (.string pgo) ∧ w'.cell? ⟨wz.heap.size, 2, none⟩ = some (.slice E0 preqs.length s0) ∧ w'.cell? ⟨wz.heap.size, 3, none⟩ = some (.slice E1 preps.length s1) ∧ w'.cell? ⟨wz.heap.size, 4, none⟩ = some (.slice E2 pexcs.length s2) ∧ w'.cell? ⟨wz.heap.size, 5, none⟩ = some (.slice E3 prets.length s3)) ∧ (w'.cell? ⟨wa.heap.size, 0, none⟩ = some (.string pmo) ∧ w'.cell? ⟨wa.heap.size, 1, none⟩ = some (.string pgo) ∧ w'.cell? ⟨wa.heap.size, 2, none⟩ = some (.slice A0 preqs.length c0) ∧ w'.cell? ⟨wa.heap.size, 3, none⟩ = some (.slice A1 preps.length c1) ∧ w'.cell? ⟨wa.heap.size, 4, none⟩ = some (.slice A2 pexcs.length c2) ∧ w'.cell? ⟨wa.heap.size, 5, none⟩ = some (.slice A3 prets.length c3)))
                    (first | go_keep | with_reducible exact K24.out | with_reducible exact K23.out | with_reducible exact K22.out | with_reducible exact K21.out)
                    (first
                      | (go_at_call 18; refine (check_file ⟨pmo, pgo, preqs, preps, pexcs, prets⟩ HZ.out _ _ _ _ _ (HFa.out.below hb23)).mono ?_; rw [HhK.out]; rintro e w24 ⟨rfl, hb24'⟩; have hb24 := hb23.trans (hb24'.mono hb23.size); have K24 := Lib.hid (show (w24.cell? ⟨wz.heap.size, 0, none⟩ = some (.string pmo) ∧ w24.cell? ⟨wz.heap.size, 1, none⟩ = some (.string pgo) ∧ w24.cell? ⟨wz.heap.size, 2, none⟩ = some (.slice E0 preqs.length s0) ∧ w24.cell? ⟨wz.heap.size, 3, none⟩ = some (.slice E1 preps.length s1) ∧ w24.cell? ⟨wz.heap.size, 4, none⟩ = some (.slice E2 pexcs.length s2) ∧ w24.cell? ⟨wz.heap.size, 5, none⟩ = some (.slice E3 prets.length s3)) ∧ (w24.cell? ⟨wa.heap.size, 0, none⟩ = some (.string pmo) ∧ w24.cell? ⟨wa.heap.size, 1, none⟩ = some (.string pgo) ∧ w24.cell? ⟨wa.heap.size, 2, none⟩ = some (.slice A0 preqs.length c0) ∧ w24.cell? ⟨wa.heap.size, 3, none⟩ = some (.slice A1 preps.length c1) ∧ w24.cell? ⟨wa.heap.size, 4, none⟩ = some (.slice A2 pexcs.length c2) ∧ w24.cell? ⟨wa.heap.size, 5, none⟩ = some (.slice A3 prets.length c3)) from ⟨(HgZ.out.below hb24).cells6, (HgA.out.below hb24).cells6⟩))
                      | (go_at_call 11; refine (same_file ⟨pmo, pgo, preqs, preps, pexcs, prets⟩ HZ.out.nreqs HZ.out.nreps HZ.out.nexcs HZ.out.nrets _ _ _ _ _ _ _ _ _ (by first | with_reducible exact hT2 | with_reducible exact hT.below hb22') (by first | with_reducible exact hT2 | with_reducible exact hT.below hb22')).mono ?_; rintro e w23 ⟨rfl, hb23'⟩; have hb23 := hb22.trans (hb23'.mono hb22.size); have K23 := Lib.hid (show (w23.cell? ⟨wz.heap.size, 0, none⟩ = some (.string pmo) ∧ w23.cell? ⟨wz.heap.size, 1, none⟩ = some (.string pgo) ∧ w23.cell? ⟨wz.heap.size, 2, none⟩ = some (.slice E0 preqs.length s0) ∧ w23.cell? ⟨wz.heap.size, 3, none⟩ = some (.slice E1 preps.length s1) ∧ w23.cell? ⟨wz.heap.size, 4, none⟩ = some (.slice E2 pexcs.length s2) ∧ w23.cell? ⟨wz.heap.size, 5, none⟩ = some (.slice E3 prets.length s3)) ∧ (w23.cell? ⟨wa.heap.size, 0, none⟩ = some (.string pmo) ∧ w23.cell? ⟨wa.heap.size, 1, none⟩ = some (.string pgo) ∧ w23.cell? ⟨wa.heap.size, 2, none⟩ = some (.slice A0 preqs.length c0) ∧ w23.cell? ⟨wa.heap.size, 3, none⟩ = some (.slice A1 preps.length c1) ∧ w23.cell? ⟨wa.heap.size, 4, none⟩ = some (.slice A2 pexcs.length c2) ∧ w23.cell? ⟨wa.heap.size, 5, none⟩ = some (.slice A3 prets.length c3)) from ⟨(HgZ.out.below hb23).cells6, (HgA.out.below hb23).cells6⟩))
                      | (go_at_call 9; refine (theirs_file ⟨pmo, pgo, preqs, preps, pexcs, prets⟩ HZ.out.nreqs HZ.out.nreps HZ.out.nexcs HZ.out.nrets _ _ _ _ _ (by first | with_reducible exact HFz.out.below hb21 | with_reducible exact HFa.out.below hb21)).mono ?_; rintro e w22 ⟨va2, vb2, vc2, vd2, rfl, hT2, hb22', -⟩; have hb22 := hb21.trans (hb22'.mono hb21.size); have K22 := Lib.hid (show (w22.cell? ⟨wz.heap.size, 0, none⟩ = some (.string pmo) ∧ w22.cell? ⟨wz.heap.size, 1, none⟩ = some (.string pgo) ∧ w22.cell? ⟨wz.heap.size, 2, none⟩ = some (.slice E0 preqs.length s0) ∧ w22.cell? ⟨wz.heap.size, 3, none⟩ = some (.slice E1 preps.length s1) ∧ w22.cell? ⟨wz.heap.size, 4, none⟩ = some (.slice E2 pexcs.length s2) ∧ w22.cell? ⟨wz.heap.size, 5, none⟩ = some (.slice E3 prets.length s3)) ∧ (w22.cell? ⟨wa.heap.size, 0, none⟩ = some (.string pmo) ∧ w22.cell? ⟨wa.heap.size, 1, none⟩ = some (.string pgo) ∧ w22.cell? ⟨wa.heap.size, 2, none⟩ = some (.slice A0 preqs.length c0) ∧ w22.cell? ⟨wa.heap.size, 3, none⟩ = some (.slice A1 preps.length c1) ∧ w22.cell? ⟨wa.heap.size, 4, none⟩ = some (.slice A2 pexcs.length c2) ∧ w22.cell? ⟨wa.heap.size, 5, none⟩ = some (.slice A3 prets.length c3)) from ⟨(HgZ.out.below hb22).cells6, (HgA.out.below hb22).cells6⟩))
                      | (go_at_call 9; refine (theirs_file ⟨pmo, pgo, preqs, preps, pexcs, prets⟩ HZ.out.nreqs HZ.out.nreps HZ.out.nexcs HZ.out.nrets _ _ _ _ _ (by first | with_reducible exact HFz.out.drew | with_reducible exact HFa.out.drew)).mono ?_; rintro e w21 ⟨va, vb, vc, vd, rfl, hT, hb21', -⟩; have hb21 := below_drew1 hb21'; have K21 := Lib.hid (show (w21.cell? ⟨wz.heap.size, 0, none⟩ = some (.string pmo) ∧ w21.cell? ⟨wz.heap.size, 1, none⟩ = some (.string pgo) ∧ w21.cell? ⟨wz.heap.size, 2, none⟩ = some (.slice E0 preqs.length s0) ∧ w21.cell? ⟨wz.heap.size, 3, none⟩ = some (.slice E1 preps.length s1) ∧ w21.cell? ⟨wz.heap.size, 4, none⟩ = some (.slice E2 pexcs.length s2) ∧ w21.cell? ⟨wz.heap.size, 5, none⟩ = some (.slice E3 prets.length s3)) ∧ (w21.cell? ⟨wa.heap.size, 0, none⟩ = some (.string pmo) ∧ w21.cell? ⟨wa.heap.size, 1, none⟩ = some (.string pgo) ∧ w21.cell? ⟨wa.heap.size, 2, none⟩ = some (.slice A0 preqs.length c0) ∧ w21.cell? ⟨wa.heap.size, 3, none⟩ = some (.slice A1 preps.length c1) ∧ w21.cell? ⟨wa.heap.size, 4, none⟩ = some (.slice A2 pexcs.length c2) ∧ w21.cell? ⟨wa.heap.size, 5, none⟩ = some (.slice A3 prets.length c3)) from ⟨(HgZ.out.below hb21).cells6, (HgA.out.below hb21).cells6⟩)))
                  all_goals
                    go_wp2
                    go_ret
                    exact ⟨rfl, HhB.out.trans (hb24.mono HhB.out.size)⟩
            · have he1 : (er != 0) = true := by simp [he]
              have he2 : (er == 0) = false := by simp [he]
              clear he hb14
              go_wp2
              go_ret
              exact ⟨rfl, hB⟩
  · clear hsm
    go_wp2_with (go_at_call 7; refine (shown_any _).mono ?_; rintro e w9 ⟨rfl, hb9⟩)
    go_ret
    exact ⟨rfl, hB.trans (hb9.mono hB.size)⟩
end Go.Proofs.YtmdlmjcejeejfaaGreatDoor
