/-
  The document's own Require.
-/
import Derived.Test.YtmdlmjcejeejfaaGreatDoorE5
import Derived.Test.YtmdlmjcejeejfaaGreatDoorD1
namespace Go.Proofs.YtmdlmjcejeejfaaGreatDoor
open Go.RowKit Go.Shelf

theorem RAcc.setNe {α : Type} {R : Rec α} {et : TypeId} {w0 w : World} {B i : Nat} {v u : Value} {xs : List α} (h : RAcc R et w0 w v xs) (hne : v.ownBlock ≠ some B) (hB : w0.heap.size ≤ B) : RAcc R et w0 (w.setCell ⟨B, i, none⟩ u) v xs := by
  refine ⟨?_, h.below.setCell (p := ⟨B, i, none⟩) hB _⟩
  obtain ⟨hl, ⟨rfl, h0⟩ | ⟨g, cap, cur, rfl, hg, hh, hr⟩⟩ := h.own
  · exact ⟨hl, .inl ⟨rfl, h0⟩⟩
  · refine ⟨hl, .inr ⟨g, cap, cur, rfl, hg, (Below.heap_setCell w ⟨B, i, none⟩ u g ?_).trans hh, hr⟩⟩
    intro e
    exact hne (by simp [Value.ownBlock, e])
theorem lift_same {m : ModB} {r : ReqB} (h : sameP r m.1 = true) : lift m r = ((r.1.1, maxS r.1.2 m.2), r.2) := by rw [lift, if_pos h]
theorem lift_other {m : ModB} {r : ReqB} (h : sameP r m.1 = false) : lift m r = r := by rw [lift, if_neg (by rw [h]; decide)]
theorem map_snoc {α β : Type} {f : α → β} {xs : List α} {k : Nat} (h : k < xs.length) : (xs.take k).map f ++ [f xs[k]] = (xs.take (k + 1)).map f := by rw [List.take_succ_eq_append_getElem h, List.map_append]; rfl
theorem any_snoc {α : Type} {p : α → Bool} {xs : List α} {k : Nat} (h : k < xs.length) : (xs.take (k + 1)).any p = ((xs.take k).any p || p xs[k]) := by rw [List.take_succ_eq_append_getElem h, List.any_append]; simp
theorem raise_any {xs : List ReqB} {m : ModB} (h : xs.any (fun a => sameP a m.1) = true) : raiseL xs m = xs.map (lift m) := by rw [raiseL, if_pos h]
theorem raise_none {xs : List ReqB} {m : ModB} (h : xs.any (fun a => sameP a m.1) = false) : raiseL xs m = xs.map (lift m) ++ [(m, false)] := by
  have e : xs.map (lift m) = xs := by
    conv => rhs; rw [← List.map_id xs]
    apply List.map_congr_left
    intro a ha
    have := List.any_eq_false.1 h a ha
    exact lift_other (by simpa using this)
  rw [raiseL, h, e]; rfl

set_option maxRecDepth 100000 in
set_option maxHeartbeats 8000000 in
theorem rrequire_file (f : FileG) (hS : Sized f) (m1 m2 : ByteArray) (sm1 : m1.size ≤ 20000) (sm2 : m2.size ≤ 20000) (a b c d : Value) (w : World) (hF : FileAt w a b c d f) :
    Calls Tryz.prog 14 #[.agg #[.string f.mo, .string f.go, a, b, c, d], .agg #[.string m1, .string m2]] w (FileErrO (reqO f (m1, m2)) a b c d f w) := by
  have hS2 : Sized (f.with [((m1, m2), false)]) := ⟨hS.mo, hS.go, by simp [FileG.with], hS.nreps, hS.nexcs, hS.nrets, by simp [FileG.with]; exact ⟨sm1, sm2⟩, hS.reps, hS.excs, hS.rets⟩
  obtain ⟨n1, n2, n3, n4⟩ : f.reqs.length ≤ 1000 ∧ f.reps.length ≤ 1000 ∧ f.excs.length ≤ 1000 ∧ f.rets.length ≤ 1000 := ⟨hS.nreqs, hS.nreps, hS.nexcs, hS.nrets⟩
  have SQ := Lib.hid hS.reqs
  obtain ⟨mo, go, reqs, reps, excs, rets⟩ := f
  obtain ⟨hr, hp, hx, ht⟩ := hF
  dsimp only at *
  obtain ⟨ra, rc, rfl⟩ := hr.form
  obtain ⟨pa, pc, rfl⟩ := hp.form
  obtain ⟨xa, xc, rfl⟩ := hx.form
  obtain ⟨ta, tc, rfl⟩ := ht.form
  have hB := ((((Below.refl w.heap.size w).alloc (Nat.le_refl _) (.cells #[.string mo, .string go, .slice ra reqs.length rc, .slice pa reps.length pc, .slice xa excs.length xc, .slice ta rets.length tc] 35)).alloc (by simp) (.cells #[.string m1, .string m2] 41)).alloc (by simp; omega) (.cells #[.string ⟨#[]⟩, .string ⟨#[]⟩, .slice none 0 0, .slice none 0 0, .slice none 0 0, .slice none 0 0] 35))
  have HK := Lib.hid (rcheck_file ⟨mo, go, reqs, reps, excs, rets⟩ hS _ _ _ _ _ ⟨hr.below hB, hp.below hB, hx.below hB, ht.below hB⟩)
  have gF := ((GBlk.new w 35 #[.string mo, .string go, .slice ra reqs.length rc, .slice pa reps.length pc, .slice xa excs.length xc, .slice ta rets.length tc]).alloc (.cells #[.string m1, .string m2] 41)).alloc (.cells #[.string ⟨#[]⟩, .string ⟨#[]⟩, .slice none 0 0, .slice none 0 0, .slice none 0 0, .slice none 0 0] 35)
  have gM := (GBlk.new (w.alloc (.cells #[.string mo, .string go, .slice ra reqs.length rc, .slice pa reps.length pc, .slice xa excs.length xc, .slice ta rets.length tc] 35)) 41 #[.string m1, .string m2]).alloc (.cells #[.string ⟨#[]⟩, .string ⟨#[]⟩, .slice none 0 0, .slice none 0 0, .slice none 0 0, .slice none 0 0] 35)
  have gZ := GBlk.new ((w.alloc (.cells #[.string mo, .string go, .slice ra reqs.length rc, .slice pa reps.length pc, .slice xa excs.length xc, .slice ta rets.length tc] 35)).alloc (.cells #[.string m1, .string m2] 41)) 35 #[.string ⟨#[]⟩, .string ⟨#[]⟩, .slice none 0 0, .slice none 0 0, .slice none 0 0, .slice none 0 0]
  rw [World.size_alloc] at gM
  rw [World.size_alloc, World.size_alloc] at gZ
  have HS := Lib.hid hS2
  have HR := Lib.hid hr
  have HP := Lib.hid hp
  have HX := Lib.hid hx
  have HT := Lib.hid ht
  clear hS hS2 hr hp hx ht
  go_enter Tryz.func14, Tryz.ntmps14
  go_wp2_with fail
  refine HK.out.mono ?_
  generalize (((w.alloc (.cells #[.string mo, .string go, .slice ra reqs.length rc, .slice pa reps.length pc, .slice xa excs.length xc, .slice ta rets.length tc] 35)).alloc (.cells #[.string m1, .string m2] 41)).alloc (.cells #[.string ⟨#[]⟩, .string ⟨#[]⟩, .slice none 0 0, .slice none 0 0, .slice none 0 0, .slice none 0 0] 35)) = W at *
  rintro _ w1 ⟨rfl, hb1⟩
  replace hB := hB.trans (hb1.mono hB.size)
  replace gF := gF.below hb1
  replace gM := gM.below hb1
  replace gZ := gZ.below hb1
  clear HK hb1 W
  by_cases h1 : chkE ⟨mo, go, reqs, reps, excs, rets⟩ = 0
  · have H1 := Lib.hid h1
    rw [h1]
    clear h1
    have e0 : w1.cell? ⟨w.heap.size + 1, 0, none⟩ = some (.string m1) := gM.cell 0
    have e1 : w1.cell? ⟨w.heap.size + 1, 1, none⟩ = some (.string m2) := gM.cell 1
    have fa0 : ∀ o, (w1.alloc o).cell? ⟨w.heap.size, 0, none⟩ = some (.string mo) := fun o => (gF.alloc o).cell 0
    have fa1 : ∀ o, (w1.alloc o).cell? ⟨w.heap.size, 1, none⟩ = some (.string go) := fun o => (gF.alloc o).cell 1
    have fa2 : ∀ o, (w1.alloc o).cell? ⟨w.heap.size, 2, none⟩ = some (.slice ra reqs.length rc) := fun o => (gF.alloc o).cell 2
    have fa3 : ∀ o, (w1.alloc o).cell? ⟨w.heap.size, 3, none⟩ = some (.slice pa reps.length pc) := fun o => (gF.alloc o).cell 3
    have fa4 : ∀ o, (w1.alloc o).cell? ⟨w.heap.size, 4, none⟩ = some (.slice xa excs.length xc) := fun o => (gF.alloc o).cell 4
    have fa5 : ∀ o, (w1.alloc o).cell? ⟨w.heap.size, 5, none⟩ = some (.slice ta rets.length tc) := fun o => (gF.alloc o).cell 5
    have gO := (GBlk.new w1 61 #[.string m1, .string m2, .bool false]).alloc (.cells #[.string mo, .string go, .slice ra reqs.length rc, .slice pa reps.length pc, .slice xa excs.length xc, .slice ta rets.length tc] 35)
    have o0 : ((w1.alloc (.cells #[.string m1, .string m2, .bool false] 61)).alloc (.cells #[.string mo, .string go, .slice ra reqs.length rc, .slice pa reps.length pc, .slice xa excs.length xc, .slice ta rets.length tc] 35)).cell? ⟨w1.heap.size, 0, none⟩ = some (.string m1) := gO.cell 0
    have o1 : ((w1.alloc (.cells #[.string m1, .string m2, .bool false] 61)).alloc (.cells #[.string mo, .string go, .slice ra reqs.length rc, .slice pa reps.length pc, .slice xa excs.length xc, .slice ta rets.length tc] 35)).cell? ⟨w1.heap.size, 1, none⟩ = some (.string m2) := gO.cell 1
    have o2 : ((w1.alloc (.cells #[.string m1, .string m2, .bool false] 61)).alloc (.cells #[.string mo, .string go, .slice ra reqs.length rc, .slice pa reps.length pc, .slice xa excs.length xc, .slice ta rets.length tc] 35)).cell? ⟨w1.heap.size, 2, none⟩ = some (.bool false) := gO.cell 2
    go_wp2_with fail
    have hB2 := ((hB.alloc hB.size (.cells #[.string m1, .string m2, .bool false] 61)).alloc (by have := hB.size; simp; omega) (.cells #[.string mo, .string go, .slice (some ⟨w1.heap.size + 1 + 1, 0, none⟩) 1 1, .slice pa reps.length pc, .slice xa excs.length xc, .slice ta rets.length tc] 35)).alloc (by have := hB.size; simp; omega) (.cells #[.string m1, .string m2, .bool false] 61)
    have HO := Lib.hid (RRow.one' (R := reqR) (w := (w1.alloc (.cells #[.string m1, .string m2, .bool false] 61)).alloc (.cells #[.string mo, .string go, .slice (some ⟨w1.heap.size + 1 + 1, 0, none⟩) 1 1, .slice pa reps.length pc, .slice xa excs.length xc, .slice ta rets.length tc] 35)) 61 ((m1, m2), false) #[.string m1, .string m2, .bool false] (w1.heap.size + 1 + 1) (by simp) rfl)
    replace gF := ((gF.alloc (.cells #[.string m1, .string m2, .bool false] 61)).alloc (.cells #[.string mo, .string go, .slice (some ⟨w1.heap.size + 1 + 1, 0, none⟩) 1 1, .slice pa reps.length pc, .slice xa excs.length xc, .slice ta rets.length tc] 35)).alloc (.cells #[.string m1, .string m2, .bool false] 61)
    replace gM := ((gM.alloc (.cells #[.string m1, .string m2, .bool false] 61)).alloc (.cells #[.string mo, .string go, .slice (some ⟨w1.heap.size + 1 + 1, 0, none⟩) 1 1, .slice pa reps.length pc, .slice xa excs.length xc, .slice ta rets.length tc] 35)).alloc (.cells #[.string m1, .string m2, .bool false] 61)
    replace gZ := ((gZ.alloc (.cells #[.string m1, .string m2, .bool false] 61)).alloc (.cells #[.string mo, .string go, .slice (some ⟨w1.heap.size + 1 + 1, 0, none⟩) 1 1, .slice pa reps.length pc, .slice xa excs.length xc, .slice ta rets.length tc] 35)).alloc (.cells #[.string m1, .string m2, .bool false] 61)
    have gO' := ((GBlk.new w1 61 #[.string m1, .string m2, .bool false]).alloc (.cells #[.string mo, .string go, .slice (some ⟨w1.heap.size + 1 + 1, 0, none⟩) 1 1, .slice pa reps.length pc, .slice xa excs.length xc, .slice ta rets.length tc] 35)).alloc (.cells #[.string m1, .string m2, .bool false] 61)
    have hw1 := hB.size
    clear e0 e1 fa0 fa1 fa2 fa3 fa4 fa5 gO o0 o1 o2 hB
    refine (rcheck_file (FileG.with ⟨mo, go, reqs, reps, excs, rets⟩ [((m1, m2), false)]) HS.out _ _ _ _ _ ⟨HO.out, HP.out.below hB2, HX.out.below hB2, HT.out.below hB2⟩).mono ?_
    generalize (((w1.alloc (.cells #[.string m1, .string m2, .bool false] 61)).alloc (.cells #[.string mo, .string go, .slice (some ⟨w1.heap.size + 1 + 1, 0, none⟩) 1 1, .slice pa reps.length pc, .slice xa excs.length xc, .slice ta rets.length tc] 35)).alloc (.cells #[.string m1, .string m2, .bool false] 61)) = W3 at *
    rintro _ w2 ⟨rfl, hb2⟩
    replace hB2 := hB2.trans (hb2.mono hB2.size)
    replace gF := gF.below hb2
    replace gM := gM.below hb2
    replace gZ := gZ.below hb2
    replace gO' := gO'.below hb2
    clear hb2 HO
    by_cases h2 : chkE (FileG.with ⟨mo, go, reqs, reps, excs, rets⟩ [((m1, m2), false)]) = 0
    · have HE := Lib.hid (reqO_3 (m := (m1, m2)) H1.out h2)
      rw [h2]
      clear h2
      replace gF := Lib.hid gF
      replace gM := Lib.hid gM
      replace gZ := Lib.hid gZ
      replace gO' := Lib.hid gO'
      have HB2 := Lib.hid hB2
      clear hB2
      go_wp2
      go_loopw [9, 10, 11] (fun l b i wr => ∃ (k : Nat) (acc : List ReqB) (A : Option Addr) (c : Nat), k ≤ reqs.length ∧ i = .int .i64 k ∧ l = .slice A acc.length c ∧ b = .bool ((reqs.take k).any fun a => sameP a m1) ∧ acc = (reqs.take k).map (lift (m1, m2)) ∧ RAcc reqR 61 w2 wr (.slice A acc.length c) acc) (fun _ _ i _ => reqs.length - (intOf i).toNat)
      case atStart => exact ⟨0, [], _, 0, Nat.zero_le _, rfl, rfl, rfl, rfl, RAcc.start w2⟩
      case round =>
        obtain ⟨k, acc, A, c, hk, rfl, rfl, rfl, hL, hacc⟩ := hrel
        have HL := Lib.hid hL
        have hal : acc.length ≤ k := by rw [hL, List.length_map, List.length_take]; omega
        clear hL
        have F := gF.out.below hacc.below
        have Z := gZ.out.below hacc.below
        have M := gM.out.below hacc.below
        have O := gO'.out.below hacc.below
        have u0 : wr.cell? ⟨w.heap.size, 2, none⟩ = some (.slice ra reqs.length rc) := F.cell 2
        by_cases hlt : k < reqs.length
        · obtain ⟨-, hcap, hsp⟩ := ((HR.out.below HB2.out).below hacc.below).spot
          obtain ⟨g, o, rfl, hg, hat⟩ := hsp (ne_of_lt hlt)
          obtain ⟨q1, q2, q3⟩ := req_at hat k hlt
          obtain ⟨z1, z2⟩ := SQ.out _ (List.getElem_mem hlt)
          have HN := Lib.hid (show acc ++ [lift (m1, m2) reqs[k]] = (reqs.take (k + 1)).map (lift (m1, m2)) by rw [HL.out, map_snoc hlt])
          have HA := Lib.hid (any_snoc (p := fun a => sameP a m1) hlt)
          have HS1 := Lib.hid (fun (h : sameP (reqs[k]'hlt) m1 = true) => lift_same (m := (m1, m2)) h)
          have HS2 := Lib.hid (fun (h : sameP (reqs[k]'hlt) m1 = false) => lift_other (m := (m1, m2)) h)
          clear hat hsp F Z O
          generalize hb0 : (reqs.take k).any (fun a => sameP a m1) = b0 at *
          unfold sameP at HS1 HS2
          generalize reqs[k] = x at *
          obtain ⟨⟨p, v⟩, bb⟩ := x
          dsimp only at q1 q2 q3 z1 z2 HS1 HS2
          have X := GBlk.new wr 61 #[.string p, .string v, .bool bb]
          have d0 : (wr.alloc (.cells #[.string p, .string v, .bool bb] 61)).cell? ⟨wr.heap.size, 0, none⟩ = some (.string p) := X.cell 0
          have d1 : (wr.alloc (.cells #[.string p, .string v, .bool bb] 61)).cell? ⟨wr.heap.size, 1, none⟩ = some (.string v) := X.cell 1
          have d2 : (wr.alloc (.cells #[.string p, .string v, .bool bb] 61)).cell? ⟨wr.heap.size, 2, none⟩ = some (.bool bb) := X.cell 2
          have e0 : (wr.alloc (.cells #[.string p, .string v, .bool bb] 61)).cell? ⟨w.heap.size + 1, 0, none⟩ = some (.string m1) := (M.alloc _).cell 0
          have e1 : (wr.alloc (.cells #[.string p, .string v, .bool bb] 61)).cell? ⟨w.heap.size + 1, 1, none⟩ = some (.string m2) := (M.alloc _).cell 1
          have HWR := Lib.hid hacc.below.size
          have hfar := hacc.far (Nat.le_refl _)
          cases e : (p.toList == m1.toList)
          · have HN' := Lib.hid (HS2.out e)
            have HA' := Lib.hid (show (reqs.take (k + 1)).any (fun a => sameP a m1) = b0 by rw [HA.out, show sameP ((p, v), bb) m1 = false from e, Bool.or_false])
            go_wp2_with (at_builtin; refine wpList_racc reqT rfl _ _ rfl ((hacc.alloc _).alloc _) rfl (RRow.one' _ ((p, v), bb) _ _ (by simp) rfl) rfl (by simp; omega) ?_; intro A4 c4 acc4 w5 hgr; have t0 := hgr.acc; have HL4 := Lib.hid hgr.list; clear hgr)
            go_roundw
            case rel => exact ⟨k + 1, acc4, A4, c4, by omega, by go_num, rfl, by rw [HA'.out], HL4.out.trans (by rw [← HN.out, HN'.out]), t0⟩
            case measure => simp [intOf]; omega
          · have HN' := Lib.hid (HS1.out e)
            have HA' := Lib.hid (show (reqs.take (k + 1)).any (fun a => sameP a m1) = true by rw [HA.out, show sameP ((p, v), bb) m1 = true from e, Bool.or_true])
            go_wp2_with fail
            refine (rmax_any v m2 (by omega) (by omega) _).mono ?_
            rintro _ w3 ⟨rfl, hb3⟩
            have hacc3 := (hacc.alloc _).call hb3
            replace X := X.below hb3
            clear d0 d1 d2 e0 e1 hb3 M hacc u0 q1 q2 q3
            have X3 := X.set 1 (.string (maxS v m2))
            have kc : w3.cell? ⟨wr.heap.size, 1, none⟩ = some (.string v) := X.cell 1
            have kf := X.frozen 1
            have d0 : (w3.setCell ⟨wr.heap.size, 1, none⟩ (.string (maxS v m2))).cell? ⟨wr.heap.size, 0, none⟩ = some (.string p) := X3.cell 0
            have d1 : (w3.setCell ⟨wr.heap.size, 1, none⟩ (.string (maxS v m2))).cell? ⟨wr.heap.size, 1, none⟩ = some (.string (maxS v m2)) := X3.cell 1
            have d2 : (w3.setCell ⟨wr.heap.size, 1, none⟩ (.string (maxS v m2))).cell? ⟨wr.heap.size, 2, none⟩ = some (.bool bb) := X3.cell 2
            have hacc4 := hacc3.setNe (i := 1) (u := .string (maxS v m2)) hfar HWR.out
            go_wp2_with (at_builtin; refine wpList_racc reqT rfl _ _ rfl (hacc4.alloc _) rfl (RRow.one' _ ((p, maxS v m2), bb) _ _ (by simp) rfl) rfl (by simp; omega) ?_; intro A4 c4 acc4 w5 hgr; have t0 := hgr.acc; have HL4 := Lib.hid hgr.list; clear hgr)
            go_roundw
            case rel => exact ⟨k + 1, acc4, A4, c4, by omega, by go_num, rfl, by rw [HA'.out], HL4.out.trans (by rw [← HN.out, HN'.out]), t0⟩
            case measure => simp [intOf]; omega
        · obtain rfl : k = reqs.length := by omega
          have HLr := Lib.hid (show acc = reqs.map (lift (m1, m2)) by rw [HL.out, List.take_length])
          generalize hb0 : (reqs.take reqs.length).any (fun a => sameP a m1) = b0
          rw [List.take_length] at hb0
          cases b0
          · have HEQ := Lib.hid (show raiseL reqs (m1, m2) = acc ++ [((m1, m2), false)] by rw [raise_none (m := (m1, m2)) hb0, HLr.out])
            have o0 : wr.cell? ⟨w1.heap.size, 0, none⟩ = some (.string m1) := O.cell 0
            have o1 : wr.cell? ⟨w1.heap.size, 1, none⟩ = some (.string m2) := O.cell 1
            have o2 : wr.cell? ⟨w1.heap.size, 2, none⟩ = some (.bool false) := O.cell 2
            go_wp2_with (at_builtin; refine wpList_racc reqT rfl _ _ rfl (hacc.alloc _) rfl (RRow.one' _ ((m1, m2), false) _ _ (by simp) rfl) rfl (by simp; omega) ?_; intro A4 c4 acc4 w5 hgr; have F5 := (F.alloc _).grew (hacc.alloc _).own hgr (by decide); have Z5 := (Z.alloc _).grew (hacc.alloc _).own hgr (by decide); have t0 := hgr.acc.since HB2.out; have HL4 := Lib.hid hgr.list; clear hgr; have kc : w5.cell? ⟨w.heap.size, 2, none⟩ = some (.slice ra reqs.length rc) := F5.cell 2; have kf := F5.frozen 2; have F7 := F5.set 2 (.slice A4 acc4.length c4); have Z7 := Z5.setOther (B' := w.heap.size) (i := 2) (u := .slice A4 acc4.length c4) (by omega); have x0 : (w5.setCell ⟨w.heap.size, 2, none⟩ (.slice A4 acc4.length c4)).cell? ⟨w.heap.size, 0, none⟩ = some (.string mo) := F7.cell 0; have x1 : (w5.setCell ⟨w.heap.size, 2, none⟩ (.slice A4 acc4.length c4)).cell? ⟨w.heap.size, 1, none⟩ = some (.string go) := F7.cell 1; have x2 : (w5.setCell ⟨w.heap.size, 2, none⟩ (.slice A4 acc4.length c4)).cell? ⟨w.heap.size, 2, none⟩ = some (.slice A4 acc4.length c4) := F7.cell 2; have x3 : (w5.setCell ⟨w.heap.size, 2, none⟩ (.slice A4 acc4.length c4)).cell? ⟨w.heap.size, 3, none⟩ = some (.slice pa reps.length pc) := F7.cell 3; have x4 : (w5.setCell ⟨w.heap.size, 2, none⟩ (.slice A4 acc4.length c4)).cell? ⟨w.heap.size, 4, none⟩ = some (.slice xa excs.length xc) := F7.cell 4; have x5 : (w5.setCell ⟨w.heap.size, 2, none⟩ (.slice A4 acc4.length c4)).cell? ⟨w.heap.size, 5, none⟩ = some (.slice ta rets.length tc) := F7.cell 5; have z0 : (w5.setCell ⟨w.heap.size, 2, none⟩ (.slice A4 acc4.length c4)).cell? ⟨w.heap.size + 1 + 1, 0, none⟩ = some (.string ⟨#[]⟩) := Z7.cell 0; have z1 : (w5.setCell ⟨w.heap.size, 2, none⟩ (.slice A4 acc4.length c4)).cell? ⟨w.heap.size + 1 + 1, 1, none⟩ = some (.string ⟨#[]⟩) := Z7.cell 1; have z2 : (w5.setCell ⟨w.heap.size, 2, none⟩ (.slice A4 acc4.length c4)).cell? ⟨w.heap.size + 1 + 1, 2, none⟩ = some (.slice none 0 0) := Z7.cell 2; have z3 : (w5.setCell ⟨w.heap.size, 2, none⟩ (.slice A4 acc4.length c4)).cell? ⟨w.heap.size + 1 + 1, 3, none⟩ = some (.slice none 0 0) := Z7.cell 3; have z4 : (w5.setCell ⟨w.heap.size, 2, none⟩ (.slice A4 acc4.length c4)).cell? ⟨w.heap.size + 1 + 1, 4, none⟩ = some (.slice none 0 0) := Z7.cell 4; have z5 : (w5.setCell ⟨w.heap.size, 2, none⟩ (.slice A4 acc4.length c4)).cell? ⟨w.heap.size + 1 + 1, 5, none⟩ = some (.slice none 0 0) := Z7.cell 5; have y0 := Z7.frozen 0; have y1 := Z7.frozen 1; have y2 := Z7.frozen 2; have y3 := Z7.frozen 3; have y4 := Z7.frozen 4; have y5 := Z7.frozen 5)
            have hS6 := Z7.six (.string mo) (.string go) (.slice A4 acc4.length c4) (.slice pa reps.length pc) (.slice xa excs.length xc) (.slice ta rets.length tc)
            have r0 := (t0.set (i := 2) (u := .slice A4 acc4.length c4) F5 (by decide) (Nat.le_refl _)).six Z7 (by decide) (by omega) (.string mo) (.string go) (.slice A4 acc4.length c4) (.slice pa reps.length pc) (.slice xa excs.length xc) (.slice ta rets.length tc)
            have Y0 := hS6.cell 0
            have Y1 := hS6.cell 1
            have Y2 := hS6.cell 2
            have Y3 := hS6.cell 3
            have Y4 := hS6.cell 4
            have Y5 := hS6.cell 5
            refine bodyPost_ret (v := .tuple #[.agg #[.string mo, .string go, .slice A4 acc4.length c4, .slice pa reps.length pc, .slice xa excs.length xc, .slice ta rets.length tc], .int .i64 0]) (by simp [results, Tryz.results14, go_sem, Y0, Y1, Y2, Y3, Y4, Y5]) rfl ?_
            rw [HE.out, show raiseL (FileG.reqs ⟨mo, go, reqs, reps, excs, rets⟩) (m1, m2) = acc4 from HEQ.out.trans HL4.out.symm]
            exact ⟨_, _, _, _, rfl, ⟨r0.own.row, HP.out.below r0.below, HX.out.below r0.below, HT.out.below r0.below⟩, r0.below, fun B hB ho => ⟨r0.own.off hB, ho.reps, ho.excs, ho.rets⟩⟩
          · have HEQ := Lib.hid (show raiseL reqs (m1, m2) = acc by rw [raise_any (m := (m1, m2)) hb0, HLr.out])
            have t0 := hacc.since HB2.out
            have kc : wr.cell? ⟨w.heap.size, 2, none⟩ = some (.slice ra reqs.length rc) := F.cell 2
            have kf := F.frozen 2
            have F7 := F.set 2 (.slice A acc.length c)
            have Z7 := Z.setOther (B' := w.heap.size) (i := 2) (u := .slice A acc.length c) (by omega)
            have x0 : (wr.setCell ⟨w.heap.size, 2, none⟩ (.slice A acc.length c)).cell? ⟨w.heap.size, 0, none⟩ = some (.string mo) := F7.cell 0
            have x1 : (wr.setCell ⟨w.heap.size, 2, none⟩ (.slice A acc.length c)).cell? ⟨w.heap.size, 1, none⟩ = some (.string go) := F7.cell 1
            have x2 : (wr.setCell ⟨w.heap.size, 2, none⟩ (.slice A acc.length c)).cell? ⟨w.heap.size, 2, none⟩ = some (.slice A acc.length c) := F7.cell 2
            have x3 : (wr.setCell ⟨w.heap.size, 2, none⟩ (.slice A acc.length c)).cell? ⟨w.heap.size, 3, none⟩ = some (.slice pa reps.length pc) := F7.cell 3
            have x4 : (wr.setCell ⟨w.heap.size, 2, none⟩ (.slice A acc.length c)).cell? ⟨w.heap.size, 4, none⟩ = some (.slice xa excs.length xc) := F7.cell 4
            have x5 : (wr.setCell ⟨w.heap.size, 2, none⟩ (.slice A acc.length c)).cell? ⟨w.heap.size, 5, none⟩ = some (.slice ta rets.length tc) := F7.cell 5
            have z0 : (wr.setCell ⟨w.heap.size, 2, none⟩ (.slice A acc.length c)).cell? ⟨w.heap.size + 1 + 1, 0, none⟩ = some (.string ⟨#[]⟩) := Z7.cell 0
            have z1 : (wr.setCell ⟨w.heap.size, 2, none⟩ (.slice A acc.length c)).cell? ⟨w.heap.size + 1 + 1, 1, none⟩ = some (.string ⟨#[]⟩) := Z7.cell 1
            have z2 : (wr.setCell ⟨w.heap.size, 2, none⟩ (.slice A acc.length c)).cell? ⟨w.heap.size + 1 + 1, 2, none⟩ = some (.slice none 0 0) := Z7.cell 2
            have z3 : (wr.setCell ⟨w.heap.size, 2, none⟩ (.slice A acc.length c)).cell? ⟨w.heap.size + 1 + 1, 3, none⟩ = some (.slice none 0 0) := Z7.cell 3
            have z4 : (wr.setCell ⟨w.heap.size, 2, none⟩ (.slice A acc.length c)).cell? ⟨w.heap.size + 1 + 1, 4, none⟩ = some (.slice none 0 0) := Z7.cell 4
            have z5 : (wr.setCell ⟨w.heap.size, 2, none⟩ (.slice A acc.length c)).cell? ⟨w.heap.size + 1 + 1, 5, none⟩ = some (.slice none 0 0) := Z7.cell 5
            have y0 := Z7.frozen 0
            have y1 := Z7.frozen 1
            have y2 := Z7.frozen 2
            have y3 := Z7.frozen 3
            have y4 := Z7.frozen 4
            have y5 := Z7.frozen 5
            go_wp2
            have hS6 := Z7.six (.string mo) (.string go) (.slice A acc.length c) (.slice pa reps.length pc) (.slice xa excs.length xc) (.slice ta rets.length tc)
            have r0 := (t0.set (i := 2) (u := .slice A acc.length c) F (by decide) (Nat.le_refl _)).six Z7 (by decide) (by omega) (.string mo) (.string go) (.slice A acc.length c) (.slice pa reps.length pc) (.slice xa excs.length xc) (.slice ta rets.length tc)
            have Y0 := hS6.cell 0
            have Y1 := hS6.cell 1
            have Y2 := hS6.cell 2
            have Y3 := hS6.cell 3
            have Y4 := hS6.cell 4
            have Y5 := hS6.cell 5
            refine bodyPost_ret (v := .tuple #[.agg #[.string mo, .string go, .slice A acc.length c, .slice pa reps.length pc, .slice xa excs.length xc, .slice ta rets.length tc], .int .i64 0]) (by simp [results, Tryz.results14, go_sem, Y0, Y1, Y2, Y3, Y4, Y5]) rfl ?_
            rw [HE.out, show raiseL (FileG.reqs ⟨mo, go, reqs, reps, excs, rets⟩) (m1, m2) = acc from HEQ.out]
            exact ⟨_, _, _, _, rfl, ⟨r0.own.row, HP.out.below r0.below, HX.out.below r0.below, HT.out.below r0.below⟩, r0.below, fun B hB ho => ⟨r0.own.off hB, ho.reps, ho.excs, ho.rets⟩⟩
    · have HE := Lib.hid (reqO_2 (m := (m1, m2)) H1.out h2)
      generalize chkE (FileG.with ⟨mo, go, reqs, reps, excs, rets⟩ [((m1, m2), false)]) = e at *
      have h2' : (e != 0) = true := by simp [h2]
      clear h2
      have z0 : w2.cell? ⟨w.heap.size + 1 + 1, 0, none⟩ = some (.string ⟨#[]⟩) := gZ.cell 0
      have z1 : w2.cell? ⟨w.heap.size + 1 + 1, 1, none⟩ = some (.string ⟨#[]⟩) := gZ.cell 1
      have z2 : w2.cell? ⟨w.heap.size + 1 + 1, 2, none⟩ = some (.slice none 0 0) := gZ.cell 2
      have z3 : w2.cell? ⟨w.heap.size + 1 + 1, 3, none⟩ = some (.slice none 0 0) := gZ.cell 3
      have z4 : w2.cell? ⟨w.heap.size + 1 + 1, 4, none⟩ = some (.slice none 0 0) := gZ.cell 4
      have z5 : w2.cell? ⟨w.heap.size + 1 + 1, 5, none⟩ = some (.slice none 0 0) := gZ.cell 5
      have f0 := gZ.frozen 0
      have f1 := gZ.frozen 1
      have f2 := gZ.frozen 2
      have f3 := gZ.frozen 3
      have f4 := gZ.frozen 4
      have f5 := gZ.frozen 5
      go_wp2
      have hS6 := gZ.six (.string ⟨#[]⟩) (.string ⟨#[]⟩) (.slice none 0 0) (.slice none 0 0) (.slice none 0 0) (.slice none 0 0)
      have y0 := hS6.cell 0
      have y1 := hS6.cell 1
      have y2 := hS6.cell 2
      have y3 := hS6.cell 3
      have y4 := hS6.cell 4
      have y5 := hS6.cell 5
      exact bodyPost_ret (v := .tuple #[.agg #[.string ⟨#[]⟩, .string ⟨#[]⟩, .slice none 0 0, .slice none 0 0, .slice none 0 0, .slice none 0 0], .int .i64 e]) (by simp [results, Tryz.results14, go_sem, y0, y1, y2, y3, y4, y5]) rfl (FileErrO.zero HE.out (below_six hB2 (by omega) _ _ _ _ _ _))
  · have HE := Lib.hid (reqO_1 (m := (m1, m2)) h1)
    generalize chkE ⟨mo, go, reqs, reps, excs, rets⟩ = e at *
    have h1' : (e != 0) = true := by simp [h1]
    clear h1
    have z0 : w1.cell? ⟨w.heap.size + 1 + 1, 0, none⟩ = some (.string ⟨#[]⟩) := gZ.cell 0
    have z1 : w1.cell? ⟨w.heap.size + 1 + 1, 1, none⟩ = some (.string ⟨#[]⟩) := gZ.cell 1
    have z2 : w1.cell? ⟨w.heap.size + 1 + 1, 2, none⟩ = some (.slice none 0 0) := gZ.cell 2
    have z3 : w1.cell? ⟨w.heap.size + 1 + 1, 3, none⟩ = some (.slice none 0 0) := gZ.cell 3
    have z4 : w1.cell? ⟨w.heap.size + 1 + 1, 4, none⟩ = some (.slice none 0 0) := gZ.cell 4
    have z5 : w1.cell? ⟨w.heap.size + 1 + 1, 5, none⟩ = some (.slice none 0 0) := gZ.cell 5
    have f0 := gZ.frozen 0
    have f1 := gZ.frozen 1
    have f2 := gZ.frozen 2
    have f3 := gZ.frozen 3
    have f4 := gZ.frozen 4
    have f5 := gZ.frozen 5
    go_wp2
    have hS6 := gZ.six (.string ⟨#[]⟩) (.string ⟨#[]⟩) (.slice none 0 0) (.slice none 0 0) (.slice none 0 0) (.slice none 0 0)
    have y0 := hS6.cell 0
    have y1 := hS6.cell 1
    have y2 := hS6.cell 2
    have y3 := hS6.cell 3
    have y4 := hS6.cell 4
    have y5 := hS6.cell 5
    exact bodyPost_ret (v := .tuple #[.agg #[.string ⟨#[]⟩, .string ⟨#[]⟩, .slice none 0 0, .slice none 0 0, .slice none 0 0, .slice none 0 0], .int .i64 e]) (by simp [results, Tryz.results14, go_sem, y0, y1, y2, y3, y4, y5]) rfl (FileErrO.zero HE.out (below_six hB (by omega) _ _ _ _ _ _))
end Go.Proofs.YtmdlmjcejeejfaaGreatDoor
