/-
  tree.Names and the document's own.
-/
import Derived.Test.YteffoajheolpmaaT7
namespace Go.Proofs.Yteffoajheolpmaa
open Go.RowKit Go.Shelf

theorem Row.drew {w : World} {v : Value} {xs : List ByteArray} (h : Row w v xs) (n : Nat) : Row (w.drewN n) v xs := h
theorem less_not {x y : ByteArray} (h : cmp1 y x = -1) : Op.bytesLess x.toList y.toList = false := by
  cases e : Op.bytesLess x.toList y.toList
  · rfl
  · have := cmp1_1 e
    rw [cmp1_neg, h] at this
    cases this

set_option maxRecDepth 100000 in
set_option maxHeartbeats 1000000 in
theorem put_any (l : List ByteArray) (x : ByteArray) (v : Value) (w : World) (hv : Row w v l) (hm : l.length ≤ 1000) (hs : hasS l x = false → ∀ y ∈ l, cmp1 y x = -1) :
    Calls Try.prog 53 #[v, .string x] w (RowOut w (putS l x)) := by
  have HV := Lib.hid hv
  have HS := Lib.hid hs
  obtain ⟨a, c, rfl, -⟩ := hv
  clear hs
  cases hh : hasS l x
  · have HJ := Lib.hid (show putS l x = l ++ [x] by unfold putS; rw [hh]; rfl)
    have HB := Lib.hid (HS.out hh)
    go_enter Try.func53, Try.ntmps53
    go_wp2_with fail
    refine (has_b hh _ _ HV.out (by omega)).mono ?_
    rintro _ w1 ⟨rfl, rfl⟩
    go_wp2
    go_loopw [5, 6, 7] (fun ov dn i wr => ∃ (k : Nat) (acc : List ByteArray) (A : Option Addr) (c' : Nat), k ≤ l.length ∧ i = .int .i64 k ∧ dn = .bool false ∧ ov = .slice A acc.length c' ∧ acc = l.take k ∧ SAcc w wr (.slice A acc.length c') acc)
      (fun _ _ i _ => l.length - (intOf i).toNat)
    case atStart => exact ⟨0, [], _, 0, Nat.zero_le _, rfl, rfl, rfl, rfl, SAcc.start w⟩
    case round =>
      obtain ⟨k, acc, A, c', hk, rfl, rfl, rfl, hL, hacc⟩ := hrel
      have hal : acc.length ≤ 1000 := by rw [hL, List.length_take]; omega
      have HL := Lib.hid hL
      clear hL
      by_cases hlt : k < l.length
      · obtain ⟨a', c'', e', hcl⟩ := HV.out.below hacc.below
        cases e'
        obtain ⟨g, rfl, hg, hcell⟩ := hcl (by intro e; rw [e] at hlt; simp at hlt)
        have q1 := hcell k hlt
        have hless := less_not (HB.out _ (List.getElem_mem hlt))
        have HN := Lib.hid (show acc ++ [l[k]] = l.take (k + 1) by rw [HL.out, ← List.take_succ_eq_append_getElem hlt])
        clear hcell hcl
        generalize l[k] = y at *
        go_wp2_with (at_builtin; refine wpList_sacc rfl _ _ rfl (hacc.alloc _) rfl (cell_new _ _ _ 0) rfl (by omega) ?_; intro A5 c5 acc5 w5 hgr; have hacc5 := hgr.acc; have HL5 := Lib.hid hgr.list; clear hgr)
        go_roundw
        case rel => exact ⟨k + 1, acc5, A5, c5, by omega, by go_num, rfl, rfl, by rw [HL5.out]; exact HN.out, hacc5⟩
        case measure => simp [intOf]; omega
      · have HE := Lib.hid (show acc = l by rw [HL.out, List.take_of_length_le (by omega)])
        go_wp2_with (at_builtin; refine wpList_sacc rfl _ _ rfl (hacc.alloc _) rfl (cell_new _ _ _ 0) rfl (by omega) ?_; intro A5 c5 acc5 w5 hgr; have hacc5 := hgr.acc; have HL5 := Lib.hid hgr.list; clear hgr)
        go_ret
        rw [HJ.out, ← HE.out, ← HL5.out]
        exact ⟨_, rfl, hacc5.row, hacc5.below⟩
  · have HJ := Lib.hid (show putS l x = l by unfold putS; rw [hh]; rfl)
    go_enter Try.func53, Try.ntmps53
    go_wp2_with fail
    refine (has_b hh _ _ HV.out (by omega)).mono ?_
    rintro _ w1 ⟨rfl, rfl⟩
    go_wp2
    go_ret
    rw [HJ.out]
    exact ⟨_, rfl, HV.out, Below.refl _ _⟩

/-- Two lists of texts handed back. -/
def NamesOut (fs ds : List ByteArray) (w : World) (e : Ending) (w' : World) : Prop := ∃ A c B d, e = .returned (.tuple #[.slice A fs.length c, .slice B ds.length d]) ∧ Row w' (.slice A fs.length c) fs ∧ Row w' (.slice B ds.length d) ds ∧ Below w.heap.size w w'

set_option maxRecDepth 100000 in
set_option maxHeartbeats 4000000 in
theorem rnames_any (xs : List FileB) (d : ByteArray) (v : Value) (w : World) (hv : FRow w v xs) (hm : xs.length ≤ 200) (hd : d.size ≤ 20300) (hf : Fine (subL xs d)) (hs : Short (subL xs d)) :
    Calls Try.prog 29 #[v, .string d] w (NamesOut (filesL (subL xs d)) (dirsL (subL xs d)) w) := by
  have HV := Lib.hid hv
  have HF := Lib.hid hf
  have HS := Lib.hid hs
  have hl := subL_len xs d
  obtain ⟨a, c, rfl, hlc, -⟩ := hv
  clear hf hs
  have hb0 := (SAcc.start w).below
  have hb1 := hb0.trans ((SAcc.start (w.alloc (.cells #[] 9))).below.mono hb0.size)
  have hr0 := (SAcc.start w).row.below (SAcc.start (w.alloc (.cells #[] 9))).below
  have hr1 := (SAcc.start (w.alloc (.cells #[] 9))).row
  simp only [World.size_alloc] at hr1
  have HR0 := Lib.hid hr0
  have HR1 := Lib.hid hr1
  clear hr0 hr1
  go_enter Try.func29, Try.ntmps29
  go_wp2_with fail
  refine (rsub_any xs d _ _ (HV.out.below hb1) (by omega) hd).mono ?_
  rintro _ w2 ⟨A2, c2, rfl, hrow2, hb2⟩
  have HRs := Lib.hid hrow2
  have HR0' := Lib.hid (HR0.out.below hb2)
  have HR1' := Lib.hid (HR1.out.below hb2)
  replace hb1 := hb1.trans (hb2.mono hb1.size)
  clear hrow2 hb2 HR0 HR1 hb0
  generalize subL xs d = s at *
  go_wp2
  go_loopw [6, 7, 9] (fun fv dv i wr => ∃ (k : Nat) (fs ds : List ByteArray) (A B : Option Addr) (c' d' : Nat), k ≤ s.length ∧ i = .int .i64 k ∧ fv = .slice A fs.length c' ∧ dv = .slice B ds.length d' ∧ fs = filesL (s.take k) ∧ ds = dirsL (s.take k) ∧ Row wr (.slice A fs.length c') fs ∧ Row wr (.slice B ds.length d') ds ∧ Below w2.heap.size w2 wr)
    (fun _ _ i _ => s.length - (intOf i).toNat)
  case atStart => exact ⟨0, [], [], _, _, 0, 0, Nat.zero_le _, rfl, rfl, rfl, rfl, rfl, HR0'.out, HR1'.out, Below.refl _ _⟩
  case round =>
    obtain ⟨k, fs, ds, A, B, c', d', hk, rfl, rfl, rfl, hfs, hds, hrf, hrd, hb⟩ := hrel
    have hlf : fs.length ≤ 1000 := by rw [hfs]; have := files_len (s.take k); rw [List.length_take] at this; omega
    have hld : ds.length ≤ 1000 := by rw [hds]; have := dirs_len_take s k hk; omega
    have HFs := Lib.hid hfs
    have HDs := Lib.hid hds
    have HRf := Lib.hid hrf
    have HRd := Lib.hid hrd
    have hbw := hb1.trans (hb.mono hb1.size)
    clear hfs hds hrf hrd
    by_cases hlt : k < s.length
    · obtain ⟨a', c'', e', hl', hcl⟩ := HRs.out.below hb
      cases e'
      obtain ⟨g, o, rfl, hg, hcell⟩ := hcl (by intro e; rw [e] at hlt; simp at hlt)
      obtain ⟨q1, q2⟩ := hcell k hlt
      have hsz := HS.out _ (List.getElem_mem hlt)
      obtain ⟨r, her, hdr⟩ := elems_head (HF.out.2 _ (List.getElem_mem hlt))
      have HFp := Lib.hid (fun h => files_put HF.out hlt h)
      have HFb := Lib.hid (fun h => files_below HF.out hlt h)
      have HDp := Lib.hid (fun h => dirs_put HF.out hlt h)
      have HFn := Lib.hid (files_snoc hlt)
      have HDn := Lib.hid (dirs_snoc hlt)
      have HEr := Lib.hid her
      have HDr := Lib.hid hdr
      clear hcell hcl her hdr
      generalize s[k] = f at *
      obtain ⟨p, dd⟩ := f
      have hsz' : p.size ≤ 20300 := hsz
      go_wp2_with fail
      refine (relems_any p (by omega) _).mono ?_
      rintro _ w3 ⟨v3, rfl, hrow3, hb3⟩
      rw [HEr.out] at hrow3
      have hel := elemsB_count p
      rw [HEr.out] at hel
      obtain ⟨a3, c3, rfl, hc3⟩ := hrow3
      obtain ⟨g3, rfl, hg3, hcell3⟩ := hc3 (by simp)
      have z0 := hcell3 0 (by simp)
      have hb3' := hb.trans (hb3.mono hb.size)
      have HRf3 := Lib.hid (HRf.out.below hb3)
      have HRd3 := Lib.hid (HRd.out.below hb3)
      change _ = some (Value.string (headB p)) at z0
      clear hcell3 hc3 hb3 HRf HRd
      cases hdp : deepB p
      · have hr0 : r = [] := by
          apply Classical.byContradiction
          intro hn
          rw [HDr.out.2 hn] at hdp; cases hdp
        subst hr0
        have HF' := Lib.hid (show putS fs (headB p) = filesL (s.take (k + 1)) by rw [HFs.out]; exact HFp.out hdp)
        have HD' := Lib.hid (show ds = dirsL (s.take (k + 1)) by rw [HDn.out, HDs.out]; exact (if_neg (by rw [hdp]; decide)).symm)
        have HBl := Lib.hid (fun (_ : hasS fs (headB p) = false) => show ∀ y ∈ fs, cmp1 y (headB p) = -1 by rw [HFs.out]; exact HFb.out hdp)
        go_wp2_with fail
        refine (put_any fs (headB p) _ _ HRf3.out hlf HBl.out).mono ?_
        rintro _ w4 ⟨v4, rfl, hrow4, hb4⟩
        have hb4' := hb3'.trans (hb4.mono hb3'.size)
        have HRd4 := Lib.hid (HRd3.out.below hb4)
        rw [HF'.out] at hrow4
        have HR4 := Lib.hid hrow4
        obtain ⟨a4, c4, rfl, -⟩ := hrow4
        clear hb4
        go_wp2
        go_roundw
        case rel => exact ⟨k + 1, _, ds, a4, B, c4, d', by omega, by go_num, rfl, rfl, rfl, HD'.out, HR4.out, HRd4.out, hb4'⟩
        case measure => simp [intOf]; omega
      · have hrn : r ≠ [] := HDr.out.1 hdp
        have hr1 : 1 ≤ r.length := by cases r with | nil => exact absurd rfl hrn | cons _ _ => simp
        have HF' := Lib.hid (show fs = filesL (s.take (k + 1)) by rw [HFn.out, HFs.out, hdp]; simp)
        have HD' := Lib.hid (show putS ds (headB p) = dirsL (s.take (k + 1)) by rw [HDs.out]; exact (HDp.out hdp).1)
        have HBl := Lib.hid (show hasS ds (headB p) = false → ∀ y ∈ ds, cmp1 y (headB p) = -1 by rw [HDs.out]; exact (HDp.out hdp).2)
        have hl1 : (((r.length : Int) + 1) == 1) = false := by simp; omega
        have hl2 : (1 : Int) < (r.length : Int) + 1 := by omega
        clear hrn
        go_wp2_with fail
        refine (put_any ds (headB p) _ _ HRd3.out hld HBl.out).mono ?_
        rintro _ w4 ⟨v4, rfl, hrow4, hb4⟩
        have hb4' := hb3'.trans (hb4.mono hb3'.size)
        have HRf4 := Lib.hid (HRf3.out.below hb4)
        rw [HD'.out] at hrow4
        have HR4 := Lib.hid hrow4
        obtain ⟨a4, c4, rfl, -⟩ := hrow4
        clear hb4
        go_wp2
        go_roundw
        case rel => exact ⟨k + 1, fs, _, A, a4, c', c4, by omega, by go_num, rfl, rfl, HF'.out, rfl, HRf4.out, HR4.out, hb4'⟩
        case measure => simp [intOf]; omega
    · have HE := Lib.hid (show fs = filesL s by rw [HFs.out, List.take_of_length_le (by omega)])
      have HE2 := Lib.hid (show ds = dirsL s by rw [HDs.out, List.take_of_length_le (by omega)])
      go_wp2
      go_ret2
      rw [← HE.out, ← HE2.out]
      exact ⟨A, c', B, d', rfl, HRf.out, HRd.out, hbw⟩

/-- Two lists that grow do not share a block. -/
def Apart (v u : Value) : Prop := ∀ b, v.ownBlock = some b → u.ownBlock ≠ some b
theorem Apart.comm {v u : Value} (h : Apart v u) : Apart u v := fun b e1 e2 => h b e2 e1
theorem SAcc.other {w0 w w' : World} {v u : Value} {xs ys : List ByteArray} {x : ByteArray} {A : Option Addr} {c : Nat} {zs : List ByteArray} (h : SAcc w0 w u ys) (hg : SGrew w0 w v xs x A c zs w') (hap : Apart v u) :
    SAcc w0 w' u ys ∧ Apart (.slice A zs.length c) u := by
  refine ⟨⟨?_, hg.acc.below⟩, fun b e1 e2 => ?_⟩
  · obtain ⟨hl, ⟨rfl, h0⟩ | ⟨g, cap, cur, rfl, hb, hh, hr⟩⟩ := h.own
    · exact ⟨hl, .inl ⟨rfl, h0⟩⟩
    · refine ⟨hl, .inr ⟨g, cap, cur, rfl, hb, (hg.far g (Array.getElem?_eq_some_iff.1 hh).1 (fun e => hap g e rfl)).trans hh, hr⟩⟩
  · have hlt := (World.ownsRow.lt h.own b e2).2
    rcases hg.lies with e | e
    · exact hap b (by rw [← e]; exact e1) e2
    · rw [e] at e1; injection e1 with e1; omega
theorem getLast_at {l : List ByteArray} (h : ¬ l.length = 0) : l.getLast? = some (l[l.length - 1]'(by omega)) := by
  rw [List.getLast?_eq_getElem?, List.getElem?_eq_getElem (by omega)]
theorem cut_v {s : ByteArray} {a b : ByteArray} {c : Bool} (h : cutB s = (a, b, c)) (w : World) (hs : s.size ≤ 20400) :
    Calls Try.prog 52 #[.string s, .string ⟨#[47]⟩] w fun e w' => e = .returned (.tuple #[.string a, .string b, .bool c]) ∧ ∃ n, w' = w.drewN n := by
  refine (cut_any s w hs).mono ?_
  rintro e w' ⟨rfl, n, rfl⟩
  exact ⟨by rw [h], n, rfl⟩

set_option maxRecDepth 100000 in
set_option maxHeartbeats 4000000 in
theorem tnames_any (xs : List FileB) (d : ByteArray) (v : Value) (w : World) (hv : FRow w v xs) (hm : xs.length ≤ 200) (hd : d.size ≤ 20300) (hs : Short (subL xs d)) :
    Calls Try.prog 28 #[v, .string d] w (NamesOut (filesL (subL xs d)) (dirsL (subL xs d)) w) := by
  have HV := Lib.hid hv
  have HS := Lib.hid hs
  have hl := subL_len xs d
  obtain ⟨a, c, rfl, hlc, -⟩ := hv
  clear hs
  go_enter Try.func28, Try.ntmps28
  go_wp2_with fail
  refine (tsub_any xs d _ _ HV.out (by omega) hd).mono ?_
  rintro _ w2 ⟨A2, c2, rfl, hrow2, hb2⟩
  have HRs := Lib.hid hrow2
  clear hrow2
  generalize subL xs d = s at *
  go_wp2
  go_loopw [6, 7, 17] (fun fv dv i wr => ∃ (k : Nat) (fs ds : List ByteArray) (A B : Option Addr) (c' d' : Nat), k ≤ s.length ∧ i = .int .i64 k ∧ fv = .slice A fs.length c' ∧ dv = .slice B ds.length d' ∧ fs = filesL (s.take k) ∧ ds = dirsL (s.take k) ∧ SAcc w2 wr (.slice A fs.length c') fs ∧ SAcc w2 wr (.slice B ds.length d') ds ∧ Apart (.slice A fs.length c') (.slice B ds.length d'))
    (fun _ _ i _ => s.length - (intOf i).toNat)
  case atStart => exact ⟨0, [], [], none, none, 0, 0, Nat.zero_le _, rfl, rfl, rfl, rfl, rfl, SAcc.nil w2, SAcc.nil w2, fun b e => by cases e⟩
  case round =>
    obtain ⟨k, fs, ds, A, B, c', d', hk, rfl, rfl, rfl, hfs, hds, hrf, hrd, hap⟩ := hrel
    have hlf : fs.length ≤ 1000 := by rw [hfs]; have := files_len (s.take k); rw [List.length_take] at this; omega
    have hld : ds.length ≤ 1000 := by rw [hds]; have := dirs_len_take s k hk; omega
    have HFs := Lib.hid hfs
    have HDs := Lib.hid hds
    have HAp := Lib.hid hap
    clear hfs hds hap
    by_cases hlt : k < s.length
    · obtain ⟨a', c'', e', hl', hcl⟩ := HRs.out.below hrf.below
      cases e'
      obtain ⟨g, o, rfl, hg, hcell⟩ := hcl (by intro e; rw [e] at hlt; simp at hlt)
      obtain ⟨q1, q2⟩ := hcell k hlt
      have hsz := HS.out _ (List.getElem_mem hlt)
      have HFn := Lib.hid (files_snoc hlt)
      have HDn := Lib.hid (dirs_snoc hlt)
      clear hcell hcl
      generalize s[k] = f at *
      obtain ⟨p, dd⟩ := f
      have hsz' : p.size ≤ 20300 := hsz
      obtain ⟨⟨hh, tl, dp⟩, hct⟩ : ∃ q, cutB p = q := ⟨_, rfl⟩
      have HCt := Lib.hid hct
      have HHd := Lib.hid (show headB p = hh by unfold headB; rw [hct])
      have HDp := Lib.hid (show deepB p = dp by unfold deepB; rw [hct])
      clear hct
      obtain ⟨-, y0, y1⟩ := FBox.new wr p dd
      change _ = some (Value.string p) at y0
      go_wp2_with fail
      refine (cut_v HCt.out _ (by omega)).mono ?_
      rintro _ w3 ⟨rfl, n3, rfl⟩
      have haf := (hrf.alloc (.cells #[.string p, .string dd] 32)).drewN n3
      have had := (hrd.alloc (.cells #[.string p, .string dd] 32)).drewN n3
      cases dp
      · have HF' := Lib.hid (show fs ++ [hh] = filesL (s.take (k + 1)) by rw [HFn.out, HFs.out, HDp.out, HHd.out]; rfl)
        have HD' := Lib.hid (show ds = dirsL (s.take (k + 1)) by rw [HDn.out, HDs.out]; exact (if_neg (by rw [HDp.out]; decide)).symm)
        go_wp2_with (at_builtin; refine wpList_sacc rfl _ _ rfl (haf.alloc _) rfl (cell_new _ _ _ 0) (by simp [go_sem]) (by omega) ?_; intro A5 c5 acc5 w5 hgr; obtain ⟨had5, hap5⟩ := (had.alloc _).other hgr HAp.out; have hacc5 := hgr.acc; have HL5 := Lib.hid hgr.list; have HAp5 := Lib.hid hap5; clear hgr hap5)
        exact ⟨⟨k + 1, acc5, ds, A5, B, c5, d', by omega, by go_num, rfl, rfl, by rw [HL5.out]; exact HF'.out, HD'.out, hacc5, had5, HAp5.out⟩, by simp [intOf]; omega⟩
      · have HF' := Lib.hid (show fs = filesL (s.take (k + 1)) by rw [HFn.out, HFs.out, HDp.out]; simp)
        have HD1 := Lib.hid (show dirStep ds hh = dirsL (s.take (k + 1)) by rw [HDn.out, ← HDs.out, ← HHd.out]; exact (if_pos HDp.out).symm)
        by_cases hdn : ds = []
        · subst hdn
          have HD' := Lib.hid (show [] ++ [hh] = dirsL (s.take (k + 1)) by rw [← HD1.out]; rfl)
          go_wp2_with (at_builtin; refine wpList_sacc rfl _ _ rfl (had.alloc _) rfl (cell_new _ _ _ 0) (by simp [go_sem]) (by omega) ?_; intro A5 c5 acc5 w5 hgr; obtain ⟨haf5, hap5⟩ := (haf.alloc _).other hgr HAp.out.comm; have hacc5 := hgr.acc; have HL5 := Lib.hid hgr.list; have HAp5 := Lib.hid hap5.comm; clear hgr hap5)
          exact ⟨⟨k + 1, fs, acc5, A, A5, c', c5, by omega, by go_num, rfl, rfl, HF'.out, by rw [HL5.out]; exact HD'.out, haf5, hacc5, HAp5.out⟩, by simp [intOf]; omega⟩
        · obtain ⟨ini, z, rfl⟩ : ∃ ini z, ds = ini ++ [z] := ⟨ds.dropLast, ds.getLast hdn, (List.dropLast_concat_getLast hdn).symm⟩
          clear hdn
          obtain ⟨ar, cr, er, hcr⟩ := had.row
          cases er
          obtain ⟨gd, rfl, hgd, hcd⟩ := hcr (by simp)
          have z0 := hcd ini.length (by simp)
          rw [List.getElem_append_right (Nat.le_refl _)] at z0
          simp only [Nat.sub_self, List.getElem_cons_zero] at z0
          have hil : ini.length + 1 ≤ 1000 := by simpa using hld
          clear hcd hcr
          by_cases hzh : z = hh
          · subst hzh
            have HD' := Lib.hid (show ini ++ [z] = dirsL (s.take (k + 1)) by rw [← HD1.out, dirStep, if_pos (by simp)])
            have e1 : (z.toList == z.toList) = true := by simp
            have e2 : (z.toList != z.toList) = false := by simp
            go_wp2
            all_goals
              first
              | exact ⟨⟨k + 1, fs, ini ++ [z], A, _, c', d', by omega, by go_num, rfl, by simp, HF'.out, HD'.out, haf, had, HAp.out⟩, by simp [intOf]; omega⟩
              | omega
          · have HD' := Lib.hid (show ini ++ [z] ++ [hh] = dirsL (s.take (k + 1)) by rw [← HD1.out, dirStep, if_neg (by simp [hzh])])
            have e3 : ¬ z.toList = hh.toList := fun h => hzh (toList_inj.1 h)
            have e1 : (z.toList == hh.toList) = false := by simp [e3]
            have e2 : (z.toList != hh.toList) = true := by simp [e3]
            clear hzh e3
            go_wp2_with (at_builtin; refine wpList_sacc rfl _ _ rfl (had.alloc _) (by simp [go_sem]) (cell_new _ _ _ 0) (by simp [go_sem]) (by omega) ?_; intro A5 c5 acc5 w5 hgr; obtain ⟨haf5, hap5⟩ := (haf.alloc _).other hgr HAp.out.comm; have hacc5 := hgr.acc; have HL5 := Lib.hid hgr.list; have HAp5 := Lib.hid hap5.comm; clear hgr hap5)
            all_goals
              first
              | exact ⟨⟨k + 1, fs, acc5, A, A5, c', c5, by omega, by go_num, rfl, rfl, HF'.out, by rw [HL5.out]; exact HD'.out, haf5, hacc5, HAp5.out⟩, by simp [intOf]; omega⟩
              | omega
    · have HE := Lib.hid (show fs = filesL s by rw [HFs.out, List.take_of_length_le (by omega)])
      have HE2 := Lib.hid (show ds = dirsL s by rw [HDs.out, List.take_of_length_le (by omega)])
      go_wp2
      go_ret2
      rw [← HE.out, ← HE2.out]
      exact ⟨A, c', B, d', rfl, hrf.row, hrd.row, hb2.trans (hrf.below.mono hb2.size)⟩
end Go.Proofs.Yteffoajheolpmaa
