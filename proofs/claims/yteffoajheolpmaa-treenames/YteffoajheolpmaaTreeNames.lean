/-
  For every list of files and every text the Go function graftbedlaw02.TreeNames returns true: what names stand in any directory of any tree, what is within it, and what comes of setting it under another one, is the document's (P2.3, P2.6). No condition.
-/
import Derived.Test.YteffoajheolpmaaRows
import Derived.Test.YteffoajheolpmaaL0
import Derived.Test.YteffoajheolpmaaF8
import Derived.Test.YteffoajheolpmaaT1
import Derived.Test.YteffoajheolpmaaF9
import Derived.Test.YteffoajheolpmaaT2
import Derived.Test.YteffoajheolpmaaF11
import Derived.Test.YteffoajheolpmaaF12
import Derived.Test.YteffoajheolpmaaT3
import Derived.Test.YteffoajheolpmaaT7
import Derived.Test.YteffoajheolpmaaF17
namespace Go.Proofs.Yteffoajheolpmaa.treeNames
open Go.ChangeShapes Go.WideShapes Go.ChangeAt Go.RowKit Go.Deep
open Go.ChangeMaps (open_string shut_string)
set_option linter.unusedVariables false

theorem inside_iff {p d : ByteArray} (hd : hereB d = false) : insideB p d = true ↔ ∃ r, p = d ++ slashB ++ r ∧ ¬ r.toList = [] := by
  constructor
  · intro h
    unfold insideB at h
    cases h1 : (p.toList == d.toList)
    · cases h2 : prefB p (d ++ slashB)
      · rw [withinB_4 hd h1 h2] at h; cases h
      · rw [withinB_3 hd h1 h2] at h
        have he := pref_app h2
        have hsz : (d ++ slashB).size = d.size + 1 := by rw [size_app]; rfl
        rw [hsz] at he
        refine ⟨_, he, fun e => ?_⟩
        rw [e] at h
        simp at h
    · rw [withinB_2 hd h1] at h
      simp [Lib.toList_data] at h
  · rintro ⟨r, rfl, hr⟩
    unfold insideB
    rw [within_app hd]
    simp [hr]
theorem sub_in {p d r x : ByteArray} (hd : hereB d = false) (e : p = d ++ slashB ++ r) (hr : ¬ r.toList = []) : subF d (p, x) = [(r, x)] := by
  have h : insideB p d = true := (inside_iff hd).2 ⟨r, e, hr⟩
  rw [subF_1 (f := (p, x)) h]
  show [((withinB p d).1, x)] = _
  rw [e, within_app hd]
theorem sub_mem {d : ByteArray} (hd : hereB d = false) {f g : FileB} (h : g ∈ subF d f) : f.1 = d ++ slashB ++ g.1 ∧ ¬ g.1.toList = [] ∧ g.2 = f.2 := by
  obtain ⟨p, x⟩ := f
  by_cases hi : insideB p d = true
  · obtain ⟨r, e, hr⟩ := (inside_iff hd).1 hi
    rw [sub_in hd e hr, List.mem_singleton] at h
    subst h
    exact ⟨e, hr, rfl⟩
  · rw [subF_2 (f := (p, x)) (by simpa using hi)] at h
    simp at h
theorem valid_ne {p : ByteArray} (h : validB p = true) : ¬ p.toList = [] := fun e => by
  have := valid_here h
  rw [hereB_yes e] at this; cases this
theorem cmpE_pre (x y : List ByteArray) : ∀ p, cmpE (p ++ x) (p ++ y) = cmpE x y
  | [] => rfl
  | a :: p => by rw [List.cons_append, List.cons_append, cmpE, if_pos (cmp1_eq.2 rfl)]; exact cmpE_pre x y p
theorem cmp_dir {d r s : ByteArray} (hd : ¬ d.toList = []) (hr : ¬ r.toList = []) (hs : ¬ s.toList = []) : compareN (d ++ slashB ++ r) (d ++ slashB ++ s) = compareN r s := by
  unfold compareN
  rw [elemsB_dir hd, elemsB_dir hd, cmpE_pre, elemsB_ne hr, elemsB_ne hs]
theorem here_ne {d : ByteArray} (h : hereB d = false) : ¬ d.toList = [] := fun e => by rw [hereB_yes e] at h; cases h
theorem subF_empty {d : ByteArray} (hd : d.toList = []) {f : FileB} (hf : validB f.1 = true) : subF d f = [f] := by
  have h : insideB f.1 d = true := by
    unfold insideB
    rw [withinB_1 (hereB_yes hd)]
    simp [valid_ne hf]
  rw [subF_1 h, withinB_1 (hereB_yes hd)]
theorem sub_empty {d : ByteArray} (hd : d.toList = []) {t : List FileB} (ht : ∀ f ∈ t, validB f.1 = true) : subL t d = t := by
  unfold subL
  induction t with
  | nil => rfl
  | cons x t ih =>
    rw [List.flatMap_cons, subF_empty hd (ht x (by simp)), ih fun f hf => ht f (by simp [hf])]; rfl
theorem fine_sub {t : List FileB} (ht : Tree t) {d : ByteArray} (hd : d.toList = [] ∨ validB d = true) : Fine (subL t d) ∧ Short (subL t d) := by
  rcases hd with hd | hd
  · rw [sub_empty hd fun f hf => (ht.ok f hf).1]
    exact ⟨⟨ht.up, fun f hf => valid_ne (ht.ok f hf).1⟩, ht.short⟩
  · have h0 := valid_here hd
    have hm : ∀ g ∈ subL t d, ∃ f ∈ t, g ∈ subF d f := fun g hg => by
      unfold subL at hg
      exact List.mem_flatMap.1 hg
    refine ⟨⟨?_, fun g hg => ?_⟩, fun g hg => ?_⟩
    · unfold subL Up
      rw [List.pairwise_flatMap]
      refine ⟨fun f _ => ?_, ht.up.imp fun {x y} hxy a ha b hb => ?_⟩
      · unfold subF
        split
        · exact List.pairwise_singleton _ _
        · exact List.Pairwise.nil
      · obtain ⟨e1, n1, _⟩ := sub_mem h0 ha
        obtain ⟨e2, n2, _⟩ := sub_mem h0 hb
        rw [e1, e2, cmp_dir (here_ne h0) n1 n2] at hxy
        exact hxy
    · obtain ⟨f, _, hgf⟩ := hm g hg
      exact (sub_mem h0 hgf).2.1
    · obtain ⟨f, hf, hgf⟩ := hm g hg
      have e := (sub_mem h0 hgf).1
      have hs := (valid_size (ht.ok f hf).1).2
      rw [e, size_app, size_app] at hs
      omega
theorem sub_under {t : List FileB} (ht : Tree t) {d : ByteArray} (hd : d.toList = [] ∨ validB d = true) : subL (underL t d) d = t := by
  rcases hd with hd | hd
  · have : underL t d = t := by
      unfold underL
      have : (fun f : FileB => (joinB d f.1, f.2)) = id := by
        funext f
        rw [joinB_1 (hereB_yes hd)]; rfl
      rw [this, List.map_id]
    rw [this, sub_empty hd fun f hf => (ht.ok f hf).1]
  · have h0 := valid_here hd
    unfold subL underL
    rw [List.flatMap_map]
    have key : ∀ l : List FileB, (∀ f ∈ l, validB f.1 = true) → l.flatMap (fun f => subF d (joinB d f.1, f.2)) = l := by
      intro l
      induction l with
      | nil => intro _; rfl
      | cons x l ih =>
        intro hl
        have hv := hl x (by simp)
        rw [List.flatMap_cons, ih fun f hf => hl f (by simp [hf]), joinB_3 h0 (valid_here hv), sub_in h0 rfl (valid_ne hv)]; rfl
    exact key t fun f hf => (ht.ok f hf).1
theorem under_short {t : List FileB} (ht : Tree t) {d : ByteArray} (hd : d.toList = [] ∨ validB d = true) : Short (underL t d) := by
  intro f hf
  unfold underL at hf
  obtain ⟨g, hg, rfl⟩ := List.mem_map.1 hf
  have hv := (ht.ok g hg).1
  have hs := valid_size hv
  show (joinB d g.1).size ≤ 20300
  rcases hd with hd | hd
  · rw [joinB_1 (hereB_yes hd)]; omega
  · rw [joinB_3 (valid_here hd) (valid_here hv), size_app, size_app, slash_size]
    have := valid_size hd
    omega
theorem under_len (t : List FileB) (d : ByteArray) : (underL t d).length = t.length := by unfold underL; rw [List.length_map]
theorem dirs_len (s : List FileB) : (dirsL s).length ≤ s.length := by
  have := dirs_len_take s s.length (Nat.le_refl _)
  rwa [List.take_length] at this
theorem rvalid_b {s : ByteArray} {b : Bool} (h : validB s = b) (w : World) (hs : s.size ≤ maxLen) :
    Calls Try.prog 27 #[.string s] w (BoolOut b w) := by rw [← h]; exact rvalid_all s w hs
set_option maxRecDepth 100000 in
set_option maxHeartbeats 2000000 in
theorem walk (w : World) (v0 : Value) (a0 : List FileB) (r0 : FRow w v0 a0) (l0 : a0.length ≤ maxLen) (w0 : ∀ f ∈ a0, f.1.size ≤ maxLen ∧ f.2.size ≤ maxLen) (a1 : ByteArray) (w1 : a1.size ≤ maxLen) :
    Calls Try.prog 6 #[v0, .string a1] w fun e w' => e = .returned (.bool true) ∧ Below w.heap.size w w' := by
  have HW := Lib.hid r0
  obtain ⟨va, vc, rfl, hlc, -⟩ := r0
  clear w0
  go_enter Try.func6, Try.ntmps6
  go_wp2_with fail
  refine (heavy_any a0 _ _ HW.out l0).mono ?_
  rintro _ w1' ⟨b, n, rfl, hli, rfl⟩
  have HLi := Lib.hid hli
  clear hli
  have hB : Below w.heap.size w (w.drewN n) := below_drewN (Below.refl _ _) n
  cases b
  · have HL := Lib.hid (HLi.out rfl)
    by_cases h1 : a1.size ≤ 1024
    · go_wp2_with fail
      refine (shown_any _).mono ?_
      rintro _ w2 ⟨rfl, hb2⟩
      replace hB := hB.trans (hb2.mono hB.size)
      go_wp2_with fail
      refine (grown_any a0 _ _ (HW.out.below hB) HL.out).mono ?_
      rintro _ w3 ⟨A, c, t, rfl, hrow, ht, hb3⟩
      replace hB := hB.trans (hb3.mono hB.size)
      have HR := Lib.hid hrow
      have HT := Lib.hid ht
      have hfew := ht.few
      clear hrow ht hb3 hb2
      by_cases hemp : a1.toList = []
      · have HDir := Lib.hid (show a1.toList = [] ∨ validB a1 = true from .inl hemp)
        have e1 : (a1.toList == []) = true := by simp [hemp]
        have e2 : (a1.toList != []) = false := by simp [hemp]
        have e3 : a1.toList.isEmpty = true := by simp [hemp]
        clear hemp
        have hds : a1.size ≤ 1024 := h1
        have HFS := Lib.hid (fine_sub HT.out HDir.out)
        have HSU := Lib.hid (sub_under HT.out HDir.out)
        have HUS := Lib.hid (under_short HT.out HDir.out)
        have hsl := subL_len t a1
        have hfl := files_len (subL t a1)
        have hdl := dirs_len (subL t a1)
        have hul : (underL t a1).length ≤ 60 := by rw [under_len]; exact hfew
        go_wp2_with fail
        refine (tnames_any t a1 _ _ HR.out (by omega) (by omega) HFS.out.2).mono ?_
        rintro _ w5 ⟨A5, c5, B5, d5, rfl, hf5, hd5, hb5⟩
        replace hB := hB.trans (hb5.mono hB.size)
        have HR5 := Lib.hid (HR.out.below hb5)
        have HF5 := Lib.hid hf5
        have HD5 := Lib.hid hd5
        clear hf5 hd5 hb5 HR
        go_wp2_with fail
        refine (rnames_any t a1 _ _ HR5.out (by omega) (by omega) HFS.out.1 HFS.out.2).mono ?_
        rintro _ w6 ⟨A6, c6, B6, d6, rfl, hf6, hd6, hb6⟩
        replace hB := hB.trans (hb6.mono hB.size)
        have HR6 := Lib.hid (HR5.out.below hb6)
        have HF6 := Lib.hid (HF5.out.below hb6)
        have HD6 := Lib.hid (HD5.out.below hb6)
        have HG6 := Lib.hid hf6
        have HE6 := Lib.hid hd6
        clear hf6 hd6 hb6 HR5 HF5 HD5
        go_wp2_with fail
        refine (tsub_any t a1 _ _ HR6.out (by omega) (by omega)).mono ?_
        rintro _ w7 ⟨A7, c7, rfl, hrow7, hb7⟩
        replace hB := hB.trans (hb7.mono hB.size)
        have HR7 := Lib.hid (HR6.out.below hb7)
        have HF7 := Lib.hid (HF6.out.below hb7)
        have HD7 := Lib.hid (HD6.out.below hb7)
        have HG7 := Lib.hid (HG6.out.below hb7)
        have HE7 := Lib.hid (HE6.out.below hb7)
        have HS7 := Lib.hid hrow7
        clear hrow7 hb7 HR6 HF6 HD6 HG6 HE6
        go_wp2_with fail
        refine (tunder_any t a1 _ _ HR7.out HT.out.short (by omega) (by omega)).mono ?_
        rintro _ w8 ⟨A8, c8, rfl, hrow8, hb8⟩
        replace hB := hB.trans (hb8.mono hB.size)
        have HR8 := Lib.hid (HR7.out.below hb8)
        have HF8 := Lib.hid (HF7.out.below hb8)
        have HD8 := Lib.hid (HD7.out.below hb8)
        have HG8 := Lib.hid (HG7.out.below hb8)
        have HE8 := Lib.hid (HE7.out.below hb8)
        have HS8 := Lib.hid (HS7.out.below hb8)
        have HU8 := Lib.hid hrow8
        clear hrow8 hb8 HR7 HF7 HD7 HG7 HE7 HS7
        go_wp2_with fail
        refine (lsame_any _ _ _ _ HF8.out HG8.out (by omega)).mono ?_
        rintro _ w9 ⟨rfl, n9, rfl⟩
        go_wp2_with fail
        refine (lsame_any _ _ _ _ (HD8.out.drew _) (HE8.out.drew _) (by omega)).mono ?_
        rintro _ w10 ⟨rfl, n10, rfl⟩
        go_wp2_with fail
        refine (rsub_any t a1 _ _ (HR8.out.drew _) (by omega) (by omega)).mono ?_
        rintro _ w11 ⟨A11, c11, rfl, hrow11, hb11⟩
        have hB11 := (below_drewN hB (n9 + n10)).trans (hb11.mono hB.size)
        have HR11 := Lib.hid ((HR8.out.drew (n9 + n10)).below hb11)
        have HS11 := Lib.hid ((HS8.out.drew (n9 + n10)).below hb11)
        have HU11 := Lib.hid ((HU8.out.drew (n9 + n10)).below hb11)
        have HY11 := Lib.hid hrow11
        clear hrow11 hb11 HR8 HS8 HU8 HF8 HD8 HG8 HE8 hB
        go_wp2_with fail
        refine (same_yes _ _ _ HS11.out HY11.out (by omega)).mono ?_
        rintro _ w12 ⟨rfl, n12, rfl⟩
        have hB12 := below_drewN hB11 n12
        go_wp2_with fail
        refine (runder_any t a1 _ _ (HR11.out.drew n12) HT.out.short (by omega) (by omega)).mono ?_
        rintro _ w13 ⟨A13, c13, rfl, hrow13, hb13⟩
        have hB13 := hB12.trans (hb13.mono hB12.size)
        have HR13 := Lib.hid ((HR11.out.drew n12).below hb13)
        have HU13 := Lib.hid ((HU11.out.drew n12).below hb13)
        have HY13 := Lib.hid hrow13
        clear hrow13 hb13 HR11 HS11 HU11 HY11 hB11 hB12
        go_wp2_with fail
        refine (same_yes _ _ _ HU13.out HY13.out (by omega)).mono ?_
        rintro _ w14 ⟨rfl, n14, rfl⟩
        have hB14 := below_drewN hB13 n14
        go_wp2_with fail
        refine (tsub_any (underL t a1) a1 _ _ (HU13.out.drew n14) (by omega) (by omega)).mono ?_
        rw [HSU.out]
        rintro _ w15 ⟨A15, c15, rfl, hrow15, hb15⟩
        have hB15 := hB14.trans (hb15.mono hB14.size)
        have HR15 := Lib.hid ((HR13.out.drew n14).below hb15)
        have HX15 := Lib.hid hrow15
        have hfl' : ((filesL (subL t a1)).length : Int) ≤ ((subL t a1).length : Int) := by omega
        clear hrow15 hb15
        go_wp2_with fail
        refine (same_yes _ _ _ HX15.out HR15.out (by omega)).mono ?_
        rintro _ w16 ⟨rfl, n16, rfl⟩
        go_wp2
        go_ret
        exact ⟨rfl, below_drewN hB15 _⟩
      · have e1 : (a1.toList == []) = false := by simp [hemp]
        have e2 : (a1.toList != []) = true := by simp [hemp]
        have e3 : a1.toList.isEmpty = false := by cases h : a1.toList <;> simp_all
        have HNe := Lib.hid hemp
        clear hemp
        cases hvd : validB a1
        · go_wp2_with fail
          refine (rvalid_b hvd _ w1).mono ?_
          rintro _ w4 ⟨rfl, hb4⟩
          replace hB := hB.trans (hb4.mono hB.size)
          go_wp2_with fail
          refine (shown_any _).mono ?_
          rintro _ w5 ⟨rfl, hb5⟩
          go_wp2
          go_ret
          exact ⟨rfl, hB.trans (hb5.mono hB.size)⟩
        · have HDir := Lib.hid (show a1.toList = [] ∨ validB a1 = true from .inr hvd)
          go_wp2_with fail
          refine (rvalid_b hvd _ w1).mono ?_
          rintro _ w4 ⟨rfl, hb4⟩
          replace hB := hB.trans (hb4.mono hB.size)
          replace HR := Lib.hid (HR.out.below hb4)
          clear hvd hb4
          have hds : a1.size ≤ 1024 := h1
          have HFS := Lib.hid (fine_sub HT.out HDir.out)
          have HSU := Lib.hid (sub_under HT.out HDir.out)
          have HUS := Lib.hid (under_short HT.out HDir.out)
          have hsl := subL_len t a1
          have hfl := files_len (subL t a1)
          have hdl := dirs_len (subL t a1)
          have hul : (underL t a1).length ≤ 60 := by rw [under_len]; exact hfew
          go_wp2_with fail
          refine (tnames_any t a1 _ _ HR.out (by omega) (by omega) HFS.out.2).mono ?_
          rintro _ w5 ⟨A5, c5, B5, d5, rfl, hf5, hd5, hb5⟩
          replace hB := hB.trans (hb5.mono hB.size)
          have HR5 := Lib.hid (HR.out.below hb5)
          have HF5 := Lib.hid hf5
          have HD5 := Lib.hid hd5
          clear hf5 hd5 hb5 HR
          go_wp2_with fail
          refine (rnames_any t a1 _ _ HR5.out (by omega) (by omega) HFS.out.1 HFS.out.2).mono ?_
          rintro _ w6 ⟨A6, c6, B6, d6, rfl, hf6, hd6, hb6⟩
          replace hB := hB.trans (hb6.mono hB.size)
          have HR6 := Lib.hid (HR5.out.below hb6)
          have HF6 := Lib.hid (HF5.out.below hb6)
          have HD6 := Lib.hid (HD5.out.below hb6)
          have HG6 := Lib.hid hf6
          have HE6 := Lib.hid hd6
          clear hf6 hd6 hb6 HR5 HF5 HD5
          go_wp2_with fail
          refine (tsub_any t a1 _ _ HR6.out (by omega) (by omega)).mono ?_
          rintro _ w7 ⟨A7, c7, rfl, hrow7, hb7⟩
          replace hB := hB.trans (hb7.mono hB.size)
          have HR7 := Lib.hid (HR6.out.below hb7)
          have HF7 := Lib.hid (HF6.out.below hb7)
          have HD7 := Lib.hid (HD6.out.below hb7)
          have HG7 := Lib.hid (HG6.out.below hb7)
          have HE7 := Lib.hid (HE6.out.below hb7)
          have HS7 := Lib.hid hrow7
          clear hrow7 hb7 HR6 HF6 HD6 HG6 HE6
          go_wp2_with fail
          refine (tunder_any t a1 _ _ HR7.out HT.out.short (by omega) (by omega)).mono ?_
          rintro _ w8 ⟨A8, c8, rfl, hrow8, hb8⟩
          replace hB := hB.trans (hb8.mono hB.size)
          have HR8 := Lib.hid (HR7.out.below hb8)
          have HF8 := Lib.hid (HF7.out.below hb8)
          have HD8 := Lib.hid (HD7.out.below hb8)
          have HG8 := Lib.hid (HG7.out.below hb8)
          have HE8 := Lib.hid (HE7.out.below hb8)
          have HS8 := Lib.hid (HS7.out.below hb8)
          have HU8 := Lib.hid hrow8
          clear hrow8 hb8 HR7 HF7 HD7 HG7 HE7 HS7
          go_wp2_with fail
          refine (lsame_any _ _ _ _ HF8.out HG8.out (by omega)).mono ?_
          rintro _ w9 ⟨rfl, n9, rfl⟩
          go_wp2_with fail
          refine (lsame_any _ _ _ _ (HD8.out.drew _) (HE8.out.drew _) (by omega)).mono ?_
          rintro _ w10 ⟨rfl, n10, rfl⟩
          go_wp2_with fail
          refine (rsub_any t a1 _ _ (HR8.out.drew _) (by omega) (by omega)).mono ?_
          rintro _ w11 ⟨A11, c11, rfl, hrow11, hb11⟩
          have hB11 := (below_drewN hB (n9 + n10)).trans (hb11.mono hB.size)
          have HR11 := Lib.hid ((HR8.out.drew (n9 + n10)).below hb11)
          have HS11 := Lib.hid ((HS8.out.drew (n9 + n10)).below hb11)
          have HU11 := Lib.hid ((HU8.out.drew (n9 + n10)).below hb11)
          have HY11 := Lib.hid hrow11
          clear hrow11 hb11 HR8 HS8 HU8 HF8 HD8 HG8 HE8 hB
          go_wp2_with fail
          refine (same_yes _ _ _ HS11.out HY11.out (by omega)).mono ?_
          rintro _ w12 ⟨rfl, n12, rfl⟩
          have hB12 := below_drewN hB11 n12
          go_wp2_with fail
          refine (runder_any t a1 _ _ (HR11.out.drew n12) HT.out.short (by omega) (by omega)).mono ?_
          rintro _ w13 ⟨A13, c13, rfl, hrow13, hb13⟩
          have hB13 := hB12.trans (hb13.mono hB12.size)
          have HR13 := Lib.hid ((HR11.out.drew n12).below hb13)
          have HU13 := Lib.hid ((HU11.out.drew n12).below hb13)
          have HY13 := Lib.hid hrow13
          clear hrow13 hb13 HR11 HS11 HU11 HY11 hB11 hB12
          go_wp2_with fail
          refine (same_yes _ _ _ HU13.out HY13.out (by omega)).mono ?_
          rintro _ w14 ⟨rfl, n14, rfl⟩
          have hB14 := below_drewN hB13 n14
          go_wp2_with fail
          refine (tsub_any (underL t a1) a1 _ _ (HU13.out.drew n14) (by omega) (by omega)).mono ?_
          rw [HSU.out]
          rintro _ w15 ⟨A15, c15, rfl, hrow15, hb15⟩
          have hB15 := hB14.trans (hb15.mono hB14.size)
          have HR15 := Lib.hid ((HR13.out.drew n14).below hb15)
          have HX15 := Lib.hid hrow15
          have hfl' : ((filesL (subL t a1)).length : Int) ≤ ((subL t a1).length : Int) := by omega
          clear hrow15 hb15
          go_wp2_with fail
          refine (same_yes _ _ _ HX15.out HR15.out (by omega)).mono ?_
          rintro _ w16 ⟨rfl, n16, rfl⟩
          go_wp2
          go_ret
          exact ⟨rfl, below_drewN hB15 _⟩
    · go_wp2_with fail
      refine (shown_any _).mono ?_
      rintro _ w2 ⟨rfl, hb2⟩
      go_wp2
      go_ret
      exact ⟨rfl, hB.trans (hb2.mono hB.size)⟩
  · go_wp2_with fail
    refine (shown_any _).mono ?_
    rintro _ w2 ⟨rfl, hb2⟩
    go_wp2
    go_ret
    exact ⟨rfl, hB.trans (hb2.mono hB.size)⟩

set_option maxRecDepth 100000 in
theorem lifted (os : Os) (started : os.Started) (H : Type) (enc : TypeId × Value → H) :
    ReturnsInHanded {} Try.checked os 6 .any (Rows.treeNamesSpec.pre6 enc Try.prog Try.f6 Rows.treeNamesRow.domain false) (Rows.treeNamesSpec.post enc Try.prog Try.f6 false true false false) := by
  refine returnsInHanded_of_change (C := Try.checked) own started (by kernel_rfl) Try.func6
    (ChangeSpec.witness6 (enc := enc) (C := Try.checked) false ⟨#[], #[.slice none 0 0, .string ByteArray.empty], []⟩ 8 (by kernel_rfl) (by kernel_rfl) (by kernel_rfl) (by kernel_rfl)) ?_
  intro W base args ds gs before hval0 hW hcnd _
  have hval : ∀ (j : Nat) t v, Try.f6.params[j]? = some t → args[j]? = some v → Value.okWide Try.prog W .any base t v := hval0
  have hW' := hW
  obtain ⟨p, q, hA0, hV, rfl, hfz, hnd⟩ := hW
  have hA : DataW.TrodAll enc Try.prog W 0 (fun _ => true) true Try.f6.params.toList args.toList ds p := hA0
  rw [Try.params6] at hA hval
  obtain ⟨v0, vs0, d0, ds0, p0, q0, hargs, rfl, rfl, h0, r0⟩ := trodAll_cons hA
  obtain ⟨v1, vs1, d1, ds1, p1, q1, rfl, rfl, rfl, h1, r1⟩ := trodAll_cons r0
  obtain ⟨rfl, rfl, rfl⟩ := trodAll_nil r1
  obtain rfl : args = #[v0, v1] := by cases args; simp_all
  obtain ⟨rfl, rfl⟩ := trodVars_none hV
  obtain ⟨a0, g0, l0, w0, u0⟩ := open_files (hval 0 22 v0 rfl rfl) h0
  obtain ⟨a1, rfl, rfl, rfl, w1⟩ := open_string Try.underlying9 (hval 1 9 v1 rfl rfl) h1
  clear hA0 hval0
  simp only [List.append_nil] at hW'
  refine (walk W v0 a0 g0 l0 w0 a1 w1).mono fun e W' ⟨he, bel⟩ => ?_
  subst he
  refine ⟨_, rfl, _, _, _, [], _, [], hW', trodAll_mk1 (shut_bool Try.underlying4 _), (trodAll_cons_mk (u0 _ bel) (trodAll_cons_mk (shut_string Try.underlying9 w1) trodAll_mk0)), rfl, bel.frame _, fun h => by cases h⟩

theorem over : Rows.treeNamesRow.holds Try.pinned (OpenSpec.ofChange Rows.treeNamesSpec) :=
  OpenClaim.holds_of_wide 6 Try.f6 rfl rfl rfl rfl rfl rfl rfl ⟨rfl, rfl, rfl, rfl, rfl⟩ rfl rfl rfl rfl rfl (by kernel_rfl) Try.func6 (by kernel_rfl)
    (of_decide_eq_true (by kernel_rfl)) (by unfold Func.isWrapper; first | (rw [if_pos (by decide +kernel)]; kernel_rfl) | (rw [if_neg (by decide +kernel)]; exact ⟨rfl, rfl⟩))
    (fun os started H enc _ => lifted os started H enc)

theorem proved : Rows.TreeNamesSaid :=
  over
#print axioms proved
end Go.Proofs.Yteffoajheolpmaa.treeNames
