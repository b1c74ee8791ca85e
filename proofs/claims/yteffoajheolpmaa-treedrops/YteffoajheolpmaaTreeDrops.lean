/-
  For every list of files and every text the Go function graftbedlaw02.TreeDrops returns true: from any tree any file is dropped, if it is there; nothing else goes; put again the tree is what it was (P2.2, P2.6). No condition.
-/
import Derived.Test.YteffoajheolpmaaRows
import Derived.Test.YteffoajheolpmaaL0
import Derived.Test.YteffoajheolpmaaF8
import Derived.Test.YteffoajheolpmaaT1
import Derived.Test.YteffoajheolpmaaF9
import Derived.Test.YteffoajheolpmaaT2
import Derived.Test.YteffoajheolpmaaF10
namespace Go.Proofs.Yteffoajheolpmaa.treeDrops
open Go.ChangeShapes Go.WideShapes Go.ChangeAt Go.RowKit Go.Deep
open Go.ChangeMaps (open_string shut_string)
set_option linter.unusedVariables false

theorem tree_drop {t : List FileB} (h : Tree t) (q : ByteArray) : Tree (dropL t q) := by
  have hs : ∀ g ∈ dropL t q, g ∈ t := fun g hg => (mem_drop.1 hg).1
  exact ⟨fun f hf => h.ok f (hs f hf), h.up.filter _, fun f hf g hg => h.apart f (hs f hf) g (hs g hg), Nat.le_trans (List.length_filter_le _ _) h.few⟩
theorem drop_put {t : List FileB} (h : Tree t) {q d : ByteArray} (hm : (q, d) ∈ t) : putL (dropL t q) (q, d) = t := by
  refine up_ext (up_put (tree_drop h q).up _) h.up fun g => ?_
  rw [mem_put, mem_drop]
  constructor
  · rintro (rfl | ⟨⟨hg, _⟩, _⟩)
    · exact hm
    · exact hg
  · intro hg
    by_cases e : g.1 = q
    · exact .inl (up_inj h.up hg hm e)
    · exact .inr ⟨⟨hg, e⟩, e⟩
theorem drop_putE {t : List FileB} (h : Tree t) {q d : ByteArray} (hm : (q, d) ∈ t) : putE (dropL t q) (q, d) = 0 := by
  obtain ⟨h1, h2⟩ := h.ok _ hm
  refine putE_5 h1 (show ¬ 4000 < d.size by have : d.size ≤ 4000 := h2; omega) ?_ (by rw [drop_put h hm]; have := h.few; omega)
  unfold clashI
  rw [List.any_eq_false]
  intro g hg
  have := h.apart g (mem_drop.1 hg).1 _ hm
  simp only [Bool.not_eq_true]
  exact this
theorem tdrop_n {t : List FileB} {q : ByteArray} {n : Int} {zs : List FileB} (he : dropE t q = n) (hz : dropR t q = zs) (ht : Tree t) (v : Value) (w : World) (hv : FRow w v t) (h2 : q.size ≤ 20300) :
    Calls Try.prog 25 #[v, .string q] w (PutOut zs n w) := by rw [← he, ← hz]; exact tdrop_any t q v w hv ht.short h2 ht.len ht.up
theorem rdrop_n {t : List FileB} {q : ByteArray} {n : Int} {zs : List FileB} (he : dropE t q = n) (hz : dropR t q = zs) (ht : Tree t) (v : Value) (w : World) (hv : FRow w v t) :
    Calls Try.prog 26 #[v, .string q] w (PutOut zs n w) := by rw [← he, ← hz]; exact rdrop_any t q v w hv ht.len
theorem rfind_v {t : List FileB} {q d : ByteArray} {b : Bool} (h : findB t q = (d, b)) (v : Value) (w : World) (hv : FRow w v t) (hl : t.length ≤ 1000) :
    Calls Try.prog 24 #[v, .string q] w fun e w' => e = .returned (.tuple #[.string d, .bool b]) ∧ w = w' := by
  refine (rfind_any t v q w hv hl).mono ?_
  rintro e w' ⟨rfl, hb⟩
  exact ⟨by rw [h], hb⟩
theorem tput_n {t : List FileB} {f : FileB} {n : Int} {zs : List FileB} (he : putE t f = n) (hz : putR t f = zs) (ht : Tree t) (v : Value) (w : World) (hv : FRow w v t) (hf1 : f.1.size ≤ maxLen) (hf2 : f.2.size ≤ maxLen) :
    Calls Try.prog 21 #[v, fileV f] w (PutOut zs n w) := by rw [← he, ← hz]; exact tput_tree ht f v w hv hf1 hf2
set_option maxRecDepth 100000 in
set_option maxHeartbeats 2000000 in
theorem walk (w : World) (v0 : Value) (a0 : List FileB) (r0 : FRow w v0 a0) (l0 : a0.length ≤ maxLen) (w0 : ∀ f ∈ a0, f.1.size ≤ maxLen ∧ f.2.size ≤ maxLen) (a1 : ByteArray) (w1 : a1.size ≤ maxLen) :
    Calls Try.prog 5 #[v0, .string a1] w fun e w' => e = .returned (.bool true) ∧ Below w.heap.size w w' := by
  have HW := Lib.hid r0
  obtain ⟨va, vc, rfl, hlc, -⟩ := r0
  clear w0
  go_enter Try.func5, Try.ntmps5
  go_wp2_with fail
  refine (heavy_any a0 _ _ HW.out l0).mono ?_
  rintro _ w1 ⟨b, n, rfl, hli, rfl⟩
  have HLi := Lib.hid hli
  clear hli
  have hB : Below w.heap.size w (w.drewN n) := below_drewN (Below.refl _ _) n
  cases b
  · have HL := Lib.hid (HLi.out rfl)
    by_cases h1 : a1.size ≤ 1024
    · go_wp2_with fail
      refine (shown_any _).mono ?_
      rintro _ w2 ⟨rfl, hb2⟩
      replace hB := hB.trans (hb2.mono hB.size)
      go_wp2_with fail
      refine (grown_any a0 _ _ (HW.out.below hB) HL.out).mono ?_
      rintro _ w3 ⟨A, c, t, rfl, hrow, ht, hb3⟩
      replace hB := hB.trans (hb3.mono hB.size)
      have HR := Lib.hid hrow
      have HT := Lib.hid ht
      have hfew := ht.few
      clear hrow ht hb3 hb2
      have e0 : (a1.toList == a1.toList) = true := by simp
      cases hh : hasP t a1
      · have HF := Lib.hid (find_none hh)
        have HE := Lib.hid (dropE_1 hh)
        go_wp2_with fail
        refine (tfind_v HF.out _ _ HR.out HT.out (by omega)).mono ?_
        rintro _ w4 ⟨rfl, hb4⟩
        replace hB := hB.trans (hb4.mono hB.size)
        have HR4 := Lib.hid (HR.out.below hb4)
        go_wp2_with fail
        refine (rfind_v HF.out _ _ HR4.out (by omega)).mono ?_
        rintro _ w5 ⟨rfl, rfl⟩
        go_wp2_with fail
        refine (tdrop_n HE.out.1 HE.out.2 HT.out _ _ HR4.out (by omega)).mono ?_
        rintro _ w6 ⟨A6, c6, rfl, hrow6, hb6⟩
        replace hB := hB.trans (hb6.mono hB.size)
        go_wp2_with fail
        refine (rdrop_n HE.out.1 HE.out.2 HT.out _ _ (HR4.out.below hb6)).mono ?_
        rintro _ w7 ⟨A7, c7, rfl, hrow7, hb7⟩
        replace hB := hB.trans (hb7.mono hB.size)
        have HRa := Lib.hid (hrow6.below hb7)
        have HRb := Lib.hid hrow7
        clear hrow6 hrow7 hb4 hb6 hb7
        go_wp2_with fail
        refine (same_yes _ _ _ HRa.out HRb.out (by simp)).mono ?_
        rintro _ w8 ⟨rfl, n8, rfl⟩
        replace hB := below_drewN hB n8
        go_wp2
        go_ret
        exact ⟨rfl, hB⟩
      · obtain ⟨hp, -⟩ := has_place HT.out.up hh
        have hF := find_place HT.out.up hh hp
        generalize t[placeN t a1].2 = d at hF
        have HM := Lib.hid (find_yes hF)
        have HF := Lib.hid hF
        have HE := Lib.hid (dropE_2 hh)
        have HTd := Lib.hid (tree_drop HT.out a1)
        have HPE := Lib.hid (drop_putE HT.out HM.out)
        have HPR := Lib.hid (show putR (dropL t a1) (a1, d) = t by rw [putR_yes HPE.out]; exact drop_put HT.out HM.out)
        have hds : d.size ≤ 4000 := (HT.out.ok _ HM.out).2
        have hlu : (dropL t a1).length ≤ 60 := HTd.out.few
        have e1 : (d.toList == d.toList) = true := by simp
        clear hF hp
        go_wp2_with fail
        refine (tfind_v HF.out _ _ HR.out HT.out (by omega)).mono ?_
        rintro _ w4 ⟨rfl, hb4⟩
        replace hB := hB.trans (hb4.mono hB.size)
        have HR4 := Lib.hid (HR.out.below hb4)
        go_wp2_with fail
        refine (rfind_v HF.out _ _ HR4.out (by omega)).mono ?_
        rintro _ w5 ⟨rfl, rfl⟩
        go_wp2_with fail
        refine (tdrop_n HE.out.1 HE.out.2 HT.out _ _ HR4.out (by omega)).mono ?_
        rintro _ w6 ⟨A6, c6, rfl, hrow6, hb6⟩
        replace hB := hB.trans (hb6.mono hB.size)
        go_wp2_with fail
        refine (rdrop_n HE.out.1 HE.out.2 HT.out _ _ (HR4.out.below hb6)).mono ?_
        rintro _ w7 ⟨A7, c7, rfl, hrow7, hb7⟩
        replace hB := hB.trans (hb7.mono hB.size)
        have HRa := Lib.hid (hrow6.below hb7)
        have HRb := Lib.hid hrow7
        have HR7 := Lib.hid ((HR4.out.below hb6).below hb7)
        clear hrow6 hrow7 hb4 hb6 hb7 HR4 HR
        generalize dropL t a1 = u at *
        go_wp2_with fail
        refine (same_yes _ _ _ HRa.out HRb.out (by omega)).mono ?_
        rintro _ w8 ⟨rfl, n8, rfl⟩
        replace hB := below_drewN hB n8
        go_wp2_with fail
        refine (tput_n (f := (a1, d)) HPE.out HPR.out HTd.out _ _ (HRa.out.drew n8) (Nat.le_trans h1 (by decide)) (Nat.le_trans hds (by decide))).mono ?_
        rintro _ w9 ⟨A9, c9, rfl, hrow9, hb9⟩
        replace hB := hB.trans (hb9.mono hB.size)
        have HR9 := Lib.hid ((HR7.out.drew n8).below hb9)
        have HU9 := Lib.hid ((HRa.out.drew n8).below hb9)
        have HP9 := Lib.hid hrow9
        clear hrow9 hb9
        go_wp2_with fail
        refine (same_yes _ _ _ HP9.out HR9.out (by omega)).mono ?_
        rintro _ w10 ⟨rfl, n10, rfl⟩
        replace hB := below_drewN hB n10
        go_wp2_with fail
        refine (tcheck_tree HTd.out _ _ (HU9.out.drew n10)).mono ?_
        rintro _ w11 ⟨rfl, hb11⟩
        replace hB := hB.trans (hb11.mono hB.size)
        go_wp2
        go_ret
        exact ⟨rfl, hB⟩
    · go_wp2_with fail
      refine (shown_any _).mono ?_
      rintro _ w2 ⟨rfl, hb2⟩
      go_wp2
      go_ret
      exact ⟨rfl, hB.trans (hb2.mono hB.size)⟩
  · go_wp2_with fail
    refine (shown_any _).mono ?_
    rintro _ w2 ⟨rfl, hb2⟩
    go_wp2
    go_ret
    exact ⟨rfl, hB.trans (hb2.mono hB.size)⟩

set_option maxRecDepth 100000 in
theorem lifted (os : Os) (started : os.Started) (H : Type) (enc : TypeId × Value → H) :
    ReturnsInHanded {} Try.checked os 5 .any (Rows.treeDropsSpec.pre6 enc Try.prog Try.f5 Rows.treeDropsRow.domain false) (Rows.treeDropsSpec.post enc Try.prog Try.f5 false true false false) := by
  refine returnsInHanded_of_change (C := Try.checked) own started (by kernel_rfl) Try.func5
    (ChangeSpec.witness6 (enc := enc) (C := Try.checked) false ⟨#[], #[.slice none 0 0, .string ByteArray.empty], []⟩ 8 (by kernel_rfl) (by kernel_rfl) (by kernel_rfl) (by kernel_rfl)) ?_
  intro W base args ds gs before hval0 hW hcnd _
  have hval : ∀ (j : Nat) t v, Try.f5.params[j]? = some t → args[j]? = some v → Value.okWide Try.prog W .any base t v := hval0
  have hW' := hW
  obtain ⟨p, q, hA0, hV, rfl, hfz, hnd⟩ := hW
  have hA : DataW.TrodAll enc Try.prog W 0 (fun _ => true) true Try.f5.params.toList args.toList ds p := hA0
  rw [Try.params5] at hA hval
  obtain ⟨v0, vs0, d0, ds0, p0, q0, hargs, rfl, rfl, h0, r0⟩ := trodAll_cons hA
  obtain ⟨v1, vs1, d1, ds1, p1, q1, rfl, rfl, rfl, h1, r1⟩ := trodAll_cons r0
  obtain ⟨rfl, rfl, rfl⟩ := trodAll_nil r1
  obtain rfl : args = #[v0, v1] := by cases args; simp_all
  obtain ⟨rfl, rfl⟩ := trodVars_none hV
  obtain ⟨a0, g0, l0, w0, u0⟩ := open_files (hval 0 22 v0 rfl rfl) h0
  obtain ⟨a1, rfl, rfl, rfl, w1⟩ := open_string Try.underlying9 (hval 1 9 v1 rfl rfl) h1
  clear hA0 hval0
  simp only [List.append_nil] at hW'
  refine (walk W v0 a0 g0 l0 w0 a1 w1).mono fun e W' ⟨he, bel⟩ => ?_
  subst he
  refine ⟨_, rfl, _, _, _, [], _, [], hW', trodAll_mk1 (shut_bool Try.underlying4 _), (trodAll_cons_mk (u0 _ bel) (trodAll_cons_mk (shut_string Try.underlying9 w1) trodAll_mk0)), rfl, bel.frame _, fun h => by cases h⟩

theorem over : Rows.treeDropsRow.holds Try.pinned (OpenSpec.ofChange Rows.treeDropsSpec) :=
  OpenClaim.holds_of_wide 5 Try.f5 rfl rfl rfl rfl rfl rfl rfl ⟨rfl, rfl, rfl, rfl, rfl⟩ rfl rfl rfl rfl rfl (by kernel_rfl) Try.func5 (by kernel_rfl)
    (of_decide_eq_true (by kernel_rfl)) (by unfold Func.isWrapper; first | (rw [if_pos (by decide +kernel)]; kernel_rfl) | (rw [if_neg (by decide +kernel)]; exact ⟨rfl, rfl⟩))
    (fun os started H enc _ => lifted os started H enc)

theorem proved : Rows.TreeDropsSaid :=
  over
#print axioms proved
end Go.Proofs.Yteffoajheolpmaa.treeDrops
