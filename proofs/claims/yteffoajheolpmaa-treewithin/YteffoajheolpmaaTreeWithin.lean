/-
  For every list of files and every two texts the Go function graftbedlaw02.TreeWithin returns true: what is within a directory of what is within another one is what is within both, joined (P2.3). No condition.
-/
import Derived.Test.YteffoajheolpmaaRows
import Derived.Test.YteffoajheolpmaaL0
import Derived.Test.YteffoajheolpmaaF8
import Derived.Test.YteffoajheolpmaaT1
import Derived.Test.YteffoajheolpmaaF9
import Derived.Test.YteffoajheolpmaaT2
import Derived.Test.YteffoajheolpmaaF11
namespace Go.Proofs.Yteffoajheolpmaa.treeWithin
open Go.ChangeShapes Go.WideShapes Go.ChangeAt Go.RowKit Go.Deep
open Go.ChangeMaps (open_string shut_string)
set_option linter.unusedVariables false

theorem inside_iff {p d : ByteArray} (hd : hereB d = false) : insideB p d = true ↔ ∃ r, p = d ++ slashB ++ r ∧ ¬ r.toList = [] := by
  constructor
  · intro h
    unfold insideB at h
    cases h1 : (p.toList == d.toList)
    · cases h2 : prefB p (d ++ slashB)
      · rw [withinB_4 hd h1 h2] at h; cases h
      · rw [withinB_3 hd h1 h2] at h
        have he := pref_app h2
        have hsz : (d ++ slashB).size = d.size + 1 := by rw [size_app]; rfl
        rw [hsz] at he
        refine ⟨_, he, fun e => ?_⟩
        rw [e] at h
        simp at h
    · rw [withinB_2 hd h1] at h
      simp [Lib.toList_data] at h
  · rintro ⟨r, rfl, hr⟩
    unfold insideB
    rw [within_app hd]
    simp [hr]
theorem sub_in {p d r x : ByteArray} (hd : hereB d = false) (e : p = d ++ slashB ++ r) (hr : ¬ r.toList = []) : subF d (p, x) = [(r, x)] := by
  have h : insideB p d = true := (inside_iff hd).2 ⟨r, e, hr⟩
  rw [subF_1 (f := (p, x)) h]
  show [((withinB p d).1, x)] = _
  rw [e, within_app hd]
theorem sub_out {p d x : ByteArray} (h : ¬ insideB p d = true) : subF d (p, x) = [] := subF_2 (by simpa using h)
theorem here_ab {a b : ByteArray} (ha : validB a = true) (hb : validB b = true) : hereB (a ++ slashB ++ b) = false :=
  here_long (by rw [size_app, size_app, slash_size]; have := valid_size ha; omega)
theorem slash_ne (b s : ByteArray) : ¬ (b ++ slashB ++ s).toList = [] := by
  rw [Lib.toList_data, data_app, data_app]; simp
theorem subsub {a b : ByteArray} (ha : validB a = true) (hb : validB b = true) (f : FileB) : (subF a f).flatMap (subF b) = subF (a ++ slashB ++ b) f := by
  obtain ⟨p, x⟩ := f
  have h1 := valid_here ha
  have h2 := valid_here hb
  have h3 := here_ab ha hb
  by_cases h : insideB p (a ++ slashB ++ b) = true
  · obtain ⟨s, e, hs⟩ := (inside_iff h3).1 h
    rw [sub_in h3 e hs]
    have e' : p = a ++ slashB ++ (b ++ slashB ++ s) := by rw [e, app_assoc (a ++ slashB), app_assoc (a ++ slashB)]
    rw [sub_in h1 e' (slash_ne b s)]
    simp only [List.flatMap_cons, List.flatMap_nil, List.append_nil]
    exact sub_in h2 rfl hs
  · rw [sub_out h]
    by_cases k : insideB p a = true
    · obtain ⟨r, e, hr⟩ := (inside_iff h1).1 k
      rw [sub_in h1 e hr]
      simp only [List.flatMap_cons, List.flatMap_nil, List.append_nil]
      refine sub_out fun l => h ?_
      obtain ⟨s, e2, hs⟩ := (inside_iff h2).1 l
      exact (inside_iff h3).2 ⟨s, by rw [e, e2, app_assoc (a ++ slashB), app_assoc (a ++ slashB)], hs⟩
    · rw [sub_out k]; rfl
theorem subsubL {a b : ByteArray} (ha : validB a = true) (hb : validB b = true) (t : List FileB) : subL (subL t a) b = subL t (a ++ slashB ++ b) := by
  unfold subL
  rw [List.flatMap_assoc]
  congr 1
  funext f
  exact subsub ha hb f
theorem underunder {a b : ByteArray} (ha : validB a = true) (hb : validB b = true) {t : List FileB} (ht : Tree t) : underL (underL t b) a = underL t (a ++ slashB ++ b) := by
  unfold underL
  rw [List.map_map]
  refine List.map_congr_left fun f hf => ?_
  have hv := (ht.ok f hf).1
  have hu := under ha hb hv
  show (joinB a (joinB b f.1), f.2) = (joinB (a ++ slashB ++ b) f.1, f.2)
  rw [hu.abc, hu.bc, joinB_3 (valid_here ha) (here_ab hb hv), app_assoc (a ++ slashB), app_assoc (a ++ slashB)]
theorem under_short {b : ByteArray} (hb : validB b = true) {t : List FileB} (ht : Tree t) : Short (underL t b) := by
  intro f hf
  unfold underL at hf
  obtain ⟨g, hg, rfl⟩ := List.mem_map.1 hf
  have hv := (ht.ok g hg).1
  show (joinB b g.1).size ≤ 20300
  rw [joinB_3 (valid_here hb) (valid_here hv), size_app, size_app, slash_size]
  have := valid_size hb
  have := valid_size hv
  omega
theorem under_len (t : List FileB) (d : ByteArray) : (underL t d).length = t.length := by unfold underL; rw [List.length_map]
theorem rvalid_b {s : ByteArray} {b : Bool} (h : validB s = b) (w : World) (hs : s.size ≤ maxLen) :
    Calls Try.prog 27 #[.string s] w (BoolOut b w) := by rw [← h]; exact rvalid_all s w hs
set_option maxRecDepth 100000 in
set_option maxHeartbeats 2000000 in
theorem walk (w : World) (v0 : Value) (a0 : List FileB) (r0 : FRow w v0 a0) (l0 : a0.length ≤ maxLen) (w0 : ∀ f ∈ a0, f.1.size ≤ maxLen ∧ f.2.size ≤ maxLen) (a1 : ByteArray) (w1 : a1.size ≤ maxLen) (a2 : ByteArray) (w2 : a2.size ≤ maxLen) :
    Calls Try.prog 10 #[v0, .string a1, .string a2] w fun e w' => e = .returned (.bool true) ∧ Below w.heap.size w w' := by
  have HW := Lib.hid r0
  obtain ⟨va, vc, rfl, hlc, -⟩ := r0
  clear w0
  go_enter Try.func10, Try.ntmps10
  go_wp2_with fail
  refine (heavy_any a0 _ _ HW.out l0).mono ?_
  rintro _ w1' ⟨b, n, rfl, hli, rfl⟩
  have HLi := Lib.hid hli
  clear hli
  have hB : Below w.heap.size w (w.drewN n) := below_drewN (Below.refl _ _) n
  cases b
  · have HL := Lib.hid (HLi.out rfl)
    go_wp2_with fail
    refine (shown_any _).mono ?_
    rintro _ w2' ⟨rfl, hb2⟩
    replace hB := hB.trans (hb2.mono hB.size)
    cases hva : validB a1
    · go_wp2_with fail
      refine (rvalid_b hva _ w1).mono ?_
      rintro _ w3 ⟨rfl, hb3⟩
      replace hB := hB.trans (hb3.mono hB.size)
      go_wp2_with fail
      refine (shown_any _).mono ?_
      rintro _ w4 ⟨rfl, hb4⟩
      go_wp2
      go_ret
      exact ⟨rfl, hB.trans (hb4.mono hB.size)⟩
    · go_wp2_with fail
      refine (rvalid_b hva _ w1).mono ?_
      rintro _ w3 ⟨rfl, hb3⟩
      replace hB := hB.trans (hb3.mono hB.size)
      cases hvb : validB a2
      · go_wp2_with fail
        refine (rvalid_b hvb _ w2).mono ?_
        rintro _ w4 ⟨rfl, hb4⟩
        replace hB := hB.trans (hb4.mono hB.size)
        go_wp2_with fail
        refine (shown_any _).mono ?_
        rintro _ w5 ⟨rfl, hb5⟩
        go_wp2
        go_ret
        exact ⟨rfl, hB.trans (hb5.mono hB.size)⟩
      · have hs1 := (valid_size hva).2
        have hs2 := (valid_size hvb).2
        go_wp2_with fail
        refine (rvalid_b hvb _ w2).mono ?_
        rintro _ w4 ⟨rfl, hb4⟩
        replace hB := hB.trans (hb4.mono hB.size)
        have HVa := Lib.hid hva
        have HVb := Lib.hid hvb
        clear hva hvb hb2 hb3 hb4
        go_wp2_with fail
        refine (grown_any a0 _ _ (HW.out.below hB) HL.out).mono ?_
        rintro _ w5 ⟨A, c, t, rfl, hrow, ht, hb5⟩
        replace hB := hB.trans (hb5.mono hB.size)
        have HR := Lib.hid hrow
        have HT := Lib.hid ht
        have hfew := ht.few
        clear hrow ht hb5
        have HSS := Lib.hid (subsubL HVa.out HVb.out t)
        have HUU := Lib.hid (underunder HVa.out HVb.out HT.out)
        have hl1 := subL_len t a1
        have hl2 := subL_len (subL t a1) a2
        have HUs := Lib.hid (under_short HVb.out HT.out)
        have hl3 := under_len t a2
        have hl3' : (underL t a2).length ≤ 60 := by omega
        have hl4 : (underL (underL t a2) a1).length = t.length := by rw [under_len, under_len]
        have hl4' : (underL (underL t a2) a1).length ≤ 60 := by omega
        have HL4 := Lib.hid hl4
        clear hl3 hl4
        go_wp2_with fail
        refine (tsub_any t a1 _ _ HR.out (by omega) (by omega)).mono ?_
        rintro _ w6 ⟨A6, c6, rfl, hrow6, hb6⟩
        replace hB := hB.trans (hb6.mono hB.size)
        have HR6 := Lib.hid (HR.out.below hb6)
        have HS6 := Lib.hid hrow6
        clear hrow6 hb6 HR
        go_wp2_with fail
        refine (tsub_any (subL t a1) a2 _ _ HS6.out (by omega) (by omega)).mono ?_
        rintro _ w7 ⟨A7, c7, rfl, hrow7, hb7⟩
        replace hB := hB.trans (hb7.mono hB.size)
        have HR7 := Lib.hid (HR6.out.below hb7)
        have HS7 := Lib.hid hrow7
        clear hrow7 hb7 HR6 HS6
        go_wp2_with fail
        refine (tsub_any t (a1 ++ slashB ++ a2) _ _ HR7.out (by omega) (by rw [size_app, size_app, slash_size]; omega)).mono ?_
        rintro _ w8 ⟨A8, c8, rfl, hrow8, hb8⟩
        replace hB := hB.trans (hb8.mono hB.size)
        have HR8 := Lib.hid (HR7.out.below hb8)
        have HS8 := Lib.hid (HS7.out.below hb8)
        have HY8 := Lib.hid hrow8
        clear hrow8 hb8 HR7 HS7
        rw [← HSS.out] at HY8 ⊢
        generalize subL (subL t a1) a2 = ss at *
        go_wp2_with fail
        refine (tunder_any t a2 _ _ HR8.out HT.out.short (by omega) (by omega)).mono ?_
        rintro _ w9 ⟨A9, c9, rfl, hrow9, hb9⟩
        replace hB := hB.trans (hb9.mono hB.size)
        have HR9 := Lib.hid (HR8.out.below hb9)
        have HS9 := Lib.hid (HS8.out.below hb9)
        have HY9 := Lib.hid (HY8.out.below hb9)
        have HU9 := Lib.hid hrow9
        clear hrow9 hb9 HR8 HS8 HY8
        go_wp2_with fail
        refine (tunder_any (underL t a2) a1 _ _ HU9.out HUs.out (by omega) (by omega)).mono ?_
        rintro _ w10 ⟨A10, c10, rfl, hrow10, hb10⟩
        replace hB := hB.trans (hb10.mono hB.size)
        have HR10 := Lib.hid (HR9.out.below hb10)
        have HS10 := Lib.hid (HS9.out.below hb10)
        have HY10 := Lib.hid (HY9.out.below hb10)
        have HU10 := Lib.hid hrow10
        clear hrow10 hb10 HR9 HS9 HY9 HU9
        go_wp2_with fail
        refine (same_yes _ _ _ HS10.out HY10.out (by omega)).mono ?_
        rintro _ w11 ⟨rfl, n11, rfl⟩
        replace hB := below_drewN hB n11
        go_wp2_with fail
        refine (tunder_any t (a1 ++ slashB ++ a2) _ _ (HR10.out.drew n11) HT.out.short (by omega) (by rw [size_app, size_app, slash_size]; omega)).mono ?_
        rintro _ w12 ⟨A12, c12, rfl, hrow12, hb12⟩
        replace hB := hB.trans (hb12.mono hB.size)
        have HU12 := Lib.hid ((HU10.out.drew n11).below hb12)
        have HV12 := Lib.hid hrow12
        clear hrow12 hb12
        rw [← HUU.out] at HV12 ⊢
        have hle : ((underL (underL t a2) a1).length : Int) = (t.length : Int) := by rw [HL4.out]
        have hle' : (((underL (underL t a2) a1).length : Int) == (t.length : Int)) = true := by simp [hle]
        clear hle
        generalize underL (underL t a2) a1 = uu at *
        go_wp2_with fail
        refine (same_yes _ _ _ HU12.out HV12.out (by omega)).mono ?_
        rintro _ w13 ⟨rfl, n13, rfl⟩
        go_wp2
        go_ret
        exact ⟨rfl, below_drewN hB _⟩
  · go_wp2_with fail
    refine (shown_any _).mono ?_
    rintro _ w2' ⟨rfl, hb2⟩
    go_wp2
    go_ret
    exact ⟨rfl, hB.trans (hb2.mono hB.size)⟩

set_option maxRecDepth 100000 in
theorem lifted (os : Os) (started : os.Started) (H : Type) (enc : TypeId × Value → H) :
    ReturnsInHanded {} Try.checked os 10 .any (Rows.treeWithinSpec.pre6 enc Try.prog Try.f10 Rows.treeWithinRow.domain false) (Rows.treeWithinSpec.post enc Try.prog Try.f10 false true false false) := by
  refine returnsInHanded_of_change (C := Try.checked) own started (by kernel_rfl) Try.func10
    (ChangeSpec.witness6 (enc := enc) (C := Try.checked) false ⟨#[], #[.slice none 0 0, .string ByteArray.empty, .string ByteArray.empty], []⟩ 8 (by kernel_rfl) (by kernel_rfl) (by kernel_rfl) (by kernel_rfl)) ?_
  intro W base args ds gs before hval0 hW hcnd _
  have hval : ∀ (j : Nat) t v, Try.f10.params[j]? = some t → args[j]? = some v → Value.okWide Try.prog W .any base t v := hval0
  have hW' := hW
  obtain ⟨p, q, hA0, hV, rfl, hfz, hnd⟩ := hW
  have hA : DataW.TrodAll enc Try.prog W 0 (fun _ => true) true Try.f10.params.toList args.toList ds p := hA0
  rw [Try.params10] at hA hval
  obtain ⟨v0, vs0, d0, ds0, p0, q0, hargs, rfl, rfl, h0, r0⟩ := trodAll_cons hA
  obtain ⟨v1, vs1, d1, ds1, p1, q1, rfl, rfl, rfl, h1, r1⟩ := trodAll_cons r0
  obtain ⟨v2, vs2, d2, ds2, p2, q2, rfl, rfl, rfl, h2, r2⟩ := trodAll_cons r1
  obtain ⟨rfl, rfl, rfl⟩ := trodAll_nil r2
  obtain rfl : args = #[v0, v1, v2] := by cases args; simp_all
  obtain ⟨rfl, rfl⟩ := trodVars_none hV
  obtain ⟨a0, g0, l0, w0, u0⟩ := open_files (hval 0 22 v0 rfl rfl) h0
  obtain ⟨a1, rfl, rfl, rfl, w1⟩ := open_string Try.underlying9 (hval 1 9 v1 rfl rfl) h1
  obtain ⟨a2, rfl, rfl, rfl, w2⟩ := open_string Try.underlying9 (hval 2 9 v2 rfl rfl) h2
  clear hA0 hval0
  simp only [List.append_nil] at hW'
  refine (walk W v0 a0 g0 l0 w0 a1 w1 a2 w2).mono fun e W' ⟨he, bel⟩ => ?_
  subst he
  refine ⟨_, rfl, _, _, _, [], _, [], hW', trodAll_mk1 (shut_bool Try.underlying4 _), (trodAll_cons_mk (u0 _ bel) (trodAll_cons_mk (shut_string Try.underlying9 w1) (trodAll_cons_mk (shut_string Try.underlying9 w2) trodAll_mk0))), rfl, bel.frame _, fun h => by cases h⟩

theorem over : Rows.treeWithinRow.holds Try.pinned (OpenSpec.ofChange Rows.treeWithinSpec) :=
  OpenClaim.holds_of_wide 10 Try.f10 rfl rfl rfl rfl rfl rfl rfl ⟨rfl, rfl, rfl, rfl, rfl⟩ rfl rfl rfl rfl rfl (by kernel_rfl) Try.func10 (by kernel_rfl)
    (of_decide_eq_true (by kernel_rfl)) (by unfold Func.isWrapper; first | (rw [if_pos (by decide +kernel)]; kernel_rfl) | (rw [if_neg (by decide +kernel)]; exact ⟨rfl, rfl⟩))
    (fun os started H enc _ => lifted os started H enc)

theorem proved : Rows.TreeWithinSaid :=
  over
#print axioms proved
end Go.Proofs.Yteffoajheolpmaa.treeWithin
