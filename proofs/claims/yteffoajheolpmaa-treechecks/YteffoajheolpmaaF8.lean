/-
  tree.Put, and that a tree can be made.
-/
import Derived.Test.YteffoajheolpmaaF7
namespace Go.Proofs.Yteffoajheolpmaa
open Go.RowKit Go.Shelf

theorem within_inside {p d : ByteArray} (hp : validB p = true) (hd : validB d = true) (hne : ¬ p = d) : wB p d = insideB p d := by
  have h0 := valid_here hd
  have h1 : (p.toList == d.toList) = false := by
    rw [beq_eq_false_iff_ne]; intro e; exact hne (toList_inj.1 e)
  unfold wB insideB
  cases h2 : prefB p (d ++ slashB)
  · rw [withinB_4 h0 h1 h2]; rfl
  · rw [withinB_3 h0 h1 h2]
    have he := pref_app h2
    have hsz : (d ++ slashB).size = d.size + 1 := by rw [size_app]; rfl
    rw [hsz] at he
    obtain ⟨_, h4⟩ := valid_pieces hp he
    simp only [Bool.true_and]
    symm
    rw [Bool.not_eq_true', beq_eq_false_iff_ne]
    intro e
    rw [hereB_yes e] at h4
    cases h4
theorem clash_ins {p q : ByteArray} (hp : validB p = true) (hq : validB q = true) : clashB p q = insC p q := by
  by_cases e : p = q
  · subst e
    rw [insC_self (valid_here hp), clash_1 (by simp)]
  · have h1 : (p.toList == q.toList) = false := by
      rw [beq_eq_false_iff_ne]; intro h; exact e (toList_inj.1 h)
    unfold clashB insC
    rw [h1, within_inside hp hq e, within_inside hq hp (Ne.symm e)]; rfl
theorem clashes_ins {xs : List FileB} {q : ByteArray} (h : ∀ f ∈ xs, validB f.1 = true) (hq : validB q = true) : clashesB xs q = clashI xs q := by
  unfold clashesB clashI
  induction xs with
  | nil => rfl
  | cons x xs ih =>
    rw [List.any_cons, List.any_cons, clash_ins (h x (by simp)) hq, ih fun f hf => h f (by simp [hf])]
theorem with_one (xs : List FileB) (f : FileB) : withL xs [f] = putL xs f := rfl

theorem checkFile_1 {f : FileB} (h : validB f.1 = false) : checkFileN f = 10 := by simp [checkFileN, h]
theorem checkFile_2 {f : FileB} (h : validB f.1 = true) (k : 4000 < f.2.size) : checkFileN f = 2 := by simp [checkFileN, h, k]
theorem checkFile_3 {f : FileB} (h : validB f.1 = true) (k : ¬ 4000 < f.2.size) : checkFileN f = 0 := by simp [checkFileN, h, k]
theorem checkFile_n {f : FileB} {n : Int} (h : checkFileN f = n) (w : World) (h1 : f.1.size ≤ maxLen) (h2 : f.2.size ≤ maxLen) :
    Calls Try.prog 41 #[fileV f] w fun e w' => e = .returned (.int .i64 n) ∧ Below w.heap.size w w' := by rw [← h]; exact checkFile_any f w h1 h2
theorem clashes_b {xs : List FileB} {q : ByteArray} {b : Bool} (h : clashesB xs q = b) (v : Value) (w : World) (hv : FRow w v xs) (h1 : Short xs) (h2 : q.size ≤ 20300) (hm : xs.length ≤ 1000) :
    Calls Try.prog 46 #[v, .string q] w (BoolOut b w) := by rw [← h]; exact clashes_any xs v q w hv h1 h2 hm

set_option maxRecDepth 100000 in
set_option maxHeartbeats 800000 in
theorem tput_any (xs : List FileB) (f : FileB) (v : Value) (w : World) (hv : FRow w v xs) (hok : ∀ g ∈ xs, validB g.1 = true) (hf1 : f.1.size ≤ maxLen) (hf2 : f.2.size ≤ maxLen) (hm : xs.length ≤ 150) (hu : Up xs) :
    Calls Try.prog 21 #[v, fileV f] w (PutOut (putR xs f) (putE xs f) w) := by
  have h1 : Short xs := fun g hg => Nat.le_trans (valid_size (hok g hg)).2 (by decide)
  obtain ⟨p, d⟩ := f
  have hb0 : Below w.heap.size w (w.alloc (.cells #[.string p, .string d] 32)) := (Below.refl _ _).alloc (Nat.le_refl _) _
  have HV := Lib.hid hv
  have HK := Lib.hid hok
  obtain ⟨a, c, rfl, hl, -⟩ := hv
  have H1 := Lib.hid h1
  have HU := Lib.hid hu
  have HBX := Lib.hid (FBox.new w p d)
  clear h1 hu hok
  unfold fileV
  cases hvd : validB p
  · have HE := Lib.hid (putE_1 (xs := xs) (f := (p, d)) hvd)
    have HR := Lib.hid (putR_no HE.out (by decide))
    go_enter Try.func21, Try.ntmps21
    go_wp2_with fail
    refine (checkFile_n (f := (p, d)) (checkFile_1 hvd) _ hf1 hf2).mono ?_
    rintro _ w1 ⟨rfl, hb⟩
    go_wp2
    go_ret2
    rw [HE.out, HR.out]
    exact ⟨none, 0, rfl, FRow.nil _, hb0.trans (hb.mono hb0.size)⟩
  · by_cases hd : 4000 < d.size
    · have HE := Lib.hid (putE_2 (xs := xs) (f := (p, d)) hvd hd)
      have HR := Lib.hid (putR_no HE.out (by decide))
      go_enter Try.func21, Try.ntmps21
      go_wp2_with fail
      refine (checkFile_n (f := (p, d)) (checkFile_2 hvd hd) _ hf1 hf2).mono ?_
      rintro _ w1 ⟨rfl, hb⟩
      go_wp2
      go_ret2
      rw [HE.out, HR.out]
      exact ⟨none, 0, rfl, FRow.nil _, hb0.trans (hb.mono hb0.size)⟩
    · have hps : p.size ≤ 60 := (valid_size hvd).2
      have HCI := Lib.hid (clashes_ins HK.out hvd)
      cases hcl : clashI xs p
      · have HL0 := Lib.hid (fun k => putE_4 (xs := xs) (f := (p, d)) hvd hd hcl k)
        have HL1 := Lib.hid (fun k => putE_5 (xs := xs) (f := (p, d)) hvd hd hcl k)
        go_enter Try.func21, Try.ntmps21
        go_wp2_with fail
        refine (checkFile_n (f := (p, d)) (checkFile_3 hvd hd) _ hf1 hf2).mono ?_
        rintro _ w1 ⟨rfl, hb⟩
        have HX1 := Lib.hid (HBX.out.below hb)
        replace hb := hb0.trans (hb.mono hb0.size)
        obtain ⟨hz1, b0, b1⟩ := HX1.out
        change _ = some (Value.string p) at b0
        change _ = some (Value.string d) at b1
        go_wp2_with fail
        refine (clashes_b (HCI.out.trans hcl) _ _ (HV.out.below hb) H1.out (by omega) (by omega)).mono ?_
        rintro _ w2 ⟨rfl, hb2⟩
        have HX2 := Lib.hid (HX1.out.below hb2)
        replace hb := hb.trans (hb2.mono hb.size)
        clear b0 b1 hb2 hz1
        obtain ⟨hz2, b0, b1⟩ := HX2.out
        change _ = some (Value.string p) at b0
        change _ = some (Value.string d) at b1
        have hone : Short [(p, d)] := fun g hg => by simp at hg; subst hg; show p.size ≤ 20300; omega
        have HO := Lib.hid hone
        clear hone
        go_wp2
        go_region_held3 (fun w' => w'.cell? ⟨w.heap.size, 0, none⟩ = some (.string p) ∧ w'.cell? ⟨w.heap.size, 1, none⟩ = some (.string d))
          (first | go_keep | (go_split_ands; refine ⟨?_, ?_⟩ <;> (rw [hb3.cell (by simp; omega)]; assumption)) | (go_split_ands; refine ⟨?_, ?_⟩ <;> (rw [hb4.cell (by simp; omega)]; assumption)))
          (first
            | (go_at_call 39; refine (byPath_any _ _ _ _).mono ?_; rintro e w3 ⟨rfl, hb3⟩; have hz3 := hb3.size; (simp at hz3); have hbw3 : Below w.heap.size w w3 := (below_drew hb).trans (hb3.mono hb.size))
            | (go_at_call 39; refine (byPath_any _ _ _ _).mono ?_; rintro e w3 ⟨rfl, hb3⟩; have hz3 := hb3.size; (simp at hz3); have hbw3 : Below w.heap.size w w3 := ((below_drew hb).alloc hb.size _).trans (hb3.mono (Nat.le_trans hb.size (by simp))); have hrow2 : FRow w3 (.slice (some ⟨w2.heap.size, 0, none⟩) 1 1) [(p, d)] := (FRow.one w2.drew p d).below hb3)
            | (go_at_call 47; refine (with_any xs [(p, d)] (.slice a xs.length c) _ _ (HV.out.below hbw3) hrow2 H1.out HO.out (by omega) (by simp) (fun _ => HU.out)).mono ?_; rintro e w4 ⟨A4, c4, rfl, hown, hb4⟩; have hbw4 := hbw3.trans (hb4.mono hbw3.size))
            | (go_at_call 47; refine (with_any xs [(p, d)] (.slice a xs.length c) _ _ (HV.out.below (hbw3.alloc hbw3.size _)) (FRow.one _ _ _) H1.out HO.out (by omega) (by simp) (fun _ => HU.out)).mono ?_; rintro e w4 ⟨A4, c4, rfl, hown, hb4⟩; have hbw4 := (hbw3.alloc hbw3.size _).trans (hb4.mono (Nat.le_trans hbw3.size (by simp)))))
        all_goals
          have hrow4 := hown.row
          clear hown
          generalize hw : withL xs [(p, d)] = zs at *
          have hw' : zs = putL xs (p, d) := hw.symm
          have HZ := Lib.hid hw'
          have HRow := Lib.hid hrow4
          clear hw hw' hrow4
          by_cases h60 : 60 < zs.length
          · have HE := Lib.hid (HL0.out (by rw [← HZ.out]; exact h60))
            have HR := Lib.hid (putR_no HE.out (by decide))
            go_wp2
            go_ret2
            rw [HE.out, HR.out]
            exact ⟨none, 0, rfl, FRow.nil _, hbw4⟩
          · have HE := Lib.hid (HL1.out (by rw [← HZ.out]; exact h60))
            have HR := Lib.hid (putR_yes HE.out)
            go_wp2
            go_ret2
            rw [HE.out, HR.out, ← HZ.out]
            exact ⟨A4, c4, rfl, HRow.out, hbw4⟩
      · have HE := Lib.hid (putE_3 (xs := xs) (f := (p, d)) hvd hd hcl)
        have HR := Lib.hid (putR_no HE.out (by decide))
        go_enter Try.func21, Try.ntmps21
        go_wp2_with fail
        refine (checkFile_n (f := (p, d)) (checkFile_3 hvd hd) _ hf1 hf2).mono ?_
        rintro _ w1 ⟨rfl, hb⟩
        have HX1 := Lib.hid (HBX.out.below hb)
        replace hb := hb0.trans (hb.mono hb0.size)
        obtain ⟨hz1, b0, b1⟩ := HX1.out
        change _ = some (Value.string p) at b0
        change _ = some (Value.string d) at b1
        go_wp2_with fail
        refine (clashes_b (HCI.out.trans hcl) _ _ (HV.out.below hb) H1.out (by omega) (by omega)).mono ?_
        rintro _ w2 ⟨rfl, hb2⟩
        replace hb := hb.trans (hb2.mono hb.size)
        go_wp2
        go_ret2
        rw [HE.out, HR.out]
        exact ⟨none, 0, rfl, FRow.nil _, hb⟩

/-- Put into a tree. -/
theorem tput_tree {xs : List FileB} (ht : Tree xs) (f : FileB) (v : Value) (w : World) (hv : FRow w v xs) (hf1 : f.1.size ≤ maxLen) (hf2 : f.2.size ≤ maxLen) :
    Calls Try.prog 21 #[v, fileV f] w (PutOut (putR xs f) (putE xs f) w) :=
  tput_any xs f v w hv (fun g hg => (ht.ok g hg).1) hf1 hf2 (Nat.le_trans ht.few (by decide)) ht.up

theorem lit_put : putE [] (⟨#[97, 47, 98]⟩, ⟨#[120]⟩) = 0 := by
  refine putE_5 (by decide +kernel) (by decide +kernel) rfl ?_
  show ¬ 60 < 1
  decide
theorem lit_list : putR [] (⟨#[97, 47, 98]⟩, ⟨#[120]⟩) = [(⟨#[97, 47, 98]⟩, ⟨#[120]⟩)] := putR_yes lit_put

set_option maxRecDepth 100000 in
set_option maxHeartbeats 1000000 in
theorem shown_any (w : World) : Calls Try.prog 13 #[] w (BoolOut true w) := by
  have hb0 : Below w.heap.size w (w.alloc (.cells #[.string ⟨#[97, 47, 98]⟩, .string ⟨#[120]⟩] 32)) := (Below.refl _ _).alloc (Nat.le_refl _) _
  have HX := Lib.hid (tput_tree Tree.nil (⟨#[97, 47, 98]⟩, ⟨#[120]⟩) (.slice none 0 0) (w.alloc (.cells #[.string ⟨#[97, 47, 98]⟩, .string ⟨#[120]⟩] 32)) (FRow.nil _) (by decide) (by decide))
  have HB := Lib.hid (FBox.new w ⟨#[97, 47, 98]⟩ ⟨#[120]⟩)
  go_enter Try.func13, Try.ntmps13
  go_wp2_with fail
  refine HX.out.mono ?_
  rw [lit_put, lit_list]
  rintro _ w1 ⟨A, c, rfl, hrow, hb⟩
  obtain ⟨-, b0, b1⟩ := HB.out.below hb
  change _ = some (Value.string ⟨#[97, 47, 98]⟩) at b0
  change _ = some (Value.string ⟨#[120]⟩) at b1
  obtain ⟨A', c', e, hl, hc⟩ := hrow
  cases e
  obtain ⟨g, o, rfl, hg, hat⟩ := hc (by simp)
  obtain ⟨q1, q2⟩ := hat 0 (by simp)
  rw [Nat.zero_mul, Nat.add_zero] at q1 q2
  change _ = some (Value.string ⟨#[97, 47, 98]⟩) at q1
  change _ = some (Value.string ⟨#[120]⟩) at q2
  clear hat hc
  replace hb := hb0.trans (hb.mono hb0.size)
  go_wp2
  go_region
  all_goals
    go_wp2
    go_ret
    exact ⟨rfl, below_drew hb⟩
end Go.Proofs.Yteffoajheolpmaa
