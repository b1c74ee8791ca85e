/-
  The document's own Check; that it is tree.Check.
-/
import Derived.Test.YteffoajheolpmaaT2
namespace Go.Proofs.Yteffoajheolpmaa
open Go.RowKit Go.Shelf

def lowB (x p : ByteArray) : Bool := decide (0 ≤ compareN p x) || insideB x p
def badR (prev : Option FileB) (x : FileB) : Int :=
  if checkFileN x = 0 then (match prev with | none => 0 | some p => if lowB x.1 p.1 then 4 else 0) else checkFileN x
theorem badR_1 {prev : Option FileB} {x : FileB} {n : Int} (h : checkFileN x = n) (hn : ¬ n = 0) : badR prev x = n := by unfold badR; rw [h, if_neg hn]
theorem badR_2 {x : FileB} (h : checkFileN x = 0) : badR none x = 0 := by rw [badR, if_pos h]
theorem badR_3 {x p : FileB} (h : checkFileN x = 0) (k : lowB x.1 p.1 = false) : badR (some p) x = 0 := by simp only [badR, h, if_true, k, Bool.false_eq_true, if_false]
theorem badR_4 {x p : FileB} (h : checkFileN x = 0) (k : lowB x.1 p.1 = true) : badR (some p) x = 4 := by simp only [badR, h, if_true, k]
theorem low_follows {x p : ByteArray} (hx : validB x = true) (hp : validB p = true) : lowB x p = !followsB x p := by
  unfold lowB followsB
  by_cases h : compareN p x < 0
  · have hne : ¬ x = p := fun e => by rw [e, cmp_self] at h; omega
    rw [within_inside hx hp hne, decide_eq_true h, decide_eq_false (by omega)]; simp
  · rw [decide_eq_false h, decide_eq_true (by omega)]; simp
theorem bad_same {prev : Option FileB} {x : FileB} (hp : ∀ p, prev = some p → validB p.1 = true) : badT prev x = badR prev x := by
  by_cases h : checkFileN x = 0
  · have hx := (checkFile_zero h).1
    cases prev with
    | none => rw [badT_2 h, badR_2 h]
    | some p =>
      have hl := low_follows hx (hp p rfl)
      cases hf : followsB x.1 p.1
      · rw [badT_4 h hf, badR_4 h (by rw [hl, hf]; rfl)]
      · rw [badT_3 h hf, badR_3 h (by rw [hl, hf]; rfl)]
  · rw [badT_1 rfl h, badR_1 rfl h]
theorem go_same : ∀ (xs : List FileB) (prev : Option FileB), (∀ p, prev = some p → validB p.1 = true) → checkGo badT prev xs = checkGo badR prev xs
  | [], _, _ => rfl
  | x :: xs, prev, hp => by
    unfold checkGo
    rw [bad_same hp]
    by_cases h : badR prev x = 0
    · rw [if_pos h, if_pos h]
      refine go_same xs (some x) fun p e => ?_
      injection e with e
      subst e
      by_cases hc : checkFileN x = 0
      · exact (checkFile_zero hc).1
      · rw [badR_1 rfl hc] at h; exact absurd h hc
    · rw [if_neg h, if_neg h]
theorem check_same (xs : List FileB) : checkB badT xs = checkB badR xs := by
  unfold checkB
  rw [go_same xs none fun p e => by cases e]
theorem low_1 {x p : ByteArray} (h : 0 ≤ compareN p x) : lowB x p = true := by simp [lowB, h]
theorem low_2 {x p : ByteArray} (h : ¬ 0 ≤ compareN p x) : lowB x p = insideB x p := by simp [lowB, h]
theorem inside_b {p d : ByteArray} {b : Bool} (h : insideB p d = b) (w : World) (hd : d.size ≤ 20300) : Calls Try.prog 44 #[.string p, .string d] w fun e w' => e = .returned (.bool b) ∧ w = w' := by
  rw [← h]; exact inside_any p d w hd
theorem rvalid_c {s : ByteArray} {b : Bool} (h : validB s = b) (w : World) (hs : s.size ≤ maxLen) :
    Calls Try.prog 27 #[.string s] w (BoolOut b w) := by rw [← h]; exact rvalid_all s w hs

set_option maxRecDepth 100000 in
set_option maxHeartbeats 2000000 in
theorem rcheck_any (xs : List FileB) (v : Value) (w : World) (hv : FRow w v xs) (hs : ∀ f ∈ xs, f.1.size ≤ maxLen ∧ f.2.size ≤ maxLen) (hm : xs.length ≤ 1000) :
    Calls Try.prog 16 #[v] w (FaultOut (checkB badR xs) w) := by
  have HV := Lib.hid hv
  have HS := Lib.hid hs
  obtain ⟨a, c, rfl, hl, -⟩ := hv
  clear hs
  obtain ⟨w0, hw0⟩ : ∃ w0, w0 = w.alloc (.cells #[.int .i64 0, .string ⟨#[]⟩, .int .i64 0] 28) := ⟨_, rfl⟩
  have hb0 : Below w.heap.size w w0 := by rw [hw0]; exact (Below.refl _ _).alloc (Nat.le_refl _) _
  have hz0 : w0.heap.size = w.heap.size + 1 := by rw [hw0]; simp
  have hR : w0.heap[w.heap.size]? = some (.cells #[.int .i64 0, .string ⟨#[]⟩, .int .i64 0] 28 (0, 0)) := by rw [hw0]; exact World.alloc_heap_new w _
  have HRb := Lib.hid hR
  have hz0' : w.heap.size < w0.heap.size := by omega
  clear hR hz0
  go_enter Try.func16, Try.ntmps16
  go_wp2
  rw [← hw0]
  clear hw0
  go_loopw [3] (fun i wr => ∃ k : Nat, k ≤ xs.length ∧ i = .int .i64 k ∧ CheckAt badR xs k ∧ (∀ y, prevF xs k = some y → validB y.1 = true) ∧ Below w0.heap.size w0 wr) (fun i _ => xs.length - (intOf i).toNat)
  case atStart => exact ⟨0, Nat.zero_le _, rfl, CheckAt.start _ _, (fun y h => by cases h), Below.refl _ _⟩
  case round =>
    obtain ⟨k, hk, rfl, hat, hpv, hb⟩ := hrel
    have HA := Lib.hid hat
    have HPv := Lib.hid hpv
    have hbw := hb0.trans (hb.mono hb0.size)
    clear hat hpv
    by_cases hlt : k < xs.length
    · obtain ⟨a', c'', e', hl', hcl⟩ := HV.out
      cases e'
      obtain ⟨g, o, rfl, hg, hcell⟩ := hcl (by intro e; rw [e] at hlt; simp at hlt)
      have HAt := Lib.hid hcell
      have HQ := Lib.hid (fun w' (h : Below w.heap.size w w') => And.intro ((h.cell (p := ⟨g, _, none⟩) hg).trans (hcell k hlt).1) ((h.cell (p := ⟨g, _, none⟩) hg).trans (hcell k hlt).2))
      obtain ⟨q1, q2⟩ := HQ.out _ hbw
      obtain ⟨hs1, hs2⟩ := HS.out _ (List.getElem_mem hlt)
      clear hcell hcl
      have HOn := Lib.hid (fun e => HA.out.on hlt e)
      have HSt := Lib.hid (fun n (e : badR (prevF xs k) xs[k] = n) hn => HA.out.stop hlt e hn)
      cases hvx : validB xs[k].1
      · have HP := Lib.hid (HSt.out 10 (badR_1 (checkFile_1 hvx) (by decide)) (by decide))
        generalize xs[k] = x at *
        obtain ⟨x1, x2⟩ := x
        go_wp2_with fail
        refine (rvalid_c hvx _ hs1).mono ?_
        rintro _ w1 ⟨rfl, hb1⟩
        have hb' := hb.trans (hb1.mono hb.size)
        obtain ⟨⟨r0, r1, r2⟩, r3, r4, r5⟩ := rblk_cells ((hb'.block _ hz0').trans HRb.out)
        go_wp2
        exact bodyPost_ret (v := .agg #[.int .i64 10, .string x1, .int .i64 0]) (by simp [results, Try.results16, go_sem, r0, r1, r2]) rfl ⟨by rw [HP.out], below_set3 (hb0.trans (hb'.mono hb0.size)) _ _ _⟩
      · by_cases hd : 4000 < xs[k].2.size
        · have HP := Lib.hid (HSt.out 2 (badR_1 (checkFile_2 hvx hd) (by decide)) (by decide))
          generalize xs[k] = x at *
          obtain ⟨x1, x2⟩ := x
          have hd' : 4000 < x2.size := hd
          go_wp2_with fail
          refine (rvalid_c hvx _ hs1).mono ?_
          rintro _ w1 ⟨rfl, hb1⟩
          have hb' := hb.trans (hb1.mono hb.size)
          obtain ⟨⟨r0, r1, r2⟩, r3, r4, r5⟩ := rblk_cells ((hb'.block _ hz0').trans HRb.out)
          obtain ⟨q1', q2'⟩ := HQ.out _ (hb0.trans (hb'.mono hb0.size))
          clear q1 q2
          go_wp2
          exact bodyPost_ret (v := .agg #[.int .i64 2, .string x1, .int .i64 0]) (by simp [results, Try.results16, go_sem, r0, r1, r2]) rfl ⟨by rw [HP.out], below_set3 (hb0.trans (hb'.mono hb0.size)) _ _ _⟩
        · have HCF := Lib.hid (checkFile_3 hvx hd)
          have hvs := (valid_size hvx).2
          have HVx := Lib.hid (fun y (h : prevF xs (k + 1) = some y) => prev_valid (prevF_succ hlt) hvx h)
          by_cases hk0 : k = 0
          · subst hk0
            have HP := Lib.hid (HOn.out (badR_2 HCF.out))
            simp only [Nat.zero_mul, Nat.add_zero] at q1 q2
            have HQ0 := Lib.hid (fun w' (h : Below w.heap.size w w') => show w'.cell? ⟨g, o + 1, none⟩ = some (.string xs[0].2) by have := (HQ.out w' h).2; simpa using this)
            generalize xs[0] = x at *
            obtain ⟨x1, x2⟩ := x
            have hd' : ¬ 4000 < x2.size := hd
            go_wp2_with fail
            refine (rvalid_c hvx _ hs1).mono ?_
            rintro _ w1 ⟨rfl, hb1⟩
            have hb' := hb.trans (hb1.mono hb.size)
            have q2' := HQ0.out _ (hb0.trans (hb'.mono hb0.size))
            clear q1 q2
            go_wp2
            go_roundw
            case rel => exact ⟨1, by omega, by go_num, HP.out, HVx.out, hb'⟩
            case measure => simp [intOf]; omega
          · obtain ⟨j, rfl⟩ : ∃ j, k = j + 1 := ⟨k - 1, by omega⟩
            have hjl : j < xs.length := by omega
            have hys := (valid_size (HPv.out _ (prevF_succ hjl))).2
            have HPr := Lib.hid (prevF_succ hjl)
            have HQj := Lib.hid (fun w' (h : Below w.heap.size w w') => (h.cell (p := ⟨g, _, none⟩) hg).trans (HAt.out j hjl).1)
            clear hk0
            by_cases hcm : 0 ≤ compareN xs[j].1 xs[j + 1].1
            · have HP := Lib.hid (HSt.out 4 (by rw [HPr.out]; exact badR_4 HCF.out (low_1 hcm)) (by decide))
              generalize xs[j] = y at *
              obtain ⟨y1, y2⟩ := y
              generalize xs[j + 1] = x at *
              obtain ⟨x1, x2⟩ := x
              have hd' : ¬ 4000 < x2.size := hd
              go_wp2_with fail
              refine (rvalid_c hvx _ hs1).mono ?_
              rintro _ w1 ⟨rfl, hb1⟩
              have hb' := hb.trans (hb1.mono hb.size)
              obtain ⟨q1', q2'⟩ := HQ.out _ (hb0.trans (hb'.mono hb0.size))
              have z1 := HQj.out _ (hb0.trans (hb'.mono hb0.size))
              clear q1 q2
              go_wp2_with fail
              refine (rcompare_any _ _ (by omega) (by omega) _).mono ?_
              rintro _ w2 ⟨rfl, hb2⟩
              have hb'' := hb'.trans (hb2.mono hb'.size)
              obtain ⟨⟨r0, r1, r2⟩, r3, r4, r5⟩ := rblk_cells ((hb''.block _ hz0').trans HRb.out)
              go_wp2
              exact bodyPost_ret (v := .agg #[.int .i64 4, .string x1, .int .i64 0]) (by simp [results, Try.results16, go_sem, r0, r1, r2]) rfl ⟨by rw [HP.out], below_set3 (hb0.trans (hb''.mono hb0.size)) _ _ _⟩
            · have hlo := low_2 hcm
              cases hin : insideB xs[j + 1].1 xs[j].1
              · have HP := Lib.hid (HOn.out (by rw [HPr.out]; exact badR_3 HCF.out (by rw [hlo, hin])))
                generalize xs[j] = y at *
                obtain ⟨y1, y2⟩ := y
                generalize xs[j + 1] = x at *
                obtain ⟨x1, x2⟩ := x
                have hd' : ¬ 4000 < x2.size := hd
                clear hlo
                go_wp2_with fail
                refine (rvalid_c hvx _ hs1).mono ?_
                rintro _ w1 ⟨rfl, hb1⟩
                have hb' := hb.trans (hb1.mono hb.size)
                obtain ⟨q1', q2'⟩ := HQ.out _ (hb0.trans (hb'.mono hb0.size))
                have z1 := HQj.out _ (hb0.trans (hb'.mono hb0.size))
                clear q1 q2
                go_wp2_with fail
                refine (rcompare_any _ _ (by omega) (by omega) _).mono ?_
                rintro _ w2 ⟨rfl, hb2⟩
                have hb'' := hb'.trans (hb2.mono hb'.size)
                have z2 := HQj.out _ (hb0.trans (hb''.mono hb0.size))
                go_wp2_with fail
                refine (inside_b hin _ (by omega)).mono ?_
                rintro _ w3 ⟨rfl, rfl⟩
                go_wp2
                go_roundw
                case rel => exact ⟨j + 1 + 1, by omega, by go_num, HP.out, HVx.out, hb''⟩
                case measure => simp [intOf]; omega
              · have HP := Lib.hid (HSt.out 4 (by rw [HPr.out]; exact badR_4 HCF.out (by rw [hlo, hin])) (by decide))
                generalize xs[j] = y at *
                obtain ⟨y1, y2⟩ := y
                generalize xs[j + 1] = x at *
                obtain ⟨x1, x2⟩ := x
                have hd' : ¬ 4000 < x2.size := hd
                clear hlo
                go_wp2_with fail
                refine (rvalid_c hvx _ hs1).mono ?_
                rintro _ w1 ⟨rfl, hb1⟩
                have hb' := hb.trans (hb1.mono hb.size)
                obtain ⟨q1', q2'⟩ := HQ.out _ (hb0.trans (hb'.mono hb0.size))
                have z1 := HQj.out _ (hb0.trans (hb'.mono hb0.size))
                clear q1 q2
                go_wp2_with fail
                refine (rcompare_any _ _ (by omega) (by omega) _).mono ?_
                rintro _ w2 ⟨rfl, hb2⟩
                have hb'' := hb'.trans (hb2.mono hb'.size)
                have z2 := HQj.out _ (hb0.trans (hb''.mono hb0.size))
                obtain ⟨⟨r0, r1, r2⟩, r3, r4, r5⟩ := rblk_cells ((hb''.block _ hz0').trans HRb.out)
                go_wp2_with fail
                refine (inside_b hin _ (by omega)).mono ?_
                rintro _ w3 ⟨rfl, rfl⟩
                go_wp2
                exact bodyPost_ret (v := .agg #[.int .i64 4, .string x1, .int .i64 0]) (by simp [results, Try.results16, go_sem, r0, r1, r2]) rfl ⟨by rw [HP.out], below_set3 (hb0.trans (hb''.mono hb0.size)) _ _ _⟩
    · have HP := Lib.hid (HA.out.done (by omega))
      obtain ⟨⟨r0, r1, r2⟩, r3, r4, r5⟩ := rblk_cells ((hb.block _ hz0').trans HRb.out)
      by_cases h60 : 60 < xs.length
      · have HM := Lib.hid (manyB_1 h60)
        go_wp2
        exact bodyPost_ret (v := .agg #[.int .i64 2, .string ⟨#[]⟩, .int .i64 0]) (by simp [results, Try.results16, go_sem, r0, r1, r2]) rfl ⟨by rw [HP.out, HM.out], below_set3 hbw _ _ _⟩
      · have HM := Lib.hid (manyB_2 h60)
        go_wp2
        exact bodyPost_ret (v := .agg #[.int .i64 0, .string ⟨#[]⟩, .int .i64 0]) (by simp [results, Try.results16, go_sem, r0, r1, r2]) rfl ⟨by rw [HP.out, HM.out], below_set3 hbw _ _ _⟩
end Go.Proofs.Yteffoajheolpmaa
