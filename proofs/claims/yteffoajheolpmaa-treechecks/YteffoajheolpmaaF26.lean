/-
  The merge of two sorted parts in place (slices' symMerge).
-/
import Derived.Test.YteffoajheolpmaaT11
namespace Go.Proofs.Yteffoajheolpmaa
open Go.RowKit Go.Shelf

/-- What a merge promises, for parts of at most d files. -/
def Merges (w0 : World) (g c n B : Nat) (u : Value) (d : Nat) : Prop :=
  ∀ (P A C S : List FileB) (w : World), A.length + C.length ≤ d → 0 < A.length → 0 < C.length → Rises A → Rises C → Short (P ++ A ++ C ++ S) → Work w0 g c n B u w (P ++ A ++ C ++ S) →
    ∀ a m b : Nat, a = P.length → m = P.length + A.length → b = P.length + A.length + C.length →
    Calls Try.prog 84 #[.slice (some ⟨g, 0, none⟩) n c, .int .i64 a, .int .i64 m, .int .i64 b, cmpV B] w (fun e w' => e = .returned (.tuple #[]) ∧ Came w0 g c n B u P (A ++ C) S w')

set_option maxRecDepth 100000 in
set_option maxHeartbeats 4000000 in
theorem merge_b1 (w0 : World) (g c n B : Nat) (u : Value) (d : Nat) (ih : Merges w0 g c n B u d) (hn : n ≤ 1000) (P A C S : List FileB) (w : World) (hd : A.length + C.length ≤ d + 1) (hA0 : 2 ≤ A.length) (hC0 : 2 ≤ C.length) (hA : Rises A) (hC : Rises C) (hs : Short (P ++ A ++ C ++ S)) (hw : Work w0 g c n B u w (P ++ A ++ C ++ S))
    (a m b mid : Nat) (ha : a = P.length) (hm : m = P.length + A.length) (hb : b = P.length + A.length + C.length) (hmid : mid = (a + b) / 2) (hbr : mid < m) :
    Calls Try.prog 84 #[.slice (some ⟨g, 0, none⟩) n c, .int .i64 a, .int .i64 m, .int .i64 b, cmpV B] w (fun e w' => e = .returned (.tuple #[]) ∧ Came w0 g c n B u P (A ++ C) S w') := by
  have hlen := hw.len
  simp only [List.length_append] at hlen
  have hbn : b ≤ n := by omega
  have HW := Lib.hid hw
  have HSh := Lib.hid hs
  obtain ⟨lo, hlo⟩ : ∃ lo, mid + m - b = lo := ⟨_, rfl⟩
  have hbo' : Bounds P.length (P.length + A.length) (P.length + A.length + C.length) mid lo (mid) := by
    rw [← hb, ← hm, ← ha]
    exact ⟨hmid, .inl ⟨hbr, hlo.symm, rfl⟩⟩
  have HMo := Lib.hid (show ∀ q r, lo ≤ q → q ≤ r → r < mid → NotLess (keyAt (P ++ A ++ C ++ S) (mid + m - 1 - r)) (keyAt (P ++ A ++ C ++ S) r) → NotLess (keyAt (P ++ A ++ C ++ S) (mid + m - 1 - q)) (keyAt (P ++ A ++ C ++ S) q) by
    subst hm
    exact third_mono' (S := S) hA hC (by omega) (by omega) hbo')
  have HCu := Lib.hid (show ∀ st, Sk (fun q => NotLess (keyAt (P ++ A ++ C ++ S) (mid + m - 1 - q)) (keyAt (P ++ A ++ C ++ S) q)) lo (mid) st st → ∃ A1 A2 C1 C2, Quart A C A1 A2 C1 C2 ∧ P.length + A1.length = st ∧ P.length + A1.length + C1.length = mid ∧ st ≤ mid by
    intro st h
    subst hm
    exact third_parts (S := S) hA hC (by omega) (by omega) hbo' h)
  have hlo1 : a ≤ lo := by omega
  have hlo2 : lo ≤ mid := by omega
  have HXS := Lib.hid (fun q => some_at (xs := P ++ A ++ C ++ S) (q := q))
  have HL := Lib.hid (show (P ++ A ++ C ++ S).length = n from hw.len)
  have HA := Lib.hid ha
  have HM := Lib.hid hm
  have HB := Lib.hid hb
  have HD := Lib.hid hd
  have HI := Lib.hid ih
  have ham : a + 2 ≤ m := by omega
  have hmb : m + 2 ≤ b := by omega
  have hm1 : a < mid := by omega
  have hm2 : mid < b := by omega
  obtain ⟨nn, hnn⟩ : ∃ nn, mid + m = nn := ⟨_, rfl⟩
  obtain ⟨pp, hpp⟩ : ∃ pp, nn - 1 = pp := ⟨_, rfl⟩
  rw [hnn, hpp] at HMo HCu
  have HT := Lib.hid (fun (A1 A2 C1 C2 : List FileB) (h : Quart A C A1 A2 C1 C2) => h.turn P S)
  have hti : ((m : Int) - (a : Int) == 1) = false := by rw [beq_eq_false_iff_ne]; omega
  have htj : ((b : Int) - (m : Int) == 1) = false := by rw [beq_eq_false_iff_ne]; omega
  have htk : ((a : Int) + (b : Int)) / 2 = (mid : Int) := by omega
  have htl : (mid : Int) + (m : Int) = (nn : Int) := by omega
  have htn : (nn : Int) - 1 = (pp : Int) := by omega
  have hto : (nn : Int) - (b : Int) = ((nn - b : Nat) : Int) := by omega
  clear hw hlen ha hb hm hs hbo' hA hC hA0 hC0 hd ih hmid
  generalize P ++ A ++ C ++ S = xs at *
  unfold cmpV
  go_enter Try.func84, Try.ntmps84
  go_wp2
  go_loopw [20, 21] (fun i j wr => ∃ (k l : Nat), i = .int .i64 k ∧ j = .int .i64 l ∧ Sk (fun q => NotLess (keyAt xs (pp - q)) (keyAt xs q)) lo (mid) k l ∧ Work w0 g c n B u wr xs) (fun i j _ => (intOf j - intOf i).toNat)
  case atStart => exact ⟨lo, mid, by first | rfl | (rw [← hlo]; go_num) | (congr 1; omega), rfl, Sk.start _ hlo2, HW.out⟩
  case round =>
    obtain ⟨k, l, rfl, rfl, hsk, hwk⟩ := hrel
    have hk1 := hsk.a
    have hk2 := hsk.b
    have hk3 := hsk.c
    by_cases hlt : k < l
    · obtain ⟨z1, z2, qz, ez⟩ := HXS.out ((k + l) / 2) (by rw [HL.out]; omega)
      obtain ⟨y1, y2, qy, ey⟩ := HXS.out (pp - (k + l) / 2) (by rw [HL.out]; omega)
      obtain ⟨q1, q2⟩ := hwk.cell qz
      obtain ⟨q3, q4⟩ := hwk.cell qy
      have sz : z1.size ≤ 20300 := HSh.out (z1, z2) (List.mem_of_getElem? qz)
      have sy : y1.size ≤ 20300 := HSh.out (y1, y2) (List.mem_of_getElem? qy)
      have hgz := (Array.getElem?_eq_some_iff.1 hwk.block.choose_spec.1).1
      have hb1 : (k + l) / 2 < n := by omega
      have hb3 : (0 : Int) ≤ ((k : Int) + (l : Int)) / 2 := by omega
      have hb4 : ((k : Int) + (l : Int)) / 2 < (n : Int) := by omega
      have hb6 : (((k : Int) + (l : Int)) / 2).toNat = (k + l) / 2 := by omega
      have HUp := Lib.hid (fun (e : ¬ compareN (keyAt xs (pp - (k + l) / 2)) (keyAt xs ((k + l) / 2)) < 0) => hsk.up HMo.out (h := (k + l) / 2) (by omega) (by omega) e)
      have HDn := Lib.hid (fun (e : compareN (keyAt xs (pp - (k + l) / 2)) (keyAt xs ((k + l) / 2)) < 0) => hsk.down HMo.out (h := (k + l) / 2) (by omega) (by omega) (fun hq => hq e))
      rw [← ez, ← ey] at HUp HDn
      obtain ⟨dd, hdd⟩ : ∃ dd, pp - (k + l) / 2 = dd := ⟨_, rfl⟩
      rw [hdd] at q3 q4
      have hb7 : (pp : Int) - ((k : Int) + (l : Int)) / 2 = (dd : Int) := by omega
      have hb8 : (dd : Int) < (n : Int) := by omega
      have hb9 : dd < n := by omega
      have hb10 : IntKind.i64.wrap (dd : Int) = (dd : Int) := IntWalk.i64_in _ (by omega)
      clear hsk qz ez qy ey hdd
      by_cases hcm : compareN y1 z1 < 0
      · have hcd : decide (compareN y1 z1 < 0) = true := decide_eq_true hcm
        have HCM := Lib.hid (HDn.out hcm)
        clear hcm HUp HDn
        go_wp2
        go_region_held3 (fun w' => w'.cell? ⟨g, (k + l) / 2 * 2, none⟩ = some (.string z1) ∧ w'.cell? ⟨g, (k + l) / 2 * 2 + 1, none⟩ = some (.string z2) ∧ w'.cell? ⟨g, dd * 2, none⟩ = some (.string y1) ∧ w'.cell? ⟨g, dd * 2 + 1, none⟩ = some (.string y2))
          (first | go_keep | (go_split_ands; refine ⟨?_, ?_, ?_, ?_⟩ <;> (rw [hb2.cell hgz]; assumption)))
          (first | (go_at_call 62; refine (arr1_any (y1, y2) (z1, z2) B u _ (hwk.drew.box) sy sz).mono ?_; rintro e w2 ⟨rfl, hb2⟩))
        rename_i hheld
        clear hheld
        have hw2 := hwk.drew.call hb2
        clear hb2 q1 q2 q3 q4 hgz hwk
        go_wp2
        go_roundw
        case rel => exact ⟨k, (k + l) / 2, rfl, by go_num, HCM.out, hw2⟩
        case measure => simp [intOf]; omega
      · have hcd : decide (compareN y1 z1 < 0) = false := decide_eq_false hcm
        have HCM := Lib.hid (HUp.out hcm)
        clear hcm HUp HDn
        go_wp2
        go_region_held3 (fun w' => w'.cell? ⟨g, (k + l) / 2 * 2, none⟩ = some (.string z1) ∧ w'.cell? ⟨g, (k + l) / 2 * 2 + 1, none⟩ = some (.string z2) ∧ w'.cell? ⟨g, dd * 2, none⟩ = some (.string y1) ∧ w'.cell? ⟨g, dd * 2 + 1, none⟩ = some (.string y2))
          (first | go_keep | (go_split_ands; refine ⟨?_, ?_, ?_, ?_⟩ <;> (rw [hb2.cell hgz]; assumption)))
          (first | (go_at_call 62; refine (arr1_any (y1, y2) (z1, z2) B u _ (hwk.drew.box) sy sz).mono ?_; rintro e w2 ⟨rfl, hb2⟩))
        rename_i hheld
        clear hheld
        have hw2 := hwk.drew.call hb2
        clear hb2 q1 q2 q3 q4 hgz hwk
        go_wp2
        go_roundw
        case rel => exact ⟨(k + l) / 2 + 1, l, by go_num, rfl, HCM.out, hw2⟩
        case measure => simp [intOf]; omega
    · obtain rfl : k = l := by omega
      obtain ⟨A1, A2, C1, C2, hq, l1, l2, l3⟩ := HCu.out k hsk
      have exs := HT.out _ _ _ _ hq
      have l4 := congrArg List.length hq.ha
      have l5 := congrArg List.length hq.hc
      rw [List.length_append] at l4 l5
      have l6 := HA.out
      have l7 := HM.out
      have l8 := HB.out
      have HQ := Lib.hid hq
      clear hsk hq
      obtain ⟨en, hen⟩ : ∃ en, nn - k = en := ⟨_, rfl⟩
      have hen' : (nn : Int) - (k : Int) = (en : Int) := by omega
      have hsh := HSh.out
      rw [exs] at hsh hwk
      have HS1 := Lib.hid (short_turn hsh)
      have HN := Lib.hid (show a = P.length ∧ m = P.length + A.length ∧ b = P.length + A.length + C.length ∧ P.length + A1.length = k ∧ P.length + A1.length + C1.length = mid ∧ A.length = A1.length + A2.length ∧ C.length = C1.length + C2.length ∧ A.length + C.length ≤ d + 1 from ⟨l6, l7, l8, l1, l2, l4, l5, HD.out⟩)
      clear hsh exs l1 l2 l4 l5 l6 l7 l8
      by_cases hy : k < mid
      · have y1 : k < m := by omega
        have y2 : m < en := by omega
        have y3 : mid < en := by omega
        by_cases y4 : a < k
        · by_cases y5 : en < b
          · have HX := Lib.hid (rotate_any w0 g c n B u _ (P ++ A1) A2 C1 (C2 ++ S) hwk k m en (by have hx := HN.out; (try simp only [List.length_append]); omega) (by have hx := HN.out; (try simp only [List.length_append]); omega) (by have hx := HN.out; (try simp only [List.length_append]); omega) (by omega) (by omega) hn)
            clear hwk
            go_wp2_with fail
            refine HX.out.mono ?_
            rintro _ w1 ⟨rfl, hw1⟩
            rw [left_form] at hw1
            clear HX
            have HX2 := Lib.hid (HI.out P A1 C1 (A2 ++ C2 ++ S) _ (by have hx := HN.out; (try simp only [List.length_append]); omega) (by have hx := HN.out; (try simp only [List.length_append]); omega) (by have hx := HN.out; (try simp only [List.length_append]); omega) HQ.out.r1 HQ.out.r3 HS1.out hw1 a k mid (by have hx := HN.out; (try simp only [List.length_append]); omega) (by have hx := HN.out; (try simp only [List.length_append]); omega) (by have hx := HN.out; (try simp only [List.length_append]); omega))
            clear hw1
            go_wp2_with fail
            refine HX2.out.mono ?_
            rintro _ w2 ⟨rfl, hc2⟩
            clear HX2
            obtain ⟨ys, ⟨L, r1, r2, rfl⟩, r3, hw2⟩ := hc2
            have HR1 := Lib.hid r1
            have HR2 := Lib.hid r2
            have HK := Lib.hid (kept_len r2)
            clear r1 r2
            have er : P ++ L ++ (A2 ++ C2 ++ S) = P ++ L ++ A2 ++ C2 ++ S := by simp only [List.append_assoc]
            rw [er] at r3 hw2
            have HX3 := Lib.hid (HI.out (P ++ L) A2 C2 S _ (by have hx := HN.out; (try simp only [List.length_append]); omega) (by have hx := HN.out; (try simp only [List.length_append]); omega) (by have hx := HN.out; (try simp only [List.length_append]); omega) HQ.out.r2 HQ.out.r4 r3 hw2 mid en b (by have hx := HN.out; have hy := HK.out; simp only [List.length_append] at hy ⊢; omega) (by have hx := HN.out; have hy := HK.out; simp only [List.length_append] at hy ⊢; omega) (by have hx := HN.out; have hy := HK.out; simp only [List.length_append] at hy ⊢; omega))
            clear hw2 r3 er
            go_wp2_with fail
            refine HX3.out.mono ?_
            rintro _ w3 ⟨rfl, hc3⟩
            clear HX3
            have HC3 := Lib.hid hc3
            clear hc3
            go_wp2
            go_end0
            exact ⟨rfl, HQ.out.done HR1.out HR2.out HC3.out⟩
          · have HX := Lib.hid (rotate_any w0 g c n B u _ (P ++ A1) A2 C1 (C2 ++ S) hwk k m en (by have hx := HN.out; (try simp only [List.length_append]); omega) (by have hx := HN.out; (try simp only [List.length_append]); omega) (by have hx := HN.out; (try simp only [List.length_append]); omega) (by omega) (by omega) hn)
            clear hwk
            go_wp2_with fail
            refine HX.out.mono ?_
            rintro _ w1 ⟨rfl, hw1⟩
            rw [left_form] at hw1
            clear HX
            have HX2 := Lib.hid (HI.out P A1 C1 (A2 ++ C2 ++ S) _ (by have hx := HN.out; (try simp only [List.length_append]); omega) (by have hx := HN.out; (try simp only [List.length_append]); omega) (by have hx := HN.out; (try simp only [List.length_append]); omega) HQ.out.r1 HQ.out.r3 HS1.out hw1 a k mid (by have hx := HN.out; (try simp only [List.length_append]); omega) (by have hx := HN.out; (try simp only [List.length_append]); omega) (by have hx := HN.out; (try simp only [List.length_append]); omega))
            clear hw1
            go_wp2_with fail
            refine HX2.out.mono ?_
            rintro _ w2 ⟨rfl, hc2⟩
            clear HX2
            obtain ⟨ys, ⟨L, r1, r2, rfl⟩, r3, hw2⟩ := hc2
            have HR1 := Lib.hid r1
            have HR2 := Lib.hid r2
            have HK := Lib.hid (kept_len r2)
            clear r1 r2
            have hc3 := HQ.out.right (by have hx := HN.out; (try simp only [List.length_append]); omega) r3 hw2
            clear hw2 r3
            have HC3 := Lib.hid hc3
            clear hc3
            go_wp2
            go_end0
            exact ⟨rfl, HQ.out.done HR1.out HR2.out HC3.out⟩
        · by_cases y5 : en < b
          · have HX := Lib.hid (rotate_any w0 g c n B u _ (P ++ A1) A2 C1 (C2 ++ S) hwk k m en (by have hx := HN.out; (try simp only [List.length_append]); omega) (by have hx := HN.out; (try simp only [List.length_append]); omega) (by have hx := HN.out; (try simp only [List.length_append]); omega) (by omega) (by omega) hn)
            clear hwk
            go_wp2_with fail
            refine HX.out.mono ?_
            rintro _ w1 ⟨rfl, hw1⟩
            rw [left_form] at hw1
            clear HX
            have hc2 := HQ.out.left (by have hx := HN.out; (try simp only [List.length_append]); omega) HS1.out hw1
            clear hw1
            obtain ⟨ys, ⟨L, r1, r2, rfl⟩, r3, hw2⟩ := hc2
            have HR1 := Lib.hid r1
            have HR2 := Lib.hid r2
            have HK := Lib.hid (kept_len r2)
            clear r1 r2
            have er : P ++ L ++ (A2 ++ C2 ++ S) = P ++ L ++ A2 ++ C2 ++ S := by simp only [List.append_assoc]
            rw [er] at r3 hw2
            have HX3 := Lib.hid (HI.out (P ++ L) A2 C2 S _ (by have hx := HN.out; (try simp only [List.length_append]); omega) (by have hx := HN.out; (try simp only [List.length_append]); omega) (by have hx := HN.out; (try simp only [List.length_append]); omega) HQ.out.r2 HQ.out.r4 r3 hw2 mid en b (by have hx := HN.out; have hy := HK.out; simp only [List.length_append] at hy ⊢; omega) (by have hx := HN.out; have hy := HK.out; simp only [List.length_append] at hy ⊢; omega) (by have hx := HN.out; have hy := HK.out; simp only [List.length_append] at hy ⊢; omega))
            clear hw2 r3 er
            go_wp2_with fail
            refine HX3.out.mono ?_
            rintro _ w3 ⟨rfl, hc3⟩
            clear HX3
            have HC3 := Lib.hid hc3
            clear hc3
            go_wp2
            go_end0
            exact ⟨rfl, HQ.out.done HR1.out HR2.out HC3.out⟩
          · have HX := Lib.hid (rotate_any w0 g c n B u _ (P ++ A1) A2 C1 (C2 ++ S) hwk k m en (by have hx := HN.out; (try simp only [List.length_append]); omega) (by have hx := HN.out; (try simp only [List.length_append]); omega) (by have hx := HN.out; (try simp only [List.length_append]); omega) (by omega) (by omega) hn)
            clear hwk
            go_wp2_with fail
            refine HX.out.mono ?_
            rintro _ w1 ⟨rfl, hw1⟩
            rw [left_form] at hw1
            clear HX
            have hc2 := HQ.out.left (by have hx := HN.out; (try simp only [List.length_append]); omega) HS1.out hw1
            clear hw1
            obtain ⟨ys, ⟨L, r1, r2, rfl⟩, r3, hw2⟩ := hc2
            have HR1 := Lib.hid r1
            have HR2 := Lib.hid r2
            have HK := Lib.hid (kept_len r2)
            clear r1 r2
            have hc3 := HQ.out.right (by have hx := HN.out; (try simp only [List.length_append]); omega) r3 hw2
            clear hw2 r3
            have HC3 := Lib.hid hc3
            clear hc3
            go_wp2
            go_end0
            exact ⟨rfl, HQ.out.done HR1.out HR2.out HC3.out⟩
      · have x1 : k < m := by omega
        have x2 : ¬ m < en := by omega
        have x3 : a < k := by omega
        have x4 : mid < en := by omega
        have x5 : en < b := by omega
        have hw1 := hwk
        rw [no_turn (by have hx := HN.out; (try simp only [List.length_append]); omega)] at hw1
        clear hwk
        have hc2 := HQ.out.left (by have hx := HN.out; (try simp only [List.length_append]); omega) HS1.out hw1
        clear hw1
        obtain ⟨ys, ⟨L, r1, r2, rfl⟩, r3, hw2⟩ := hc2
        have HR1 := Lib.hid r1
        have HR2 := Lib.hid r2
        have HK := Lib.hid (kept_len r2)
        clear r1 r2
        have er : P ++ L ++ (A2 ++ C2 ++ S) = P ++ L ++ A2 ++ C2 ++ S := by simp only [List.append_assoc]
        rw [er] at r3 hw2
        have HX3 := Lib.hid (HI.out (P ++ L) A2 C2 S _ (by have hx := HN.out; (try simp only [List.length_append]); omega) (by have hx := HN.out; (try simp only [List.length_append]); omega) (by have hx := HN.out; (try simp only [List.length_append]); omega) HQ.out.r2 HQ.out.r4 r3 hw2 mid en b (by have hx := HN.out; have hy := HK.out; simp only [List.length_append] at hy ⊢; omega) (by have hx := HN.out; have hy := HK.out; simp only [List.length_append] at hy ⊢; omega) (by have hx := HN.out; have hy := HK.out; simp only [List.length_append] at hy ⊢; omega))
        clear hw2 r3 er
        go_wp2_with fail
        refine HX3.out.mono ?_
        rintro _ w3 ⟨rfl, hc3⟩
        clear HX3
        have HC3 := Lib.hid hc3
        clear hc3
        go_wp2
        go_end0
        exact ⟨rfl, HQ.out.done HR1.out HR2.out HC3.out⟩

end Go.Proofs.Yteffoajheolpmaa
