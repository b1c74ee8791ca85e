/-
  tree.Drop and the document's own.
-/
import Derived.Test.YteffoajheolpmaaT2
namespace Go.Proofs.Yteffoajheolpmaa
open Go.RowKit Go.Shelf

def dropL (t : List FileB) (q : ByteArray) : List FileB := t.filter fun g => !(g.1.toList == q.toList)
def dropE (t : List FileB) (q : ByteArray) : Int := if hasP t q then 0 else 3
def dropR (t : List FileB) (q : ByteArray) : List FileB := if hasP t q then dropL t q else []
theorem mem_drop {t : List FileB} {q : ByteArray} {g : FileB} : g ∈ dropL t q ↔ g ∈ t ∧ ¬ g.1 = q := by
  unfold dropL
  rw [List.mem_filter, Bool.not_eq_true', beq_eq_false_iff_ne]
  constructor
  · rintro ⟨h, k⟩; exact ⟨h, fun e => k (by rw [e])⟩
  · rintro ⟨h, k⟩; exact ⟨h, fun e => k (toList_inj.1 e)⟩
theorem drop_none {t : List FileB} {q : ByteArray} (h : hasP t q = false) : dropL t q = t := by
  refine List.filter_eq_self.2 fun g hg => ?_
  rw [Bool.not_eq_true', beq_eq_false_iff_ne]
  intro e
  have := has_iff.2 ⟨g, hg, toList_inj.1 e⟩
  rw [h] at this; cases this
theorem drop_has {t : List FileB} {q : ByteArray} (h : hasP t q = true) : (dropL t q).length < t.length := by
  obtain ⟨g, hg, e⟩ := has_iff.1 h
  unfold dropL
  refine List.length_filter_lt_length_iff_exists.2 ⟨g, hg, ?_⟩
  simp [e]
theorem drop_cut {t : List FileB} {q : ByteArray} (hu : Up t) (h : hasP t q = true) : dropL t q = t.take (placeN t q) ++ t.drop (placeN t q + 1) := by
  have h1 := take_place (q := q) hu
  have h2 := drop_place (q := q) hu
  rw [h] at h2
  simp only [if_true] at h2
  obtain ⟨hp, e⟩ := has_place hu h
  have k1 : (t.take (placeN t q)).filter (fun g => !(g.1.toList == q.toList)) = t.take (placeN t q) := by
    refine List.filter_eq_self.2 fun g hg => ?_
    rw [h1] at hg
    have := (List.mem_filter.1 hg).2
    simp only [decide_eq_true_eq] at this
    rw [Bool.not_eq_true', beq_eq_false_iff_ne]
    intro e
    rw [toList_inj.1 e, cmp_self] at this; omega
  have k2 : (t.drop (placeN t q + 1)).filter (fun g => !(g.1.toList == q.toList)) = t.drop (placeN t q + 1) := by
    refine List.filter_eq_self.2 fun g hg => ?_
    rw [h2] at hg
    have := (List.mem_filter.1 hg).2
    simp only [decide_eq_true_eq] at this
    rw [Bool.not_eq_true', beq_eq_false_iff_ne]
    intro e
    rw [toList_inj.1 e, cmp_self] at this; omega
  unfold dropL
  conv => lhs; rw [← List.take_append_drop (placeN t q) t, List.drop_eq_getElem_cons hp]
  rw [List.filter_append, List.filter_cons, if_neg (by simp [e]), k1, k2]

set_option maxRecDepth 100000 in
set_option maxHeartbeats 2000000 in
theorem without_any (xs : List FileB) (n : Nat) (v : Value) (w : World) (hv : FRow w v xs) (hm : xs.length ≤ 1000) (hn : n < xs.length) :
    Calls Try.prog 49 #[sortV v, .int .i64 n] w (OwnOut (xs.take n ++ xs.drop (n + 1)) w) := by
  obtain ⟨i0, hi, hz0, hz1, hz2⟩ := info_parts Try.info32
  have HV := Lib.hid hv
  obtain ⟨a, c, rfl, hlc, -⟩ := hv
  have hb0 : Below w.heap.size w (w.alloc (.cells #[.slice a xs.length c, .func (.func 59) #[] #[], .func (.func 60) #[] #[]] 54)) := (Below.refl _ _).alloc (Nat.le_refl _) _
  have hs0 := SBlk.new w (.slice a xs.length c)
  obtain ⟨w1, hrun, hown, hgr⟩ := run_make_own (P := Try.prog) (w.alloc (.cells #[.slice a xs.length c, .func (.func 59) #[] #[], .func (.func 60) #[] #[]] 54)) w.heap.size 22 32 i0 _ 2 Try.underlying22 hi hz0 hz1 .i64 .i64 xs.length (by rw [hz2]; omega) (by unfold maxLen; omega) hb0.size
  rw [World.size_alloc] at hrun
  have hb1 := (Below.refl _ _).grown hgr (Nat.le_refl _) (by simp)
  have hacc0 : Acc w w1 (.slice (some ⟨w.heap.size + 1, 0, none⟩) 0 xs.length) [] := ⟨by rw [World.size_alloc] at hown; exact hown, hb0.trans (hb1.mono hb0.size)⟩
  have hs1 := hs0.below hb1
  have HS1 := Lib.hid hs1
  obtain ⟨p0, -, -, -⟩ := hs1.cells
  have hBlt := hs1.lt
  have hneB := hs1.ne hacc0.own
  clear hs0 hs1 hown hgr hb1 hb0
  have HF := Lib.hid (HV.out.first (k := n) (by omega))
  have i1 : (0 : Int) ≤ (n : Int) := by omega
  have i2 : (n : Int) ≤ (c : Int) := by omega
  have i3 : (n : Int) ≤ (xs.length : Int) := by omega
  have i4 : IntKind.i64.wrap ((n : Int) + 1) = (n : Int) + 1 := IntWalk.i64_in _ (by omega)
  have i5 : (0 : Int) ≤ (n : Int) + 1 := by omega
  have i6 : ((n : Int) + 1).toNat = n + 1 := by omega
  have i7 : (n : Int) + 1 ≤ (xs.length : Int) := by omega
  have i8 : (n : Int) + 1 ≤ (c : Int) := by omega
  unfold sortV
  by_cases hcn : c = n + 1
  · subst hcn
    have i9 : (n : Int) ≤ (n : Int) + 1 := by omega
    have i10 : ((n + 1 : Nat) : Int) = (n : Int) + 1 := by omega
    have i11 : (n : Int) + 1 ≤ (n : Int) + 1 := by omega
    have hdn : xs.drop (n + 1) = [] := List.drop_of_length_le hlc
    have HRow := Lib.hid (show FRow w (.slice a 0 0) (xs.drop (n + 1)) by rw [hdn]; exact ⟨a, 0, rfl, Nat.le_refl _, fun h => absurd rfl h⟩)
    clear hdn
    go_enter Try.func49, Try.ntmps49
    go_wp2
    clear hrun
    go_region_held3 (fun w' => w'.cell? ⟨w.heap.size, 0, none⟩ = some (.slice a xs.length (n + 1)))
      (first | go_keep | exact k0 | exact m0)
      (first
        | (refine step_facc rfl _ _ rfl hacc0.drew rfl (HF.out.below hacc0.drew.below) rfl (by simp; omega) ?_; intro A3 c3 acc3 w3 hgr; have hlen3 := hgr.len; (rw [List.length_take] at hlen3); (simp only [List.length_nil] at hlen3); have hacc3 := hgr.acc; have HL3 := Lib.hid hgr.list; have fB := hgr.far _ hBlt hneB; have k0 := kept_cell fB p0; have hs3 : SBlk w3 w.heap.size (.slice a xs.length (n + 1)) := fB.trans HS1.out; have hneB3 := hs3.ne hacc3.own; have hBl3 := hs3.lt; clear hgr)
        | (refine step_facc rfl _ _ rfl hacc3 rfl (HRow.out.below hacc3.below) rfl (by simp; omega) ?_; intro A4 c4 acc4 w4 hgr; have hacc4 := hgr.acc; have HL4 := Lib.hid hgr.list; have m0 := kept_cell (hgr.far _ hBl3 hneB3) k0; clear hgr))
    all_goals
      have HL := Lib.hid (show acc4 = xs.take n ++ xs.drop (n + 1) by rw [HL4.out, HL3.out, List.nil_append])
      go_wp2
      go_ret
      rw [← HL.out]
      exact ⟨A4, c4, rfl, hacc4.own, hacc4.below⟩
  · have HRow := Lib.hid (rest_map HV.out (k := n + 1) (by omega))
    go_enter Try.func49, Try.ntmps49
    go_wp2
    clear hrun
    go_region_held3 (fun w' => w'.cell? ⟨w.heap.size, 0, none⟩ = some (.slice a xs.length c))
      (first | go_keep | exact k0 | exact m0)
      (first
        | (refine step_facc rfl _ _ rfl hacc0.drew rfl (HF.out.below hacc0.drew.below) rfl (by simp; omega) ?_; intro A3 c3 acc3 w3 hgr; have hlen3 := hgr.len; (rw [List.length_take] at hlen3); (simp only [List.length_nil] at hlen3); have hacc3 := hgr.acc; have HL3 := Lib.hid hgr.list; have fB := hgr.far _ hBlt hneB; have k0 := kept_cell fB p0; have hs3 : SBlk w3 w.heap.size (.slice a xs.length c) := fB.trans HS1.out; have hneB3 := hs3.ne hacc3.own; have hBl3 := hs3.lt; clear hgr)
        | (refine step_facc rfl _ _ rfl hacc3 rfl (HRow.out.below hacc3.below) rfl (by simp; omega) ?_; intro A4 c4 acc4 w4 hgr; have hacc4 := hgr.acc; have HL4 := Lib.hid hgr.list; have m0 := kept_cell (hgr.far _ hBl3 hneB3) k0; clear hgr))
    all_goals
      have HL := Lib.hid (show acc4 = xs.take n ++ xs.drop (n + 1) by rw [HL4.out, HL3.out, List.nil_append])
      go_wp2
      go_ret
      rw [← HL.out]
      exact ⟨A4, c4, rfl, hacc4.own, hacc4.below⟩

theorem find_p {xs : List FileB} {q : ByteArray} {b : Bool} (h : hasP xs q = b) (v : Value) (w : World) (hv : FRow w v xs) (h1 : Short xs) (h2 : q.size ≤ 20300) (hm : xs.length ≤ 1000) (hu : Up xs) :
    Calls Try.prog 48 #[sortV v, .string q] w fun e w' => e = .returned (.tuple #[.int .i64 (placeN xs q), .bool b]) ∧ Below w.heap.size w w' := by
  refine (find_any xs v q w hv h1 h2 hm hu).mono ?_
  rintro e w' ⟨rfl, hb⟩
  exact ⟨by rw [h], hb⟩
theorem dropE_1 {t : List FileB} {q : ByteArray} (h : hasP t q = false) : dropE t q = 3 ∧ dropR t q = [] := by simp [dropE, dropR, h]
theorem dropE_2 {t : List FileB} {q : ByteArray} (h : hasP t q = true) : dropE t q = 0 ∧ dropR t q = dropL t q := by simp [dropE, dropR, h]

set_option maxRecDepth 100000 in
set_option maxHeartbeats 2000000 in
theorem tdrop_any (xs : List FileB) (q : ByteArray) (v : Value) (w : World) (hv : FRow w v xs) (h1 : Short xs) (h2 : q.size ≤ 20300) (hm : xs.length ≤ 1000) (hu : Up xs) :
    Calls Try.prog 25 #[v, .string q] w (PutOut (dropR xs q) (dropE xs q) w) := by
  have HV := Lib.hid hv
  have H1 := Lib.hid h1
  have HU := Lib.hid hu
  obtain ⟨a, c, rfl, hlc, -⟩ := hv
  clear h1 hu
  cases hh : hasP xs q
  · have HE := Lib.hid (dropE_1 hh)
    go_enter Try.func25, Try.ntmps25
    go_wp2_with fail
    refine (byPath_any _ _ _ _).mono ?_
    rintro _ w1 ⟨rfl, hb⟩
    unfold sortV
    have HS := Lib.hid (SBlk.new w1 (.slice a xs.length c))
    have hbA := hb.alloc hb.size (.cells #[.slice a xs.length c, .func (.func 59) #[] #[], .func (.func 60) #[] #[]] 54)
    go_wp2_with fail
    refine (find_p hh (.slice a xs.length c) _ (HV.out.below hbA) H1.out h2 hm HU.out).mono ?_
    rintro _ w2 ⟨rfl, hb2⟩
    replace hbA := hbA.trans (hb2.mono hbA.size)
    go_wp2
    go_ret2
    rw [HE.out.1, HE.out.2]
    exact ⟨none, 0, rfl, FRow.nil _, hbA⟩
  · have HE := Lib.hid (dropE_2 hh)
    have HC := Lib.hid (drop_cut HU.out hh)
    have hp := (has_place HU.out hh).1
    go_enter Try.func25, Try.ntmps25
    go_wp2_with fail
    refine (byPath_any _ _ _ _).mono ?_
    rintro _ w1 ⟨rfl, hb⟩
    unfold sortV
    have HS := Lib.hid (SBlk.new w1 (.slice a xs.length c))
    have hbA := hb.alloc hb.size (.cells #[.slice a xs.length c, .func (.func 59) #[] #[], .func (.func 60) #[] #[]] 54)
    go_wp2_with fail
    refine (find_p hh (.slice a xs.length c) _ (HV.out.below hbA) H1.out h2 hm HU.out).mono ?_
    rintro _ w2 ⟨rfl, hb2⟩
    have hs2 := HS.out.below hb2
    replace hbA := hbA.trans (hb2.mono hbA.size)
    obtain ⟨p0, p1, p2, -⟩ := hs2.cells
    clear hs2 hb2
    generalize placeN xs q = n at *
    go_wp2_with fail
    refine (without_any xs n (.slice a xs.length c) _ (HV.out.below hbA) hm hp).mono ?_
    rintro _ w3 ⟨A3, c3, rfl, hown, hb3⟩
    have HO := Lib.hid hown.row
    replace hbA := hbA.trans (hb3.mono hbA.size)
    clear hown
    generalize xs.take n ++ xs.drop (n + 1) = zs at *
    go_wp2
    go_ret2
    rw [HE.out.1, HE.out.2, HC.out]
    exact ⟨A3, c3, rfl, HO.out, hbA⟩

set_option maxRecDepth 100000 in
set_option maxHeartbeats 2000000 in
theorem rdrop_any (xs : List FileB) (q : ByteArray) (v : Value) (w : World) (hv : FRow w v xs) (hm : xs.length ≤ 1000) :
    Calls Try.prog 26 #[v, .string q] w (PutOut (dropR xs q) (dropE xs q) w) := by
  have HV := Lib.hid hv
  obtain ⟨a, c, rfl, hlc, -⟩ := hv
  go_enter Try.func26, Try.ntmps26
  go_wp2
  go_loopw [6, 7] (fun ov i wr => ∃ (k : Nat) (acc : List FileB) (A : Option Addr) (c' : Nat), k ≤ xs.length ∧ i = .int .i64 k ∧ ov = .slice A acc.length c' ∧ acc = dropL (xs.take k) q ∧ Acc w wr (.slice A acc.length c') acc)
    (fun _ i _ => xs.length - (intOf i).toNat)
  case atStart => exact ⟨0, [], _, 0, Nat.zero_le _, rfl, rfl, rfl, Acc.start w⟩
  case round =>
    obtain ⟨k, acc, A, c', hk, rfl, rfl, hL, hacc⟩ := hrel
    have hal : acc.length ≤ k := by
      rw [hL]
      refine Nat.le_trans (List.length_filter_le _ _) ?_
      rw [List.length_take]; omega
    have HL := Lib.hid hL
    clear hL
    by_cases hlt : k < xs.length
    · obtain ⟨a', c'', e', hl', hcl⟩ := HV.out.below hacc.below
      cases e'
      obtain ⟨g, o, rfl, hg, hcell⟩ := hcl (by intro e; rw [e] at hlt; simp at hlt)
      obtain ⟨q1, q2⟩ := hcell k hlt
      have HN := Lib.hid (show dropL (xs.take (k + 1)) q = dropL (xs.take k) q ++ (if (xs[k].1.toList == q.toList) then [] else [xs[k]]) by
        unfold dropL
        rw [List.take_succ_eq_append_getElem hlt, List.filter_append]
        congr 1
        cases h : (xs[k].1.toList == q.toList) <;> simp [h])
      clear hcell hcl
      generalize xs[k] = x at *
      obtain ⟨x1, x2⟩ := x
      cases he : (x1.toList == q.toList)
      · have he' : (x1.toList != q.toList) = true := by simp [bne, he]
        have HN' := Lib.hid (show acc ++ [(x1, x2)] = dropL (xs.take (k + 1)) q by rw [HN.out, HL.out, he]; rfl)
        go_wp2_with (at_builtin; refine wpList_facc rfl _ _ rfl (hacc.alloc _) rfl (FRow.one _ _ _) rfl (by simp; omega) ?_; intro A3 c3 acc3 w3 hgr; have hacc3 := hgr.acc; have HL3 := Lib.hid hgr.list; clear hgr)
        go_roundw
        case rel => exact ⟨k + 1, acc3, A3, c3, by omega, by go_num, rfl, by rw [HL3.out]; exact HN'.out, hacc3⟩
        case measure => simp [intOf]; omega
      · have he' : (x1.toList != q.toList) = false := by simp [bne, he]
        have HN' := Lib.hid (show acc = dropL (xs.take (k + 1)) q by rw [HN.out, HL.out, he]; simp)
        go_wp2
        go_roundw
        case rel => exact ⟨k + 1, acc, A, c', by omega, by go_num, rfl, HN'.out, hacc⟩
        case measure => simp [intOf]; omega
    · have HE := Lib.hid (show acc = dropL xs q by rw [HL.out, List.take_of_length_le (by omega)])
      cases hh : hasP xs q
      · have HZ := Lib.hid (dropE_1 hh)
        have hlen : acc.length = xs.length := by rw [HE.out, drop_none hh]
        have hb1 : ((acc.length : Int) == (xs.length : Int)) = true := by simp [hlen]
        clear hlen
        go_wp2
        go_ret2
        rw [HZ.out.1, HZ.out.2]
        exact ⟨none, 0, rfl, FRow.nil _, hacc.below⟩
      · have HZ := Lib.hid (dropE_2 hh)
        have hlen : acc.length < xs.length := by rw [HE.out]; exact drop_has hh
        have hb1 : ((acc.length : Int) == (xs.length : Int)) = false := by simp; omega
        go_wp2
        go_ret2
        rw [HZ.out.1, HZ.out.2, ← HE.out]
        exact ⟨A, c', rfl, hacc.own.row, hacc.below⟩
end Go.Proofs.Yteffoajheolpmaa
