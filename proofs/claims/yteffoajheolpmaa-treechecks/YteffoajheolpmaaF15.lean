/-
  The document's own Diff; tree.Same.
-/
import Derived.Test.YteffoajheolpmaaF14
import Derived.Test.YteffoajheolpmaaT4
namespace Go.Proofs.Yteffoajheolpmaa
open Go.RowKit Go.Shelf

theorem rfind_w {t : List FileB} {q d : ByteArray} {b : Bool} (h : findB t q = (d, b)) (v : Value) (w : World) (hv : FRow w v t) (hl : t.length ≤ 1000) :
    Calls Try.prog 24 #[v, .string q] w fun e w' => e = .returned (.tuple #[.string d, .bool b]) ∧ w = w' := by
  refine (rfind_any t v q w hv hl).mono ?_
  rintro e w' ⟨rfl, hb⟩
  exact ⟨by rw [h], hb⟩
theorem dedF_1 {a b : List FileB} {acc : List ByteArray} {f : FileB} (h : differB a b f.1 = false) : dedF a b acc f = acc := by simp [dedF, h]
theorem dedF_2 {a b : List FileB} {acc : List ByteArray} {f : FileB} (h : hasS acc f.1 = true) : dedF a b acc f = acc := by simp [dedF, h]
theorem dedF_3 {a b : List FileB} {acc : List ByteArray} {f : FileB} (h : differB a b f.1 = true) (k : hasS acc f.1 = false) : dedF a b acc f = acc ++ [f.1] := by simp [dedF, h, k]

set_option maxRecDepth 100000 in
set_option maxHeartbeats 4000000 in
theorem rdiff_any (xs ys : List FileB) (v u : Value) (w : World) (hv : FRow w v xs) (hu : FRow w u ys) (hx : Tree xs) (hy : Tree ys) :
    Calls Try.prog 38 #[v, u] w (RowOut w (diffL xs ys)) := by
  have HV := Lib.hid hv
  have HU := Lib.hid hu
  have HX := Lib.hid hx
  have HY := Lib.hid hy
  have hxl := hx.few
  have hyl := hy.few
  obtain ⟨a, c, rfl, hlc, -⟩ := hv
  obtain ⟨b, d, rfl, hld, -⟩ := hu
  clear hx hy
  have HShort := Lib.hid (show Short (xs ++ ys) from fun f hf => by
    rcases List.mem_append.1 hf with h | h
    · exact HX.out.short f h
    · exact HY.out.short f h)
  have HDed := Lib.hid (ded_diff HX.out.up HY.out.up)
  have hacc0 := Acc.start w
  go_enter Try.func38, Try.ntmps38
  go_wp2_with (first
    | (at_builtin; refine wpList_facc rfl _ _ rfl hacc1 rfl (HU.out.below hacc1.below) rfl (by omega) ?_; intro A2 c2 acc2 w2 hgr; have hlen2 := hgr.len; have hacc2 := hgr.acc; have HL2 := Lib.hid hgr.list; clear hgr)
    | (at_builtin; refine wpList_facc rfl _ _ rfl hacc0 rfl (HV.out.below hacc0.below) rfl (by simp; omega) ?_; intro A1 c1 acc1 w1 hgr; have hlen1 := hgr.len; (simp only [List.length_nil] at hlen1); have hacc1 := hgr.acc; have HL1 := Lib.hid hgr.list; clear hgr))
  have HLL := Lib.hid (show acc2 = xs ++ ys by rw [HL2.out, HL1.out, List.nil_append])
  have HSh2 := Lib.hid (show Short acc2 by rw [HLL.out]; exact HShort.out)
  have HR2 := Lib.hid hacc2.own.row
  have hbw := hacc2.below
  refine (rsort_any acc2 _ _ HR2.out HSh2.out (by omega)).mono ?_
  rintro _ w3 ⟨A3, c3, rfl, hrow3, hb3⟩
  replace hbw := hbw.trans (hb3.mono hbw.size)
  have HR3 := Lib.hid hrow3
  have HSs := Lib.hid (show Short (sortB acc2) from fun f hf => HSh2.out f (mem_sort.1 hf))
  have hsl : (sortB acc2).length ≤ 200 := by
    have := sort_len_take acc2 acc2.length (Nat.le_refl _)
    rw [List.take_length] at this; omega
  have HLe := Lib.hid (sort_le acc2)
  have HD2 := Lib.hid (show dedL xs ys (sortB acc2) = diffL xs ys by rw [HLL.out]; exact HDed.out)
  clear hrow3 hb3
  generalize sortB acc2 = ss at *
  go_wp2
  go_loopw [6, 7] (fun ov i wr => ∃ (k : Nat) (acc : List ByteArray) (A : Option Addr) (c' : Nat), k ≤ ss.length ∧ i = .int .i64 k ∧ ov = .slice A acc.length c' ∧ acc = dedL xs ys (ss.take k) ∧ SAcc w3 wr (.slice A acc.length c') acc)
    (fun _ i _ => ss.length - (intOf i).toNat)
  case atStart => exact ⟨0, [], _, 0, Nat.zero_le _, rfl, rfl, rfl, SAcc.start w3⟩
  case round =>
    obtain ⟨k, acc, A, c', hk, rfl, rfl, hL, hacc⟩ := hrel
    have hal : acc.length ≤ 200 := by rw [hL]; have := (ded_spec (a := xs) (b := ys) HLe.out k hk).2.2; omega
    have HL := Lib.hid hL
    clear hL
    by_cases hlt : k < ss.length
    · obtain ⟨a', c'', e', hl', hcl⟩ := HR3.out.below hacc.below
      cases e'
      obtain ⟨g, o, rfl, hg, hcell⟩ := hcl (by intro e; rw [e] at hlt; simp at hlt)
      obtain ⟨q1, q2⟩ := hcell k hlt
      have hsz := HSs.out _ (List.getElem_mem hlt)
      have HN := Lib.hid (ded_snoc (a := xs) (b := ys) hlt)
      clear hcell hcl
      generalize ss[k] = f at *
      obtain ⟨p, dd⟩ := f
      have hsz' : p.size ≤ 20300 := hsz
      obtain ⟨⟨x, ba⟩, hfa⟩ : ∃ q, findB xs p = q := ⟨_, rfl⟩
      obtain ⟨⟨y, bb⟩, hfb⟩ : ∃ q, findB ys p = q := ⟨_, rfl⟩
      have HFa := Lib.hid hfa
      have HFb := Lib.hid hfb
      have HDf := Lib.hid (differ_v hfa hfb)
      clear hfa hfb
      have hbr := hbw.trans (hacc.below.mono hbw.size)
      go_wp2_with fail
      refine (rfind_w HFa.out _ _ (HV.out.below hbr) (by omega)).mono ?_
      rintro _ w4 ⟨rfl, rfl⟩
      go_wp2_with fail
      refine (rfind_w HFb.out _ _ (HU.out.below hbr) (by omega)).mono ?_
      rintro _ w4 ⟨rfl, rfl⟩
      by_cases hdf : differB xs ys p = true
      · have hdv : (!(ba == bb) || !(x.toList == y.toList)) = true := by rw [← HDf.out]; exact hdf
        cases hhs : hasS acc p
        · have HN' := Lib.hid (show acc ++ [p] = dedL xs ys (ss.take (k + 1)) by rw [HN.out, ← HL.out, dedF_3 (f := (p, dd)) hdf hhs])
          clear hdf
          cases ba <;> cases bb
          all_goals
            first
            | (have e1 : (x.toList == y.toList) = false := by simpa using hdv
               have e2 : (x.toList != y.toList) = true := by simpa using hdv
               clear hdv
               go_wp2_with fail
               refine (has_b hhs _ _ hacc.row (by omega)).mono ?_
               rintro _ w4 ⟨rfl, rfl⟩
               go_wp2_with (at_builtin; refine wpList_sacc rfl _ _ rfl (hacc.alloc _) rfl (cell_new _ _ _ 0) rfl (by omega) ?_; intro A5 c5 acc5 w5 hgr; have hacc5 := hgr.acc; have HL5 := Lib.hid hgr.list; clear hgr)
               go_roundw
               case rel => exact ⟨k + 1, acc5, A5, c5, by omega, by go_num, rfl, by rw [HL5.out]; exact HN'.out, hacc5⟩
               case measure => simp [intOf]; omega)
            | (clear hdv
               go_wp2_with fail
               refine (has_b hhs _ _ hacc.row (by omega)).mono ?_
               rintro _ w4 ⟨rfl, rfl⟩
               go_wp2_with (at_builtin; refine wpList_sacc rfl _ _ rfl (hacc.alloc _) rfl (cell_new _ _ _ 0) rfl (by omega) ?_; intro A5 c5 acc5 w5 hgr; have hacc5 := hgr.acc; have HL5 := Lib.hid hgr.list; clear hgr)
               go_roundw
               case rel => exact ⟨k + 1, acc5, A5, c5, by omega, by go_num, rfl, by rw [HL5.out]; exact HN'.out, hacc5⟩
               case measure => simp [intOf]; omega)
        · have HN' := Lib.hid (show acc = dedL xs ys (ss.take (k + 1)) by rw [HN.out, ← HL.out, dedF_2 (f := (p, dd)) hhs])
          clear hdf
          cases ba <;> cases bb
          all_goals
            first
            | (have e1 : (x.toList == y.toList) = false := by simpa using hdv
               have e2 : (x.toList != y.toList) = true := by simpa using hdv
               clear hdv
               go_wp2_with fail
               refine (has_b hhs _ _ hacc.row (by omega)).mono ?_
               rintro _ w4 ⟨rfl, rfl⟩
               go_wp2
               go_roundw
               case rel => exact ⟨k + 1, acc, A, c', by omega, by go_num, rfl, HN'.out, hacc⟩
               case measure => simp [intOf]; omega)
            | (clear hdv
               go_wp2_with fail
               refine (has_b hhs _ _ hacc.row (by omega)).mono ?_
               rintro _ w4 ⟨rfl, rfl⟩
               go_wp2
               go_roundw
               case rel => exact ⟨k + 1, acc, A, c', by omega, by go_num, rfl, HN'.out, hacc⟩
               case measure => simp [intOf]; omega)
      · have hdf' : differB xs ys p = false := by simpa using hdf
        have HN' := Lib.hid (show acc = dedL xs ys (ss.take (k + 1)) by rw [HN.out, ← HL.out, dedF_1 (f := (p, dd)) hdf'])
        have hdv : (!(ba == bb) || !(x.toList == y.toList)) = false := by rw [← HDf.out]; exact hdf'
        clear hdf hdf'
        have hbb : ba = bb := by
          cases ba <;> cases bb <;> first | rfl | (simp at hdv)
        have hxy : x = y := by
          have := (Bool.or_eq_false_iff.1 hdv).2
          exact toList_inj.1 (by simpa using this)
        subst hbb hxy
        have e1 : (x.toList == x.toList) = true := by simp
        have e2 : (x.toList != x.toList) = false := by simp
        clear hdv
        cases ba
        all_goals
          go_wp2
          go_roundw
          case rel => exact ⟨k + 1, acc, A, c', by omega, by go_num, rfl, HN'.out, hacc⟩
          case measure => simp [intOf]; omega
    · have HE := Lib.hid (show acc = diffL xs ys by rw [HL.out, ← HD2.out, List.take_of_length_le (by omega)])
      go_wp2
      go_ret
      rw [← HE.out]
      exact ⟨_, rfl, hacc.row, hbw.trans (hacc.below.mono hbw.size)⟩

set_option maxRecDepth 100000 in
set_option maxHeartbeats 1000000 in
theorem equal_any (xs ys : List FileB) (v u : Value) (w : World) (hv : FRow w v xs) (hu : FRow w u ys) (hx : xs.length ≤ 1000) :
    Calls Try.prog 45 #[v, u] w (SameOut (sameF xs ys) w) := by
  obtain ⟨a, c, rfl, hlc, hc⟩ := hv
  obtain ⟨b, d, rfl, hld, hd⟩ := hu
  by_cases hl : xs.length = ys.length
  · have hb1 : ((xs.length : Int) == (ys.length : Int)) = true := by simp [hl]
    have hb2 : ((xs.length : Int) != (ys.length : Int)) = false := by simp [hl]
    have HL := Lib.hid hl
    have HC := Lib.hid hc
    have HD := Lib.hid hd
    clear hl hc hd
    go_enter Try.func45, Try.ntmps45
    go_wp2
    go_loopw [13] (fun i wr => ∃ k n : Nat, k ≤ xs.length ∧ i = .int .i64 k ∧ xs.take k = ys.take k ∧ wr = w.drewN n) (fun i _ => xs.length - (intOf i).toNat)
    case atStart => exact ⟨0, 0, Nat.zero_le _, rfl, rfl, rfl⟩
    case round =>
      obtain ⟨k, n, hk, rfl, ht, rfl⟩ := hrel
      have HT := Lib.hid ht
      clear ht
      by_cases hlt : k < xs.length
      · have hlt2 : k < ys.length := by rw [← HL.out]; exact hlt
        obtain ⟨g, o, rfl, hg, hcell⟩ := HC.out (by intro e; rw [e] at hlt; simp at hlt)
        obtain ⟨g2, o2, rfl, hg2, hcell2⟩ := HD.out (by intro e; rw [e] at hlt2; simp at hlt2)
        obtain ⟨q1, q2⟩ := hcell k hlt
        obtain ⟨q3, q4⟩ := hcell2 k hlt2
        have HY := Lib.hid (sameF_on HT.out hlt hlt2)
        have HN := Lib.hid (sameF_no hlt hlt2)
        clear hcell hcell2
        generalize xs[k] = x at *
        generalize ys[k] = y at *
        obtain ⟨x1, x2⟩ := x
        obtain ⟨y1, y2⟩ := y
        by_cases e1 : x1 = y1
        · subst e1
          by_cases e2 : x2 = y2
          · subst e2
            have HP := Lib.hid (HY.out rfl)
            go_wp2
            go_region
            all_goals
              go_wp2
              go_roundw
              case rel => exact ⟨k + 1, _, by omega, by go_num, HP.out, rfl⟩
              case measure => simp [intOf]; omega
          · have e3 : ¬ x2.toList = y2.toList := fun h => e2 (toList_inj.1 h)
            have HP := Lib.hid (HN.out (fun h => e2 (Prod.mk.inj h).2))
            clear e2
            go_wp2
            go_region
            all_goals
              go_wp2
              go_ret
              exact ⟨ret_bool HP.out.symm, _, rfl⟩
        · have e3 : ¬ x1.toList = y1.toList := fun h => e1 (toList_inj.1 h)
          have HP := Lib.hid (HN.out (fun h => e1 (Prod.mk.inj h).1))
          clear e1
          go_wp2
          go_region
          all_goals
            go_wp2
            go_ret
            exact ⟨ret_bool HP.out.symm, _, rfl⟩
      · go_wp2
        go_ret
        exact ⟨ret_bool (sameF_end HT.out HL.out (by omega)).symm, _, rfl⟩
  · have hb1 : ((xs.length : Int) == (ys.length : Int)) = false := by simp; omega
    have HL := Lib.hid (sameF_len hl)
    go_enter Try.func45, Try.ntmps45
    go_wp2
    go_ret
    exact ⟨ret_bool HL.out.symm, 0, rfl⟩

set_option maxRecDepth 100000 in
set_option maxHeartbeats 400000 in
theorem tsame_any (xs ys : List FileB) (v u : Value) (w : World) (hv : FRow w v xs) (hu : FRow w u ys) (hx : xs.length ≤ 1000) :
    Calls Try.prog 19 #[v, u] w (SameOut (sameF xs ys) w) := by
  have HX := Lib.hid (equal_any xs ys v u w hv hu hx)
  obtain ⟨a, c, rfl, hlc, -⟩ := hv
  obtain ⟨b, d, rfl, hld, -⟩ := hu
  go_enter Try.func19, Try.ntmps19
  go_wp2_with fail
  refine HX.out.mono ?_
  rintro _ w1 ⟨rfl, n, rfl⟩
  go_wp2
  go_ret
  exact ⟨rfl, n, rfl⟩
theorem tsame_b {xs ys : List FileB} {b : Bool} (h : sameF xs ys = b) (v u : Value) (w : World) (hv : FRow w v xs) (hu : FRow w u ys) (hx : xs.length ≤ 1000) :
    Calls Try.prog 19 #[v, u] w (SameOut b w) := by rw [← h]; exact tsame_any xs ys v u w hv hu hx
end Go.Proofs.Yteffoajheolpmaa
