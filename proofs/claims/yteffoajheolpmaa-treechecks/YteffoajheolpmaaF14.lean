/-
  tree.Diff and the document's own; tree.Same.
-/
import Derived.Test.YteffoajheolpmaaF12
import Derived.Test.YteffoajheolpmaaF13
import Derived.Test.YteffoajheolpmaaT3
namespace Go.Proofs.Yteffoajheolpmaa
open Go.RowKit Go.Shelf

theorem differ_v {a b : List FileB} {q x y : ByteArray} {ba bb : Bool} (h1 : findB a q = (x, ba)) (h2 : findB b q = (y, bb)) : differB a b q = (!(ba == bb) || !(x.toList == y.toList)) := by
  unfold differB; rw [h1, h2]
def prefD (a b : List FileB) (zs : List FileB) (k : Nat) : List ByteArray := ((zs.take k).map fun f => f.1).filter (differB a b)
theorem pref_snoc {a b zs : List FileB} {k : Nat} (hk : k < zs.length) : prefD a b zs (k + 1) = prefD a b zs k ++ (if differB a b zs[k].1 then [zs[k].1] else []) := by
  unfold prefD
  rw [List.take_succ_eq_append_getElem hk, List.map_append, List.filter_append]
  congr 1
  cases h : differB a b zs[k].1 <;> simp [h]
theorem pref_len {a b zs : List FileB} {k : Nat} : (prefD a b zs k).length ≤ zs.length := by
  unfold prefD
  refine Nat.le_trans (List.length_filter_le _ _) ?_
  rw [List.length_map, List.length_take]; omega

set_option maxRecDepth 100000 in
set_option maxHeartbeats 4000000 in
theorem tdiff_any (xs ys : List FileB) (v u : Value) (w : World) (hv : FRow w v xs) (hu : FRow w u ys) (hx : Tree xs) (hy : Tree ys) :
    Calls Try.prog 37 #[v, u] w (RowOut w (diffL xs ys)) := by
  have HV := Lib.hid hv
  have HU := Lib.hid hu
  have HX := Lib.hid hx
  have HY := Lib.hid hy
  have hxl := hx.few
  have hyl := hy.few
  obtain ⟨a, c, rfl, hlc, -⟩ := hv
  obtain ⟨b, d, rfl, hld, -⟩ := hu
  clear hx hy
  have hzl := withL_len ys xs
  have hmul : xs.length * (ys.length + 1) ≤ 60 * 61 := Nat.mul_le_mul hxl (by omega)
  have hzl' : (withL xs ys).length ≤ 4000 := by omega
  have HShort := Lib.hid (show Short (withL xs ys) from fun f hf => by
    rcases (mem_with HX.out.up HY.out.up f).1 hf with h | ⟨h, _⟩
    · exact HY.out.short f h
    · exact HX.out.short f h)
  clear hzl hmul
  go_enter Try.func37, Try.ntmps37
  go_wp2_with fail
  refine (byPath_any _ _ _ _).mono ?_
  rintro _ w1 ⟨rfl, hb⟩
  go_wp2_with fail
  refine (with_any xs ys (.slice a xs.length c) (.slice b ys.length d) _ (HV.out.below hb) (HU.out.below hb) HX.out.short HY.out.short (by omega) (by omega) (fun _ => HX.out.up)).mono ?_
  rintro _ w2 ⟨A2, c2, rfl, hown, hb2⟩
  replace hb := hb.trans (hb2.mono hb.size)
  have HR := Lib.hid hown.row
  have HD := Lib.hid (show diffL xs ys = prefD xs ys (withL xs ys) (withL xs ys).length by unfold diffL prefD; rw [List.take_length])
  clear hown hb2
  generalize withL xs ys = zs at *
  go_wp2
  go_loopw [5, 17] (fun ov i wr => ∃ (k : Nat) (acc : List ByteArray) (A : Option Addr) (c' : Nat), k ≤ zs.length ∧ i = .int .i64 k ∧ ov = .slice A acc.length c' ∧ acc = prefD xs ys zs k ∧ SAcc w2 wr (.slice A acc.length c') acc)
    (fun _ i _ => zs.length - (intOf i).toNat)
  case atStart => exact ⟨0, [], none, 0, Nat.zero_le _, rfl, rfl, rfl, SAcc.nil w2⟩
  case round =>
    obtain ⟨k, acc, A, c', hk, rfl, rfl, hL, hacc⟩ := hrel
    have hal : acc.length ≤ zs.length := by rw [hL]; exact pref_len
    have HL := Lib.hid hL
    clear hL
    by_cases hlt : k < zs.length
    · obtain ⟨a', c'', e', hl', hcl⟩ := HR.out
      cases e'
      obtain ⟨g, o, rfl, hg, hcell⟩ := hcl (by intro e; rw [e] at hlt; simp at hlt)
      have HQ := Lib.hid (fun w' (h : Below w2.heap.size w2 w') => And.intro ((h.cell (p := ⟨g, _, none⟩) hg).trans (hcell k hlt).1) ((h.cell (p := ⟨g, _, none⟩) hg).trans (hcell k hlt).2))
      obtain ⟨q1, q2⟩ := HQ.out _ hacc.below
      have hsz := HShort.out _ (List.getElem_mem hlt)
      have HN := Lib.hid (pref_snoc (a := xs) (b := ys) hlt)
      clear hcell hcl
      generalize zs[k] = f at *
      obtain ⟨p, dd⟩ := f
      have hsz' : p.size ≤ 20300 := hsz
      obtain ⟨⟨x, ba⟩, hfa⟩ : ∃ q, findB xs p = q := ⟨_, rfl⟩
      obtain ⟨⟨y, bb⟩, hfb⟩ : ∃ q, findB ys p = q := ⟨_, rfl⟩
      have HFa := Lib.hid hfa
      have HFb := Lib.hid hfb
      have HDf := Lib.hid (differ_v hfa hfb)
      clear hfa hfb
      have haccX := hacc.alloc (.cells #[.string p, .string dd] 32)
      have HBX := Lib.hid (FBox.new wr p dd)
      obtain ⟨-, y0, y1⟩ := HBX.out
      change _ = some (Value.string p) at y0
      go_wp2_with fail
      refine (tfind_v HFa.out _ _ (HV.out.below (hb.trans (haccX.below.mono hb.size))) HX.out hsz').mono ?_
      rintro _ w3 ⟨rfl, hb3⟩
      have hacc3 := haccX.call hb3
      have HB3 := Lib.hid (HBX.out.below hb3)
      clear y0 y1 hb3
      obtain ⟨-, y0, y1⟩ := HB3.out
      change _ = some (Value.string p) at y0
      go_wp2_with fail
      refine (tfind_v HFb.out _ _ (HU.out.below (hb.trans (hacc3.below.mono hb.size))) HY.out hsz').mono ?_
      rintro _ w4 ⟨rfl, hb4⟩
      have hacc4 := hacc3.call hb4
      have HB4 := Lib.hid (HB3.out.below hb4)
      clear y0 y1 hb4
      obtain ⟨-, y0, y1⟩ := HB4.out
      change _ = some (Value.string p) at y0
      by_cases hdf : differB xs ys p = true
      · have HN' := Lib.hid (show acc ++ [p] = prefD xs ys zs (k + 1) by rw [HN.out, HL.out, hdf]; rfl)
        have hdv : (!(ba == bb) || !(x.toList == y.toList)) = true := by rw [← HDf.out]; exact hdf
        clear hdf
        cases ba <;> cases bb
        all_goals
          first
          | (have e1 : (x.toList == y.toList) = false := by simpa using hdv
             have e2 : (x.toList != y.toList) = true := by simpa using hdv
             clear hdv
             go_wp2_with (at_builtin; refine wpList_sacc rfl _ _ rfl (hacc4.alloc _) rfl (cell_new _ _ _ 0) rfl (by omega) ?_; intro A5 c5 acc5 w5 hgr; have hacc5 := hgr.acc; have HL5 := Lib.hid hgr.list; clear hgr)
             go_roundw
             case rel => exact ⟨k + 1, acc5, A5, c5, by omega, by go_num, rfl, by rw [HL5.out]; exact HN'.out, hacc5⟩
             case measure => simp [intOf]; omega)
          | (clear hdv
             go_wp2_with (at_builtin; refine wpList_sacc rfl _ _ rfl (hacc4.alloc _) rfl (cell_new _ _ _ 0) rfl (by omega) ?_; intro A5 c5 acc5 w5 hgr; have hacc5 := hgr.acc; have HL5 := Lib.hid hgr.list; clear hgr)
             go_roundw
             case rel => exact ⟨k + 1, acc5, A5, c5, by omega, by go_num, rfl, by rw [HL5.out]; exact HN'.out, hacc5⟩
             case measure => simp [intOf]; omega)
      · have HN' := Lib.hid (show acc = prefD xs ys zs (k + 1) by rw [HN.out, HL.out, if_neg hdf, List.append_nil])
        have hdv : (!(ba == bb) || !(x.toList == y.toList)) = false := by rw [← HDf.out]; simpa using hdf
        clear hdf
        have hbb : ba = bb := by
          cases ba <;> cases bb <;> first | rfl | (simp at hdv)
        have hxy : x = y := by
          have := (Bool.or_eq_false_iff.1 hdv).2
          exact toList_inj.1 (by simpa using this)
        subst hbb hxy
        have e1 : (x.toList == x.toList) = true := by simp
        have e2 : (x.toList != x.toList) = false := by simp
        clear hdv
        cases ba
        all_goals
          go_wp2
          go_roundw
          case rel => exact ⟨k + 1, acc, A, c', by omega, by go_num, rfl, HN'.out, hacc4⟩
          case measure => simp [intOf]; omega
    · have HE := Lib.hid (show acc = diffL xs ys by rw [HL.out, HD.out]; congr 1; omega)
      go_wp2
      go_ret
      rw [← HE.out]
      exact ⟨_, rfl, hacc.row, hb.trans (hacc.below.mono hb.size)⟩
end Go.Proofs.Yteffoajheolpmaa
