/-
  tree.Merge and the document's own.
-/
import Derived.Test.YteffoajheolpmaaT5
import Derived.Test.YteffoajheolpmaaF11
namespace Go.Proofs.Yteffoajheolpmaa
open Go.RowKit Go.Shelf

def MergeOut (r : List FileB × Int × ByteArray) (w : World) (e : Ending) (w' : World) : Prop :=
  ∃ A c, e = .returned (.tuple #[.slice A r.1.length c, .agg #[.int .i64 r.2.1, .string r.2.2, .int .i64 0]]) ∧ FRow w' (.slice A r.1.length c) r.1 ∧ Below w.heap.size w w'
theorem FRow.set3 {w W : World} {v : Value} {xs : List FileB} (h : FRow W v xs) (hne : ∀ g o n c, v = .slice (some ⟨g, o, none⟩) n c → ¬ g = w.heap.size) (u0 u1 u2 : Value) :
    FRow (((W.setCell ⟨w.heap.size, 0, none⟩ u0).setCell ⟨w.heap.size, 1, none⟩ u1).setCell ⟨w.heap.size, 2, none⟩ u2) v xs := by
  obtain ⟨a, c, rfl, hl, hc⟩ := h
  refine ⟨a, c, rfl, hl, fun hx => ?_⟩
  obtain ⟨g, o, rfl, hg, hat⟩ := hc hx
  have hg' := hne g o _ _ rfl
  refine ⟨g, o, rfl, by simpa using hg, fun i hi => ?_⟩
  have key : ∀ j u, W.cell? ⟨g, j, none⟩ = some u → (((W.setCell ⟨w.heap.size, 0, none⟩ u0).setCell ⟨w.heap.size, 1, none⟩ u1).setCell ⟨w.heap.size, 2, none⟩ u2).cell? ⟨g, j, none⟩ = some u := by
    intro j u hu
    have hne' : ∀ i, (⟨g, j, none⟩ : Addr) ≠ ⟨w.heap.size, i, none⟩ := fun i e => hg' (by injection e)
    rw [World.cell?_setCell_other _ _ _ _ (hne' 2).symm, World.cell?_setCell_other _ _ _ _ (hne' 1).symm, World.cell?_setCell_other _ _ _ _ (hne' 0).symm]
    exact hu
  exact ⟨key _ _ (hat i hi).1, key _ _ (hat i hi).2⟩

set_option maxRecDepth 100000 in
set_option maxHeartbeats 4000000 in
theorem tmerge_any (xs ys : List FileB) (v u : Value) (w : World) (hv : FRow w v xs) (hu : FRow w u ys) (hx : Tree xs) (hy : Tree ys) :
    Calls Try.prog 35 #[v, u] w (MergeOut (mergeR xs ys) w) := by
  have HV := Lib.hid hv
  have HU := Lib.hid hu
  have HX := Lib.hid hx
  have HY := Lib.hid hy
  have hxl := hx.few
  have hyl := hy.few
  obtain ⟨a, c, rfl, hlc, -⟩ := hv
  obtain ⟨b, d, rfl, hld, -⟩ := hu
  clear hx hy
  obtain ⟨w0, hw0⟩ : ∃ w0, w0 = w.alloc (.cells #[.int .i64 0, .string ⟨#[]⟩, .int .i64 0] 28) := ⟨_, rfl⟩
  have hb0 : Below w.heap.size w w0 := by rw [hw0]; exact (Below.refl _ _).alloc (Nat.le_refl _) _
  have hz0 : w0.heap.size = w.heap.size + 1 := by rw [hw0]; simp
  have hR : w0.heap[w.heap.size]? = some (.cells #[.int .i64 0, .string ⟨#[]⟩, .int .i64 0] 28 (0, 0)) := by rw [hw0]; exact World.alloc_heap_new w _
  have HRb := Lib.hid hR
  have HZ := Lib.hid hz0
  have hz0' : w.heap.size < w0.heap.size := by omega
  clear hR hz0
  go_enter Try.func35, Try.ntmps35
  go_wp2
  rw [← hw0]
  clear hw0
  go_loopw [13] (fun i wr => ∃ k : Nat, k ≤ ys.length ∧ i = .int .i64 k ∧ MAt xs ys k ∧ Below w0.heap.size w0 wr) (fun i _ => ys.length - (intOf i).toNat)
  case atStart => exact ⟨0, Nat.zero_le _, rfl, MAt.start _ _, Below.refl _ _⟩
  case round =>
    obtain ⟨k, hk, rfl, hat, hb⟩ := hrel
    have HA := Lib.hid hat
    have hbw := hb0.trans (hb.mono hb0.size)
    have hzr := hb.size
    clear hat
    by_cases hlt : k < ys.length
    · obtain ⟨a', c'', e', hl', hcl⟩ := HU.out.below hbw
      cases e'
      obtain ⟨g, o, rfl, hg, hcell⟩ := hcl (by intro e; rw [e] at hlt; simp at hlt)
      obtain ⟨q1, q2⟩ := hcell k hlt
      have HOn := Lib.hid (fun e => HA.out.on hlt e)
      have HSt := Lib.hid (fun e => HA.out.stop hlt e)
      have hvf := (HY.out.ok _ (List.getElem_mem hlt)).1
      have hsz := (valid_size hvf).2
      have HCI := Lib.hid (clashes_ins (fun g hg => (HX.out.ok g hg).1) hvf)
      clear hcell hcl hvf
      generalize ys[k] = f at *
      obtain ⟨p, dd⟩ := f
      have hsz' : p.size ≤ 60 := hsz
      obtain ⟨⟨x, ba⟩, hfa⟩ : ∃ q, findB xs p = q := ⟨_, rfl⟩
      have HFa := Lib.hid hfa
      clear hfa
      have HBX := Lib.hid (FBox.new wr p dd)
      obtain ⟨-, y0, y1⟩ := HBX.out
      change _ = some (Value.string p) at y0
      have hbX := hb.alloc hb.size (.cells #[.string p, .string dd] 32)
      go_wp2_with fail
      refine (tfind_v HFa.out _ _ (HV.out.below (hb0.trans (hbX.mono hb0.size))) HX.out (by omega)).mono ?_
      rintro _ w3 ⟨rfl, hb3⟩
      have hb3' := hbX.trans (hb3.mono hbX.size)
      have HB3 := Lib.hid (HBX.out.below hb3)
      clear y0 y1 hb3
      obtain ⟨-, y0, y1⟩ := HB3.out
      change _ = some (Value.string p) at y0
      change _ = some (Value.string dd) at y1
      cases hcl : clashI xs p
      · go_wp2_with fail
        refine (clashes_b (HCI.out.trans hcl) _ _ (HV.out.below (hb0.trans (hb3'.mono hb0.size))) HX.out.short (by omega) (by omega)).mono ?_
        rintro _ w4 ⟨rfl, hb4⟩
        have hb4' := hb3'.trans (hb4.mono hb3'.size)
        have HB4 := Lib.hid (HB3.out.below hb4)
        clear y0 y1 hb4
        obtain ⟨-, y0, y1⟩ := HB4.out
        change _ = some (Value.string p) at y0
        change _ = some (Value.string dd) at y1
        cases ba
        · have HP := Lib.hid (HOn.out (badM_4 (f := (p, dd)) hcl HFa.out))
          go_wp2
          go_roundw
          case rel => exact ⟨k + 1, by omega, by go_num, HP.out, hb4'⟩
          case measure => simp [intOf]; omega
        · cases he : (x.toList == dd.toList)
          · have HP := Lib.hid (HSt.out (badM_2 (f := (p, dd)) hcl HFa.out he))
            have he' : (x.toList != dd.toList) = true := by simp [bne, he]
            obtain ⟨⟨r0, r1, r2⟩, r3, r4, r5⟩ := rblk_cells ((hb4'.block _ hz0').trans HRb.out)
            go_wp2
            go_region
            all_goals
              go_wp2
              exact bodyPost_ret (v := .tuple #[.slice none 0 0, .agg #[.int .i64 4, .string p, .int .i64 0]]) (by simp [results, Try.results35, go_sem, r0, r1, r2]) rfl (by rw [HP.out]; exact ⟨none, 0, rfl, FRow.nil _, below_set3 (below_drew (hb0.trans (hb4'.mono hb0.size))) _ _ _⟩)
          · have HP := Lib.hid (HOn.out (badM_3 (f := (p, dd)) hcl HFa.out he))
            have he' : (x.toList != dd.toList) = false := by simp [bne, he]
            go_wp2
            go_roundw
            case rel => exact ⟨k + 1, by omega, by go_num, HP.out, hb4'⟩
            case measure => simp [intOf]; omega
      · have HP := Lib.hid (HSt.out (badM_1 (f := (p, dd)) hcl))
        go_wp2_with fail
        refine (clashes_b (HCI.out.trans hcl) _ _ (HV.out.below (hb0.trans (hb3'.mono hb0.size))) HX.out.short (by omega) (by omega)).mono ?_
        rintro _ w4 ⟨rfl, hb4⟩
        have hb4' := hb3'.trans (hb4.mono hb3'.size)
        have HB4 := Lib.hid (HB3.out.below hb4)
        clear y0 y1 hb4
        obtain ⟨-, y0, y1⟩ := HB4.out
        change _ = some (Value.string p) at y0
        obtain ⟨⟨r0, r1, r2⟩, r3, r4, r5⟩ := rblk_cells ((hb4'.block _ hz0').trans HRb.out)
        go_wp2
        go_region
        all_goals
          go_wp2
          exact bodyPost_ret (v := .tuple #[.slice none 0 0, .agg #[.int .i64 4, .string p, .int .i64 0]]) (by simp [results, Try.results35, go_sem, r0, r1, r2]) rfl (by rw [HP.out]; exact ⟨none, 0, rfl, FRow.nil _, below_set3 (below_drew (hb0.trans (hb4'.mono hb0.size))) _ _ _⟩)
    · have hke : ys.length ≤ k := by omega
      have hwl := with_len HX.out.up HY.out.up ys.length (Nat.le_refl _) (fun m hm => HA.out.2 m (by rw [List.take_of_length_le hke]; exact List.mem_of_mem_take hm))
      rw [List.take_length] at hwl
      have HD1 := Lib.hid (fun h => HA.out.done1 hke h)
      have HD2 := Lib.hid (fun h => HA.out.done2 hke h)
      go_wp2_with fail
      refine (byPath_any _ _ _ _).mono ?_
      rintro _ w3 ⟨rfl, hb3⟩
      have hb3' := hb.trans (hb3.mono hb.size)
      have hbw3 := hb0.trans (hb3'.mono hb0.size)
      go_wp2_with fail
      refine (with_any xs ys (.slice a xs.length c) (.slice b ys.length d) _ (HV.out.below hbw3) (HU.out.below hbw3) HX.out.short HY.out.short (by omega) (by omega) (fun _ => HX.out.up)).mono ?_
      rintro _ w4 ⟨A4, c4, rfl, hown, hb4⟩
      have hb4' := hb3'.trans (hb4.mono hb3'.size)
      have hbw4 := hb0.trans (hb4'.mono hb0.size)
      obtain ⟨⟨r0, r1, r2⟩, r3, r4, r5⟩ := rblk_cells ((hb4'.block _ hz0').trans HRb.out)
      have HRow := Lib.hid hown.row
      have hbl : ∀ g o n c, Value.slice A4 (withL xs ys).length c4 = .slice (some ⟨g, o, none⟩) n c → ¬ g = w.heap.size := by
        intro g o n c e e2
        have h1 := hown.block g (by injection e with e _ _; rw [e]; rfl)
        have h2 := hb3'.size
        omega
      have HBl := Lib.hid hbl
      clear hbl
      clear hown hb3 hb4
      by_cases h60 : 60 < (withL xs ys).length
      · have HP := Lib.hid (HD1.out h60)
        generalize withL xs ys = zs at *
        go_wp2
        exact bodyPost_ret (v := .tuple #[.slice none 0 0, .agg #[.int .i64 2, .string ⟨#[]⟩, .int .i64 0]]) (by simp [results, Try.results35, go_sem, r0, r1, r2]) rfl (by rw [HP.out]; exact ⟨none, 0, rfl, FRow.nil _, below_set3 hbw4 _ _ _⟩)
      · have HP := Lib.hid (HD2.out h60)
        generalize withL xs ys = zs at *
        go_wp2
        exact bodyPost_ret (v := .tuple #[.slice A4 zs.length c4, .agg #[.int .i64 0, .string ⟨#[]⟩, .int .i64 0]]) (by simp [results, Try.results35, go_sem, r0, r1, r2]) rfl (by rw [HP.out]; exact ⟨A4, c4, rfl, HRow.out.set3 HBl.out _ _ _, below_set3 hbw4 _ _ _⟩)

theorem own_ne {w w0 w1 : World} {v : Value} {xs : List FileB} (h : Acc w0 w1 v xs) (hz : w.heap.size < w0.heap.size) : ∀ g o n c, v = .slice (some ⟨g, o, none⟩) n c → ¬ g = w.heap.size := by
  rintro g o n c rfl e
  have := h.own.block g rfl
  omega
theorem rfind_x {t : List FileB} {q d : ByteArray} {b : Bool} (h : findB t q = (d, b)) (v : Value) (w : World) (hv : FRow w v t) (hl : t.length ≤ 1000) :
    Calls Try.prog 24 #[v, .string q] w fun e w' => e = .returned (.tuple #[.string d, .bool b]) ∧ w = w' := by
  refine (rfind_any t v q w hv hl).mono ?_
  rintro e w' ⟨rfl, hb⟩
  exact ⟨by rw [h], hb⟩

set_option maxRecDepth 100000 in
set_option maxHeartbeats 8000000 in
theorem rmerge_any (xs ys : List FileB) (v u : Value) (w : World) (hv : FRow w v xs) (hu : FRow w u ys) (hx : Tree xs) (hy : Tree ys) :
    Calls Try.prog 36 #[v, u] w (MergeOut (mergeR xs ys) w) := by
  have HV := Lib.hid hv
  have HU := Lib.hid hu
  have HX := Lib.hid hx
  have HY := Lib.hid hy
  have hxl := hx.few
  have hyl := hy.few
  obtain ⟨a, c, rfl, hlc, -⟩ := hv
  obtain ⟨b, d, rfl, hld, -⟩ := hu
  clear hx hy
  obtain ⟨w0, hw0⟩ : ∃ w0, w0 = w.alloc (.cells #[.int .i64 0, .string ⟨#[]⟩, .int .i64 0] 28) := ⟨_, rfl⟩
  have hb0 : Below w.heap.size w w0 := by rw [hw0]; exact (Below.refl _ _).alloc (Nat.le_refl _) _
  have hz0 : w0.heap.size = w.heap.size + 1 := by rw [hw0]; simp
  have hR : w0.heap[w.heap.size]? = some (.cells #[.int .i64 0, .string ⟨#[]⟩, .int .i64 0] 28 (0, 0)) := by rw [hw0]; exact World.alloc_heap_new w _
  have HRb := Lib.hid hR
  have hz0' : w.heap.size < w0.heap.size := by omega
  have hst := Acc.start w0
  rw [hz0, hw0] at hst
  have HW0 := Lib.hid hw0
  clear hR hz0 hw0
  go_enter Try.func36, Try.ntmps36
  go_wp2_with (at_builtin; refine wpList_facc rfl _ _ rfl hst rfl (HV.out.below ((HW0.out ▸ hb0 : Below w.heap.size w (w.alloc (.cells #[.int .i64 0, .string ⟨#[]⟩, .int .i64 0] 28))).trans (hst.below.mono (by simp)))) rfl (by simp; omega) ?_; intro A1 c1 acc1 w1 hgr; have hlen1 := hgr.len; (simp only [List.length_nil] at hlen1); have hacc1 := hgr.acc; have HL1 := Lib.hid hgr.list; clear hgr)
  rw [← HW0.out] at hacc1
  have HL0 := Lib.hid (show acc1 = withL xs (ys.take 0) by rw [HL1.out]; rfl)
  have hm0 : decide (60 < acc1.length) = false := by simp; omega
  clear hst
  go_loopw [6, 7, 8] (fun ov mv i wr => ∃ (k : Nat) (out : List FileB) (A : Option Addr) (c' : Nat) (bm : Bool), k ≤ ys.length ∧ i = .int .i64 k ∧ ov = .slice A out.length c' ∧ mv = .bool bm ∧ bm = decide (60 < out.length) ∧
      out = withL xs (ys.take k) ∧ MAt xs ys k ∧ FRow wr (.slice A out.length c') out ∧ (∀ g o n c, Value.slice A out.length c' = .slice (some ⟨g, o, none⟩) n c → ¬ g = w.heap.size) ∧ Below w0.heap.size w0 wr)
    (fun _ _ i _ => ys.length - (intOf i).toNat)
  case atStart => exact ⟨0, acc1, A1, c1, false, Nat.zero_le _, rfl, rfl, rfl, hm0.symm, HL0.out, MAt.start _ _, hacc1.own.row, own_ne hacc1 hz0', hacc1.below⟩
  case round =>
    obtain ⟨k, out, A, c', bm, hk, rfl, rfl, rfl, hbm, hout, hat, hrow, hbl, hb⟩ := hrel
    obtain ⟨wo, hwo⟩ : ∃ wo, wo = wr := ⟨_, rfl⟩
    subst hwo
    have hwl := with_len HX.out.up HY.out.up k hk hat.2
    have hol : out.length ≤ 120 := by rw [hout]; omega
    have HOu := Lib.hid hout
    have HBm := Lib.hid hbm
    have HA := Lib.hid hat
    have HR := Lib.hid hrow
    have HBl := Lib.hid hbl
    have HUo := Lib.hid (show Up out by rw [hout]; exact up_with HX.out.up (take_up HY.out.up k))
    have HSo := Lib.hid (show ∀ f ∈ out, f.1.size ≤ 60 from fun f hf => by
      rw [hout] at hf
      rcases (mem_with HX.out.up (take_up HY.out.up k) f).1 hf with h | ⟨h, _⟩
      · exact (valid_size (HY.out.ok f (List.mem_of_mem_take h)).1).2
      · exact (valid_size (HX.out.ok f h).1).2)
    have hbw := hb0.trans (hb.mono hb0.size)
    clear hout hbm hat hrow hbl
    by_cases hlt : k < ys.length
    · obtain ⟨a', c'', e', hl', hcl⟩ := HU.out
      cases e'
      obtain ⟨g, o, rfl, hg, hcell⟩ := hcl (by intro e; rw [e] at hlt; simp at hlt)
      have HQ := Lib.hid (fun w' (h : Below w.heap.size w w') => And.intro ((h.cell (p := ⟨g, _, none⟩) hg).trans (hcell k hlt).1) ((h.cell (p := ⟨g, _, none⟩) hg).trans (hcell k hlt).2))
      obtain ⟨q1, q2⟩ := HQ.out _ hbw
      have HOn := Lib.hid (fun e => HA.out.on hlt e)
      have HSt := Lib.hid (fun e => HA.out.stop hlt e)
      have hsz := (valid_size (HY.out.ok _ (List.getElem_mem hlt)).1).2
      have HFo := Lib.hid (find_out HX.out.up HY.out.up hlt)
      have HCo := Lib.hid (clash_out HX.out.up HY.out hlt)
      have HSm := Lib.hid (fun x hf e => out_same HX.out.up HY.out.up hlt (x := x) hf e)
      have HPu := Lib.hid (out_put HX.out.up HY.out.up hlt)
      have ik0 : (0 : Int) ≤ (k : Int) := by omega
      have ik1 : (k : Int) < (ys.length : Int) := by omega
      clear hcell hcl
      generalize ys[k] = f at *
      obtain ⟨p, dd⟩ := f
      have hsz' : p.size ≤ 60 := hsz
      obtain ⟨⟨x, ba⟩, hfa⟩ : ∃ q, findB xs p = q := ⟨_, rfl⟩
      have HFa := Lib.hid hfa
      have HFx := Lib.hid (show findB out p = (x, ba) by rw [HOu.out]; exact HFo.out.trans hfa)
      clear hfa
      go_wp2_with fail
      refine (rfind_x HFx.out _ _ HR.out (by omega)).mono ?_
      rintro _ w2 ⟨rfl, rfl⟩
      cases ba
      · have HNh := Lib.hid (has_find HUo.out HFx.out)
        have HNz := Lib.hid (show ∀ h ∈ out, ¬ compareN h.1 p = 0 from fun h hh e => by
          have := has_iff.2 ⟨h, hh, cmp_zero.1 e⟩
          rw [HNh.out] at this; cases this)
        have HPl := Lib.hid (put_longer (t := out) (f := (p, dd)) HNh.out)
        go_wp2
        go_loopw [11, 12, 13] (fun nv dn i wi => ∃ (j : Nat) (bd : Bool) (acc : List FileB) (A' : Option Addr) (c2 : Nat), j ≤ out.length ∧ i = .int .i64 j ∧ dn = .bool bd ∧ nv = .slice A' acc.length c2 ∧ Ins out (p, dd) j bd acc ∧ clashI (out.take j) p = false ∧ Acc wo wi (.slice A' acc.length c2) acc)
          (fun _ _ i _ => out.length - (intOf i).toNat)
        case atStart => exact ⟨0, false, [], _, 0, Nat.zero_le _, rfl, rfl, rfl, Ins.start _ _, rfl, Acc.start wo⟩
        case round =>
          obtain ⟨j, bd, acc, A', c2, hj, rfl, rfl, rfl, hins, hcj, hacc⟩ := hrel
          have hal := hins.len hj
          have HI := Lib.hid hins
          have HCj := Lib.hid hcj
          have hbi := hb.trans (hacc.below.mono hb.size)
          have hbwi := hbw.trans (hacc.below.mono hbw.size)
          have hzi := hacc.below.size
          have hgw := Nat.lt_of_lt_of_le hg hbw.size
          clear hins hcj q1 q2
          obtain ⟨q1, q2⟩ := HQ.out _ hbwi
          by_cases hjl : j < out.length
          · obtain ⟨a2, c3, e2, hl2, hcl2⟩ := HR.out
            cases e2
            obtain ⟨g2, o2, rfl, hg2, hcell2⟩ := hcl2 (by intro e; rw [e] at hjl; simp at hjl)
            have HQ2 := Lib.hid (fun w' (h : Below wo.heap.size wo w') => And.intro ((h.cell (p := ⟨g2, _, none⟩) hg2).trans (hcell2 j hjl).1) ((h.cell (p := ⟨g2, _, none⟩) hg2).trans (hcell2 j hjl).2))
            obtain ⟨s1, s2⟩ := HQ2.out _ hacc.below
            have hsx := HSo.out _ (List.getElem_mem hjl)
            have ij0 : (0 : Int) ≤ (j : Int) := by omega
            have ij1 : (j : Int) < (out.length : Int) := by omega
            have HCy := Lib.hid (fun h => any_yes (p := fun g => insC g.1 p) hjl h)
            have HCn := Lib.hid (fun h => any_on (p := fun g => insC g.1 p) HCj.out hjl h)
            have hnz := HNz.out _ (List.getElem_mem hjl)
            clear hcell2 hcl2
            cases hi1 : insideB out[j].1 p
            · cases hi2 : insideB p out[j].1
              · have HC' := Lib.hid (HCn.out (insC_3 hi1 hi2))
                cases bd
                · by_cases hcm : 0 < compareN out[j].1 p
                  · have HO := Lib.hid (HI.out.pass hjl hcm)
                    clear hnz
                    generalize out[j] = y at *
                    obtain ⟨y1, y2⟩ := y
                    have hsx' : y1.size ≤ 20300 := Nat.le_trans hsx (by decide)
                    go_wp2
                    go_quiet ((go_at_call 44; exact Calls.quiet_of_same (inside_q (by first | with_reducible exact hi1 | with_reducible exact hi2) _ _ (by first | omega | exact hsx'))))
                    go_wp2
                    go_region_held3 (fun w' => w'.cell? ⟨g, o + k * 2, none⟩ = some (.string p) ∧ w'.cell? ⟨g2, o2 + j * 2, none⟩ = some (.string y1))
                      (first | go_keep | (go_split_ands; refine ⟨?_, ?_⟩ <;> (rw [hb2.cell (by simp; omega)]; assumption)))
                      (first | (go_at_call 43; refine (rcompare_any _ _ (by omega) (by omega) _).mono ?_; rintro e w2 ⟨rfl, hb2⟩))
                    rename_i hheld
                    clear hheld
                    have hacc2 := ((hacc.drewN _).drew).call hb2
                    obtain ⟨q1', q2'⟩ := HQ.out _ (hbw.trans (hacc2.below.mono hbw.size))
                    obtain ⟨s1', s2'⟩ := HQ2.out _ hacc2.below
                    clear hb2 q1 q2 s1 s2
                    go_wp2_with (first | (at_builtin; refine wpList_facc rfl _ _ rfl (hacc3.alloc _) rfl (FRow.one _ _ _) rfl (by simp; omega) ?_; intro A4 c4 acc4 w4 hgr; have hlen4 := hgr.len; (simp only [List.length_cons, List.length_nil] at hlen4); have hacc4 := hgr.acc; have HL4 := Lib.hid hgr.list; clear hgr) | (at_builtin; refine wpList_facc rfl _ _ rfl (hacc2.alloc _) rfl (FRow.one _ _ _) rfl (by simp; omega) ?_; intro A3 c3 acc3 w3 hgr; have hlen3 := hgr.len; (simp only [List.length_cons, List.length_nil] at hlen3); have hacc3 := hgr.acc; have HL3 := Lib.hid hgr.list; clear hgr; obtain ⟨s1, s2⟩ := HQ2.out _ hacc3.below))
                    go_roundw
                    case rel => exact ⟨j + 1, true, acc4, A4, c4, by omega, by go_num, rfl, rfl, by rw [HL4.out, HL3.out]; exact HO.out, HC'.out, hacc4⟩
                    case measure => simp [intOf]; omega
                  · have HO := Lib.hid (HI.out.low hjl (by show compareN out[j].1 p < 0; omega))
                    clear hnz
                    generalize out[j] = y at *
                    obtain ⟨y1, y2⟩ := y
                    have hsx' : y1.size ≤ 20300 := Nat.le_trans hsx (by decide)
                    go_wp2
                    go_quiet ((go_at_call 44; exact Calls.quiet_of_same (inside_q (by first | with_reducible exact hi1 | with_reducible exact hi2) _ _ (by first | omega | exact hsx'))))
                    go_wp2
                    go_region_held3 (fun w' => w'.cell? ⟨g, o + k * 2, none⟩ = some (.string p) ∧ w'.cell? ⟨g2, o2 + j * 2, none⟩ = some (.string y1))
                      (first | go_keep | (go_split_ands; refine ⟨?_, ?_⟩ <;> (rw [hb2.cell (by simp; omega)]; assumption)))
                      (first | (go_at_call 43; refine (rcompare_any _ _ (by omega) (by omega) _).mono ?_; rintro e w2 ⟨rfl, hb2⟩))
                    rename_i hheld
                    clear hheld
                    have hacc2 := ((hacc.drewN _).drew).call hb2
                    obtain ⟨q1', q2'⟩ := HQ.out _ (hbw.trans (hacc2.below.mono hbw.size))
                    obtain ⟨s1', s2'⟩ := HQ2.out _ hacc2.below
                    clear hb2 q1 q2 s1 s2
                    go_wp2_with (at_builtin; refine wpList_facc rfl _ _ rfl (hacc2.alloc _) rfl (FRow.one _ _ _) rfl (by simp; omega) ?_; intro A3 c3 acc3 w3 hgr; have hlen3 := hgr.len; (simp only [List.length_cons, List.length_nil] at hlen3); have hacc3 := hgr.acc; have HL3 := Lib.hid hgr.list; clear hgr)
                    go_roundw
                    case rel => exact ⟨j + 1, false, acc3, A3, c3, by omega, by go_num, rfl, rfl, by rw [HL3.out]; exact HO.out, HC'.out, hacc3⟩
                    case measure => simp [intOf]; omega
                · have HO := Lib.hid (HI.out.on HUo.out hjl)
                  clear hnz
                  generalize out[j] = y at *
                  obtain ⟨y1, y2⟩ := y
                  have hsx' : y1.size ≤ 20300 := Nat.le_trans hsx (by decide)
                  go_wp2
                  go_quiet ((go_at_call 44; exact Calls.quiet_of_same (inside_q (by first | with_reducible exact hi1 | with_reducible exact hi2) _ _ (by first | omega | exact hsx'))))
                  go_wp2
                  go_quiet (fail)
                  go_wp2_with (at_builtin; refine wpList_facc rfl _ _ rfl ((hacc.drewN _).alloc _) rfl (FRow.one _ _ _) rfl (by simp; omega) ?_; intro A3 c3 acc3 w3 hgr; have hlen3 := hgr.len; (simp only [List.length_cons, List.length_nil] at hlen3); have hacc3 := hgr.acc; have HL3 := Lib.hid hgr.list; clear hgr)
                  go_roundw
                  case rel => exact ⟨j + 1, true, acc3, A3, c3, by omega, by go_num, rfl, rfl, by rw [HL3.out]; exact HO.out, HC'.out, hacc3⟩
                  case measure => simp [intOf]; omega
              · clear hnz
                have HP := Lib.hid (HSt.out (badM_1 (f := (p, dd)) (by rw [← HCo.out, ← HOu.out]; exact HCy.out (insC_2 hi1 hi2))))
                obtain ⟨⟨r0, r1, r2⟩, r3, r4, r5⟩ := rblk_cells ((hbi.block _ hz0').trans HRb.out)
                generalize out[j] = y at *
                obtain ⟨y1, y2⟩ := y
                have hsx' : y1.size ≤ 20300 := Nat.le_trans hsx (by decide)
                go_wp2
                go_quiet ((go_at_call 44; exact Calls.quiet_of_same (inside_q (by first | with_reducible exact hi1 | with_reducible exact hi2) _ _ (by first | omega | exact hsx'))))
                go_wp2
                go_region
                all_goals
                  go_wp2
                  exact bodyPost_ret (v := .tuple #[.slice none 0 0, .agg #[.int .i64 4, .string p, .int .i64 0]]) (by simp [results, Try.results36, go_sem, r0, r1, r2]) rfl (by rw [HP.out]; exact ⟨none, 0, rfl, FRow.nil _, below_set3 (below_drew (below_drewN hbwi _)) _ _ _⟩)
            · clear hnz
              have HP := Lib.hid (HSt.out (badM_1 (f := (p, dd)) (by rw [← HCo.out, ← HOu.out]; exact HCy.out (insC_1 hi1))))
              obtain ⟨⟨r0, r1, r2⟩, r3, r4, r5⟩ := rblk_cells ((hbi.block _ hz0').trans HRb.out)
              generalize out[j] = y at *
              obtain ⟨y1, y2⟩ := y
              have hsx' : y1.size ≤ 20300 := Nat.le_trans hsx (by decide)
              go_wp2
              go_quiet ((go_at_call 44; exact Calls.quiet_of_same (inside_q (by first | with_reducible exact hi1 | with_reducible exact hi2) _ _ (by first | omega | exact hsx'))))
              go_wp2
              go_region
              all_goals
                go_wp2
                exact bodyPost_ret (v := .tuple #[.slice none 0 0, .agg #[.int .i64 4, .string p, .int .i64 0]]) (by simp [results, Try.results36, go_sem, r0, r1, r2]) rfl (by rw [HP.out]; exact ⟨none, 0, rfl, FRow.nil _, below_set3 (below_drew (below_drewN hbwi _)) _ _ _⟩)
          · have hje : out.length ≤ j := by omega
            have HCf := Lib.hid (show clashI xs p = false by rw [← HCo.out, ← HOu.out]; exact any_end HCj.out hje)
            have HP := Lib.hid (HOn.out (badM_4 (f := (p, dd)) HCf.out HFa.out))
            have HO' := Lib.hid (show putL out (p, dd) = withL xs (ys.take (k + 1)) by rw [HPu.out, ← HOu.out])
            cases bd
            · have HD := Lib.hid (HI.out.last hje)
              cases bm
              · go_wp2_with (at_builtin; refine wpList_facc rfl _ _ rfl (hacc.alloc _) rfl (FRow.one _ _ _) rfl (by simp; omega) ?_; intro A3 c3 acc3 w3 hgr; have hlen3 := hgr.len; (simp only [List.length_cons, List.length_nil] at hlen3); have hacc3 := hgr.acc; have HL3 := Lib.hid hgr.list; clear hgr)
                all_goals
                  have hl3 : acc3.length = out.length + 1 := by rw [HL3.out, HD.out, HPl.out]
                  go_roundw
                  case rel => exact ⟨k + 1, acc3, A3, c3, _, by omega, by go_num, rfl, rfl, (by simp; omega), by rw [HL3.out, HD.out]; exact HO'.out, HP.out, hacc3.own.row, own_ne hacc3 (Nat.lt_of_lt_of_le hz0' hb.size), hb.trans (hacc3.below.mono hb.size)⟩
                  case measure => simp [intOf]; omega
              · go_wp2_with (at_builtin; refine wpList_facc rfl _ _ rfl (hacc.alloc _) rfl (FRow.one _ _ _) rfl (by simp; omega) ?_; intro A3 c3 acc3 w3 hgr; have hlen3 := hgr.len; (simp only [List.length_cons, List.length_nil] at hlen3); have hacc3 := hgr.acc; have HL3 := Lib.hid hgr.list; clear hgr)
                have hl3 : acc3.length = out.length + 1 := by rw [HL3.out, HD.out, HPl.out]
                have h60 : 60 < out.length := of_decide_eq_true HBm.out.symm
                go_roundw
                case rel => exact ⟨k + 1, acc3, A3, c3, true, by omega, by go_num, rfl, rfl, (decide_eq_true (by omega)).symm, by rw [HL3.out, HD.out]; exact HO'.out, HP.out, hacc3.own.row, own_ne hacc3 (Nat.lt_of_lt_of_le hz0' hb.size), hb.trans (hacc3.below.mono hb.size)⟩
                case measure => simp [intOf]; omega
            · have HD := Lib.hid (HI.out.done hje)
              cases bm
              · go_wp2
                all_goals
                  go_roundw
                  case rel => exact ⟨k + 1, acc, A', c2, _, by omega, by go_num, rfl, rfl, (by simp; omega), by rw [HD.out]; exact HO'.out, HP.out, hacc.own.row, own_ne hacc (Nat.lt_of_lt_of_le hz0' hb.size), hb.trans (hacc.below.mono hb.size)⟩
                  case measure => simp [intOf]; omega
              · have hl3 : acc.length = out.length + 1 := by rw [HD.out, HPl.out]
                have h60 : 60 < out.length := of_decide_eq_true HBm.out.symm
                have h61 : 60 < acc.length := by omega
                clear hl3
                go_wp2
                go_roundw
                case rel => exact ⟨k + 1, acc, A', c2, true, by omega, by go_num, rfl, rfl, (decide_eq_true h61).symm, by rw [HD.out]; exact HO'.out, HP.out, hacc.own.row, own_ne hacc (Nat.lt_of_lt_of_le hz0' hb.size), hb.trans (hacc.below.mono hb.size)⟩
                case measure => simp [intOf]; omega

      · have HNc := Lib.hid (has_noclash HX.out (has_find HX.out.up HFa.out))
        cases he : (x.toList == dd.toList)
        · have HP := Lib.hid (HSt.out (badM_2 (f := (p, dd)) HNc.out HFa.out he))
          have he' : (x.toList != dd.toList) = true := by simp [bne, he]
          obtain ⟨⟨r0, r1, r2⟩, r3, r4, r5⟩ := rblk_cells ((hb.block _ hz0').trans HRb.out)
          go_wp2
          go_region
          all_goals
            go_wp2
            exact bodyPost_ret (v := .tuple #[.slice none 0 0, .agg #[.int .i64 4, .string p, .int .i64 0]]) (by simp [results, Try.results36, go_sem, r0, r1, r2]) rfl (by rw [HP.out]; exact ⟨none, 0, rfl, FRow.nil _, below_set3 (below_drew hbw) _ _ _⟩)
        · have HP := Lib.hid (HOn.out (badM_3 (f := (p, dd)) HNc.out HFa.out he))
          have he' : (x.toList != dd.toList) = false := by simp [bne, he]
          have HO' := Lib.hid (show out = withL xs (ys.take (k + 1)) by rw [HOu.out]; exact (HSm.out x HFa.out he).symm)
          go_wp2
          go_roundw
          case rel => exact ⟨k + 1, out, A, c', bm, by omega, by go_num, rfl, rfl, HBm.out, HO'.out, HP.out, HR.out, HBl.out, hb⟩
          case measure => simp [intOf]; omega
    · have hke : ys.length ≤ k := by omega
      have HOe := Lib.hid (show out = withL xs ys by rw [HOu.out, List.take_of_length_le hke])
      obtain ⟨⟨r0, r1, r2⟩, r3, r4, r5⟩ := rblk_cells ((hb.block _ hz0').trans HRb.out)
      cases bm
      · have h60 : ¬ 60 < out.length := of_decide_eq_false HBm.out.symm
        have HP := Lib.hid (HA.out.done2 hke (by rw [← HOe.out]; exact h60))
        go_wp2
        exact bodyPost_ret (v := .tuple #[.slice A out.length c', .agg #[.int .i64 0, .string ⟨#[]⟩, .int .i64 0]]) (by simp [results, Try.results36, go_sem, r0, r1, r2]) rfl (by rw [HP.out, ← HOe.out]; exact ⟨A, c', rfl, HR.out.set3 HBl.out _ _ _, below_set3 hbw _ _ _⟩)
      · have h60 : 60 < out.length := of_decide_eq_true HBm.out.symm
        have HP := Lib.hid (HA.out.done1 hke (by rw [← HOe.out]; exact h60))
        go_wp2
        exact bodyPost_ret (v := .tuple #[.slice none 0 0, .agg #[.int .i64 2, .string ⟨#[]⟩, .int .i64 0]]) (by simp [results, Try.results36, go_sem, r0, r1, r2]) rfl (by rw [HP.out]; exact ⟨none, 0, rfl, FRow.nil _, below_set3 hbw _ _ _⟩)
end Go.Proofs.Yteffoajheolpmaa
