/-
  Drop, both ways.
-/
import Derived.Test.YtmdlmjcejeejfaaGreatDoorE5
import Derived.Deep.DeepCutAuto
namespace Go.Proofs.YtmdlmjcejeejfaaGreatDoor
open Go.RowKit Go.Shelf

def dropL (xs : List ReqB) (p : ByteArray) : List ReqB := xs.filter fun r => !sameP r p
def dropO (f : FileG) (p : ByteArray) : FileG × Int := if (dropL f.reqs p).length = f.reqs.length then (zeroG, 3) else (f.with (dropL f.reqs p), 0)
theorem dropO_1 {f : FileG} {p : ByteArray} (h : (dropL f.reqs p).length = f.reqs.length) : dropO f p = (zeroG, 3) := by simp [dropO, h]
theorem dropO_2 {f : FileG} {p : ByteArray} (h : ¬ (dropL f.reqs p).length = f.reqs.length) : dropO f p = (f.with (dropL f.reqs p), 0) := by simp [dropO, h]
theorem drop_same {xs : List ReqB} {p : ByteArray} {k : Nat} (hk : k < xs.length) (h : sameP xs[k] p = true) : dropL (xs.take (k + 1)) p = dropL (xs.take k) p := by
  rw [dropL, List.take_succ_eq_append_getElem hk, List.filter_append]; simp [h, dropL]
theorem drop_other {xs : List ReqB} {p : ByteArray} {k : Nat} (hk : k < xs.length) (h : sameP xs[k] p = false) : dropL (xs.take (k + 1)) p = dropL (xs.take k) p ++ [xs[k]] := by
  rw [dropL, List.take_succ_eq_append_getElem hk, List.filter_append]; simp [h, dropL]
theorem drop_len (xs : List ReqB) (p : ByteArray) : (dropL xs p).length ≤ xs.length := List.length_filter_le _ _

set_option maxRecDepth 100000 in
set_option maxHeartbeats 8000000 in
theorem drop_file (f : FileG) (n1 : f.reqs.length ≤ 1000) (n2 : f.reps.length ≤ 1000) (n3 : f.excs.length ≤ 1000) (n4 : f.rets.length ≤ 1000) (q : ByteArray) (a b c d : Value) (w : World) (hF : FileAt w a b c d f) :
    Calls Tryz.prog 15 #[.agg #[.string f.mo, .string f.go, a, b, c, d], .string q] w (FileErr (dropO f q) w) := by
  obtain ⟨mo, go, reqs, reps, excs, rets⟩ := f
  obtain ⟨hr, hp, hx, ht⟩ := hF
  dsimp only at *
  obtain ⟨ra, rc, rfl⟩ := hr.form
  obtain ⟨pa, pc, rfl⟩ := hp.form
  obtain ⟨xa, xc, rfl⟩ := hx.form
  obtain ⟨ta, tc, rfl⟩ := ht.form
  have hB := ((Below.refl w.heap.size w).alloc (Nat.le_refl _) (.cells #[.string mo, .string go, .slice ra reqs.length rc, .slice pa reps.length pc, .slice xa excs.length xc, .slice ta rets.length tc] 27)).alloc (by simp) (.cells #[.string ⟨#[]⟩, .string ⟨#[]⟩, .slice none 0 0, .slice none 0 0, .slice none 0 0, .slice none 0 0] 27)
  have gF := (GBlk.new w 27 #[.string mo, .string go, .slice ra reqs.length rc, .slice pa reps.length pc, .slice xa excs.length xc, .slice ta rets.length tc]).alloc (.cells #[.string ⟨#[]⟩, .string ⟨#[]⟩, .slice none 0 0, .slice none 0 0, .slice none 0 0, .slice none 0 0] 27)
  have gZ := GBlk.new (w.alloc (.cells #[.string mo, .string go, .slice ra reqs.length rc, .slice pa reps.length pc, .slice xa excs.length xc, .slice ta rets.length tc] 27)) 27 #[.string ⟨#[]⟩, .string ⟨#[]⟩, .slice none 0 0, .slice none 0 0, .slice none 0 0, .slice none 0 0]
  rw [World.size_alloc] at gZ
  have HR := Lib.hid (hr.below hB)
  have HP := Lib.hid hp
  have HX := Lib.hid hx
  have HT := Lib.hid ht
  have Q1 := Lib.hid (fun h => dropO_1 (f := ⟨mo, go, reqs, reps, excs, rets⟩) (p := q) h)
  have Q2 := Lib.hid (fun h => dropO_2 (f := ⟨mo, go, reqs, reps, excs, rets⟩) (p := q) h)
  clear hr hp hx ht
  have cc : ((w.alloc (.cells #[.string mo, .string go, .slice ra reqs.length rc, .slice pa reps.length pc, .slice xa excs.length xc, .slice ta rets.length tc] 27)).alloc (.cells #[.string ⟨#[]⟩, .string ⟨#[]⟩, .slice none 0 0, .slice none 0 0, .slice none 0 0, .slice none 0 0] 27)).cell? ⟨w.heap.size, 2, none⟩ = some (.slice ra reqs.length rc) := gF.cell 2
  go_enter Tryz.func15, Tryz.ntmps15
  go_wp2
  clear cc
  generalize ((w.alloc (.cells #[.string mo, .string go, .slice ra reqs.length rc, .slice pa reps.length pc, .slice xa excs.length xc, .slice ta rets.length tc] 27)).alloc (.cells #[.string ⟨#[]⟩, .string ⟨#[]⟩, .slice none 0 0, .slice none 0 0, .slice none 0 0, .slice none 0 0] 27)) = W at *
  replace hB := Lib.hid hB
  replace gF := Lib.hid gF
  replace gZ := Lib.hid gZ
  go_loopw [6, 12] (fun l i wr => ∃ (k : Nat) (acc : List ReqB) (A : Option Addr) (c : Nat), k ≤ reqs.length ∧ i = .int .i64 k ∧ l = .slice A acc.length c ∧ acc = dropL (reqs.take k) q ∧ RAcc reqR 50 W wr (.slice A acc.length c) acc) (fun _ i _ => reqs.length - (intOf i).toNat)
  case atStart => exact ⟨0, [], _, 0, Nat.zero_le _, rfl, rfl, rfl, RAcc.nil W⟩
  case round =>
    obtain ⟨k, acc, A, c, hk, rfl, rfl, hL, hacc⟩ := hrel
    have HL := Lib.hid hL
    have hal : acc.length ≤ k := by rw [hL]; have := drop_len (reqs.take k) q; rw [List.length_take] at this; omega
    clear hL
    have F := gF.out.below hacc.below
    have Z := gZ.out.below hacc.below
    have u0 : wr.cell? ⟨w.heap.size, 2, none⟩ = some (.slice ra reqs.length rc) := F.cell 2
    by_cases hlt : k < reqs.length
    · obtain ⟨-, hcap, hsp⟩ := (HR.out.below hacc.below).spot
      obtain ⟨g, o, rfl, hg, hat⟩ := hsp (ne_of_lt hlt)
      obtain ⟨q1, q2, q3⟩ := req_at hat k hlt
      have HS1 := Lib.hid (fun (h : sameP (reqs[k]'hlt) q = true) => drop_same hlt h)
      have HS2 := Lib.hid (fun (h : sameP (reqs[k]'hlt) q = false) => drop_other hlt h)
      rw [← HL.out] at HS1 HS2
      clear hat hsp F Z
      unfold sameP at HS1 HS2
      generalize reqs[k] = x at *
      obtain ⟨⟨p, v⟩, bb⟩ := x
      dsimp only at q1 q2 q3 HS1 HS2
      have X := GBlk.new wr 50 #[.string p, .string v, .bool bb]
      have d0 : (wr.alloc (.cells #[.string p, .string v, .bool bb] 50)).cell? ⟨wr.heap.size, 0, none⟩ = some (.string p) := X.cell 0
      have d1 : (wr.alloc (.cells #[.string p, .string v, .bool bb] 50)).cell? ⟨wr.heap.size, 1, none⟩ = some (.string v) := X.cell 1
      have d2 : (wr.alloc (.cells #[.string p, .string v, .bool bb] 50)).cell? ⟨wr.heap.size, 2, none⟩ = some (.bool bb) := X.cell 2
      cases e : (p.toList == q.toList)
      · have HN := Lib.hid (HS2.out e)
        have e' : (p.toList != q.toList) = true := by rw [bne, e]; rfl
        go_wp2_with (at_builtin; refine wpList_racc preqT rfl _ _ rfl ((hacc.alloc _).alloc _) rfl (RRow.one' _ ((p, v), bb) _ _ (by simp) rfl) rfl (by simp; omega) ?_; intro A4 c4 acc4 w5 hgr; have t0 := hgr.acc; have HL4 := Lib.hid hgr.list; clear hgr)
        go_roundw
        case rel => exact ⟨k + 1, acc4, A4, c4, by omega, by go_num, rfl, HL4.out.trans HN.out.symm, t0⟩
        case measure => simp [intOf]; omega
      · have HN := Lib.hid (HS1.out e)
        have e' : (p.toList != q.toList) = false := by rw [bne, e]; rfl
        go_wp2
        go_roundw
        case rel => exact ⟨k + 1, acc, A, c, by omega, by go_num, rfl, HN.out.symm, hacc.alloc _⟩
        case measure => simp [intOf]; omega
    · obtain rfl : k = reqs.length := by omega
      have HLr := Lib.hid (show acc = dropL reqs q by rw [HL.out, List.take_length])
      by_cases hlen : acc.length = reqs.length
      · have HE := Lib.hid (Q1.out (by rw [← HLr.out]; exact hlen))
        have hl1 : ((acc.length : Int) == (reqs.length : Int)) = true := by simp [hlen]
        have z0 : wr.cell? ⟨w.heap.size + 1, 0, none⟩ = some (.string ⟨#[]⟩) := Z.cell 0
        have z1 : wr.cell? ⟨w.heap.size + 1, 1, none⟩ = some (.string ⟨#[]⟩) := Z.cell 1
        have z2 : wr.cell? ⟨w.heap.size + 1, 2, none⟩ = some (.slice none 0 0) := Z.cell 2
        have z3 : wr.cell? ⟨w.heap.size + 1, 3, none⟩ = some (.slice none 0 0) := Z.cell 3
        have z4 : wr.cell? ⟨w.heap.size + 1, 4, none⟩ = some (.slice none 0 0) := Z.cell 4
        have z5 : wr.cell? ⟨w.heap.size + 1, 5, none⟩ = some (.slice none 0 0) := Z.cell 5
        have f0 := Z.frozen 0
        have f1 := Z.frozen 1
        have f2 := Z.frozen 2
        have f3 := Z.frozen 3
        have f4 := Z.frozen 4
        have f5 := Z.frozen 5
        have hB1 := hB.out.trans (hacc.below.mono hB.out.size)
        go_wp2
        have hS6 := Z.six (.string ⟨#[]⟩) (.string ⟨#[]⟩) (.slice none 0 0) (.slice none 0 0) (.slice none 0 0) (.slice none 0 0)
        have y0 := hS6.cell 0
        have y1 := hS6.cell 1
        have y2 := hS6.cell 2
        have y3 := hS6.cell 3
        have y4 := hS6.cell 4
        have y5 := hS6.cell 5
        exact bodyPost_ret (v := .tuple #[.agg #[.string ⟨#[]⟩, .string ⟨#[]⟩, .slice none 0 0, .slice none 0 0, .slice none 0 0, .slice none 0 0], .int .i64 3]) (by simp [results, Tryz.results15, go_sem, y0, y1, y2, y3, y4, y5]) rfl (FileErr.zero HE.out (below_six hB1 (by omega) _ _ _ _ _ _))
      · have HE := Lib.hid (Q2.out (by rw [← HLr.out]; exact hlen))
        have hl1 : ((acc.length : Int) == (reqs.length : Int)) = false := by simp; omega
        have t0 := hacc.since hB.out
        clear hlen
        have kf := F.frozen 2
        have F7 := F.set 2 (.slice A acc.length c)
        have Z7 := Z.setOther (B' := w.heap.size) (i := 2) (u := .slice A acc.length c) (by omega)
        have t1 := t0.set (i := 2) (u := .slice A acc.length c) F (by decide) (Nat.le_refl _)
        have x0 : (wr.setCell ⟨w.heap.size, 2, none⟩ (.slice A acc.length c)).cell? ⟨w.heap.size, 0, none⟩ = some (.string mo) := F7.cell 0
        have x1 : (wr.setCell ⟨w.heap.size, 2, none⟩ (.slice A acc.length c)).cell? ⟨w.heap.size, 1, none⟩ = some (.string go) := F7.cell 1
        have x2 : (wr.setCell ⟨w.heap.size, 2, none⟩ (.slice A acc.length c)).cell? ⟨w.heap.size, 2, none⟩ = some (.slice A acc.length c) := F7.cell 2
        have x3 : (wr.setCell ⟨w.heap.size, 2, none⟩ (.slice A acc.length c)).cell? ⟨w.heap.size, 3, none⟩ = some (.slice pa reps.length pc) := F7.cell 3
        have x4 : (wr.setCell ⟨w.heap.size, 2, none⟩ (.slice A acc.length c)).cell? ⟨w.heap.size, 4, none⟩ = some (.slice xa excs.length xc) := F7.cell 4
        have x5 : (wr.setCell ⟨w.heap.size, 2, none⟩ (.slice A acc.length c)).cell? ⟨w.heap.size, 5, none⟩ = some (.slice ta rets.length tc) := F7.cell 5
        go_wp2_with fail
        clear x0 x1 x2 x3 x4 x5
        generalize (wr.setCell ⟨w.heap.size, 2, none⟩ (.slice A acc.length c)) = w4 at *
        refine (copied_file (FileG.with ⟨mo, go, reqs, reps, excs, rets⟩ acc) (show acc.length ≤ 1000 by omega) n2 n3 n4 _ _ _ _ _ ⟨t1.own.row, HP.out.below t1.below, HX.out.below t1.below, HT.out.below t1.below⟩).mono ?_
        rintro _ w5 ⟨la, lb, lc, ld, rfl, l0, l1, l2, l3⟩
        obtain ⟨A0, c0, rfl⟩ := l0.own.form
        obtain ⟨A1, c1, rfl⟩ := l1.own.form
        obtain ⟨A2, c2, rfl⟩ := l2.own.form
        obtain ⟨A3, c3, rfl⟩ := l3.own.form
        dsimp only [FileG.with] at *
        replace Z7 := Z7.below l0.below
        replace l0 := l0.since t1.below
        replace l1 := l1.since t1.below
        replace l2 := l2.since t1.below
        replace l3 := l3.since t1.below
        have z0 : w5.cell? ⟨w.heap.size + 1, 0, none⟩ = some (.string ⟨#[]⟩) := Z7.cell 0
        have z1 : w5.cell? ⟨w.heap.size + 1, 1, none⟩ = some (.string ⟨#[]⟩) := Z7.cell 1
        have z2 : w5.cell? ⟨w.heap.size + 1, 2, none⟩ = some (.slice none 0 0) := Z7.cell 2
        have z3 : w5.cell? ⟨w.heap.size + 1, 3, none⟩ = some (.slice none 0 0) := Z7.cell 3
        have z4 : w5.cell? ⟨w.heap.size + 1, 4, none⟩ = some (.slice none 0 0) := Z7.cell 4
        have z5 : w5.cell? ⟨w.heap.size + 1, 5, none⟩ = some (.slice none 0 0) := Z7.cell 5
        have y0 := Z7.frozen 0
        have y1 := Z7.frozen 1
        have y2 := Z7.frozen 2
        have y3 := Z7.frozen 3
        have y4 := Z7.frozen 4
        have y5 := Z7.frozen 5
        go_wp2
        have hS6 := Z7.six (.string mo) (.string go) (.slice A0 acc.length c0) (.slice A1 reps.length c1) (.slice A2 excs.length c2) (.slice A3 rets.length c3)
        have r0 := l0.six Z7 (by decide) (by omega) (.string mo) (.string go) (.slice A0 acc.length c0) (.slice A1 reps.length c1) (.slice A2 excs.length c2) (.slice A3 rets.length c3)
        have r1 := l1.six Z7 (by decide) (by omega) (.string mo) (.string go) (.slice A0 acc.length c0) (.slice A1 reps.length c1) (.slice A2 excs.length c2) (.slice A3 rets.length c3)
        have r2 := l2.six Z7 (by decide) (by omega) (.string mo) (.string go) (.slice A0 acc.length c0) (.slice A1 reps.length c1) (.slice A2 excs.length c2) (.slice A3 rets.length c3)
        have r3 := l3.six Z7 (by decide) (by omega) (.string mo) (.string go) (.slice A0 acc.length c0) (.slice A1 reps.length c1) (.slice A2 excs.length c2) (.slice A3 rets.length c3)
        have Y0 := hS6.cell 0
        have Y1 := hS6.cell 1
        have Y2 := hS6.cell 2
        have Y3 := hS6.cell 3
        have Y4 := hS6.cell 4
        have Y5 := hS6.cell 5
        refine bodyPost_ret (v := .tuple #[.agg #[.string mo, .string go, .slice A0 acc.length c0, .slice A1 reps.length c1, .slice A2 excs.length c2, .slice A3 rets.length c3], .int .i64 0]) (by simp [results, Tryz.results15, go_sem, Y0, Y1, Y2, Y3, Y4, Y5]) rfl ?_
        rw [HE.out, show dropL (FileG.reqs ⟨mo, go, reqs, reps, excs, rets⟩) q = acc from HLr.out.symm]
        exact ⟨_, _, _, _, rfl, ⟨r0.own.row, r1.own.row, r2.own.row, r3.own.row⟩, r0.below⟩

set_option maxRecDepth 100000 in
set_option maxHeartbeats 8000000 in
theorem rdrop_file (f : FileG) (n1 : f.reqs.length ≤ 1000) (n2 : f.reps.length ≤ 1000) (n3 : f.excs.length ≤ 1000) (n4 : f.rets.length ≤ 1000) (q : ByteArray) (a b c d : Value) (w : World) (hF : FileAt w a b c d f) :
    Calls Tryz.prog 16 #[.agg #[.string f.mo, .string f.go, a, b, c, d], .string q] w (FileErrO (dropO f q) a b c d f w) := by
  obtain ⟨mo, go, reqs, reps, excs, rets⟩ := f
  obtain ⟨hr, hp, hx, ht⟩ := hF
  dsimp only at *
  obtain ⟨ra, rc, rfl⟩ := hr.form
  obtain ⟨pa, pc, rfl⟩ := hp.form
  obtain ⟨xa, xc, rfl⟩ := hx.form
  obtain ⟨ta, tc, rfl⟩ := ht.form
  have hB := ((Below.refl w.heap.size w).alloc (Nat.le_refl _) (.cells #[.string mo, .string go, .slice ra reqs.length rc, .slice pa reps.length pc, .slice xa excs.length xc, .slice ta rets.length tc] 35)).alloc (by simp) (.cells #[.string ⟨#[]⟩, .string ⟨#[]⟩, .slice none 0 0, .slice none 0 0, .slice none 0 0, .slice none 0 0] 35)
  have gF := (GBlk.new w 35 #[.string mo, .string go, .slice ra reqs.length rc, .slice pa reps.length pc, .slice xa excs.length xc, .slice ta rets.length tc]).alloc (.cells #[.string ⟨#[]⟩, .string ⟨#[]⟩, .slice none 0 0, .slice none 0 0, .slice none 0 0, .slice none 0 0] 35)
  have gZ := GBlk.new (w.alloc (.cells #[.string mo, .string go, .slice ra reqs.length rc, .slice pa reps.length pc, .slice xa excs.length xc, .slice ta rets.length tc] 35)) 35 #[.string ⟨#[]⟩, .string ⟨#[]⟩, .slice none 0 0, .slice none 0 0, .slice none 0 0, .slice none 0 0]
  rw [World.size_alloc] at gZ
  have HR := Lib.hid (hr.below hB)
  have HP := Lib.hid hp
  have HX := Lib.hid hx
  have HT := Lib.hid ht
  have Q1 := Lib.hid (fun h => dropO_1 (f := ⟨mo, go, reqs, reps, excs, rets⟩) (p := q) h)
  have Q2 := Lib.hid (fun h => dropO_2 (f := ⟨mo, go, reqs, reps, excs, rets⟩) (p := q) h)
  clear hr hp hx ht
  have cc : ((w.alloc (.cells #[.string mo, .string go, .slice ra reqs.length rc, .slice pa reps.length pc, .slice xa excs.length xc, .slice ta rets.length tc] 35)).alloc (.cells #[.string ⟨#[]⟩, .string ⟨#[]⟩, .slice none 0 0, .slice none 0 0, .slice none 0 0, .slice none 0 0] 35)).cell? ⟨w.heap.size, 2, none⟩ = some (.slice ra reqs.length rc) := gF.cell 2
  go_enter Tryz.func16, Tryz.ntmps16
  go_wp2
  clear cc
  have hzs : ((w.alloc (.cells #[.string mo, .string go, .slice ra reqs.length rc, .slice pa reps.length pc, .slice xa excs.length xc, .slice ta rets.length tc] 35)).alloc (.cells #[.string ⟨#[]⟩, .string ⟨#[]⟩, .slice none 0 0, .slice none 0 0, .slice none 0 0, .slice none 0 0] 35)).heap.size = w.heap.size + 1 + 1 := by simp
  generalize ((w.alloc (.cells #[.string mo, .string go, .slice ra reqs.length rc, .slice pa reps.length pc, .slice xa excs.length xc, .slice ta rets.length tc] 35)).alloc (.cells #[.string ⟨#[]⟩, .string ⟨#[]⟩, .slice none 0 0, .slice none 0 0, .slice none 0 0, .slice none 0 0] 35)) = W at *
  have HZs := Lib.hid hzs
  clear hzs
  replace hB := Lib.hid hB
  replace gF := Lib.hid gF
  replace gZ := Lib.hid gZ
  go_loopw [6, 7] (fun l i wr => ∃ (k : Nat) (acc : List ReqB) (A : Option Addr) (c : Nat), k ≤ reqs.length ∧ i = .int .i64 k ∧ l = .slice A acc.length c ∧ acc = dropL (reqs.take k) q ∧ RAcc reqR 61 W wr (.slice A acc.length c) acc) (fun _ i _ => reqs.length - (intOf i).toNat)
  case atStart => exact ⟨0, [], _, 0, Nat.zero_le _, rfl, rfl, rfl, by have := RAcc.start (R := reqR) (et := 61) W; rwa [HZs.out] at this⟩
  case round =>
    obtain ⟨k, acc, A, c, hk, rfl, rfl, hL, hacc⟩ := hrel
    have HL := Lib.hid hL
    have hal : acc.length ≤ k := by rw [hL]; have := drop_len (reqs.take k) q; rw [List.length_take] at this; omega
    clear hL
    have F := gF.out.below hacc.below
    have Z := gZ.out.below hacc.below
    have u0 : wr.cell? ⟨w.heap.size, 2, none⟩ = some (.slice ra reqs.length rc) := F.cell 2
    by_cases hlt : k < reqs.length
    · obtain ⟨-, hcap, hsp⟩ := (HR.out.below hacc.below).spot
      obtain ⟨g, o, rfl, hg, hat⟩ := hsp (ne_of_lt hlt)
      obtain ⟨q1, q2, q3⟩ := req_at hat k hlt
      have HS1 := Lib.hid (fun (h : sameP (reqs[k]'hlt) q = true) => drop_same hlt h)
      have HS2 := Lib.hid (fun (h : sameP (reqs[k]'hlt) q = false) => drop_other hlt h)
      rw [← HL.out] at HS1 HS2
      clear hat hsp F Z
      unfold sameP at HS1 HS2
      generalize reqs[k] = x at *
      obtain ⟨⟨p, v⟩, bb⟩ := x
      dsimp only at q1 q2 q3 HS1 HS2
      cases e : (p.toList == q.toList)
      · have HN := Lib.hid (HS2.out e)
        have e' : (p.toList != q.toList) = true := by rw [bne, e]; rfl
        go_wp2_with (at_builtin; refine wpList_racc reqT rfl _ _ rfl (hacc.alloc _) rfl (RRow.one' _ ((p, v), bb) _ _ (by simp) rfl) rfl (by simp; omega) ?_; intro A4 c4 acc4 w5 hgr; have t0 := hgr.acc; have HL4 := Lib.hid hgr.list; clear hgr)
        go_roundw
        case rel => exact ⟨k + 1, acc4, A4, c4, by omega, by go_num, rfl, HL4.out.trans HN.out.symm, t0⟩
        case measure => simp [intOf]; omega
      · have HN := Lib.hid (HS1.out e)
        have e' : (p.toList != q.toList) = false := by rw [bne, e]; rfl
        go_wp2
        go_roundw
        case rel => exact ⟨k + 1, acc, A, c, by omega, by go_num, rfl, HN.out.symm, hacc⟩
        case measure => simp [intOf]; omega
    · obtain rfl : k = reqs.length := by omega
      have HLr := Lib.hid (show acc = dropL reqs q by rw [HL.out, List.take_length])
      by_cases hlen : acc.length = reqs.length
      · have HE := Lib.hid (Q1.out (by rw [← HLr.out]; exact hlen))
        have hl1 : ((acc.length : Int) == (reqs.length : Int)) = true := by simp [hlen]
        have z0 : wr.cell? ⟨w.heap.size + 1, 0, none⟩ = some (.string ⟨#[]⟩) := Z.cell 0
        have z1 : wr.cell? ⟨w.heap.size + 1, 1, none⟩ = some (.string ⟨#[]⟩) := Z.cell 1
        have z2 : wr.cell? ⟨w.heap.size + 1, 2, none⟩ = some (.slice none 0 0) := Z.cell 2
        have z3 : wr.cell? ⟨w.heap.size + 1, 3, none⟩ = some (.slice none 0 0) := Z.cell 3
        have z4 : wr.cell? ⟨w.heap.size + 1, 4, none⟩ = some (.slice none 0 0) := Z.cell 4
        have z5 : wr.cell? ⟨w.heap.size + 1, 5, none⟩ = some (.slice none 0 0) := Z.cell 5
        have f0 := Z.frozen 0
        have f1 := Z.frozen 1
        have f2 := Z.frozen 2
        have f3 := Z.frozen 3
        have f4 := Z.frozen 4
        have f5 := Z.frozen 5
        have hB1 := hB.out.trans (hacc.below.mono hB.out.size)
        go_wp2
        have hS6 := Z.six (.string ⟨#[]⟩) (.string ⟨#[]⟩) (.slice none 0 0) (.slice none 0 0) (.slice none 0 0) (.slice none 0 0)
        have y0 := hS6.cell 0
        have y1 := hS6.cell 1
        have y2 := hS6.cell 2
        have y3 := hS6.cell 3
        have y4 := hS6.cell 4
        have y5 := hS6.cell 5
        exact bodyPost_ret (v := .tuple #[.agg #[.string ⟨#[]⟩, .string ⟨#[]⟩, .slice none 0 0, .slice none 0 0, .slice none 0 0, .slice none 0 0], .int .i64 3]) (by simp [results, Tryz.results16, go_sem, y0, y1, y2, y3, y4, y5]) rfl (FileErrO.zero HE.out (below_six hB1 (by omega) _ _ _ _ _ _))
      · have HE := Lib.hid (Q2.out (by rw [← HLr.out]; exact hlen))
        have hl1 : ((acc.length : Int) == (reqs.length : Int)) = false := by simp; omega
        have t0 := hacc.since hB.out
        clear hlen
        have kf := F.frozen 2
        have F7 := F.set 2 (.slice A acc.length c)
        have Z7 := Z.setOther (B' := w.heap.size) (i := 2) (u := .slice A acc.length c) (by omega)
        have t1 := t0.set (i := 2) (u := .slice A acc.length c) F (by decide) (Nat.le_refl _)
        have x0 : (wr.setCell ⟨w.heap.size, 2, none⟩ (.slice A acc.length c)).cell? ⟨w.heap.size, 0, none⟩ = some (.string mo) := F7.cell 0
        have x1 : (wr.setCell ⟨w.heap.size, 2, none⟩ (.slice A acc.length c)).cell? ⟨w.heap.size, 1, none⟩ = some (.string go) := F7.cell 1
        have x2 : (wr.setCell ⟨w.heap.size, 2, none⟩ (.slice A acc.length c)).cell? ⟨w.heap.size, 2, none⟩ = some (.slice A acc.length c) := F7.cell 2
        have x3 : (wr.setCell ⟨w.heap.size, 2, none⟩ (.slice A acc.length c)).cell? ⟨w.heap.size, 3, none⟩ = some (.slice pa reps.length pc) := F7.cell 3
        have x4 : (wr.setCell ⟨w.heap.size, 2, none⟩ (.slice A acc.length c)).cell? ⟨w.heap.size, 4, none⟩ = some (.slice xa excs.length xc) := F7.cell 4
        have x5 : (wr.setCell ⟨w.heap.size, 2, none⟩ (.slice A acc.length c)).cell? ⟨w.heap.size, 5, none⟩ = some (.slice ta rets.length tc) := F7.cell 5
        have z0 : (wr.setCell ⟨w.heap.size, 2, none⟩ (.slice A acc.length c)).cell? ⟨w.heap.size + 1, 0, none⟩ = some (.string ⟨#[]⟩) := Z7.cell 0
        have z1 : (wr.setCell ⟨w.heap.size, 2, none⟩ (.slice A acc.length c)).cell? ⟨w.heap.size + 1, 1, none⟩ = some (.string ⟨#[]⟩) := Z7.cell 1
        have z2 : (wr.setCell ⟨w.heap.size, 2, none⟩ (.slice A acc.length c)).cell? ⟨w.heap.size + 1, 2, none⟩ = some (.slice none 0 0) := Z7.cell 2
        have z3 : (wr.setCell ⟨w.heap.size, 2, none⟩ (.slice A acc.length c)).cell? ⟨w.heap.size + 1, 3, none⟩ = some (.slice none 0 0) := Z7.cell 3
        have z4 : (wr.setCell ⟨w.heap.size, 2, none⟩ (.slice A acc.length c)).cell? ⟨w.heap.size + 1, 4, none⟩ = some (.slice none 0 0) := Z7.cell 4
        have z5 : (wr.setCell ⟨w.heap.size, 2, none⟩ (.slice A acc.length c)).cell? ⟨w.heap.size + 1, 5, none⟩ = some (.slice none 0 0) := Z7.cell 5
        have y0 := Z7.frozen 0
        have y1 := Z7.frozen 1
        have y2 := Z7.frozen 2
        have y3 := Z7.frozen 3
        have y4 := Z7.frozen 4
        have y5 := Z7.frozen 5
        go_wp2
        have hS6 := Z7.six (.string mo) (.string go) (.slice A acc.length c) (.slice pa reps.length pc) (.slice xa excs.length xc) (.slice ta rets.length tc)
        have r0 := t1.six Z7 (by decide) (by omega) (.string mo) (.string go) (.slice A acc.length c) (.slice pa reps.length pc) (.slice xa excs.length xc) (.slice ta rets.length tc)
        have Y0 := hS6.cell 0
        have Y1 := hS6.cell 1
        have Y2 := hS6.cell 2
        have Y3 := hS6.cell 3
        have Y4 := hS6.cell 4
        have Y5 := hS6.cell 5
        refine bodyPost_ret (v := .tuple #[.agg #[.string mo, .string go, .slice A acc.length c, .slice pa reps.length pc, .slice xa excs.length xc, .slice ta rets.length tc], .int .i64 0]) (by simp [results, Tryz.results16, go_sem, Y0, Y1, Y2, Y3, Y4, Y5]) rfl ?_
        rw [HE.out, show dropL (FileG.reqs ⟨mo, go, reqs, reps, excs, rets⟩) q = acc from HLr.out.symm]
        exact ⟨_, _, _, _, rfl, ⟨r0.own.row, HP.out.below r0.below, HX.out.below r0.below, HT.out.below r0.below⟩, r0.below, fun B hB ho => ⟨r0.own.off hB, ho.reps, ho.excs, ho.rets⟩⟩
end Go.Proofs.YtmdlmjcejeejfaaGreatDoor

/-
  That something is printed; what is large.
-/
namespace Go.Proofs.YtmdlmjcejeejfaaGreatDoor
open Go.RowKit Go.Shelf

set_option maxRecDepth 100000 in
set_option maxHeartbeats 400000 in
theorem blockReqs_nil (s : ByteArray) (v : Value) (w : World) : Calls Tryz.prog 50 #[.string s, .slice none 0 0, v] w fun e w' => e = .returned (.string ⟨#[]⟩) ∧ w = w' := by
  go_enter Tryz.func50, Tryz.ntmps50
  go_wp2
  go_ret
  exact ⟨rfl, rfl⟩

set_option maxRecDepth 100000 in
set_option maxHeartbeats 400000 in
theorem blockReps_nil (s : ByteArray) (v : Value) (w : World) : Calls Tryz.prog 54 #[.string s, .slice none 0 0, v] w fun e w' => e = .returned (.string ⟨#[]⟩) ∧ w = w' := by
  go_enter Tryz.func54, Tryz.ntmps54
  go_wp2
  go_ret
  exact ⟨rfl, rfl⟩

set_option maxRecDepth 100000 in
set_option maxHeartbeats 400000 in
theorem blockMods_nil (s : ByteArray) (v : Value) (w : World) : Calls Tryz.prog 56 #[.string s, .slice none 0 0, v] w fun e w' => e = .returned (.string ⟨#[]⟩) ∧ w = w' := by
  go_enter Tryz.func56, Tryz.ntmps56
  go_wp2
  go_ret
  exact ⟨rfl, rfl⟩

set_option maxRecDepth 100000 in
set_option maxHeartbeats 400000 in
theorem blockRets_nil (s : ByteArray) (v : Value) (w : World) : Calls Tryz.prog 57 #[.string s, .slice none 0 0, v] w fun e w' => e = .returned (.string ⟨#[]⟩) ∧ w = w' := by
  go_enter Tryz.func57, Tryz.ntmps57
  go_wp2
  go_ret
  exact ⟨rfl, rfl⟩

def oneG : FileG := ⟨⟨#[97, 46, 98]⟩, ⟨#[]⟩, [], [], [], []⟩
theorem one_mod : moduleN ⟨#[97, 46, 98]⟩ = 0 := by decide +kernel
theorem one_go : goE ⟨#[]⟩ = 0 := by decide +kernel
theorem one_chk : chkE oneG = 0 := by
  have h : startE oneG = 0 := by rw [startE, show oneG.mo = ⟨#[97, 46, 98]⟩ from rfl, show oneG.go = ⟨#[]⟩ from rfl, one_mod, one_go]; rfl
  show startE oneG = 0
  exact h
theorem one_sized : Sized oneG := ⟨by decide, by decide, by decide, by decide, by decide, by decide, by simp [oneG], by simp [oneG], by simp [oneG], by simp [oneG]⟩

set_option maxRecDepth 100000 in
set_option maxHeartbeats 2000000 in
theorem print_one (w : World) : Calls Tryz.prog 19 #[.agg #[.string ⟨#[97, 46, 98]⟩, .string ⟨#[]⟩, .slice none 0 0, .slice none 0 0, .slice none 0 0, .slice none 0 0]] w fun e w' => e = .returned (.tuple #[.string ⟨#[109, 111, 100, 117, 108, 101, 32, 97, 46, 98, 10]⟩, .int .i64 0]) ∧ Below w.heap.size w w' := by
  have hB := (Below.refl w.heap.size w).alloc (Nat.le_refl _) (.cells #[.string ⟨#[97, 46, 98]⟩, .string ⟨#[]⟩, .slice none 0 0, .slice none 0 0, .slice none 0 0, .slice none 0 0] 27)
  have gF := GBlk.new w 27 #[.string ⟨#[97, 46, 98]⟩, .string ⟨#[]⟩, .slice none 0 0, .slice none 0 0, .slice none 0 0, .slice none 0 0]
  go_enter Tryz.func19, Tryz.ntmps19
  go_wp2_with fail
  refine (check_file oneG one_sized _ _ _ _ _ ⟨RRow.nil _, RRow.nil _, RRow.nil _, RRow.nil _⟩).mono ?_
  rw [one_chk]
  rintro _ w1 ⟨rfl, hb1⟩
  replace hB := hB.trans (hb1.mono hB.size)
  replace gF := gF.below hb1
  have c0 : w1.cell? ⟨w.heap.size, 0, none⟩ = some (.string ⟨#[97, 46, 98]⟩) := gF.cell 0
  have c1 : w1.cell? ⟨w.heap.size, 1, none⟩ = some (.string ⟨#[]⟩) := gF.cell 1
  have c2 : w1.cell? ⟨w.heap.size, 2, none⟩ = some (.slice none 0 0) := gF.cell 2
  have c3 : w1.cell? ⟨w.heap.size, 3, none⟩ = some (.slice none 0 0) := gF.cell 3
  have c4 : w1.cell? ⟨w.heap.size, 4, none⟩ = some (.slice none 0 0) := gF.cell 4
  have c5 : w1.cell? ⟨w.heap.size, 5, none⟩ = some (.slice none 0 0) := gF.cell 5
  clear gF hb1
  go_wp2_with (first
    | (go_at_call 50; refine (blockReqs_nil _ _ _).mono ?_; rintro e w' ⟨rfl, rfl⟩)
    | (go_at_call 54; refine (blockReps_nil _ _ _).mono ?_; rintro e w' ⟨rfl, rfl⟩)
    | (go_at_call 56; refine (blockMods_nil _ _ _).mono ?_; rintro e w' ⟨rfl, rfl⟩)
    | (go_at_call 57; refine (blockRets_nil _ _ _).mono ?_; rintro e w' ⟨rfl, rfl⟩))
  go_ret2
  exact ⟨rfl, hB⟩

set_option maxRecDepth 100000 in
set_option maxHeartbeats 1000000 in
theorem shown_any (w : World) : Calls Tryz.prog 7 #[] w fun e w' => e = .returned (.bool true) ∧ Below w.heap.size w w' := by
  go_enter Tryz.func7, Tryz.ntmps7
  go_wp2_with fail
  refine (print_one _).mono ?_
  rintro _ w1 ⟨rfl, hB⟩
  go_wp2
  go_ret
  exact ⟨rfl, hB⟩
end Go.Proofs.YtmdlmjcejeejfaaGreatDoor
