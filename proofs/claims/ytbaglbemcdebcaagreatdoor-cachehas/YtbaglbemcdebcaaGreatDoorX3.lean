/-
  Of any two modules the names, the order, and whether they may be, is the document's; of three the order goes on: the law's own walk.
-/
import Derived.Test.YtbaglbemcdebcaaGreatDoorX2
import Derived.Deep.RegionHeld3
namespace Go.Proofs.YtbaglbemcdebcaaGreatDoor
open Go.RowKit Go.Shelf

theorem three_mods (w : World) (p v q u r s : ByteArray) :
    let W := ((w.alloc (.cells #[.string p, .string v] 23)).alloc (.cells #[.string q, .string u] 23)).alloc (.cells #[.string r, .string s] 23)
    Below w.heap.size w W ∧ w.heap.size + 2 < W.heap.size ∧ W.cell? ⟨w.heap.size, 0, none⟩ = some (.string p) ∧ W.cell? ⟨w.heap.size, 1, none⟩ = some (.string v) ∧ W.cell? ⟨w.heap.size + 1, 0, none⟩ = some (.string q) ∧ W.cell? ⟨w.heap.size + 1, 1, none⟩ = some (.string u) ∧ W.cell? ⟨w.heap.size + 2, 0, none⟩ = some (.string r) ∧ W.cell? ⟨w.heap.size + 2, 1, none⟩ = some (.string s) := by
  intro W
  obtain ⟨hb, hz, c0, c1, c2, c3⟩ := two_mods w p v q u
  have hs : ((w.alloc (.cells #[.string p, .string v] 23)).alloc (.cells #[.string q, .string u] 23)).heap.size = w.heap.size + 2 := by simp
  have hn := cell_newR ((w.alloc (.cells #[.string p, .string v] 23)).alloc (.cells #[.string q, .string u] 23)) #[.string r, .string s] 23
  rw [hs] at hn
  have h2 := (Below.refl ((w.alloc (.cells #[.string p, .string v] 23)).alloc (.cells #[.string q, .string u] 23)).heap.size ((w.alloc (.cells #[.string p, .string v] 23)).alloc (.cells #[.string q, .string u] 23))).alloc (Nat.le_refl _) (.cells #[.string r, .string s] 23)
  rw [hs] at h2
  refine ⟨hb.alloc hb.size _, by simp [W], ?_, ?_, ?_, ?_, hn 0, hn 1⟩
  · exact (h2.cell (p := ⟨w.heap.size, 0, none⟩) (by show w.heap.size < _; omega)).trans c0
  · exact (h2.cell (p := ⟨w.heap.size, 1, none⟩) (by show w.heap.size < _; omega)).trans c1
  · exact (h2.cell (p := ⟨w.heap.size + 1, 0, none⟩) (by show w.heap.size + 1 < _; omega)).trans c2
  · exact (h2.cell (p := ⟨w.heap.size + 1, 1, none⟩) (by show w.heap.size + 1 < _; omega)).trans c3
theorem three_keep {w W W' : World} {p v q u r s : ByteArray} (h : Below W.heap.size W W') (hz : w.heap.size + 2 < W.heap.size) (k : W.cell? ⟨w.heap.size, 0, none⟩ = some (.string p) ∧ W.cell? ⟨w.heap.size, 1, none⟩ = some (.string v) ∧ W.cell? ⟨w.heap.size + 1, 0, none⟩ = some (.string q) ∧ W.cell? ⟨w.heap.size + 1, 1, none⟩ = some (.string u) ∧ W.cell? ⟨w.heap.size + 2, 0, none⟩ = some (.string r) ∧ W.cell? ⟨w.heap.size + 2, 1, none⟩ = some (.string s)) : W'.cell? ⟨w.heap.size, 0, none⟩ = some (.string p) ∧ W'.cell? ⟨w.heap.size, 1, none⟩ = some (.string v) ∧ W'.cell? ⟨w.heap.size + 1, 0, none⟩ = some (.string q) ∧ W'.cell? ⟨w.heap.size + 1, 1, none⟩ = some (.string u) ∧ W'.cell? ⟨w.heap.size + 2, 0, none⟩ = some (.string r) ∧ W'.cell? ⟨w.heap.size + 2, 1, none⟩ = some (.string s) := by
  obtain ⟨c0, c1, c2, c3, c4, c5⟩ := k
  refine ⟨?_, ?_, ?_, ?_, ?_, ?_⟩
  · exact (h.cell (p := ⟨w.heap.size, 0, none⟩) (by show w.heap.size < _; omega)).trans c0
  · exact (h.cell (p := ⟨w.heap.size, 1, none⟩) (by show w.heap.size < _; omega)).trans c1
  · exact (h.cell (p := ⟨w.heap.size + 1, 0, none⟩) (by show w.heap.size + 1 < _; omega)).trans c2
  · exact (h.cell (p := ⟨w.heap.size + 1, 1, none⟩) (by show w.heap.size + 1 < _; omega)).trans c3
  · exact (h.cell (p := ⟨w.heap.size + 2, 0, none⟩) hz).trans c4
  · exact (h.cell (p := ⟨w.heap.size + 2, 1, none⟩) hz).trans c5
theorem order_at (p v q u : ByteArray) (hp : p.size ≤ 1024) (hv : v.size ≤ 1024) (hq : q.size ≤ 1024) (hu : u.size ≤ 1024) {n : Int} (h : modCmp (p, v) (q, u) = n) (w : World) :
    Calls Tryz.prog 9 #[.agg #[.string p, .string v], .agg #[.string q, .string u]] w fun e w' => e = .returned (.int .i64 n) ∧ Below w.heap.size w w' :=
  (order_any p v q u (by omega) (by omega) (by omega) (by omega) w).mono fun _ _ k => ⟨by rw [k.1, h], k.2⟩
theorem rorder_at (p v q u : ByteArray) (hp : p.size ≤ 1024) (hv : v.size ≤ 1024) (hq : q.size ≤ 1024) (hu : u.size ≤ 1024) {n : Int} (h : modCmp (p, v) (q, u) = n) (w : World) :
    Calls Tryz.prog 14 #[.agg #[.string p, .string v], .agg #[.string q, .string u]] w fun e w' => e = .returned (.int .i64 n) ∧ Below w.heap.size w w' :=
  (rorderM_any p v q u (by omega) (by omega) (by omega) (by omega) w).mono fun _ _ k => ⟨by rw [k.1, h], k.2⟩
theorem known_at (p v : ByteArray) (hp : p.size ≤ 1024) (hv : v.size ≤ 1024) {n : Int} (h : knownN (p, v) = n) (w : World) :
    Calls Tryz.prog 12 #[.agg #[.string p, .string v]] w fun e w' => e = .returned (.int .i64 n) ∧ Below w.heap.size w w' :=
  (known_any p v (by omega) (by omega) w).mono fun _ _ k => ⟨by rw [k.1, h], k.2⟩
theorem rknown_at (p v : ByteArray) (hp : p.size ≤ 1024) (hv : v.size ≤ 1024) {n : Int} (h : knownN (p, v) = n) (w : World) :
    Calls Tryz.prog 13 #[.agg #[.string p, .string v]] w fun e w' => e = .returned (.int .i64 n) ∧ Below w.heap.size w w' :=
  (rknown_any p v (by omega) (by omega) w).mono fun _ _ k => ⟨by rw [k.1, h], k.2⟩
theorem at_at (p v : ByteArray) (hp : p.size ≤ 1024) (hv : v.size ≤ 1024) {n : ByteArray} (h : atB (p, v) = n) (w : World) :
    Calls Tryz.prog 10 #[.agg #[.string p, .string v]] w fun e w' => e = .returned (.string n) ∧ Below w.heap.size w w' :=
  (at_any p v (by omega) (by omega) w).mono fun _ _ k => ⟨by rw [k.1, h], k.2⟩
theorem rat_at (p v : ByteArray) (hp : p.size ≤ 1024) (hv : v.size ≤ 1024) {n : ByteArray} (h : atB (p, v) = n) (w : World) :
    Calls Tryz.prog 11 #[.agg #[.string p, .string v]] w fun e w' => e = .returned (.string n) ∧ Below w.heap.size w w' :=
  (rat_any p v (by omega) (by omega) w).mono fun _ _ k => ⟨by rw [k.1, h], k.2⟩
theorem below_drew1 {w w' : World} (h : Below w.drew.heap.size w.drew w') : Below w.heap.size w w' := below_drewN' (n := 1) h
theorem eq_size {a b : ByteArray} (h : a.toList = b.toList) : a = b := data_inj (by rw [← Lib.toList_data, ← Lib.toList_data]; exact h)

set_option maxRecDepth 100000 in
set_option maxHeartbeats 4000000 in
theorem mods_walk (p v q u r s : ByteArray) (w : World) :
    Calls Tryz.prog 3 #[.agg #[.string p, .string v], .agg #[.string q, .string u], .agg #[.string r, .string s]] w fun e w' => e = .returned (.bool true) ∧ Below w.heap.size w w' := by
  obtain ⟨hb0, hz, hc⟩ := three_mods w p v q u r s
  have HC := Lib.hid hc
  obtain ⟨c0, c1, c2, c3, c4, c5⟩ := hc
  have HB := Lib.hid hb0
  clear hb0
  by_cases k0 : p.size ≤ 1024
  case neg =>
    go_enter Tryz.func3, Tryz.ntmps3
    go_wp2_with fail
    refine (shown_any _).mono ?_
    rintro _ w1 ⟨rfl, hb1⟩
    go_wp2
    go_ret
    exact ⟨rfl, HB.out.trans (hb1.mono HB.out.size)⟩
  by_cases k1 : v.size ≤ 1024
  case neg =>
    go_enter Tryz.func3, Tryz.ntmps3
    go_wp2_with fail
    refine (shown_any _).mono ?_
    rintro _ w1 ⟨rfl, hb1⟩
    go_wp2
    go_ret
    exact ⟨rfl, HB.out.trans (hb1.mono HB.out.size)⟩
  by_cases k2 : q.size ≤ 1024
  case neg =>
    go_enter Tryz.func3, Tryz.ntmps3
    go_wp2_with fail
    refine (shown_any _).mono ?_
    rintro _ w1 ⟨rfl, hb1⟩
    go_wp2
    go_ret
    exact ⟨rfl, HB.out.trans (hb1.mono HB.out.size)⟩
  by_cases k3 : u.size ≤ 1024
  case neg =>
    go_enter Tryz.func3, Tryz.ntmps3
    go_wp2_with fail
    refine (shown_any _).mono ?_
    rintro _ w1 ⟨rfl, hb1⟩
    go_wp2
    go_ret
    exact ⟨rfl, HB.out.trans (hb1.mono HB.out.size)⟩
  by_cases k4 : r.size ≤ 1024
  case neg =>
    go_enter Tryz.func3, Tryz.ntmps3
    go_wp2_with fail
    refine (shown_any _).mono ?_
    rintro _ w1 ⟨rfl, hb1⟩
    go_wp2
    go_ret
    exact ⟨rfl, HB.out.trans (hb1.mono HB.out.size)⟩
  by_cases k5 : s.size ≤ 1024
  case neg =>
    go_enter Tryz.func3, Tryz.ntmps3
    go_wp2_with fail
    refine (shown_any _).mono ?_
    rintro _ w1 ⟨rfl, hb1⟩
    go_wp2
    go_ret
    exact ⟨rfl, HB.out.trans (hb1.mono HB.out.size)⟩
  have RC := Lib.hid (modCmp_cmp.range (q, u) (r, s))
  have TR := Lib.hid (modCmp_cmp.trans (p, v) (q, u) (r, s))
  have NG := modCmp_cmp.neg (p, v) (q, u)
  obtain ⟨aN, ha⟩ : ∃ x, atB (p, v) = x := ⟨_, rfl⟩
  have HA := Lib.hid ha
  obtain ⟨eN, he⟩ : ∃ x, knownN (p, v) = x := ⟨_, rfl⟩
  have HE := Lib.hid he
  clear ha he
  have a1 : (aN.toList != aN.toList) = false := by simp
  have e1 : (eN != eN) = false := by simp
  rcases modCmp_cmp.range (p, v) (q, u) with h | h | h
  · have HN := Lib.hid h
    have HM := Lib.hid (show modCmp (q, u) (p, v) = 1 by rw [NG, h]; first | done | rfl)
    have hne : ¬ (p, v) = (q, u) := fun e => by rw [modCmp_zero.2 e] at h; cases h
    clear h NG
    cases ep : (p.toList == q.toList)
    case' true =>
      cases ev : (v.toList == u.toList)
      case' true => exact absurd (Prod.ext (eq_size (eq_of_beq ep)) (eq_size (eq_of_beq ev))) hne
    all_goals clear hne
    all_goals
      go_enter Tryz.func3, Tryz.ntmps3
      go_wp2_with fail
      refine (order_at p v q u k0 k1 k2 k3 HN.out _).mono ?_
      rintro _ w1 ⟨rfl, hb1⟩
      have K1 := three_keep hb1 hz HC.out
      have hB1 := HB.out.trans (hb1.mono HB.out.size)
      replace hz := Nat.lt_of_lt_of_le hz hb1.size
      clear hb1 HC HB
      obtain ⟨c0, c1, c2, c3, c4, c5⟩ := K1
      go_upto_region 4 with fail
      have HK1 := Lib.hid (show w1.cell? ⟨w.heap.size, 0, none⟩ = some (.string p) ∧ w1.cell? ⟨w.heap.size, 1, none⟩ = some (.string v) ∧ w1.cell? ⟨w.heap.size + 1, 0, none⟩ = some (.string q) ∧ w1.cell? ⟨w.heap.size + 1, 1, none⟩ = some (.string u) ∧ w1.cell? ⟨w.heap.size + 2, 0, none⟩ = some (.string r) ∧ w1.cell? ⟨w.heap.size + 2, 1, none⟩ = some (.string s) from ⟨c0, c1, c2, c3, c4, c5⟩)
      have HB1 := Lib.hid hB1
      clear hB1
      go_region_held3 (fun w' => w'.cell? ⟨w.heap.size, 0, none⟩ = some (.string p) ∧ w'.cell? ⟨w.heap.size, 1, none⟩ = some (.string v) ∧ w'.cell? ⟨w.heap.size + 1, 0, none⟩ = some (.string q) ∧ w'.cell? ⟨w.heap.size + 1, 1, none⟩ = some (.string u) ∧ w'.cell? ⟨w.heap.size + 2, 0, none⟩ = some (.string r) ∧ w'.cell? ⟨w.heap.size + 2, 1, none⟩ = some (.string s))
        (first | go_keep | with_reducible exact L7.out | with_reducible exact L6.out | with_reducible exact L5.out | with_reducible exact L4.out | with_reducible exact L3.out | with_reducible exact L2.out)
        (first
          | (go_at_call 9; refine (order_at q u p v k2 k3 k0 k1 HM.out _).mono ?_; rintro e w7 ⟨rfl, hb7'⟩; have hb7 := hb6.trans (hb7'.mono hb6.size); have L7 := Lib.hid (three_keep hb7 hz HK1.out))
          | (go_at_call 14; refine (rorder_at p v q u k0 k1 k2 k3 HN.out _).mono ?_; rintro e w6 ⟨rfl, hb6'⟩; have hb6 := hb5.trans (hb6'.mono hb5.size); have L6 := Lib.hid (three_keep hb6 hz HK1.out))
          | (go_at_call 13; refine (rknown_at p v k0 k1 HE.out _).mono ?_; rintro e w5 ⟨rfl, hb5'⟩; have hb5 := hb4.trans (hb5'.mono hb4.size); have L5 := Lib.hid (three_keep hb5 hz HK1.out))
          | (go_at_call 12; refine (known_at p v k0 k1 HE.out _).mono ?_; rintro e w4 ⟨rfl, hb4'⟩; have hb4 := hb3.trans (hb4'.mono hb3.size); have L4 := Lib.hid (three_keep hb4 hz HK1.out))
          | (go_at_call 11; refine (rat_at p v k0 k1 HA.out _).mono ?_; rintro e w3 ⟨rfl, hb3'⟩; have hb3 := hb2.trans (hb3'.mono hb2.size); have L3 := Lib.hid (three_keep hb3 hz HK1.out))
          | (go_at_call 10; refine (at_at p v k0 k1 HA.out _).mono ?_; rintro e w2 ⟨rfl, hb2'⟩; have hb2 := below_drew1 hb2'; have L2 := Lib.hid (three_keep hb2 hz HK1.out)))
      rename_i hheld
      clear hheld c0 c1 c2 c3 c4 c5 L2 L3 L4 L5 L6 hb2 hb2' hb3 hb3' hb4 hb4' hb5 hb5' hb6 hb6' hb7'
      have hB := HB1.out.trans (hb7.mono HB1.out.size)
      replace hz := Nat.lt_of_lt_of_le hz hb7.size
      obtain ⟨c0, c1, c2, c3, c4, c5⟩ := L7.out
      clear L7 HB1 hb7 HK1
      rcases RC.out with k | k | k
      · go_wp2_with fail
        refine (order_at q u r s k2 k3 k4 k5 k _).mono ?_
        rintro _ w8 ⟨rfl, hb8⟩
        obtain ⟨c0, c1, c2, c3, c4, c5⟩ := three_keep hb8 hz ⟨c0, c1, c2, c3, c4, c5⟩
        replace hB := hB.trans (hb8.mono hB.size)
        replace hz := Nat.lt_of_lt_of_le hz hb8.size
        clear hb8
        have hx := (TR.out (by rw [HN.out]; decide) (by rw [k]; decide)).1
        generalize hy : modCmp (p, v) (r, s) = x at *
        have HY := Lib.hid hy
        clear hy k
        go_wp2_with fail
        refine (order_at p v r s k0 k1 k4 k5 HY.out _).mono ?_
        rintro _ w9 ⟨rfl, hb9⟩
        obtain ⟨c0, c1, c2, c3, c4, c5⟩ := three_keep hb9 hz ⟨c0, c1, c2, c3, c4, c5⟩
        replace hB := hB.trans (hb9.mono hB.size)
        replace hz := Nat.lt_of_lt_of_le hz hb9.size
        clear hb9
        go_wp2_with fail
        refine (shown_any _).mono ?_
        rintro _ w20 ⟨rfl, hb20⟩
        replace hB := hB.trans (hb20.mono hB.size)
        go_wp2
        go_ret
        exact ⟨rfl, hB⟩
      · go_wp2_with fail
        refine (order_at q u r s k2 k3 k4 k5 k _).mono ?_
        rintro _ w8 ⟨rfl, hb8⟩
        obtain ⟨c0, c1, c2, c3, c4, c5⟩ := three_keep hb8 hz ⟨c0, c1, c2, c3, c4, c5⟩
        replace hB := hB.trans (hb8.mono hB.size)
        replace hz := Nat.lt_of_lt_of_le hz hb8.size
        clear hb8
        have hx := (TR.out (by rw [HN.out]; decide) (by rw [k]; decide)).1
        generalize hy : modCmp (p, v) (r, s) = x at *
        have HY := Lib.hid hy
        clear hy k
        go_wp2_with fail
        refine (order_at p v r s k0 k1 k4 k5 HY.out _).mono ?_
        rintro _ w9 ⟨rfl, hb9⟩
        obtain ⟨c0, c1, c2, c3, c4, c5⟩ := three_keep hb9 hz ⟨c0, c1, c2, c3, c4, c5⟩
        replace hB := hB.trans (hb9.mono hB.size)
        replace hz := Nat.lt_of_lt_of_le hz hb9.size
        clear hb9
        go_wp2_with fail
        refine (shown_any _).mono ?_
        rintro _ w20 ⟨rfl, hb20⟩
        replace hB := hB.trans (hb20.mono hB.size)
        go_wp2
        go_ret
        exact ⟨rfl, hB⟩
      · go_wp2_with fail
        refine (order_at q u r s k2 k3 k4 k5 k _).mono ?_
        rintro _ w8 ⟨rfl, hb8⟩
        obtain ⟨c0, c1, c2, c3, c4, c5⟩ := three_keep hb8 hz ⟨c0, c1, c2, c3, c4, c5⟩
        replace hB := hB.trans (hb8.mono hB.size)
        replace hz := Nat.lt_of_lt_of_le hz hb8.size
        clear hb8
        clear k
        go_wp2_with fail
        refine (shown_any _).mono ?_
        rintro _ w20 ⟨rfl, hb20⟩
        replace hB := hB.trans (hb20.mono hB.size)
        go_wp2
        go_ret
        exact ⟨rfl, hB⟩
  · have HN := Lib.hid h
    have HM := Lib.hid (show modCmp (q, u) (p, v) = 0 by rw [NG, h]; first | done | rfl)
    have ep : (p.toList == q.toList) = true := by rw [(Prod.mk.inj (modCmp_zero.1 h)).1]; simp
    have ev : (v.toList == u.toList) = true := by rw [(Prod.mk.inj (modCmp_zero.1 h)).2]; simp
    clear h NG
    go_enter Tryz.func3, Tryz.ntmps3
    go_wp2_with fail
    refine (order_at p v q u k0 k1 k2 k3 HN.out _).mono ?_
    rintro _ w1 ⟨rfl, hb1⟩
    have K1 := three_keep hb1 hz HC.out
    have hB1 := HB.out.trans (hb1.mono HB.out.size)
    replace hz := Nat.lt_of_lt_of_le hz hb1.size
    clear hb1 HC HB
    obtain ⟨c0, c1, c2, c3, c4, c5⟩ := K1
    go_upto_region 4 with fail
    have HK1 := Lib.hid (show w1.cell? ⟨w.heap.size, 0, none⟩ = some (.string p) ∧ w1.cell? ⟨w.heap.size, 1, none⟩ = some (.string v) ∧ w1.cell? ⟨w.heap.size + 1, 0, none⟩ = some (.string q) ∧ w1.cell? ⟨w.heap.size + 1, 1, none⟩ = some (.string u) ∧ w1.cell? ⟨w.heap.size + 2, 0, none⟩ = some (.string r) ∧ w1.cell? ⟨w.heap.size + 2, 1, none⟩ = some (.string s) from ⟨c0, c1, c2, c3, c4, c5⟩)
    have HB1 := Lib.hid hB1
    clear hB1
    go_region_held3 (fun w' => w'.cell? ⟨w.heap.size, 0, none⟩ = some (.string p) ∧ w'.cell? ⟨w.heap.size, 1, none⟩ = some (.string v) ∧ w'.cell? ⟨w.heap.size + 1, 0, none⟩ = some (.string q) ∧ w'.cell? ⟨w.heap.size + 1, 1, none⟩ = some (.string u) ∧ w'.cell? ⟨w.heap.size + 2, 0, none⟩ = some (.string r) ∧ w'.cell? ⟨w.heap.size + 2, 1, none⟩ = some (.string s))
      (first | go_keep | with_reducible exact L7.out | with_reducible exact L6.out | with_reducible exact L5.out | with_reducible exact L4.out | with_reducible exact L3.out | with_reducible exact L2.out)
      (first
        | (go_at_call 9; refine (order_at q u p v k2 k3 k0 k1 HM.out _).mono ?_; rintro e w7 ⟨rfl, hb7'⟩; have hb7 := hb6.trans (hb7'.mono hb6.size); have L7 := Lib.hid (three_keep hb7 hz HK1.out))
        | (go_at_call 14; refine (rorder_at p v q u k0 k1 k2 k3 HN.out _).mono ?_; rintro e w6 ⟨rfl, hb6'⟩; have hb6 := hb5.trans (hb6'.mono hb5.size); have L6 := Lib.hid (three_keep hb6 hz HK1.out))
        | (go_at_call 13; refine (rknown_at p v k0 k1 HE.out _).mono ?_; rintro e w5 ⟨rfl, hb5'⟩; have hb5 := hb4.trans (hb5'.mono hb4.size); have L5 := Lib.hid (three_keep hb5 hz HK1.out))
        | (go_at_call 12; refine (known_at p v k0 k1 HE.out _).mono ?_; rintro e w4 ⟨rfl, hb4'⟩; have hb4 := hb3.trans (hb4'.mono hb3.size); have L4 := Lib.hid (three_keep hb4 hz HK1.out))
        | (go_at_call 11; refine (rat_at p v k0 k1 HA.out _).mono ?_; rintro e w3 ⟨rfl, hb3'⟩; have hb3 := hb2.trans (hb3'.mono hb2.size); have L3 := Lib.hid (three_keep hb3 hz HK1.out))
        | (go_at_call 10; refine (at_at p v k0 k1 HA.out _).mono ?_; rintro e w2 ⟨rfl, hb2'⟩; have hb2 := below_drew1 hb2'; have L2 := Lib.hid (three_keep hb2 hz HK1.out)))
    rename_i hheld
    clear hheld c0 c1 c2 c3 c4 c5 L2 L3 L4 L5 L6 hb2 hb2' hb3 hb3' hb4 hb4' hb5 hb5' hb6 hb6' hb7'
    have hB := HB1.out.trans (hb7.mono HB1.out.size)
    replace hz := Nat.lt_of_lt_of_le hz hb7.size
    obtain ⟨c0, c1, c2, c3, c4, c5⟩ := L7.out
    clear L7 HB1 hb7 HK1
    rcases RC.out with k | k | k
    · go_wp2_with fail
      refine (order_at q u r s k2 k3 k4 k5 k _).mono ?_
      rintro _ w8 ⟨rfl, hb8⟩
      obtain ⟨c0, c1, c2, c3, c4, c5⟩ := three_keep hb8 hz ⟨c0, c1, c2, c3, c4, c5⟩
      replace hB := hB.trans (hb8.mono hB.size)
      replace hz := Nat.lt_of_lt_of_le hz hb8.size
      clear hb8
      have hx := (TR.out (by rw [HN.out]; decide) (by rw [k]; decide)).1
      generalize hy : modCmp (p, v) (r, s) = x at *
      have HY := Lib.hid hy
      clear hy k
      go_wp2_with fail
      refine (order_at p v r s k0 k1 k4 k5 HY.out _).mono ?_
      rintro _ w9 ⟨rfl, hb9⟩
      obtain ⟨c0, c1, c2, c3, c4, c5⟩ := three_keep hb9 hz ⟨c0, c1, c2, c3, c4, c5⟩
      replace hB := hB.trans (hb9.mono hB.size)
      replace hz := Nat.lt_of_lt_of_le hz hb9.size
      clear hb9
      go_wp2_with fail
      refine (shown_any _).mono ?_
      rintro _ w20 ⟨rfl, hb20⟩
      replace hB := hB.trans (hb20.mono hB.size)
      go_wp2
      go_ret
      exact ⟨rfl, hB⟩
    · go_wp2_with fail
      refine (order_at q u r s k2 k3 k4 k5 k _).mono ?_
      rintro _ w8 ⟨rfl, hb8⟩
      obtain ⟨c0, c1, c2, c3, c4, c5⟩ := three_keep hb8 hz ⟨c0, c1, c2, c3, c4, c5⟩
      replace hB := hB.trans (hb8.mono hB.size)
      replace hz := Nat.lt_of_lt_of_le hz hb8.size
      clear hb8
      have hx := (TR.out (by rw [HN.out]; decide) (by rw [k]; decide)).1
      generalize hy : modCmp (p, v) (r, s) = x at *
      have HY := Lib.hid hy
      clear hy k
      go_wp2_with fail
      refine (order_at p v r s k0 k1 k4 k5 HY.out _).mono ?_
      rintro _ w9 ⟨rfl, hb9⟩
      obtain ⟨c0, c1, c2, c3, c4, c5⟩ := three_keep hb9 hz ⟨c0, c1, c2, c3, c4, c5⟩
      replace hB := hB.trans (hb9.mono hB.size)
      replace hz := Nat.lt_of_lt_of_le hz hb9.size
      clear hb9
      go_wp2_with fail
      refine (shown_any _).mono ?_
      rintro _ w20 ⟨rfl, hb20⟩
      replace hB := hB.trans (hb20.mono hB.size)
      go_wp2
      go_ret
      exact ⟨rfl, hB⟩
    · go_wp2_with fail
      refine (order_at q u r s k2 k3 k4 k5 k _).mono ?_
      rintro _ w8 ⟨rfl, hb8⟩
      obtain ⟨c0, c1, c2, c3, c4, c5⟩ := three_keep hb8 hz ⟨c0, c1, c2, c3, c4, c5⟩
      replace hB := hB.trans (hb8.mono hB.size)
      replace hz := Nat.lt_of_lt_of_le hz hb8.size
      clear hb8
      clear k
      go_wp2_with fail
      refine (shown_any _).mono ?_
      rintro _ w20 ⟨rfl, hb20⟩
      replace hB := hB.trans (hb20.mono hB.size)
      go_wp2
      go_ret
      exact ⟨rfl, hB⟩
  · have HN := Lib.hid h
    have HM := Lib.hid (show modCmp (q, u) (p, v) = -1 by rw [NG, h]; first | done | rfl)
    have hne : ¬ (p, v) = (q, u) := fun e => by rw [modCmp_zero.2 e] at h; cases h
    clear h NG
    cases ep : (p.toList == q.toList)
    case' true =>
      cases ev : (v.toList == u.toList)
      case' true => exact absurd (Prod.ext (eq_size (eq_of_beq ep)) (eq_size (eq_of_beq ev))) hne
    all_goals clear hne
    all_goals
      go_enter Tryz.func3, Tryz.ntmps3
      go_wp2_with fail
      refine (order_at p v q u k0 k1 k2 k3 HN.out _).mono ?_
      rintro _ w1 ⟨rfl, hb1⟩
      have K1 := three_keep hb1 hz HC.out
      have hB1 := HB.out.trans (hb1.mono HB.out.size)
      replace hz := Nat.lt_of_lt_of_le hz hb1.size
      clear hb1 HC HB
      obtain ⟨c0, c1, c2, c3, c4, c5⟩ := K1
      go_upto_region 4 with fail
      have HK1 := Lib.hid (show w1.cell? ⟨w.heap.size, 0, none⟩ = some (.string p) ∧ w1.cell? ⟨w.heap.size, 1, none⟩ = some (.string v) ∧ w1.cell? ⟨w.heap.size + 1, 0, none⟩ = some (.string q) ∧ w1.cell? ⟨w.heap.size + 1, 1, none⟩ = some (.string u) ∧ w1.cell? ⟨w.heap.size + 2, 0, none⟩ = some (.string r) ∧ w1.cell? ⟨w.heap.size + 2, 1, none⟩ = some (.string s) from ⟨c0, c1, c2, c3, c4, c5⟩)
      have HB1 := Lib.hid hB1
      clear hB1
      go_region_held3 (fun w' => w'.cell? ⟨w.heap.size, 0, none⟩ = some (.string p) ∧ w'.cell? ⟨w.heap.size, 1, none⟩ = some (.string v) ∧ w'.cell? ⟨w.heap.size + 1, 0, none⟩ = some (.string q) ∧ w'.cell? ⟨w.heap.size + 1, 1, none⟩ = some (.string u) ∧ w'.cell? ⟨w.heap.size + 2, 0, none⟩ = some (.string r) ∧ w'.cell? ⟨w.heap.size + 2, 1, none⟩ = some (.string s))
        (first | go_keep | with_reducible exact L7.out | with_reducible exact L6.out | with_reducible exact L5.out | with_reducible exact L4.out | with_reducible exact L3.out | with_reducible exact L2.out)
        (first
          | (go_at_call 9; refine (order_at q u p v k2 k3 k0 k1 HM.out _).mono ?_; rintro e w7 ⟨rfl, hb7'⟩; have hb7 := hb6.trans (hb7'.mono hb6.size); have L7 := Lib.hid (three_keep hb7 hz HK1.out))
          | (go_at_call 14; refine (rorder_at p v q u k0 k1 k2 k3 HN.out _).mono ?_; rintro e w6 ⟨rfl, hb6'⟩; have hb6 := hb5.trans (hb6'.mono hb5.size); have L6 := Lib.hid (three_keep hb6 hz HK1.out))
          | (go_at_call 13; refine (rknown_at p v k0 k1 HE.out _).mono ?_; rintro e w5 ⟨rfl, hb5'⟩; have hb5 := hb4.trans (hb5'.mono hb4.size); have L5 := Lib.hid (three_keep hb5 hz HK1.out))
          | (go_at_call 12; refine (known_at p v k0 k1 HE.out _).mono ?_; rintro e w4 ⟨rfl, hb4'⟩; have hb4 := hb3.trans (hb4'.mono hb3.size); have L4 := Lib.hid (three_keep hb4 hz HK1.out))
          | (go_at_call 11; refine (rat_at p v k0 k1 HA.out _).mono ?_; rintro e w3 ⟨rfl, hb3'⟩; have hb3 := hb2.trans (hb3'.mono hb2.size); have L3 := Lib.hid (three_keep hb3 hz HK1.out))
          | (go_at_call 10; refine (at_at p v k0 k1 HA.out _).mono ?_; rintro e w2 ⟨rfl, hb2'⟩; have hb2 := below_drew1 hb2'; have L2 := Lib.hid (three_keep hb2 hz HK1.out)))
      rename_i hheld
      clear hheld c0 c1 c2 c3 c4 c5 L2 L3 L4 L5 L6 hb2 hb2' hb3 hb3' hb4 hb4' hb5 hb5' hb6 hb6' hb7'
      have hB := HB1.out.trans (hb7.mono HB1.out.size)
      replace hz := Nat.lt_of_lt_of_le hz hb7.size
      obtain ⟨c0, c1, c2, c3, c4, c5⟩ := L7.out
      clear L7 HB1 hb7 HK1
      go_wp2_with fail
      refine (shown_any _).mono ?_
      rintro _ w20 ⟨rfl, hb20⟩
      replace hB := hB.trans (hb20.mono hB.size)
      go_wp2
      go_ret
      exact ⟨rfl, hB⟩
end Go.Proofs.YtbaglbemcdebcaaGreatDoor
