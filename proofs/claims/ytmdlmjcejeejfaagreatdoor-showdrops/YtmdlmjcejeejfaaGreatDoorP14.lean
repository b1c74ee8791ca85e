/-
  The document's own order of versions.
-/
import Derived.Test.YtmdlmjcejeejfaaGreatDoorP10
import Derived.Test.YtmdlmjcejeejfaaGreatDoorP13
namespace Go.Proofs.YtmdlmjcejeejfaaGreatDoor
open Go.RowKit Go.Shelf

def lessN (b : Bool) : Int := if b then -1 else 1
set_option maxRecDepth 100000 in
theorem rless_any (b : Bool) (w : World) :
    Calls Tryz.prog 39 #[.bool b] w fun r w' => r = .returned (.int .i64 (lessN b)) ∧ w = w' := by
  cases b
  · go_enter Tryz.func39, Tryz.ntmps39
    go_wp2
    go_ret
    exact ⟨rfl, rfl⟩
  · go_enter Tryz.func39, Tryz.ntmps39
    go_wp2
    go_ret
    exact ⟨rfl, rfl⟩

theorem ord_same {a b : ByteArray} (h : (a.toList == b.toList) = true) : idcmp a.data.toList b.data.toList = 0 := by
  rw [Lib.toList_data, Lib.toList_data] at h
  rw [eq_of_beq h]; exact idcmp_cmp.self _
theorem ord_lt {a b : ByteArray} (ha : digs a.data.toList = true) (hb : digs b.data.toList = true) (h : a.size < b.size) : idcmp a.data.toList b.data.toList = -1 := by
  have : ((a.data.toList.length : Nat) : Int) < (b.data.toList.length : Nat) := by rw [size_data, size_data]; omega
  rw [idcmp_both ha hb, icmp_1 this]; rfl
theorem ord_gt {a b : ByteArray} (ha : digs a.data.toList = true) (hb : digs b.data.toList = true) (h : b.size < a.size) : idcmp a.data.toList b.data.toList = 1 := by
  have : ((b.data.toList.length : Nat) : Int) < (a.data.toList.length : Nat) := by rw [size_data, size_data]; omega
  rw [idcmp_both ha hb, icmp_2 (by omega) this]; rfl
theorem ord_eq {a b : ByteArray} (ha : digs a.data.toList = true) (hb : digs b.data.toList = true) (h : a.size = b.size) (hn : (a.toList == b.toList) = false) {c : Bool} (hc : Op.bytesLess a.toList b.toList = c) : idcmp a.data.toList b.data.toList = lessN c := by
  have : ((a.data.toList.length : Nat) : Int) = (b.data.toList.length : Nat) := by rw [size_data, size_data]; omega
  rw [idcmp_both ha hb, icmp_zero.2 this]
  cases c
  · rw [tcmp_3 hc hn]; rfl
  · rw [tcmp_1 hc]; rfl
theorem ord_none {a b : ByteArray} (ha : digs a.data.toList = false) (hb : digs b.data.toList = false) (hn : (a.toList == b.toList) = false) {c : Bool} (hc : Op.bytesLess a.toList b.toList = c) : idcmp a.data.toList b.data.toList = lessN c := by
  rw [idcmp_none ha hb]
  cases c
  · rw [tcmp_3 hc hn]; rfl
  · rw [tcmp_1 hc]; rfl

set_option maxRecDepth 100000 in
set_option maxHeartbeats 1000000 in
theorem rorder_any (a b : ByteArray) (ha : a.size ≤ 20400) (hb : b.size ≤ 20400) (w : World) :
    Calls Tryz.prog 41 #[.string a, .string b] w fun e w' => e = .returned (.int .i64 (idcmp a.data.toList b.data.toList)) ∧ w = w' := by
  cases h1 : (a.toList == b.toList)
  · cases da : digs a.data.toList
    · cases db : digs b.data.toList
      · cases hc : Op.bytesLess a.toList b.toList
        all_goals
          have H := Lib.hid (ord_none da db h1 hc)
          go_enter Tryz.func41, Tryz.ntmps41
          go_wp2_with fail
          refine (rdigits_any a ha _).mono ?_
          rintro _ w2 ⟨rfl, rfl⟩
          rw [da]
          go_wp2_with fail
          refine (rdigits_any b hb _).mono ?_
          rintro _ w2 ⟨rfl, rfl⟩
          rw [db]
          go_wp2_with fail
          refine (rless_any _ _).mono ?_
          rintro _ w2 ⟨rfl, rfl⟩
          go_wp2
          go_ret
          exact ⟨ret_int H.out.symm, rfl⟩
      · have H := Lib.hid (idcmp_right da db)
        go_enter Tryz.func41, Tryz.ntmps41
        go_wp2_with fail
        refine (rdigits_any a ha _).mono ?_
        rintro _ w2 ⟨rfl, rfl⟩
        rw [da]
        go_wp2_with fail
        refine (rdigits_any b hb _).mono ?_
        rintro _ w2 ⟨rfl, rfl⟩
        rw [db]
        go_wp2_with fail
        refine (rless_any _ _).mono ?_
        rintro _ w2 ⟨rfl, rfl⟩
        go_wp2
        go_ret
        exact ⟨ret_int H.out.symm, rfl⟩
    · cases db : digs b.data.toList
      · have H := Lib.hid (idcmp_left da db)
        go_enter Tryz.func41, Tryz.ntmps41
        go_wp2_with fail
        refine (rdigits_any a ha _).mono ?_
        rintro _ w2 ⟨rfl, rfl⟩
        rw [da]
        go_wp2_with fail
        refine (rdigits_any b hb _).mono ?_
        rintro _ w2 ⟨rfl, rfl⟩
        rw [db]
        go_wp2_with fail
        refine (rless_any _ _).mono ?_
        rintro _ w2 ⟨rfl, rfl⟩
        go_wp2
        go_ret
        exact ⟨ret_int H.out.symm, rfl⟩
      · have K : (a.size < b.size ∧ idcmp a.data.toList b.data.toList = lessN true) ∨ (¬ a.size < b.size ∧ ((a.size : Int) == (b.size : Int)) = false ∧ idcmp a.data.toList b.data.toList = lessN false) ∨ (¬ a.size < b.size ∧ ((a.size : Int) == (b.size : Int)) = true ∧ ∃ c, Op.bytesLess a.toList b.toList = c ∧ idcmp a.data.toList b.data.toList = lessN c) := by
          by_cases k1 : a.size < b.size
          · exact .inl ⟨k1, ord_lt da db k1⟩
          · by_cases k2 : a.size = b.size
            · exact .inr (.inr ⟨k1, by rw [k2]; simp, _, rfl, ord_eq da db k2 h1 rfl⟩)
            · exact .inr (.inl ⟨k1, by rw [beq_eq_false_iff_ne]; omega, ord_gt da db (by omega)⟩)
        rcases K with ⟨k1, K⟩ | ⟨k1, k2, K⟩ | ⟨k1, k2, c, hc, K⟩
        all_goals
          have H := Lib.hid K
          clear K
          go_enter Tryz.func41, Tryz.ntmps41
          go_wp2_with fail
          refine (rdigits_any a ha _).mono ?_
          rintro _ w2 ⟨rfl, rfl⟩
          rw [da]
          go_wp2_with fail
          refine (rdigits_any b hb _).mono ?_
          rintro _ w2 ⟨rfl, rfl⟩
          rw [db]
          go_wp2_with fail
          refine (rless_any _ _).mono ?_
          rintro _ w2 ⟨rfl, rfl⟩
          go_wp2
          go_ret
          exact ⟨ret_int (by rw [H.out]), rfl⟩
  · have H := Lib.hid (ord_same h1)
    go_enter Tryz.func41, Tryz.ntmps41
    go_wp2
    go_ret
    exact ⟨ret_int H.out.symm, rfl⟩

theorem rorder_q (a b : ByteArray) (ha : a.size ≤ 20400) (hb : b.size ≤ 20400) {n : Int} (hn : idcmp a.data.toList b.data.toList = n) (w : World) :
    Calls Tryz.prog 41 #[.string a, .string b] w fun e w' => e = .returned (.int .i64 n) ∧ w' = w :=
  (rorder_any a b ha hb w).mono fun _ _ h => ⟨by rw [h.1, hn], h.2.symm⟩
theorem vcmp_1 {v u : Ver} (h : ¬ v.ma = u.ma) : vcmp v u = lessN (decide (v.ma < u.ma)) := by
  rw [vcmp]
  by_cases k : v.ma < u.ma
  · rw [icmp_1 k, decide_eq_true k]; rfl
  · rw [icmp_2 k (by omega), decide_eq_false k]; rfl
theorem vcmp_2 {v u : Ver} (h0 : v.ma = u.ma) (h : ¬ v.mi = u.mi) : vcmp v u = lessN (decide (v.mi < u.mi)) := by
  rw [vcmp, icmp_zero.2 h0]
  by_cases k : v.mi < u.mi
  · rw [icmp_1 k, decide_eq_true k]; rfl
  · rw [icmp_2 k (by omega), decide_eq_false k]; rfl
theorem vcmp_3 {v u : Ver} (h0 : v.ma = u.ma) (h1 : v.mi = u.mi) (h : ¬ v.pa = u.pa) : vcmp v u = lessN (decide (v.pa < u.pa)) := by
  rw [vcmp, icmp_zero.2 h0, icmp_zero.2 h1]
  by_cases k : v.pa < u.pa
  · rw [icmp_1 k, decide_eq_true k]; rfl
  · rw [icmp_2 k (by omega), decide_eq_false k]; rfl
theorem vcmp_4 {v u : Ver} (h0 : v.ma = u.ma) (h1 : v.mi = u.mi) (h2 : v.pa = u.pa) : vcmp v u = pcmp v.pre.data.toList u.pre.data.toList := by
  rw [vcmp, icmp_zero.2 h0, icmp_zero.2 h1, icmp_zero.2 h2]; rfl
theorem lcmp_ne {a b : ByteArray} (h : (a.toList == b.toList) = false) : ¬ lcmp idB (partsD 46 a) (partsD 46 b) = 0 := by
  intro e
  rw [← lcmp_data, parts_data, parts_data] at e
  have := sp_inj (lcmp_zero idcmp_zero _ _ e)
  rw [Lib.toList_data, Lib.toList_data] at h
  exact ne_of_beq_false h this
theorem cmp_end {xs ys : List ByteArray} {k : Nat} (h : CmpAt xs ys k) (hne : ¬ lcmp idB xs ys = 0) (hk : k ≤ xs.length) (he : ¬ k < xs.length ∨ ¬ k < ys.length) : lcmp idB xs ys = lessN (decide (xs.length < ys.length)) := by
  have hky := h.1
  by_cases h1 : xs.length < ys.length
  · rw [h.lt (by omega) (by omega), decide_eq_true (by omega)]; rfl
  · rw [decide_eq_false (by omega)]
    by_cases h2 : ys.length < xs.length
    · rw [h.gt (by omega) (by omega)]; rfl
    · exact absurd (h.eq (by omega) (by omega)) hne

set_option maxRecDepth 100000 in
set_option maxHeartbeats 4000000 in
theorem rcompare_any (a b : ByteArray) (ha : a.size ≤ 20400) (hb : b.size ≤ 20400) (w : World) :
    Calls Tryz.prog 17 #[.string a, .string b] w fun e w' => e = .returned (.int .i64 (scmp a.data.toList b.data.toList)) ∧ Below w.heap.size w w' := by
  go_enter Tryz.func17, Tryz.ntmps17
  go_wp2_with fail
  refine (rparse_any a ha _).mono ?_
  rintro _ w1 ⟨rfl, hb1⟩
  have hp1 := pre_size a
  unfold retP verV
  obtain ⟨v, hv⟩ : ∃ v, v = verL a.data.toList := ⟨_, rfl⟩
  rw [← hv] at hp1 ⊢
  have HV := Lib.hid hv
  clear hv
  have hc1 := VerC.of w1 83 v
  have hB1 := hb1.alloc hb1.size (.cells #[.int .i64 v.ma, .int .i64 v.mi, .int .i64 v.pa, .string v.pre, .string v.mta] 83)
  go_wp2_with fail
  generalize w1.alloc (.cells #[.int .i64 v.ma, .int .i64 v.mi, .int .i64 v.pa, .string v.pre, .string v.mta] 83) = w1' at *
  refine (rparse_any b hb _).mono ?_
  rintro _ w2 ⟨rfl, hb2⟩
  have hp2 := pre_size b
  unfold retP verV
  obtain ⟨u, hu⟩ : ∃ v, v = verL b.data.toList := ⟨_, rfl⟩
  rw [← hu] at hp2 ⊢
  have HU := Lib.hid hu
  clear hu
  replace hc1 := hc1.below hb2
  replace hB1 := hB1.trans (hb2.mono hB1.size)
  have hc2 := VerC.of w2 83 u
  replace hc1 := hc1.kept (World.grownBy_alloc w2 (.cells #[.int .i64 u.ma, .int .i64 u.mi, .int .i64 u.pa, .string u.pre, .string u.mta] 83) none) (fun r e => by cases e)
  have hB2 := hB1.alloc hB1.size (.cells #[.int .i64 u.ma, .int .i64 u.mi, .int .i64 u.pa, .string u.pre, .string u.mta] 83)
  cases ea : okV a.data.toList
  · cases eb : okV b.data.toList
    · have H := Lib.hid (scmp_none ea eb)
      rw [err_no ea, err_no eb]
      go_wp2
      go_ret
      exact ⟨ret_int H.out.symm, hB2⟩
    · have H := Lib.hid (scmp_left ea eb)
      rw [err_no ea, err_yes eb]
      go_wp2_with (go_at_call 39; refine (rless_any _ _).mono ?_; rintro e w' ⟨rfl, rfl⟩)
      go_ret
      exact ⟨ret_int (by rw [H.out]; rfl), hB2⟩
  · cases eb : okV b.data.toList
    · have H := Lib.hid (scmp_right ea eb)
      rw [err_yes ea, err_no eb]
      go_wp2_with (go_at_call 39; refine (rless_any _ _).mono ?_; rintro e w' ⟨rfl, rfl⟩)
      go_ret
      exact ⟨ret_int (by rw [H.out]; rfl), hB2⟩
    · have HH := Lib.hid (show scmp a.data.toList b.data.toList = vcmp v u by rw [scmp_both ea eb, ← HV.out, ← HU.out])
      rw [err_yes ea, err_yes eb]
      have q0 := hc1.c0.cell
      have q1 := hc1.c1.cell
      have q2 := hc1.c2.cell
      have q3 := hc1.c3.cell
      have r0 := hc2.c0.cell
      have r1 := hc2.c1.cell
      have r2 := hc2.c2.cell
      have r3 := hc2.c3.cell
      by_cases e0 : v.ma = u.ma
      · by_cases e1 : v.mi = u.mi
        · by_cases e2 : v.pa = u.pa
          · have HP := Lib.hid (HH.out.trans (vcmp_4 e0 e1 e2))
            have g0 : (v.ma == u.ma) = true := by simp [e0]
            have g1 : (v.mi == u.mi) = true := by simp [e1]
            have g2 : (v.pa == u.pa) = true := by simp [e2]
            have k0 : (v.ma != u.ma) = false := by rw [bne, g0]; rfl
            have k1 : (v.mi != u.mi) = false := by rw [bne, g1]; rfl
            have k2 : (v.pa != u.pa) = false := by rw [bne, g2]; rfl
            clear e0 e1 e2 hc1 hc2
            cases h1 : (v.pre.toList == u.pre.toList)
            · cases h2 : v.pre.toList.isEmpty
              · cases h3 : u.pre.toList.isEmpty
                · have HL := Lib.hid (show scmp a.data.toList b.data.toList = lcmp idB (partsD 46 v.pre) (partsD 46 u.pre) by rw [HP.out, pcmp_both (empty_no h2) (empty_no h3), ← parts_data, ← parts_data, lcmp_data])
                  have HNE := Lib.hid (lcmp_ne h1)
                  go_wp2_with fail
                  refine (rsplit_any 46 v.pre (by omega) _).mono ?_
                  rintro _ w4 ⟨vx, rfl, hrow, hb4⟩
                  have hB3 := hB2.trans (hb4.mono hB2.size)
                  have r3' := (hb4.cell (p := ⟨w2.heap.size, 3, none⟩) (World.block_lt_of_cell? _ _ r3)).trans r3
                  clear q0 q1 q2 q3 r0 r1 r2 r3 hb4 hB1 hB2
                  obtain ⟨p, c, rfl, -⟩ := id hrow
                  go_wp2_with fail
                  refine (rsplit_any 46 u.pre (by omega) _).mono ?_
                  rintro _ w5 ⟨ux, rfl, hrow2, hb5⟩
                  have hB := hB3.trans (hb5.mono hB3.size)
                  obtain ⟨-, hc⟩ := Row.at (hrow.below hb5)
                  obtain ⟨q, d, rfl, hd⟩ := hrow2
                  have SX := Lib.hid (fun x (hx : x ∈ partsD 46 v.pre) => Nat.le_trans (partsD_size hx) (show v.pre.size ≤ 20400 by omega))
                  have SY := Lib.hid (fun x (hx : x ∈ partsD 46 u.pre) => Nat.le_trans (partsD_size hx) (show u.pre.size ≤ 20400 by omega))
                  have hcount := partsD_count 46 v.pre
                  generalize partsD 46 v.pre = xs at *
                  generalize partsD 46 u.pre = ys at *
                  have HC := Lib.hid hc
                  have HD := Lib.hid hd
                  clear hc hd hrow hb5 hB3 r3' h1 h2 h3
                  go_wp2
                  go_loopw [11] (fun i wr => ∃ k n : Nat, k ≤ xs.length ∧ i = .int .i64 k ∧ CmpAt xs ys k ∧ wr = w5.drewN n) (fun i _ => xs.length - (intOf i).toNat)
                  case atStart => exact ⟨0, 0, Nat.zero_le _, rfl, CmpAt.start xs ys, rfl⟩
                  case round =>
                    obtain ⟨k, n, hk, rfl, ht, rfl⟩ := hrel
                    have HT := Lib.hid ht
                    have hky := ht.1
                    clear ht
                    replace hB := below_drewN hB n
                    by_cases hlt : k < xs.length
                    · obtain ⟨g, rfl, hg, hcell⟩ := HC.out (by intro e; rw [e] at hlt; simp at hlt)
                      have q1 := hcell k hlt
                      have z1 := SX.out _ (List.getElem_mem hlt)
                      clear hcell
                      by_cases hlt2 : k < ys.length
                      · obtain ⟨g2, rfl, hg2, hcell2⟩ := HD.out (by intro e; rw [e] at hlt2; simp at hlt2)
                        have q2 := hcell2 k hlt2
                        have z2 := SY.out _ (List.getElem_mem hlt2)
                        clear hcell2
                        have HS := Lib.hid (fun e => HT.out.stop hlt hlt2 e)
                        have HO := Lib.hid (fun e => HT.out.on hlt hlt2 e)
                        generalize xs[k] = x at *
                        generalize ys[k] = y at *
                        obtain ⟨wq, hwq⟩ : ∃ wq, wq = w5.drewN n := ⟨_, rfl⟩
                        have p1 : wq.cell? ⟨g, k, none⟩ = some (.string x) := by rw [hwq]; exact q1
                        have p2 : wq.cell? ⟨g2, k, none⟩ = some (.string y) := by rw [hwq]; exact q2
                        rw [← hwq] at hB ⊢
                        have HW := Lib.hid hwq
                        clear hwq q1 q2
                        obtain ⟨m, hm⟩ : ∃ m, idcmp x.data.toList y.data.toList = m := ⟨_, rfl⟩
                        have HM := Lib.hid hm
                        cases e : (m == 0)
                        · have HE := Lib.hid (show scmp a.data.toList b.data.toList = m by rw [HL.out, ← hm]; exact HS.out (by rw [idB, hm]; exact ne_of_beq_false e))
                          have e' : (m != 0) = true := by rw [bne, e]; rfl
                          clear hm
                          go_wp2
                          go_quiet ((go_at_call 41; exact Calls.quiet_of_same (rorder_q _ _ z1 z2 HM.out _)))
                          go_wp2
                          go_ret
                          exact ⟨ret_int HE.out.symm, below_drewN hB _⟩
                        · have HE := Lib.hid (HO.out (by rw [idB, hm]; exact eq_of_beq e))
                          have e' : (m != 0) = false := by rw [bne, e]; rfl
                          clear hm
                          go_wp2
                          go_quiet ((go_at_call 41; exact Calls.quiet_of_same (rorder_q _ _ z1 z2 HM.out _)))
                          go_wp2
                          go_roundw
                          case rel => exact ⟨k + 1, _, by omega, by go_num, HE.out, by rw [HW.out]; exact drewN_drewN _ _ _⟩
                          case measure => simp [intOf]; omega
                      · have H := Lib.hid (HL.out.trans (cmp_end HT.out HNE.out hk (.inr hlt2)))
                        go_wp2_with (go_at_call 39; refine (rless_any _ _).mono ?_; rintro e w' ⟨rfl, rfl⟩)
                        go_ret
                        exact ⟨ret_int H.out.symm, hB⟩
                    · have H := Lib.hid (HL.out.trans (cmp_end HT.out HNE.out hk (.inl hlt)))
                      go_wp2_with (go_at_call 39; refine (rless_any _ _).mono ?_; rintro e w' ⟨rfl, rfl⟩)
                      go_ret
                      exact ⟨ret_int H.out.symm, hB⟩
                · have H := Lib.hid (HP.out.trans (pcmp_right (empty_no h2) (empty_yes h3)))
                  go_wp2_with (go_at_call 39; refine (rless_any _ _).mono ?_; rintro e w' ⟨rfl, rfl⟩)
                  go_ret
                  exact ⟨ret_int (by rw [H.out]; rfl), hB2⟩
              · have H := Lib.hid (HP.out.trans (pcmp_left (empty_yes h2) (both_empty h1 h2)))
                go_wp2_with (go_at_call 39; refine (rless_any _ _).mono ?_; rintro e w' ⟨rfl, rfl⟩)
                go_ret
                exact ⟨ret_int (by rw [H.out]; rfl), hB2⟩
            · have H := Lib.hid (HP.out.trans (pcmp_same h1))
              go_wp2
              go_ret
              exact ⟨ret_int H.out.symm, hB2⟩
          · have H := Lib.hid (HH.out.trans (vcmp_3 e0 e1 e2))
            have g0 : (v.ma == u.ma) = true := by simp [e0]
            have g1 : (v.mi == u.mi) = true := by simp [e1]
            have g2 : (v.pa == u.pa) = false := by simp [e2]
            have k0 : (v.ma != u.ma) = false := by rw [bne, g0]; rfl
            have k1 : (v.mi != u.mi) = false := by rw [bne, g1]; rfl
            have k2 : (v.pa != u.pa) = true := by rw [bne, g2]; rfl
            clear e0 e1 e2
            go_wp2_with (go_at_call 39; refine (rless_any _ _).mono ?_; rintro e w' ⟨rfl, rfl⟩)
            go_ret
            exact ⟨ret_int H.out.symm, hB2⟩
        · have H := Lib.hid (HH.out.trans (vcmp_2 e0 e1))
          have g0 : (v.ma == u.ma) = true := by simp [e0]
          have g1 : (v.mi == u.mi) = false := by simp [e1]
          have k0 : (v.ma != u.ma) = false := by rw [bne, g0]; rfl
          have k1 : (v.mi != u.mi) = true := by rw [bne, g1]; rfl
          clear e0 e1
          go_wp2_with (go_at_call 39; refine (rless_any _ _).mono ?_; rintro e w' ⟨rfl, rfl⟩)
          go_ret
          exact ⟨ret_int H.out.symm, hB2⟩
      · have H := Lib.hid (HH.out.trans (vcmp_1 e0))
        have g0 : (v.ma == u.ma) = false := by simp [e0]
        have k0 : (v.ma != u.ma) = true := by rw [bne, g0]; rfl
        clear e0
        go_wp2_with (go_at_call 39; refine (rless_any _ _).mono ?_; rintro e w' ⟨rfl, rfl⟩)
        go_ret
        exact ⟨ret_int H.out.symm, hB2⟩

set_option maxRecDepth 100000 in
set_option maxHeartbeats 800000 in
theorem rmax_any (a b : ByteArray) (ha : a.size ≤ 20400) (hb : b.size ≤ 20400) (w : World) :
    Calls Tryz.prog 37 #[.string a, .string b] w fun e w' => e = .returned (.string (maxS a b)) ∧ Below w.heap.size w w' := by
  go_enter Tryz.func37, Tryz.ntmps37
  go_wp2_with fail
  refine (rcompare_any a b ha hb _).mono ?_
  rintro _ w1 ⟨rfl, hb1⟩
  by_cases h : scmp a.data.toList b.data.toList < 0
  · have H := Lib.hid (max_1 h)
    go_wp2
    go_ret
    exact ⟨ret_string H.out.symm, hb1⟩
  · have H := Lib.hid (max_2 h)
    go_wp2
    go_ret
    exact ⟨ret_string H.out.symm, hb1⟩
end Go.Proofs.YtmdlmjcejeejfaaGreatDoor
