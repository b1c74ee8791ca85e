/-
  What is too much, and what is shown.
-/
import Derived.Test.YtcbpkbemnaondaaGreatDoorQ2
import Derived.Deep.CutBlock
import Derived.Deep.Cut
namespace Go.Proofs.YtcbpkbemnaondaaGreatDoor
open Go.RowKit Go.Shelf
/-- The bound of the law. -/
structure LightR (f : FileG) (xs : List EntB) (m : ModB) : Prop where
  ents : LightE xs
  reqs : f.reqs.length ≤ 30
  reps : f.reps.length ≤ 30
  excs : f.excs.length ≤ 30
  rets : f.rets.length ≤ 30
  m : m.1.size + m.2.size ≤ 4611686018427387904 → m.1.size + m.2.size ≤ 400
def HeavyROut (f : FileG) (xs : List EntB) (m : ModB) (w : World) (e : Ending) (w' : World) : Prop := ∃ b, e = .returned (.bool b) ∧ (b = false → LightR f xs m) ∧ Below w.heap.size w w'
set_option maxRecDepth 100000 in
set_option maxHeartbeats 4000000 in
theorem heavyR_any (f : FileG) (a b c d : Value) (xs : List EntB) (V : Value) (p v : ByteArray) (w : World) (hF : FileAt w a b c d f) (hv : RRow entR w V xs) (hn : ∀ x ∈ xs, x.n ≤ maxLen) :
    Calls Tryz.prog 19 #[.agg #[.string f.mo, .string f.go, a, b, c, d], V, .agg #[.string p, .string v]] w (HeavyROut f xs (p, v) w) := by
  have hb0 := (Below.refl w.heap.size w).alloc (Nat.le_refl _) (.cells #[.string f.mo, .string f.go, a, b, c, d] 49)
  have hb1 := hb0.alloc (by simp) (.cells #[.string p, .string v] 24)
  have hs1 : (w.alloc (.cells #[.string f.mo, .string f.go, a, b, c, d] 49)).heap.size = w.heap.size + 1 := by simp
  have g0 := (GBlk.new w 49 #[.string f.mo, .string f.go, a, b, c, d]).alloc (.cells #[.string p, .string v] 24)
  have g1 := GBlk.new (w.alloc (.cells #[.string f.mo, .string f.go, a, b, c, d] 49)) 24 #[.string p, .string v]
  rw [hs1] at g1
  have HF := Lib.hid (hF.below hb1)
  have HV := Lib.hid (hv.below hb1)
  have HNn := Lib.hid hn
  obtain ⟨A0, C0, ea⟩ := hF.reqs.form
  obtain ⟨A1, C1, eb⟩ := hF.reps.form
  obtain ⟨A2, C2, ec⟩ := hF.excs.form
  obtain ⟨A3, C3, ed⟩ := hF.rets.form
  obtain ⟨A4, C4, ev⟩ := hv.form
  subst ea eb ec ed ev
  have HM := Lib.hid (fun h1 h2 h3 h4 h5 h6 => LightR.mk (f := f) (xs := xs) (m := (p, v)) h1 h2 h3 h4 h5 h6)
  obtain ⟨mo, go, reqs, reps, excs, rets⟩ := f
  dsimp only at *
  have z2 := g0.cell 2
  have z3 := g0.cell 3
  have z4 := g0.cell 4
  have z5 := g0.cell 5
  have m0 := g1.cell 0
  have m1 := g1.cell 1
  simp only [List.getElem?_toArray, List.getElem?_cons_succ, List.getElem?_cons_zero] at z2 z3 z4 z5 m0 m1
  have hgs : w.heap.size + 1 < ((w.alloc (.cells #[.string mo, .string go, .slice A0 reqs.length C0, .slice A1 reps.length C1, .slice A2 excs.length C2, .slice A3 rets.length C3] 49)).alloc (.cells #[.string p, .string v] 24)).heap.size := by simp
  have HG0 := Lib.hid g0
  clear hF hv hn g0 g1 hb0 hs1
  have HB1 := Lib.hid hb1
  clear hb1
  go_enter Tryz.func19, Tryz.ntmps19
  go_upto_block 0 with fail
  rotate_left 1
  all_goals first | (go_wp2; go_ret; exact ⟨true, rfl, (fun h => by cases h), HB1.out⟩) | skip
  rename_i h1 h2 h3 h4 h5 h6
  have k1 : xs.length ≤ 50 := by omega
  have k2 : reqs.length ≤ 30 := by omega
  have k3 : reps.length ≤ 30 := by omega
  have k4 : excs.length ≤ 30 := by omega
  have k5 : rets.length ≤ 30 := by omega
  have k6 : p.size + v.size ≤ 4611686018427387904 → p.size + v.size ≤ 400 := by
    intro hs
    have e' : wrap64 ((p.size : Int) + (v.size : Int)) = (p.size : Int) + (v.size : Int) := by unfold wrap64; omega
    omega
  have HK := Lib.hid (fun he => HM.out he k2 k3 k4 k5 k6)
  clear HM k6
  generalize (w.alloc (.cells #[.string mo, .string go, .slice A0 reqs.length C0, .slice A1 reps.length C1, .slice A2 excs.length C2, .slice A3 rets.length C3] 49)).alloc (.cells #[.string p, .string v] 24) = W at *
  go_cut [7, 8] from 50 to 95 (fun s7 s8 wx => ∃ N m : Nat, s7 = .int .i64 N ∧ N ≤ 5000000 ∧ (N ≤ 8192 → LightE xs) ∧ wx = W.drewN m)
  case first =>
    go_wp2
    go_loopw [7, 8] (fun n i wr => ∃ k N m : Nat, k ≤ xs.length ∧ i = .int .i64 k ∧ n = .int .i64 N ∧ N ≤ 5000000 ∧ Upto xs k N ∧ wr = W.drewN m) (fun _ i _ => xs.length - (intOf i).toNat)
    case atStart => exact ⟨0, 0, 0, Nat.zero_le _, rfl, rfl, Nat.zero_le _, (fun i hi h => absurd h (Nat.not_lt_zero _)), rfl⟩
    case round =>
      obtain ⟨k, N, m, hk, rfl, rfl, hN, hu, rfl⟩ := hrel
      by_cases hlt : k < xs.length
      · by_cases hbig : N ≤ 8192
        · obtain ⟨a', c', e, -, hc⟩ := HV.out
          simp only [Value.slice.injEq] at e
          obtain ⟨rfl, -, rfl⟩ := e
          obtain ⟨g, o, rfl, hg, hat⟩ := hc (ne_of_lt hlt)
          obtain ⟨q1, q2, q3, q4⟩ := ent_at hat k hlt
          have hnn := HNn.out xs[k] (List.getElem_mem hlt)
          have HS := Lib.hid (@Upto.snoc xs k N (N + (1 + min xs[k].p.size 1048576 + min xs[k].v.size 1048576 + min xs[k].g.size 1048576 + min xs[k].n 1048576)) hu (by omega) hlt ⟨by omega, by omega, by omega, by omega⟩)
          clear hat hu hc
          generalize xs[k] = x at *
          obtain ⟨xp, xv, xg, xa, xn, xc⟩ := x
          dsimp only at q1 q2 q3 q4 HS hnn
          unfold maxLen at hnn
          go_wp2
          go_region
          all_goals
            go_wp2
            refine ⟨⟨k + 1, N + (1 + min xp.size 1048576 + min xv.size 1048576 + min xg.size 1048576 + min xn 1048576), m + 1, by omega, by go_num, ?_, by omega, HS.out, rfl⟩, by simp [intOf]; omega⟩
            congr 1
            (repeat' split) <;> omega
        · go_wp2
          go_meet
          exact ⟨N, m, rfl, hN, fun h => absurd h hbig, rfl⟩
      · have hkl : k = xs.length := by omega
        subst hkl
        have HL := Lib.hid (fun h => light_ofE k1 hu (Nat.le_trans h (show (8192 : Nat) ≤ 16384 by decide)))
        clear hu
        go_wp2
        go_meet
        exact ⟨N, m, rfl, hN, HL.out, rfl⟩
  case rest =>
    obtain ⟨N, m, rfl, hN, hL, rfl⟩ := hcut
    have HL := Lib.hid hL
    clear hL
    go_upto_block 2 with fail
    go_cut [7, 9] from 96 to 125 (fun s7 s9 wx => ∃ N2 m2 : Nat, s7 = .int .i64 N2 ∧ N ≤ N2 ∧ N2 ≤ 10000000 ∧ wx = W.drewN m2)
    case first =>
      go_wp2
      go_loopw [7, 9] (fun n i wr => ∃ k N2 m2 : Nat, k ≤ excs.length ∧ i = .int .i64 k ∧ n = .int .i64 N2 ∧ N ≤ N2 ∧ N2 ≤ 10000000 ∧ wr = W.drewN m2) (fun _ i _ => excs.length - (intOf i).toNat)
      case atStart => exact ⟨0, N, m, Nat.zero_le _, rfl, rfl, Nat.le_refl _, by omega, rfl⟩
      case round =>
        obtain ⟨k, N2, m2, hk, rfl, rfl, hN1, hN2, rfl⟩ := hrel
        by_cases hlt : k < excs.length
        · by_cases hbig : N2 ≤ 8192
          · obtain ⟨a', c', e, -, hc⟩ := HF.out.excs
            simp only [Value.slice.injEq] at e
            obtain ⟨rfl, -, rfl⟩ := e
            obtain ⟨g, o, rfl, hg, hat⟩ := hc (by exact ne_of_lt hlt)
            obtain ⟨q1, q2⟩ := mod_at hat k hlt
            clear hat hc
            dsimp only at q1 q2
            generalize excs[k] = x at *
            obtain ⟨x1, x2⟩ := x
            dsimp only at q1 q2
            go_wp2
            go_region
            all_goals
              go_wp2
              refine ⟨⟨k + 1, N2 + (min x1.size 1048576 + min x2.size 1048576), m2 + 1, by omega, by go_num, ?_, by omega, by omega, rfl⟩, by simp [intOf]; omega⟩
              congr 1
              (repeat' split) <;> omega
          · go_wp2
            go_meet
            exact ⟨N2, m2, rfl, hN1, hN2, rfl⟩
        · go_wp2
          go_meet
          exact ⟨N2, m2, rfl, hN1, hN2, rfl⟩
    case rest =>
      obtain ⟨N2, m2, rfl, hN2, hN3, rfl⟩ := hcut
      go_upto_block 4 with fail
      go_cut [7, 10, 11] from 126 to 166 (fun s7 s10 s11 wx => ∃ N3 : Nat, s7 = .int .i64 N3 ∧ N ≤ N3 ∧ N3 ≤ 20000000 ∧ Below W.heap.size W wx)
      case first =>
        go_wp2
        go_loopw [7, 10] (fun n i wr => ∃ k N3 : Nat, k ≤ reps.length ∧ i = .int .i64 k ∧ n = .int .i64 N3 ∧ N ≤ N3 ∧ N3 ≤ 20000000 ∧ Below W.heap.size W wr) (fun _ i _ => reps.length - (intOf i).toNat)
        case atStart => exact ⟨0, N2, Nat.zero_le _, rfl, rfl, hN2, by omega, below_drewN (Below.refl _ _) _⟩
        case round =>
          obtain ⟨k, N3, hk, rfl, rfl, hN4, hN5, hbw⟩ := hrel
          have z3 := (HG0.out.below hbw).cell 3
          simp only [List.getElem?_toArray, List.getElem?_cons_succ, List.getElem?_cons_zero] at z3
          have HBW := Lib.hid hbw
          by_cases hlt : k < reps.length
          · by_cases hbig : N3 ≤ 8192
            · obtain ⟨a', c', e, -, hc⟩ := (HF.out.below hbw).reps
              simp only [Value.slice.injEq] at e
              obtain ⟨rfl, -, rfl⟩ := e
              obtain ⟨g, o, rfl, hg, hat⟩ := hc (by exact ne_of_lt hlt)
              obtain ⟨q1, q2, q3, q4⟩ := rep_at hat k hlt
              clear hat hc hbw
              dsimp only at q1 q2 q3 q4
              generalize reps[k] = x at *
              obtain ⟨⟨x1, x2⟩, x3, x4⟩ := x
              dsimp only at q1 q2 q3 q4
              have X := GBlk.new wr 71 #[.string x1, .string x2, .string x3, .string x4]
              have y0 := X.cell 0
              have y1 := X.cell 1
              have y2 := X.cell 2
              have y3 := X.cell 3
              simp only [List.getElem?_toArray, List.getElem?_cons_succ, List.getElem?_cons_zero] at y0 y1 y2 y3
              have HB2 := Lib.hid (HBW.out.alloc HBW.out.size (.cells #[.string x1, .string x2, .string x3, .string x4] 71))
              clear X
              go_wp2
              all_goals
                refine ⟨⟨k + 1, N3 + (min x1.size 1048576 + min x2.size 1048576 + min x3.size 1048576 + min x4.size 1048576), by omega, by go_num, ?_, by omega, by omega, by first | exact HB2.out | exact below_drew HB2.out⟩, by simp [intOf]; omega⟩
                congr 1
                (repeat' split) <;> omega
            · go_wp2
              go_meet
              exact ⟨N3, rfl, hN4, hN5, HBW.out⟩
          · go_wp2
            go_meet
            exact ⟨N3, rfl, hN4, hN5, HBW.out⟩
      case rest =>
        obtain ⟨N3, rfl, hN4, hN5, hbw⟩ := hcut
        have HBC := Lib.hid hbw
        have G3 := Lib.hid (HG0.out.below hbw)
        clear hbw
        go_wp2
        go_loopw [7, 12] (fun n i wr => ∃ k N4 m4 : Nat, k ≤ rets.length ∧ i = .int .i64 k ∧ n = .int .i64 N4 ∧ N ≤ N4 ∧ N4 ≤ 40000000 ∧ wr = wc.drewN m4) (fun _ i _ => rets.length - (intOf i).toNat)
        case atStart => exact ⟨0, N3, 0, Nat.zero_le _, rfl, rfl, hN4, by omega, rfl⟩
        case round =>
          obtain ⟨k, N4, m4, hk, rfl, rfl, hN6, hN7, rfl⟩ := hrel
          have y5 := G3.out.cell 5
          simp only [List.getElem?_toArray, List.getElem?_cons_succ, List.getElem?_cons_zero] at y5
          by_cases hlt : k < rets.length
          · by_cases hbig : N4 ≤ 8192
            · obtain ⟨a', c', e, -, hc⟩ := (HF.out.below HBC.out).rets
              simp only [Value.slice.injEq] at e
              obtain ⟨rfl, -, rfl⟩ := e
              obtain ⟨g, o, rfl, hg, hat⟩ := hc (by exact ne_of_lt hlt)
              obtain ⟨q1, q2, q3⟩ := ret_at hat k hlt
              clear hat hc
              dsimp only at q1 q2 q3
              generalize rets[k] = x at *
              obtain ⟨x1, x2, x3⟩ := x
              dsimp only at q1 q2 q3
              go_wp2
              go_region
              all_goals
                go_wp2
                refine ⟨⟨k + 1, N4 + (min x1.size 1048576 + min x2.size 1048576), m4 + 1, by omega, by go_num, ?_, by omega, by omega, rfl⟩, by simp [intOf]; omega⟩
                congr 1
                (repeat' split) <;> omega
            · go_wp2
              go_ret
              exact ⟨_, rfl, (fun h => by (try simp at h) <;> omega), HB1.out.trans ((below_drewN HBC.out _).mono HB1.out.size)⟩
          · go_wp2
            go_ret
            exact ⟨_, rfl, (fun h => HK.out (HL.out (by simp at h; omega))), HB1.out.trans ((below_drewN HBC.out _).mono HB1.out.size)⟩
end Go.Proofs.YtcbpkbemnaondaaGreatDoor
