/-
  The document's own scanner: one token.
-/
import Derived.Test.YtinaeegijmkbhaaGreatDoorQX
import Derived.Test.YtinaeegijmkbhaaGreatDoorQ8
import Derived.Test.YtinaeegijmkbhaaGreatDoorQG
import Derived.RegionTactic
set_option linter.unusedVariables false
namespace Go.Proofs.YtinaeegijmkbhaaGreatDoor
open Go.RowKit Go.Shelf

/-- What token tells, of what is left (l), in that line, from there. -/
def TokOut (l : List UInt8) (line at_ : Nat) (w : World) (e : Ending) (w' : World) : Prop := Below w.heap.size w w' ∧
  ((∃ kd t n, tokL l = some (kd, t, n) ∧ e = .returned (.tuple #[.agg #[.int .i64 (kd : Nat), .string (mkB t), .int .i64 (line : Nat)], .int .i64 ((at_ + n : Nat) : Int)])) ∨
   (tokL l = none ∧ ∃ b, e = .returned (.tuple #[.agg #[.int .i64 0, .string b, .int .i64 (line : Nat)], .int .i64 (-1)])))

theorem two_cell (w : World) (cs : Array Value) (t : TypeId) (o : Obj) (j : Nat) : ((w.alloc (.cells cs t)).alloc o).cell? ⟨w.heap.size, j, none⟩ = cs[j]? :=
  (((Below.refl _ (w.alloc (.cells cs t))).alloc (Nat.le_refl _) o).cell (p := ⟨w.heap.size, j, none⟩) (by simp)).trans (cell_new w cs t j)

set_option maxRecDepth 100000 in
set_option maxHeartbeats 8000000 in
theorem rtok_any (s : ByteArray) (hs : s.size ≤ 20400) (k : Nat) (hk : k ≤ s.size) (p pos : Nat) (semi : Bool) (w : World) (hp : ScanR w p s pos semi) :
    Calls Tryz.prog 18 #[.pointer (some ⟨p, 0, none⟩), .int .i64 (k : Int)] w (TokOut (s.data.toList.drop k) (lineL (s.data.toList.take k)) k w) := by
  have c0 : w.cell? ⟨p, 0, none⟩ = some (.string s) := by unfold World.cell?; rw [show w.heap[p]? = _ from hp]; rfl
  have hlt : p < w.heap.size := (Array.getElem?_eq_some_iff.1 hp).1
  have HP := Lib.hid hp
  clear hp
  have ik : (k : Int) ≤ (s.size : Int) := by omega
  rw [← extract_tail]
  obtain ⟨L, hL⟩ : ∃ L, lineL (s.data.toList.take k) = L := ⟨_, rfl⟩
  rw [hL]
  go_enter Tryz.func18, Tryz.ntmps18
  go_wp2_with fail
  refine (rline_any s (k : Int) hs _).mono ?_
  rintro _ w' ⟨rfl, rfl⟩
  simp only [Int.toNat_natCast, hL]
  have hq : (s.extract k s.size).size ≤ 20400 := by rw [ByteArray.size_extract]; omega
  have hqk : k + (s.extract k s.size).size ≤ 20400 := by rw [ByteArray.size_extract]; omega
  generalize hqe : s.extract k s.size = q at *
  have HQ := Lib.hid hqe
  clear hqe hk ik c0 HP hs hlt
  by_cases h0 : q.size = 0
  · have he : q.toList.isEmpty = true := by
      rw [Lib.toList_data, show q.data.toList = [] from List.eq_nil_of_length_eq_zero (by rw [size_data]; exact h0)]; rfl
    have HH := Lib.hid (show tokL q.data.toList = some (0, [], 0) by rw [show q.data.toList = [] from List.eq_nil_of_length_eq_zero (by rw [size_data]; exact h0)]; rfl)
    clear h0
    go_wp2
    exact bodyPost_ret (v := .tuple #[.agg #[.int .i64 0, .string ⟨#[]⟩, .int .i64 (L : Int)], .int .i64 (k : Int)]) (by simp [results, Tryz.results18, go_sem]) rfl ⟨((Below.refl _ _).alloc (Nat.le_refl _) _).alloc (by simp) _, .inl ⟨0, [], 0, HH.out, rfl⟩⟩
  have h1 : 0 < q.size := by omega
  have i1 : (0 : Int) < (q.size : Int) := by omega
  have he : q.toList.isEmpty = false := by
    rw [Lib.toList_data]
    cases hl : q.data.toList with
    | nil => have := size_data q; rw [hl] at this; simp at this; omega
    | cons c r => rfl
  have hh := wide_head h1
  clear h0
  cases hlet : letB q[0]
  · have HLet := Lib.hid hlet
    clear hh
    go_wp2_with fail
    refine (rlet_any _ _).mono ?_
    rintro _ w' ⟨rfl, rfl⟩
    rw [hlet]
    clear hlet
    have ne_of (d : UInt8) {c : UInt8} (h : ((c.toNat : Int) == (d.toNat : Int)) = false) : c ≠ d := fun x => by rw [x] at h; simp at h
    have NE := Lib.hid @ne_of
    clear ne_of
    cases c1 : ((q[0].toNat : Int) == 96)
    · cases c2 : ((q[0].toNat : Int) == 34)
      · cases c3 : ((q[0].toNat : Int) == 47)
        · have HH := Lib.hid (tokS_sign h1 HLet.out (NE.out 96 c1) (NE.out 34 c2) (.inl (NE.out 47 c3)))
          clear NE HLet
          go_wp2
          all_goals
            refine bodyPost_ret (v := .tuple #[.agg #[.int .i64 3, .string (q.extract 0 1), .int .i64 (L : Int)], .int .i64 ((k : Int) + 1)]) (by simp [results, Tryz.results18, go_sem]) rfl ⟨((Below.refl _ _).alloc (Nat.le_refl _) _).alloc (by simp) _, .inl ⟨3, _, _, HH.out, ?_⟩⟩
            rw [← extract_one h1, Int.natCast_add]
            rfl
        · by_cases hx : 1 < q.size
          · have ix : (1 : Int) < (q.size : Int) := by omega
            cases d1 : ((q[1].toNat : Int) == 47)
            · cases d2 : ((q[1].toNat : Int) == 42)
              · have HH := Lib.hid (tokS_sign h1 HLet.out (NE.out 96 c1) (NE.out 34 c2) (.inr (.inr ⟨hx, NE.out 47 d1, NE.out 42 d2⟩)))
                clear NE HLet
                go_wp2
                all_goals
                  refine bodyPost_ret (v := .tuple #[.agg #[.int .i64 3, .string (q.extract 0 1), .int .i64 (L : Int)], .int .i64 ((k : Int) + 1)]) (by simp [results, Tryz.results18, go_sem]) rfl ⟨((Below.refl _ _).alloc (Nat.le_refl _) _).alloc (by simp) _, .inl ⟨3, _, _, HH.out, ?_⟩⟩
                  rw [← extract_one h1, Int.natCast_add]
                  rfl
              · have hc := Lib.hid (show q[0] = 47 from byte_eq (d := 47) c3)
                have hd := Lib.hid (show q[1] = 42 from byte_eq (d := 42) d2)
                have HC0 := Lib.hid (ComTo.start q)
                go_wp2
                go_loop [14] (fun i => ∃ m : Nat, m ≤ q.size ∧ i = .int .i64 m ∧ ComTo q m) (fun i => q.size - (intOf i).toNat)
                case atStart => exact ⟨2, by omega, rfl, HC0.out⟩
                case round =>
                  obtain ⟨m, hm, rfl, hT⟩ := hrel
                  have hlo := hT.1
                  have HT := Lib.hid hT
                  clear hT HC0
                  by_cases hlt : m + 1 < q.size
                  · have im : (m : Int) + 1 < (q.size : Int) := by omega
                    have im2 : (m : Int) + 2 ≤ (q.size : Int) := by omega
                    cases e1 : ((q[m].toNat : Int) == 42)
                    · have HH := Lib.hid (HT.out.on hlt (fun h => NE.out 42 e1 h.1))
                      go_wp2
                      go_round
                      case rel => exact ⟨m + 1, by omega, by go_num, HH.out⟩
                      case measure => simp [intOf] <;> omega
                    · cases e2 : ((q[m + 1].toNat : Int) == 47)
                      · have HH := Lib.hid (HT.out.on hlt (fun h => NE.out 47 e2 h.2))
                        go_wp2
                        go_round
                        case rel => exact ⟨m + 1, by omega, by go_num, HH.out⟩
                        case measure => simp [intOf] <;> omega
                      · have HH := Lib.hid (tokC_some hx hc.out hd.out (HT.out.hit hlt (byte_eq (d := 42) e1) (byte_eq (d := 47) e2)))
                        go_wp2
                        refine bodyPost_ret (v := .tuple #[.agg #[.int .i64 4, .string (q.extract 0 (m + 2)), .int .i64 (L : Int)], .int .i64 ((k : Int) + m + 2)]) (by simp [results, Tryz.results18, go_sem]) rfl ⟨((Below.refl _ _).alloc (Nat.le_refl _) _).alloc (by simp) _, .inl ⟨4, _, _, HH.out, ?_⟩⟩
                        rw [show m - 2 + 4 = m + 2 by omega, extract_zero, Int.natCast_add, Int.natCast_add, ← Int.add_assoc]
                        rfl
                  · have HH := Lib.hid (tokC_none hx hc.out hd.out (HT.out.fin (by omega)))
                    go_wp2
                    exact bodyPost_ret (v := .tuple #[.agg #[.int .i64 0, .string ⟨#[]⟩, .int .i64 (L : Int)], .int .i64 (-1)]) (by simp [results, Tryz.results18, go_sem]) rfl ⟨((Below.refl _ _).alloc (Nat.le_refl _) _).alloc (by simp) _, .inr ⟨HH.out, _, rfl⟩⟩
            · have hc := Lib.hid (show q[0] = 47 from byte_eq (d := 47) c3)
              have hd := Lib.hid (show q[1] = 47 from byte_eq (d := 47) d1)
              have HR := Lib.hid (((RunTo.start (fun c : UInt8 => decide (c ≠ 10)) q).on h1 (by rw [hc.out]; rfl)).on hx (by rw [hd.out]; rfl))
              have HR0 := Lib.hid (RunTo.start (fun c : UInt8 => decide (c ≠ 10)) q)
              go_wp2
              go_loop [13] (fun n => ∃ m : Nat, m ≤ q.size ∧ n = .int .i64 m ∧ RunTo (fun c : UInt8 => decide (c ≠ 10)) q m) (fun n => q.size - (intOf n).toNat)
              case atStart => exact ⟨0, Nat.zero_le _, rfl, HR0.out⟩
              case round =>
                obtain ⟨m, hm, rfl, hT⟩ := hrel
                have HT := Lib.hid hT
                clear hT HR HR0
                by_cases hlt : m < q.size
                · have im : (m : Int) < (q.size : Int) := by omega
                  cases e1 : ((q[m].toNat : Int) == 10)
                  · have HH := Lib.hid (HT.out.on hlt (by simp [NE.out 10 e1]))
                    go_wp2
                    go_round
                    case rel => exact ⟨m + 1, by omega, by go_num, HH.out⟩
                    case measure => simp [intOf]; omega
                  · have HS := Lib.hid (HT.out.stop (.inr ⟨hlt, by rw [byte_eq (d := 10) e1]; rfl⟩))
                    have m2 : 2 ≤ m := by
                      rcases m with _ | _ | m
                      · have := byte_eq (d := 10) e1; rw [hc.out] at this; cases this
                      · have := byte_eq (d := 10) e1; rw [hd.out] at this; cases this
                      · omega
                    obtain ⟨n1, rfl⟩ : ∃ n1, m = n1 + 1 := ⟨m - 1, by omega⟩
                    have hn1 : n1 < q.size := by omega
                    have i9 : (n1 : Int) < (q.size : Int) := by omega
                    have i8 : (n1 : Int) + 1 ≤ (q.size : Int) := by omega
                    cases e5 : ((q[n1].toNat : Int) == 13)
                    · have HH := Lib.hid (tokL_nocr hx hc.out hd.out hn1 HS.out (NE.out 13 e5))
                      clear HS
                      go_wp2
                      refine bodyPost_ret (v := .tuple #[.agg #[.int .i64 4, .string (q.extract 0 (n1 + 1)), .int .i64 (L : Int)], .int .i64 ((k : Int) + ((n1 : Int) + 1))]) (by simp [results, Tryz.results18, go_sem]) rfl ⟨((Below.refl _ _).alloc (Nat.le_refl _) _).alloc (by simp) _, .inl ⟨4, _, _, HH.out, ?_⟩⟩
                      rw [extract_zero, Int.natCast_add, Int.natCast_add]
                      rfl
                    · have HH := Lib.hid (tokL_cr hx hc.out hd.out hn1 HS.out (byte_eq (d := 13) e5))
                      clear HS
                      go_wp2
                      refine bodyPost_ret (v := .tuple #[.agg #[.int .i64 4, .string (q.extract 0 n1), .int .i64 (L : Int)], .int .i64 ((k : Int) + ((n1 : Int) + 1))]) (by simp [results, Tryz.results18, go_sem]) rfl ⟨((Below.refl _ _).alloc (Nat.le_refl _) _).alloc (by simp) _, .inl ⟨4, _, _, HH.out, ?_⟩⟩
                      rw [extract_zero, Int.natCast_add, Int.natCast_add]
                      rfl
                · have HS := Lib.hid (HT.out.stop (.inl (by omega)))
                  have m2 : 2 ≤ m := by omega
                  obtain ⟨n1, rfl⟩ : ∃ n1, m = n1 + 1 := ⟨m - 1, by omega⟩
                  have hn1 : n1 < q.size := by omega
                  have i9 : (n1 : Int) < (q.size : Int) := by omega
                  have i8 : (n1 : Int) + 1 ≤ (q.size : Int) := by omega
                  cases e5 : ((q[n1].toNat : Int) == 13)
                  · have HH := Lib.hid (tokL_nocr hx hc.out hd.out hn1 HS.out (NE.out 13 e5))
                    clear HS
                    go_wp2
                    refine bodyPost_ret (v := .tuple #[.agg #[.int .i64 4, .string (q.extract 0 (n1 + 1)), .int .i64 (L : Int)], .int .i64 ((k : Int) + ((n1 : Int) + 1))]) (by simp [results, Tryz.results18, go_sem]) rfl ⟨((Below.refl _ _).alloc (Nat.le_refl _) _).alloc (by simp) _, .inl ⟨4, _, _, HH.out, ?_⟩⟩
                    rw [extract_zero, Int.natCast_add, Int.natCast_add]
                    rfl
                  · have HH := Lib.hid (tokL_cr hx hc.out hd.out hn1 HS.out (byte_eq (d := 13) e5))
                    clear HS
                    go_wp2
                    refine bodyPost_ret (v := .tuple #[.agg #[.int .i64 4, .string (q.extract 0 n1), .int .i64 (L : Int)], .int .i64 ((k : Int) + ((n1 : Int) + 1))]) (by simp [results, Tryz.results18, go_sem]) rfl ⟨((Below.refl _ _).alloc (Nat.le_refl _) _).alloc (by simp) _, .inl ⟨4, _, _, HH.out, ?_⟩⟩
                    rw [extract_zero, Int.natCast_add, Int.natCast_add]
                    rfl
          · have HH := Lib.hid (tokS_sign h1 HLet.out (NE.out 96 c1) (NE.out 34 c2) (.inr (.inl (by omega))))
            clear NE HLet
            go_wp2
            all_goals
              refine bodyPost_ret (v := .tuple #[.agg #[.int .i64 3, .string (q.extract 0 1), .int .i64 (L : Int)], .int .i64 ((k : Int) + 1)]) (by simp [results, Tryz.results18, go_sem]) rfl ⟨((Below.refl _ _).alloc (Nat.le_refl _) _).alloc (by simp) _, .inl ⟨3, _, _, HH.out, ?_⟩⟩
              rw [← extract_one h1, Int.natCast_add]
              rfl
      · have hc := Lib.hid (show q[0] = 34 from byte_eq (d := 34) c2)
        have HQ0 := Lib.hid (QuoTo.start q)
        go_wp2
        go_loop [10] (fun i => ∃ m : Nat, m ≤ q.size + 1 ∧ i = .int .i64 m ∧ QuoTo q m) (fun i => q.size + 2 - (intOf i).toNat)
        case atStart => exact ⟨1, by omega, rfl, HQ0.out⟩
        case round =>
          obtain ⟨m, hm, rfl, hT⟩ := hrel
          have hlo := hT.1
          have HT := Lib.hid hT
          clear hT HQ0
          by_cases hlt : m < q.size
          · have im : (m : Int) < (q.size : Int) := by omega
            cases e1 : ((q[m].toNat : Int) == 10)
            · cases e2 : ((q[m].toNat : Int) == 34)
              · cases e3 : ((q[m].toNat : Int) == 92)
                · have HH := Lib.hid (HT.out.on hlt (NE.out 10 e1) (NE.out 34 e2) (NE.out 92 e3))
                  go_wp2
                  go_round
                  case rel => exact ⟨m + 1, by omega, by go_num, HH.out⟩
                  case measure => simp [intOf] <;> omega
                · by_cases hn : m + 1 < q.size
                  · have in1 : (m : Int) + 1 < (q.size : Int) := by omega
                    cases e4 : ((q[m + 1].toNat : Int) == 10)
                    · have HH := Lib.hid (HT.out.back hn (byte_eq (d := 92) e3) (NE.out 10 e4))
                      go_wp2
                      go_round
                      case rel => exact ⟨m + 2, by omega, by go_num, HH.out⟩
                      case measure => simp [intOf] <;> omega
                    · have HH := Lib.hid (tokQ_none h1 hc.out (HT.out.backfeed hn (byte_eq (d := 92) e3) (byte_eq (d := 10) e4)))
                      go_wp2
                      exact bodyPost_ret (v := .tuple #[.agg #[.int .i64 0, .string ⟨#[]⟩, .int .i64 (L : Int)], .int .i64 (-1)]) (by simp [results, Tryz.results18, go_sem]) rfl ⟨((Below.refl _ _).alloc (Nat.le_refl _) _).alloc (by simp) _, .inr ⟨HH.out, _, rfl⟩⟩
                  · have HH := Lib.hid (HT.out.over (by omega) (byte_eq (d := 92) e3))
                    have hs1 : q.size = m + 1 := by omega
                    go_wp2
                    go_round
                    case rel => exact ⟨m + 2, by omega, by go_num, HH.out⟩
                    case measure => simp [intOf] <;> omega
              · have HQ1 := Lib.hid (HT.out.hit hlt (byte_eq (d := 34) e2))
                have hx : (q.extract 1 m).data.toList = (q.data.toList.drop 1).take (m - 1) := extract_mid q 1 m
                have im1 : (1 : Int) ≤ (m : Int) := by omega
                go_wp2_with fail
                refine (runq_any (q.extract 1 m) (by rw [ByteArray.size_extract]; omega) _).mono ?_
                rintro _ wu ⟨rfl, hbu⟩
                rw [hx]
                clear hx
                have gR := ((GBlk.new w 36 #[.int .i64 0, .string ⟨#[]⟩, .int .i64 0]).alloc (.cells #[.int .i64 0, .string ⟨#[]⟩, .int .i64 (L : Int)] 36)).below hbu
                have gT := (GBlk.new (w.alloc (.cells #[.int .i64 0, .string ⟨#[]⟩, .int .i64 0] 36)) 36 #[.int .i64 0, .string ⟨#[]⟩, .int .i64 (L : Int)]).below hbu
                simp only [World.size_alloc] at gT
                have HB := Lib.hid ((((Below.refl w.heap.size w).alloc (Nat.le_refl _) (.cells #[.int .i64 0, .string ⟨#[]⟩, .int .i64 0] 36)).alloc (by simp) (.cells #[.int .i64 0, .string ⟨#[]⟩, .int .i64 (L : Int)] 36)).trans (hbu.mono (by simp; omega)))
                have HgR := Lib.hid gR
                have HgT := Lib.hid gT
                have t0 : wu.cell? ⟨w.heap.size + 1, 0, none⟩ = some (.int .i64 0) := gT.cell 0
                have t1 : wu.cell? ⟨w.heap.size + 1, 1, none⟩ = some (.string ⟨#[]⟩) := gT.cell 1
                have t2 : wu.cell? ⟨w.heap.size + 1, 2, none⟩ = some (.int .i64 (L : Int)) := gT.cell 2
                have t3 := gT.frozen 0
                have t4 := gT.frozen 1
                have r0 : wu.cell? ⟨w.heap.size, 0, none⟩ = some (.int .i64 0) := gR.cell 0
                have r1 : wu.cell? ⟨w.heap.size, 1, none⟩ = some (.string ⟨#[]⟩) := gR.cell 1
                have r2 : wu.cell? ⟨w.heap.size, 2, none⟩ = some (.int .i64 0) := gR.cell 2
                have r3 := gR.frozen 0
                have r4 := gR.frozen 1
                have r5 := gR.frozen 2
                clear gR gT hbu
                cases hu : unqL ((q.data.toList.drop 1).take (m - 1)) with
                | none =>
                  have HH := Lib.hid (tokQ_no h1 hc.out HQ1.out hu)
                  rw [unqO_none hu]
                  clear hu
                  go_wp2
                  have gE := (((HgR.out).set 0 (.int .i64 0)).set 1 (.string ⟨#[]⟩)).set 2 (.int .i64 (L : Int))
                  have y0 : (((wu.setCell ⟨w.heap.size, 0, none⟩ (.int .i64 0)).setCell ⟨w.heap.size, 1, none⟩ (.string ⟨#[]⟩)).setCell ⟨w.heap.size, 2, none⟩ (.int .i64 (L : Int))).cell? ⟨w.heap.size, 0, none⟩ = some (.int .i64 0) := gE.cell 0
                  have y1 : (((wu.setCell ⟨w.heap.size, 0, none⟩ (.int .i64 0)).setCell ⟨w.heap.size, 1, none⟩ (.string ⟨#[]⟩)).setCell ⟨w.heap.size, 2, none⟩ (.int .i64 (L : Int))).cell? ⟨w.heap.size, 1, none⟩ = some (.string ⟨#[]⟩) := gE.cell 1
                  have y2 : (((wu.setCell ⟨w.heap.size, 0, none⟩ (.int .i64 0)).setCell ⟨w.heap.size, 1, none⟩ (.string ⟨#[]⟩)).setCell ⟨w.heap.size, 2, none⟩ (.int .i64 (L : Int))).cell? ⟨w.heap.size, 2, none⟩ = some (.int .i64 (L : Int)) := gE.cell 2
                  refine bodyPost_ret (v := .tuple #[.agg #[.int .i64 0, .string ⟨#[]⟩, .int .i64 (L : Int)], .int .i64 (-1)]) (by simp [results, Tryz.results18, go_sem, y0, y1, y2]) rfl ⟨below_set (below_set (below_set (HB.out) (Nat.le_refl _) _) (Nat.le_refl _) _) (Nat.le_refl _) _, .inr ⟨HH.out, _, rfl⟩⟩
                | some x =>
                  have HH := Lib.hid (tokQ_some h1 hc.out HQ1.out hu)
                  rw [unqO_some hu]
                  clear hu
                  go_wp2
                  have gE := ((((HgR.out.setOther (B' := w.heap.size + 1) (i := 0) (u := .int .i64 2) (by omega)).setOther (B' := w.heap.size + 1) (i := 1) (u := .string (mkB x)) (by omega)).set 0 (.int .i64 2)).set 1 (.string (mkB x))).set 2 (.int .i64 (L : Int))
                  have y0 : (((((wu.setCell ⟨w.heap.size + 1, 0, none⟩ (.int .i64 2)).setCell ⟨w.heap.size + 1, 1, none⟩ (.string (mkB x))).setCell ⟨w.heap.size, 0, none⟩ (.int .i64 2)).setCell ⟨w.heap.size, 1, none⟩ (.string (mkB x))).setCell ⟨w.heap.size, 2, none⟩ (.int .i64 (L : Int))).cell? ⟨w.heap.size, 0, none⟩ = some (.int .i64 2) := gE.cell 0
                  have y1 : (((((wu.setCell ⟨w.heap.size + 1, 0, none⟩ (.int .i64 2)).setCell ⟨w.heap.size + 1, 1, none⟩ (.string (mkB x))).setCell ⟨w.heap.size, 0, none⟩ (.int .i64 2)).setCell ⟨w.heap.size, 1, none⟩ (.string (mkB x))).setCell ⟨w.heap.size, 2, none⟩ (.int .i64 (L : Int))).cell? ⟨w.heap.size, 1, none⟩ = some (.string (mkB x)) := gE.cell 1
                  have y2 : (((((wu.setCell ⟨w.heap.size + 1, 0, none⟩ (.int .i64 2)).setCell ⟨w.heap.size + 1, 1, none⟩ (.string (mkB x))).setCell ⟨w.heap.size, 0, none⟩ (.int .i64 2)).setCell ⟨w.heap.size, 1, none⟩ (.string (mkB x))).setCell ⟨w.heap.size, 2, none⟩ (.int .i64 (L : Int))).cell? ⟨w.heap.size, 2, none⟩ = some (.int .i64 (L : Int)) := gE.cell 2
                  refine bodyPost_ret (v := .tuple #[.agg #[.int .i64 2, .string (mkB x), .int .i64 (L : Int)], .int .i64 ((k : Int) + m + 1)]) (by simp [results, Tryz.results18, go_sem, y0, y1, y2]) rfl ⟨below_set (below_set (below_set (below_set (below_set HB.out (by omega) _) (by omega) _) (Nat.le_refl _) _) (Nat.le_refl _) _) (Nat.le_refl _) _, .inl ⟨2, _, _, HH.out, ?_⟩⟩
                  rw [show m - 1 + 2 = m + 1 by omega, Int.natCast_add, Int.natCast_add, ← Int.add_assoc]
                  rfl
            · have HH := Lib.hid (tokQ_none h1 hc.out (HT.out.feed hlt (byte_eq (d := 10) e1)))
              go_wp2
              exact bodyPost_ret (v := .tuple #[.agg #[.int .i64 0, .string ⟨#[]⟩, .int .i64 (L : Int)], .int .i64 (-1)]) (by simp [results, Tryz.results18, go_sem]) rfl ⟨((Below.refl _ _).alloc (Nat.le_refl _) _).alloc (by simp) _, .inr ⟨HH.out, _, rfl⟩⟩
          · have HH := Lib.hid (tokQ_none h1 hc.out (HT.out.fin (by omega)))
            go_wp2
            exact bodyPost_ret (v := .tuple #[.agg #[.int .i64 0, .string ⟨#[]⟩, .int .i64 (L : Int)], .int .i64 (-1)]) (by simp [results, Tryz.results18, go_sem]) rfl ⟨((Below.refl _ _).alloc (Nat.le_refl _) _).alloc (by simp) _, .inr ⟨HH.out, _, rfl⟩⟩
    · have hc := Lib.hid (show q[0] = 96 from byte_eq (d := 96) c1)
      have HR := Lib.hid (RawTo.start (show 1 ≤ q.size from h1))
      go_wp2
      go_loopw [9] (fun i wr => ∃ (m : Nat) (acc : ByteArray), i = .int .i64 m ∧ GBlk wr w.heap.size 36 #[.int .i64 0, .string ⟨#[]⟩, .int .i64 0] ∧ GBlk wr (w.heap.size + 1) 36 #[.int .i64 0, .string acc, .int .i64 (L : Int)] ∧ Below w.heap.size w wr ∧ acc.size ≤ m ∧ RawTo q m acc) (fun i _ => q.size - (intOf i).toNat)
      case atStart => exact ⟨1, ⟨#[]⟩, rfl, (GBlk.new _ _ _).alloc _, by have := GBlk.new (w.alloc (.cells #[.int .i64 0, .string ⟨#[]⟩, .int .i64 0] 36)) 36 #[.int .i64 0, .string ⟨#[]⟩, .int .i64 (L : Int)]; simpa only [World.size_alloc] using this, ((Below.refl _ _).alloc (Nat.le_refl _) _).alloc (by simp) _, Nat.zero_le _, HR.out⟩
      case round =>
        obtain ⟨m, acc, rfl, gR, gT, hb, hacc, hR⟩ := hrel
        have hm := hR.hi
        have hlo := hR.lo
        have HRm := Lib.hid hR
        have HgR := Lib.hid gR
        have HgT := Lib.hid gT
        have HB := Lib.hid hb
        have t0 : wr.cell? ⟨w.heap.size + 1, 0, none⟩ = some (.int .i64 0) := gT.cell 0
        have t1 : wr.cell? ⟨w.heap.size + 1, 1, none⟩ = some (.string acc) := gT.cell 1
        have t2 : wr.cell? ⟨w.heap.size + 1, 2, none⟩ = some (.int .i64 (L : Int)) := gT.cell 2
        have t3 := gT.frozen 0
        have t4 := gT.frozen 1
        clear hR HR gR gT hb
        by_cases hlt : m < q.size
        · have im : (m : Int) + 1 ≤ (q.size : Int) := by omega
          cases e1 : ((q[m].toNat : Int) == 96)
          · cases e2 : ((q[m].toNat : Int) == 13)
            · have HH := Lib.hid (HRm.out.on hlt (NE.out 96 e1) (NE.out 13 e2))
              have ms : acc.size + (min (m + 1) q.size - m) = acc.size + 1 := by omega
              go_wp2
              go_region
              all_goals
                go_wp2
                refine ⟨⟨m + 1, acc ++ q.extract m (m + 1), by go_num, ?_, ?_, ?_, by rw [ByteArray.size_append, ByteArray.size_extract]; omega, HH.out⟩, by simp [intOf]; omega⟩
                · exact (HgR.out.setOther (B' := w.heap.size + 1) (by omega)).drew
                · exact (HgT.out.set 1 _).drew
                · exact (below_set HB.out (by omega) _).drew
            · have HH := Lib.hid (HRm.out.skip hlt (NE.out 96 e1) (byte_eq (d := 13) e2))
              go_wp2
              exact ⟨⟨m + 1, acc, by go_num, HgR.out, HgT.out, HB.out, by omega, HH.out⟩, by simp [intOf]; omega⟩
          · have HH := Lib.hid (HRm.out.hit hlt (byte_eq (d := 96) e1) h1 hc.out)
            have r0 : wr.cell? ⟨w.heap.size, 0, none⟩ = some (.int .i64 0) := HgR.out.cell 0
            have r1 : wr.cell? ⟨w.heap.size, 1, none⟩ = some (.string ⟨#[]⟩) := HgR.out.cell 1
            have r2 : wr.cell? ⟨w.heap.size, 2, none⟩ = some (.int .i64 0) := HgR.out.cell 2
            have r3 := HgR.out.frozen 0
            have r4 := HgR.out.frozen 1
            have r5 := HgR.out.frozen 2
            go_wp2
            have gE := (((HgR.out.setOther (B' := w.heap.size + 1) (i := 0) (u := .int .i64 2) (by omega)).set 0 (.int .i64 2)).set 1 (.string acc)).set 2 (.int .i64 (L : Int))
            have y0 : ((((wr.setCell ⟨w.heap.size + 1, 0, none⟩ (.int .i64 2)).setCell ⟨w.heap.size, 0, none⟩ (.int .i64 2)).setCell ⟨w.heap.size, 1, none⟩ (.string acc)).setCell ⟨w.heap.size, 2, none⟩ (.int .i64 (L : Int))).cell? ⟨w.heap.size, 0, none⟩ = some (.int .i64 2) := gE.cell 0
            have y1 : ((((wr.setCell ⟨w.heap.size + 1, 0, none⟩ (.int .i64 2)).setCell ⟨w.heap.size, 0, none⟩ (.int .i64 2)).setCell ⟨w.heap.size, 1, none⟩ (.string acc)).setCell ⟨w.heap.size, 2, none⟩ (.int .i64 (L : Int))).cell? ⟨w.heap.size, 1, none⟩ = some (.string acc) := gE.cell 1
            have y2 : ((((wr.setCell ⟨w.heap.size + 1, 0, none⟩ (.int .i64 2)).setCell ⟨w.heap.size, 0, none⟩ (.int .i64 2)).setCell ⟨w.heap.size, 1, none⟩ (.string acc)).setCell ⟨w.heap.size, 2, none⟩ (.int .i64 (L : Int))).cell? ⟨w.heap.size, 2, none⟩ = some (.int .i64 (L : Int)) := gE.cell 2
            refine bodyPost_ret (v := .tuple #[.agg #[.int .i64 2, .string acc, .int .i64 (L : Int)], .int .i64 ((k : Int) + m + 1)]) (by simp [results, Tryz.results18, go_sem, y0, y1, y2]) rfl ⟨below_set (below_set (below_set (below_set HB.out (by omega) _) (Nat.le_refl _) _) (Nat.le_refl _) _) (Nat.le_refl _) _, .inl ⟨2, _, _, HH.out, ?_⟩⟩
            rw [mkB_data, Int.natCast_add, Int.natCast_add, ← Int.add_assoc]
            rfl
        · have HH := Lib.hid (HRm.out.fin (by omega) h1 hc.out)
          have r0 : wr.cell? ⟨w.heap.size, 0, none⟩ = some (.int .i64 0) := HgR.out.cell 0
          have r1 : wr.cell? ⟨w.heap.size, 1, none⟩ = some (.string ⟨#[]⟩) := HgR.out.cell 1
          have r2 : wr.cell? ⟨w.heap.size, 2, none⟩ = some (.int .i64 0) := HgR.out.cell 2
          have r3 := HgR.out.frozen 0
          have r4 := HgR.out.frozen 1
          have r5 := HgR.out.frozen 2
          go_wp2
          have gE := (((HgR.out).set 0 (.int .i64 0)).set 1 (.string acc)).set 2 (.int .i64 (L : Int))
          have y0 : (((wr.setCell ⟨w.heap.size, 0, none⟩ (.int .i64 0)).setCell ⟨w.heap.size, 1, none⟩ (.string acc)).setCell ⟨w.heap.size, 2, none⟩ (.int .i64 (L : Int))).cell? ⟨w.heap.size, 0, none⟩ = some (.int .i64 0) := gE.cell 0
          have y1 : (((wr.setCell ⟨w.heap.size, 0, none⟩ (.int .i64 0)).setCell ⟨w.heap.size, 1, none⟩ (.string acc)).setCell ⟨w.heap.size, 2, none⟩ (.int .i64 (L : Int))).cell? ⟨w.heap.size, 1, none⟩ = some (.string acc) := gE.cell 1
          have y2 : (((wr.setCell ⟨w.heap.size, 0, none⟩ (.int .i64 0)).setCell ⟨w.heap.size, 1, none⟩ (.string acc)).setCell ⟨w.heap.size, 2, none⟩ (.int .i64 (L : Int))).cell? ⟨w.heap.size, 2, none⟩ = some (.int .i64 (L : Int)) := gE.cell 2
          refine bodyPost_ret (v := .tuple #[.agg #[.int .i64 0, .string acc, .int .i64 (L : Int)], .int .i64 (-1)]) (by simp [results, Tryz.results18, go_sem, y0, y1, y2]) rfl ⟨below_set (below_set (below_set (HB.out) (Nat.le_refl _) _) (Nat.le_refl _) _) (Nat.le_refl _) _, .inr ⟨HH.out, acc, rfl⟩⟩
  · have HT := Lib.hid (show tokL q.data.toList = some (1, q.data.toList.takeWhile nameB, (q.data.toList.takeWhile nameB).length) by rw [hh]; exact tok_name hlet)
    have HR := Lib.hid (RunTo.start nameB q)
    clear hh
    go_wp2_with fail
    refine (rlet_any _ _).mono ?_
    rintro _ w' ⟨rfl, rfl⟩
    rw [hlet]
    clear hlet
    go_wp2
    go_loop [8] (fun n => ∃ m : Nat, m ≤ q.size ∧ n = .int .i64 m ∧ RunTo nameB q m) (fun n => q.size - (intOf n).toNat)
    case atStart => exact ⟨0, Nat.zero_le _, rfl, HR.out⟩
    case round =>
      obtain ⟨m, hm, rfl, hR⟩ := hrel
      have HRm := Lib.hid hR
      clear hR HR
      by_cases hlt : m < q.size
      · have im : (m : Int) < (q.size : Int) := by omega
        have HOn := Lib.hid (fun h => HRm.out.on hlt h)
        have HEnd := Lib.hid (fun h => HRm.out.stop (.inr ⟨hlt, h⟩))
        cases e1 : letB q[m]
        · cases e2 : digB q[m]
          · have HH := Lib.hid (HEnd.out (by rw [nameB, e1, e2]; rfl))
            clear HOn HEnd
            go_wp2_with fail
            refine (rlet_any _ _).mono ?_
            rintro _ w' ⟨rfl, rfl⟩
            rw [e1]
            go_wp2_with fail
            refine (rdig_any _ _).mono ?_
            rintro _ w' ⟨rfl, rfl⟩
            rw [e2]
            clear e1 e2
            go_wp2
            refine bodyPost_ret (v := .tuple #[.agg #[.int .i64 1, .string (q.extract 0 m), .int .i64 (L : Int)], .int .i64 ((k : Int) + m)]) (by simp [results, Tryz.results18, go_sem]) rfl ⟨((Below.refl _ _).alloc (Nat.le_refl _) _).alloc (by simp) _, .inl ⟨1, _, _, HT.out, ?_⟩⟩
            rw [HH.out.2, HH.out.1, extract_zero, Int.natCast_add]
            rfl
          · have HH := Lib.hid (HOn.out (by rw [nameB, e1, e2]; rfl))
            clear HOn HEnd
            go_wp2_with fail
            refine (rlet_any _ _).mono ?_
            rintro _ w' ⟨rfl, rfl⟩
            rw [e1]
            go_wp2_with fail
            refine (rdig_any _ _).mono ?_
            rintro _ w' ⟨rfl, rfl⟩
            rw [e2]
            clear e1 e2
            go_wp2
            go_round
            case rel => exact ⟨m + 1, by omega, by go_num, HH.out⟩
            case measure => simp [intOf]; omega
        · have HH := Lib.hid (HOn.out (by rw [nameB, e1]; rfl))
          clear HOn HEnd
          go_wp2_with fail
          refine (rlet_any _ _).mono ?_
          rintro _ w' ⟨rfl, rfl⟩
          rw [e1]
          clear e1
          go_wp2
          go_round
          case rel => exact ⟨m + 1, by omega, by go_num, HH.out⟩
          case measure => simp [intOf]; omega
      · have HH := Lib.hid (HRm.out.stop (.inl (by omega)))
        go_wp2
        refine bodyPost_ret (v := .tuple #[.agg #[.int .i64 1, .string (q.extract 0 m), .int .i64 (L : Int)], .int .i64 ((k : Int) + m)]) (by simp [results, Tryz.results18, go_sem]) rfl ⟨((Below.refl _ _).alloc (Nat.le_refl _) _).alloc (by simp) _, .inl ⟨1, _, _, HT.out, ?_⟩⟩
        rw [HH.out.2, HH.out.1, extract_zero, Int.natCast_add]
        rfl
end Go.Proofs.YtinaeegijmkbhaaGreatDoor
