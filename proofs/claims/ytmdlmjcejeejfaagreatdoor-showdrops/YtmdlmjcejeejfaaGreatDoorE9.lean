/-
  What is large.
-/
import Derived.Test.YtmdlmjcejeejfaaGreatDoorE8
namespace Go.Proofs.YtmdlmjcejeejfaaGreatDoor
open Go.RowKit Go.Shelf

def reqS (x : ReqB) : Prop := x.1.1.size ≤ 200 ∧ x.1.2.size ≤ 200
def repS (x : RepB) : Prop := x.1.1.size ≤ 200 ∧ x.1.2.size ≤ 200 ∧ x.2.1.size ≤ 200 ∧ x.2.2.size ≤ 200
def excS (x : ModB) : Prop := x.1.size ≤ 200 ∧ x.2.size ≤ 200
def retS (x : RetB) : Prop := x.1.size ≤ 200 ∧ x.2.1.size ≤ 200 ∧ x.2.2.size ≤ 200
/-- The bound of the document. -/
structure Small (f : FileG) : Prop where
  mo : f.mo.size ≤ 200
  go : f.go.size ≤ 200
  nreqs : f.reqs.length ≤ 20
  nreps : f.reps.length ≤ 20
  nexcs : f.excs.length ≤ 20
  nrets : f.rets.length ≤ 20
  reqs : ∀ x ∈ f.reqs, reqS x
  reps : ∀ x ∈ f.reps, repS x
  excs : ∀ x ∈ f.excs, excS x
  rets : ∀ x ∈ f.rets, retS x
theorem Small.sized {f : FileG} (h : Small f) : Sized f :=
  ⟨Nat.le_trans h.mo (by decide), Nat.le_trans h.go (by decide), Nat.le_trans h.nreqs (by decide), Nat.le_trans h.nreps (by decide), Nat.le_trans h.nexcs (by decide), Nat.le_trans h.nrets (by decide),
    fun x hx => ⟨Nat.le_trans (h.reqs x hx).1 (by decide), Nat.le_trans (h.reqs x hx).2 (by decide)⟩,
    fun x hx => ⟨Nat.le_trans (h.reps x hx).1 (by decide), Nat.le_trans (h.reps x hx).2.1 (by decide), Nat.le_trans (h.reps x hx).2.2.1 (by decide), Nat.le_trans (h.reps x hx).2.2.2 (by decide)⟩,
    fun x hx => ⟨Nat.le_trans (h.excs x hx).1 (by decide), Nat.le_trans (h.excs x hx).2 (by decide)⟩,
    fun x hx => ⟨Nat.le_trans (h.rets x hx).1 (by decide), Nat.le_trans (h.rets x hx).2.1 (by decide), Nat.le_trans (h.rets x hx).2.2 (by decide)⟩⟩
def AllTo {α : Type} (p : α → Prop) (xs : List α) (k : Nat) : Prop := ∀ x ∈ xs.take k, p x
theorem AllTo.on {α : Type} {p : α → Prop} {xs : List α} {k : Nat} (h : AllTo p xs k) (hk : k < xs.length) (e : p xs[k]) : AllTo p xs (k + 1) := by
  intro x hx
  rw [List.take_succ_eq_append_getElem hk] at hx
  rcases List.mem_append.1 hx with hx | hx
  · exact h x hx
  · rw [List.mem_singleton.1 hx]; exact e
theorem AllTo.all {α : Type} {p : α → Prop} {xs : List α} (h : AllTo p xs xs.length) : ∀ x ∈ xs, p x := fun x hx => h x (by rw [List.take_length]; exact hx)
def LargeOut (f : FileG) (w : World) (e : Ending) (w' : World) : Prop := ∃ b, e = .returned (.bool b) ∧ (b = false → Small f) ∧ Below w.heap.size w w'
theorem large_yes {f : FileG} {w w' : World} (h : Below w.heap.size w w') : LargeOut f w (.returned (.bool true)) w' := ⟨true, rfl, (fun e => by cases e), h⟩

set_option maxRecDepth 100000 in
set_option maxHeartbeats 8000000 in
theorem large_file (f : FileG) (a b c d : Value) (w : World) (hF : FileAt w a b c d f) :
    Calls Tryz.prog 6 #[.agg #[.string f.mo, .string f.go, a, b, c, d]] w (LargeOut f w) := by
  obtain ⟨mo, go, reqs, reps, excs, rets⟩ := f
  obtain ⟨hr, hp, hx, ht⟩ := hF
  dsimp only at *
  obtain ⟨ra, rc, rfl⟩ := hr.form
  obtain ⟨pa, pc, rfl⟩ := hp.form
  obtain ⟨xa, xc, rfl⟩ := hx.form
  obtain ⟨ta, tc, rfl⟩ := ht.form
  have hb0 := (Below.refl w.heap.size w).alloc (Nat.le_refl _) (.cells #[.string mo, .string go, .slice ra reqs.length rc, .slice pa reps.length pc, .slice xa excs.length xc, .slice ta rets.length tc] 27)
  have HR := Lib.hid (hr.below hb0)
  have HP := Lib.hid (hp.below hb0)
  have HX := Lib.hid (hx.below hb0)
  have HT := Lib.hid (ht.below hb0)
  have HA := Lib.hid (GBlk.new w 27 #[.string mo, .string go, .slice ra reqs.length rc, .slice pa reps.length pc, .slice xa excs.length xc, .slice ta rets.length tc])
  clear hr hp hx ht
  by_cases t0 : 200 < mo.size
  · have t0' : (200 : Int) < (mo.size : Int) := by omega
    go_enter Tryz.func6, Tryz.ntmps6
    go_wp2
    go_ret
    exact large_yes hb0
  · have t0' : ¬ (200 : Int) < (mo.size : Int) := by omega
    by_cases t1 : 200 < go.size
    · have t1' : (200 : Int) < (go.size : Int) := by omega
      go_enter Tryz.func6, Tryz.ntmps6
      go_wp2
      go_ret
      exact large_yes hb0
    · have t1' : ¬ (200 : Int) < (go.size : Int) := by omega
      by_cases t2 : 20 < reqs.length
      · have t2' : (20 : Int) < (reqs.length : Int) := by omega
        go_enter Tryz.func6, Tryz.ntmps6
        go_wp2
        go_ret
        exact large_yes hb0
      · have t2' : ¬ (20 : Int) < (reqs.length : Int) := by omega
        by_cases t3 : 20 < reps.length
        · have t3' : (20 : Int) < (reps.length : Int) := by omega
          go_enter Tryz.func6, Tryz.ntmps6
          go_wp2
          go_ret
          exact large_yes hb0
        · have t3' : ¬ (20 : Int) < (reps.length : Int) := by omega
          by_cases t4 : 20 < excs.length
          · have t4' : (20 : Int) < (excs.length : Int) := by omega
            go_enter Tryz.func6, Tryz.ntmps6
            go_wp2
            go_ret
            exact large_yes hb0
          · have t4' : ¬ (20 : Int) < (excs.length : Int) := by omega
            by_cases t5 : 20 < rets.length
            · have t5' : (20 : Int) < (rets.length : Int) := by omega
              go_enter Tryz.func6, Tryz.ntmps6
              go_wp2
              go_ret
              exact large_yes hb0
            · have t5' : ¬ (20 : Int) < (rets.length : Int) := by omega
              go_enter Tryz.func6, Tryz.ntmps6
              go_wp2
              clear t0' t1' t2' t3' t4' t5'
              generalize w.alloc (.cells #[.string mo, .string go, .slice ra reqs.length rc, .slice pa reps.length pc, .slice xa excs.length xc, .slice ta rets.length tc] 27) = W at *
              go_loopw [3] (fun i wr => ∃ k : Nat, k ≤ reqs.length ∧ i = .int .i64 k ∧ AllTo reqS reqs k ∧ Below W.heap.size W wr) (fun i _ => reqs.length - (intOf i).toNat)
              case atStart => exact ⟨0, Nat.zero_le _, rfl, fun x hx => by simp at hx, (Below.refl _ _)⟩
              case round =>
                obtain ⟨k, hk, rfl, hall, hBw⟩ := hrel
                have HQ := Lib.hid hall
                clear hall
                have u0 : wr.cell? ⟨w.heap.size, 2, none⟩ = some (.slice ra reqs.length rc) := (HA.out.below hBw).cell 2
                by_cases hlt : k < reqs.length
                · obtain ⟨-, hcap, hsp⟩ := (HR.out.below hBw).spot
                  obtain ⟨g, o, rfl, hg, hat⟩ := hsp (ne_of_lt hlt)
                  obtain ⟨q1, q2, q3⟩ := req_at hat k hlt
                  have HO := Lib.hid (fun (h : reqS (reqs[k]'hlt)) => HQ.out.on hlt h)
                  clear hat hsp
                  unfold reqS at HO
                  generalize reqs[k] = x at *
                  obtain ⟨⟨p, v⟩, bb⟩ := x
                  dsimp only at q1 q2 q3 HO
                  by_cases y0 : 200 < p.size
                  · have y0' : (200 : Int) < (p.size : Int) := by omega
                    go_wp2
                    go_ret
                    exact large_yes (hb0.trans (hBw.mono hb0.size))
                  · have y0' : ¬ (200 : Int) < (p.size : Int) := by omega
                    by_cases y1 : 200 < v.size
                    · have y1' : (200 : Int) < (v.size : Int) := by omega
                      go_wp2
                      go_ret
                      exact large_yes (hb0.trans (hBw.mono hb0.size))
                    · have y1' : ¬ (200 : Int) < (v.size : Int) := by omega
                      have HE := Lib.hid (HO.out ⟨by omega, by omega⟩)
                      go_wp2
                      go_roundw
                      case rel => exact ⟨k + 1, by omega, by go_num, HE.out, hBw⟩
                      case measure => simp [intOf]; omega
                · obtain rfl : k = reqs.length := by omega
                  have A0 := Lib.hid HQ.out.all
                  clear HQ
                  go_wp2
                  clear u0
                  obtain ⟨v0, hv0⟩ : ∃ v, v = wr := ⟨_, rfl⟩
                  subst hv0
                  go_loopw [4] (fun i wr => ∃ k : Nat, k ≤ reps.length ∧ i = .int .i64 k ∧ AllTo repS reps k ∧ Below W.heap.size W wr) (fun i _ => reps.length - (intOf i).toNat)
                  case atStart => exact ⟨0, Nat.zero_le _, rfl, fun x hx => by simp at hx, hBw⟩
                  case round =>
                    clear hBw
                    obtain ⟨k, hk, rfl, hall, hBw⟩ := hrel
                    have HQ := Lib.hid hall
                    clear hall
                    have u0 : wr.cell? ⟨w.heap.size, 3, none⟩ = some (.slice pa reps.length pc) := (HA.out.below hBw).cell 3
                    by_cases hlt : k < reps.length
                    · obtain ⟨-, hcap, hsp⟩ := (HP.out.below hBw).spot
                      obtain ⟨g, o, rfl, hg, hat⟩ := hsp (ne_of_lt hlt)
                      obtain ⟨q1, q2, q3, q4⟩ := rep_at hat k hlt
                      have HO := Lib.hid (fun (h : repS (reps[k]'hlt)) => HQ.out.on hlt h)
                      clear hat hsp
                      unfold repS at HO
                      generalize reps[k] = x at *
                      obtain ⟨⟨p, v⟩, p2, v2⟩ := x
                      dsimp only at q1 q2 q3 q4 HO
                      have X := GBlk.new wr 56 #[.string p, .string v, .string p2, .string v2]
                      have d0 : (wr.alloc (.cells #[.string p, .string v, .string p2, .string v2] 56)).cell? ⟨wr.heap.size, 0, none⟩ = some (.string p) := X.cell 0
                      have d1 : (wr.alloc (.cells #[.string p, .string v, .string p2, .string v2] 56)).cell? ⟨wr.heap.size, 1, none⟩ = some (.string v) := X.cell 1
                      have d2 : (wr.alloc (.cells #[.string p, .string v, .string p2, .string v2] 56)).cell? ⟨wr.heap.size, 2, none⟩ = some (.string p2) := X.cell 2
                      have d3 : (wr.alloc (.cells #[.string p, .string v, .string p2, .string v2] 56)).cell? ⟨wr.heap.size, 3, none⟩ = some (.string v2) := X.cell 3
                      by_cases y0 : 200 < p.size
                      · have y0' : (200 : Int) < (p.size : Int) := by omega
                        go_wp2
                        go_ret
                        exact large_yes (hb0.trans ((hBw.alloc hBw.size _).mono hb0.size))
                      · have y0' : ¬ (200 : Int) < (p.size : Int) := by omega
                        by_cases y1 : 200 < v.size
                        · have y1' : (200 : Int) < (v.size : Int) := by omega
                          go_wp2
                          go_ret
                          exact large_yes (hb0.trans ((hBw.alloc hBw.size _).mono hb0.size))
                        · have y1' : ¬ (200 : Int) < (v.size : Int) := by omega
                          by_cases y2 : 200 < p2.size
                          · have y2' : (200 : Int) < (p2.size : Int) := by omega
                            go_wp2
                            go_ret
                            exact large_yes (hb0.trans ((hBw.alloc hBw.size _).mono hb0.size))
                          · have y2' : ¬ (200 : Int) < (p2.size : Int) := by omega
                            by_cases y3 : 200 < v2.size
                            · have y3' : (200 : Int) < (v2.size : Int) := by omega
                              go_wp2
                              go_ret
                              exact large_yes (hb0.trans ((hBw.alloc hBw.size _).mono hb0.size))
                            · have y3' : ¬ (200 : Int) < (v2.size : Int) := by omega
                              have HE := Lib.hid (HO.out ⟨by omega, by omega, by omega, by omega⟩)
                              go_wp2
                              go_roundw
                              case rel => exact ⟨k + 1, by omega, by go_num, HE.out, (hBw.alloc hBw.size _)⟩
                              case measure => simp [intOf]; omega
                    · obtain rfl : k = reps.length := by omega
                      have A1 := Lib.hid HQ.out.all
                      clear HQ
                      go_wp2
                      clear u0
                      obtain ⟨v1, hv1⟩ : ∃ v, v = wr := ⟨_, rfl⟩
                      subst hv1
                      go_loopw [6] (fun i wr => ∃ k : Nat, k ≤ excs.length ∧ i = .int .i64 k ∧ AllTo excS excs k ∧ Below W.heap.size W wr) (fun i _ => excs.length - (intOf i).toNat)
                      case atStart => exact ⟨0, Nat.zero_le _, rfl, fun x hx => by simp at hx, hBw⟩
                      case round =>
                        clear hBw
                        obtain ⟨k, hk, rfl, hall, hBw⟩ := hrel
                        have HQ := Lib.hid hall
                        clear hall
                        have u0 : wr.cell? ⟨w.heap.size, 4, none⟩ = some (.slice xa excs.length xc) := (HA.out.below hBw).cell 4
                        by_cases hlt : k < excs.length
                        · obtain ⟨-, hcap, hsp⟩ := (HX.out.below hBw).spot
                          obtain ⟨g, o, rfl, hg, hat⟩ := hsp (ne_of_lt hlt)
                          obtain ⟨q1, q2⟩ := mod_at hat k hlt
                          have HO := Lib.hid (fun (h : excS (excs[k]'hlt)) => HQ.out.on hlt h)
                          clear hat hsp
                          unfold excS at HO
                          generalize excs[k] = x at *
                          obtain ⟨p, v⟩ := x
                          dsimp only at q1 q2 HO
                          by_cases y0 : 200 < p.size
                          · have y0' : (200 : Int) < (p.size : Int) := by omega
                            go_wp2
                            go_ret
                            exact large_yes (hb0.trans (hBw.mono hb0.size))
                          · have y0' : ¬ (200 : Int) < (p.size : Int) := by omega
                            by_cases y1 : 200 < v.size
                            · have y1' : (200 : Int) < (v.size : Int) := by omega
                              go_wp2
                              go_ret
                              exact large_yes (hb0.trans (hBw.mono hb0.size))
                            · have y1' : ¬ (200 : Int) < (v.size : Int) := by omega
                              have HE := Lib.hid (HO.out ⟨by omega, by omega⟩)
                              go_wp2
                              go_roundw
                              case rel => exact ⟨k + 1, by omega, by go_num, HE.out, hBw⟩
                              case measure => simp [intOf]; omega
                        · obtain rfl : k = excs.length := by omega
                          have A2 := Lib.hid HQ.out.all
                          clear HQ
                          go_wp2
                          clear u0
                          obtain ⟨v2, hv2⟩ : ∃ v, v = wr := ⟨_, rfl⟩
                          subst hv2
                          go_loopw [7] (fun i wr => ∃ k : Nat, k ≤ rets.length ∧ i = .int .i64 k ∧ AllTo retS rets k ∧ Below W.heap.size W wr) (fun i _ => rets.length - (intOf i).toNat)
                          case atStart => exact ⟨0, Nat.zero_le _, rfl, fun x hx => by simp at hx, hBw⟩
                          case round =>
                            clear hBw
                            obtain ⟨k, hk, rfl, hall, hBw⟩ := hrel
                            have HQ := Lib.hid hall
                            clear hall
                            have u0 : wr.cell? ⟨w.heap.size, 5, none⟩ = some (.slice ta rets.length tc) := (HA.out.below hBw).cell 5
                            by_cases hlt : k < rets.length
                            · obtain ⟨-, hcap, hsp⟩ := (HT.out.below hBw).spot
                              obtain ⟨g, o, rfl, hg, hat⟩ := hsp (ne_of_lt hlt)
                              obtain ⟨q1, q2, q3⟩ := ret_at hat k hlt
                              have HO := Lib.hid (fun (h : retS (rets[k]'hlt)) => HQ.out.on hlt h)
                              clear hat hsp
                              unfold retS at HO
                              generalize rets[k] = x at *
                              obtain ⟨p, v, y⟩ := x
                              dsimp only at q1 q2 q3 HO
                              by_cases y0 : 200 < p.size
                              · have y0' : (200 : Int) < (p.size : Int) := by omega
                                go_wp2
                                go_ret
                                exact large_yes (hb0.trans (hBw.mono hb0.size))
                              · have y0' : ¬ (200 : Int) < (p.size : Int) := by omega
                                by_cases y1 : 200 < v.size
                                · have y1' : (200 : Int) < (v.size : Int) := by omega
                                  go_wp2
                                  go_ret
                                  exact large_yes (hb0.trans (hBw.mono hb0.size))
                                · have y1' : ¬ (200 : Int) < (v.size : Int) := by omega
                                  by_cases y2 : 200 < y.size
                                  · have y2' : (200 : Int) < (y.size : Int) := by omega
                                    go_wp2
                                    go_ret
                                    exact large_yes (hb0.trans (hBw.mono hb0.size))
                                  · have y2' : ¬ (200 : Int) < (y.size : Int) := by omega
                                    have HE := Lib.hid (HO.out ⟨by omega, by omega, by omega⟩)
                                    go_wp2
                                    go_roundw
                                    case rel => exact ⟨k + 1, by omega, by go_num, HE.out, hBw⟩
                                    case measure => simp [intOf]; omega
                            · obtain rfl : k = rets.length := by omega
                              have A3 := Lib.hid HQ.out.all
                              clear HQ
                              go_wp2
                              clear u0
                              obtain ⟨v3, hv3⟩ : ∃ v, v = wr := ⟨_, rfl⟩
                              subst hv3
                              go_ret
                              exact ⟨false, rfl, fun _ => ⟨by dsimp only; omega, by dsimp only; omega, by dsimp only; omega, by dsimp only; omega, by dsimp only; omega, by dsimp only; omega, A0.out, A1.out, A2.out, A3.out⟩, hb0.trans (hBw.mono hb0.size)⟩
end Go.Proofs.YtmdlmjcejeejfaaGreatDoor
