/-
  What stands in the place of a module: the first replace of just it, or of each version.
-/
import Derived.Test.YtcbpkbemnaondaaGreatDoorQ1
namespace Go.Proofs.YtcbpkbemnaondaaGreatDoor
open Go.RowKit Go.Shelf
theorem below_set {B b i : Nat} {w w' : World} {u : Value} (h : Below B w w') (hb : B ≤ b) : Below B w (w'.setCell ⟨b, i, none⟩ u) := h.setCell hb ..
/-- A list's first that is so, found by its place. -/
theorem idxL_find {α : Type} (p : α → Bool) : ∀ xs : List α, (idxL p xs = -1 ∧ xs.find? p = none) ∨ ∃ (k : Nat) (h : k < xs.length), idxL p xs = k ∧ xs.find? p = some xs[k]
  | [] => .inl ⟨rfl, rfl⟩
  | x :: xs => by
    cases e : p x
    · rcases idxL_find p xs with ⟨h1, h2⟩ | ⟨k, hk, h1, h2⟩
      · refine .inl ⟨?_, by rw [List.find?_cons, e]; exact h2⟩
        have := idxL_none p (x :: xs)
        apply this
        intro j hj
        rcases j with _ | j
        · exact e
        · have hj' : j < xs.length := by simpa using hj
          have h3 := List.find?_eq_none.1 h2 xs[j] (List.getElem_mem hj')
          simpa using h3
      · refine .inr ⟨k + 1, by simpa using hk, ?_, by rw [List.find?_cons, e]; exact h2⟩
        have h4 := List.find?_eq_some_iff_getElem.1 h2
        obtain ⟨h5, i, hi, h6, h7⟩ := h4
        have hik : idxL p xs = i := idxL_hit p xs i hi (fun j hj hji => by simpa using h7 j hji) (by rw [h6]; exact h5)
        have : i = k := by omega
        subst this
        exact idxL_hit p (x :: xs) (i + 1) (by simpa using hk) (fun j hj hji => by
          rcases j with _ | j
          · exact e
          · simpa using h7 j (by omega)) h5
    · exact .inr ⟨0, by simp, idxL_hit p (x :: xs) 0 (by simp) (fun j hj h => absurd h (Nat.not_lt_zero _)) e, by rw [List.find?_cons, e]; rfl⟩
/-- What stands in the place of m. -/
def replL (xs : List RepB) (m : ModB) : ModB × Bool :=
  match xs.find? (fun a => sameM a.1 m) with
  | some x => (x.2, true)
  | none => match xs.find? (fun a => sameM a.1 (m.1, ⟨#[]⟩)) with
    | some x => (x.2, true)
    | none => (m, false)
set_option maxRecDepth 100000 in
set_option maxHeartbeats 1000000 in
theorem old_any (p v p2 v2 : ByteArray) (B : Nat) (m : ModB) (w : World) (hB : B < w.heap.size) (hc : w.cell? ⟨B, 0, none⟩ = some (.string m.1)) (hc1 : w.cell? ⟨B, 1, none⟩ = some (.string m.2)) :
    Calls Tryz.prog 69 #[.agg #[.string p, .string v, .string p2, .string v2], .pointer (some ⟨B, 0, none⟩)] w fun e w' => e = .returned (.bool (sameM (p, v) m)) ∧ Below w.heap.size w w' := by
  obtain ⟨m1, m2⟩ := m
  have hb0 := (Below.refl w.heap.size w).alloc (Nat.le_refl _) (.cells #[.string p, .string v, .string p2, .string v2] 71)
  have hc' := (hb0.cell (p := ⟨B, 0, none⟩) hB).trans hc
  have hc1' := (hb0.cell (p := ⟨B, 1, none⟩) hB).trans hc1
  unfold sameM
  dsimp only at hc' hc1' ⊢
  cases e1 : (p.toList == m1.toList) <;> cases e2 : (v.toList == m2.toList)
  all_goals
    go_enter Tryz.func69, Tryz.ntmps69
    go_wp2
    go_ret
    exact ⟨rfl, hb0⟩
set_option maxRecDepth 100000 in
set_option maxHeartbeats 1000000 in
theorem idxOld_any (v : Value) (xs : List RepB) (B : Nat) (m : ModB) (w : World) (hv : RRow repR w v xs) (hx : xs.length ≤ 1000) (hB : B < w.heap.size) (hc : w.cell? ⟨B, 0, none⟩ = some (.string m.1)) (hc1 : w.cell? ⟨B, 1, none⟩ = some (.string m.2)) :
    Calls Tryz.prog 68 #[v, .func (.func 69) #[] #[.pointer (some ⟨B, 0, none⟩)]] w fun e w' => e = .returned (.int .i64 (idxL (fun a => sameM a.1 m) xs)) ∧ Below w.heap.size w w' := by
  have HV := Lib.hid hv
  have he := enters_of Tryz.func69 (by kernel_rfl) rfl
  have HC := Lib.hid hc
  have HC1 := Lib.hid hc1
  have HB := Lib.hid hB
  obtain ⟨a, c, rfl, -⟩ := hv
  clear hc hB hc1
  go_enter Tryz.func68, Tryz.ntmps68
  go_wp2
  go_loopw [8] (fun i wr => ∃ k : Nat, k ≤ xs.length ∧ i = .int .i64 k ∧ NoneTo (fun a => sameM a.1 m) xs k ∧ Below w.heap.size w wr) (fun i _ => xs.length - (intOf i).toNat)
  case atStart => exact ⟨0, Nat.zero_le _, rfl, NoneTo.start _ _, Below.refl _ _⟩
  case round =>
    obtain ⟨k, hk, rfl, hn, hBw⟩ := hrel
    have HN := Lib.hid hn
    clear hn
    by_cases hlt : k < xs.length
    · obtain ⟨a', c', e, hcap, hr⟩ := HV.out.below hBw
      injection e with e1 e2 e3
      subst e1 e3
      obtain ⟨g, o, rfl, hg, hat⟩ := hr (by intro e; rw [e] at hlt; simp at hlt)
      obtain ⟨q1, q2, q3, q4⟩ := rep_at hat k hlt
      have HH := Lib.hid (fun e => HN.out.hit hlt e)
      have HO := Lib.hid (fun e => HN.out.on hlt e)
      clear hat hr
      generalize xs[k] = x at *
      obtain ⟨⟨p, u⟩, p2, u2⟩ := x
      dsimp only at q1 q2 q3 q4 HH HO
      go_wp2_with fail
      refine (old_any p u p2 u2 B m _ (Nat.lt_of_lt_of_le HB.out hBw.size) ((hBw.cell (p := ⟨B, 0, none⟩) HB.out).trans HC.out) ((hBw.cell (p := ⟨B, 1, none⟩) HB.out).trans HC1.out)).mono ?_
      rintro _ w' ⟨rfl, hb'⟩
      replace hBw := hBw.trans (hb'.mono hBw.size)
      cases e : sameM (p, u) m
      · have HE := Lib.hid (HO.out e)
        go_wp2
        go_roundw
        case rel => exact ⟨k + 1, by omega, by go_num, HE.out, hBw⟩
        case measure => simp [intOf]; omega
      · have HE := Lib.hid (HH.out e)
        go_wp2
        go_ret
        exact ⟨ret_int HE.out.symm, hBw⟩
    · have HE := Lib.hid (HN.out.done (by omega))
      go_wp2
      go_ret
      exact ⟨ret_int HE.out.symm, hBw⟩
set_option maxRecDepth 100000 in
set_option maxHeartbeats 1000000 in
theorem of_any (V : Value) (xs : List RepB) (B : Nat) (p v : ByteArray) (w : World) (hv : RRow repR w V xs) (hx : xs.length ≤ 1000) (hB : B < w.heap.size) (hc : w.cell? ⟨B, 3, none⟩ = some V) :
    Calls Tryz.prog 67 #[.agg #[.string p, .string v], .pointer (some ⟨B, 0, none⟩)] w fun e w' => e = .returned (.int .i64 (idxL (fun a => sameM a.1 (p, v)) xs)) ∧ Below w.heap.size w w' := by
  have hb0 := (Below.refl w.heap.size w).alloc (Nat.le_refl _) (.cells #[.string p, .string v] 24)
  have hc' := (hb0.cell (p := ⟨B, 3, none⟩) hB).trans hc
  have g0 := GBlk.new w 24 #[.string p, .string v]
  have HX := Lib.hid (idxOld_any V xs w.heap.size (p, v) _ (hv.below hb0) hx g0.lt (g0.cell 0) (g0.cell 1))
  obtain ⟨a, c, rfl, -⟩ := hv
  clear hc g0
  go_enter Tryz.func67, Tryz.ntmps67
  go_wp2_with fail
  refine HX.out.mono ?_
  rintro _ w1 ⟨rfl, hb1⟩
  go_wp2
  go_ret
  exact ⟨rfl, hb0.trans (hb1.mono hb0.size)⟩
def ReplOut (xs : List RepB) (m : ModB) (w : World) (e : Ending) (w' : World) : Prop :=
  ∃ r b, replL xs m = (r, b) ∧ e = .returned (.tuple #[.agg #[.string r.1, .string r.2], .bool b]) ∧ Below w.heap.size w w'
theorem sameM_self (m : ModB) : sameM m m = true := by simp [sameM]
theorem replL_some {xs : List RepB} {m : ModB} {x : RepB} (h : xs.find? (fun a => sameM a.1 m) = some x) : replL xs m = (x.2, true) := by unfold replL; rw [h]
theorem replL_path {xs : List RepB} {m : ModB} {x : RepB} (h0 : xs.find? (fun a => sameM a.1 m) = none) (h : xs.find? (fun a => sameM a.1 (m.1, ⟨#[]⟩)) = some x) : replL xs m = (x.2, true) := by unfold replL; rw [h0]; dsimp only; rw [h]
theorem replL_none {xs : List RepB} {m : ModB} (h0 : xs.find? (fun a => sameM a.1 m) = none) (h : xs.find? (fun a => sameM a.1 (m.1, ⟨#[]⟩)) = none) : replL xs m = (m, false) := by unfold replL; rw [h0]; dsimp only; rw [h]
def zeroM : Array Value := #[.string ⟨#[]⟩, .string ⟨#[]⟩]
set_option maxRecDepth 100000 in
set_option maxHeartbeats 4000000 in
theorem replaced_any (f0 f1 : ByteArray) (a b c d : Value) (xs : List RepB) (p v : ByteArray) (w : World) (hv : RRow repR w b xs) (hx : xs.length ≤ 1000) :
    Calls Tryz.prog 39 #[.agg #[.string f0, .string f1, a, b, c, d], .agg #[.string p, .string v]] w (ReplOut xs (p, v) w) := by
  have hb0 := (Below.refl w.heap.size w).alloc (Nat.le_refl _) (.cells #[.string f0, .string f1, a, b, c, d] 49)
  have hb1 := hb0.alloc (by simp) (.cells #[.string p, .string v] 24)
  have hb2 := hb1.alloc (by simp; omega) (.cells zeroM 24)
  have hs1 : (w.alloc (.cells #[.string f0, .string f1, a, b, c, d] 49)).heap.size = w.heap.size + 1 := by simp
  have hs2 : ((w.alloc (.cells #[.string f0, .string f1, a, b, c, d] 49)).alloc (.cells #[.string p, .string v] 24)).heap.size = w.heap.size + 2 := by simp
  have g0 := ((GBlk.new w 49 #[.string f0, .string f1, a, b, c, d]).alloc (.cells #[.string p, .string v] 24)).alloc (.cells zeroM 24)
  have g1 := (GBlk.new (w.alloc (.cells #[.string f0, .string f1, a, b, c, d] 49)) 24 #[.string p, .string v]).alloc (.cells zeroM 24)
  have g2 := GBlk.new ((w.alloc (.cells #[.string f0, .string f1, a, b, c, d] 49)).alloc (.cells #[.string p, .string v] 24)) 24 zeroM
  rw [hs1] at g1
  rw [hs2] at g2
  have he := enters_of Tryz.func67 (by kernel_rfl) rfl
  have HV := Lib.hid (hv.below hb2)
  have HF1 := Lib.hid (idxL_find (fun x : RepB => sameM x.1 (p, v)) xs)
  have HF2 := Lib.hid (idxL_find (fun x : RepB => sameM x.1 (p, ⟨#[]⟩)) xs)
  clear hv
  unfold zeroM at *
  go_enter Tryz.func39, Tryz.ntmps39
  go_wp2_with fail
  generalize ((w.alloc (.cells #[.string f0, .string f1, a, b, c, d] 49)).alloc (.cells #[.string p, .string v] 24)).alloc (.cells #[.string ⟨#[]⟩, .string ⟨#[]⟩] 24) = W at *
  have HB2 := Lib.hid hb2
  have HG0 := Lib.hid g0
  have HG1 := Lib.hid g1
  have HG2 := Lib.hid g2
  clear hb0 hb1 hb2 g0 g1 g2
  refine (of_any b xs w.heap.size p v W HV.out hx HG0.out.lt (HG0.out.cell 3)).mono ?_
  rintro _ w1 ⟨rfl, hb1⟩
  have HV1 := Lib.hid (HV.out.below hb1)
  have G0 := HG0.out.below hb1
  have G1 := HG1.out.below hb1
  have G2 := HG2.out.below hb1
  have HB1 := Lib.hid (HB2.out.trans (hb1.mono HB2.out.size))
  clear hb1 HB2 HG0 HG1 HG2 HV
  rcases HF1.out with ⟨e1, n1⟩ | ⟨k, hk, e1, n1⟩
  · have HN1 := Lib.hid n1
    clear n1 HF1
    rw [e1]
    have k0 := G1.cell 0
    simp only [List.getElem?_toArray, List.getElem?_cons_zero] at k0
    go_wp2_with fail
    refine (of_any b xs w.heap.size p ⟨#[]⟩ w1 HV1.out hx G0.lt (G0.cell 3)).mono ?_
    rintro _ w2 ⟨rfl, hb2⟩
    have HV2 := Lib.hid (HV1.out.below hb2)
    replace G0 := G0.below hb2
    replace G1 := G1.below hb2
    replace G2 := G2.below hb2
    have HB2 := Lib.hid (HB1.out.trans (hb2.mono HB1.out.size))
    clear hb2 HB1 HV1
    rcases HF2.out with ⟨e2, n2⟩ | ⟨k, hk, e2, n2⟩
    · have HRR := Lib.hid (replL_none HN1.out n2)
      clear n2 HF2
      rw [e2]
      have hb := HB2.out
      have z0 := G2.cell 0
      have z1 := G2.cell 1
      have k0 := G1.cell 0
      have k1 := G1.cell 1
      simp only [List.getElem?_toArray, List.getElem?_cons_succ, List.getElem?_cons_zero] at z0 z1 k0 k1
      have f0 := G2.frozen 0
      have f1 := G2.frozen 1
      have HR := Lib.hid ((G2.set 0 (.string p)).set 1 (.string v))
      have HE := Lib.hid (below_set (below_set hb (show w.heap.size ≤ w.heap.size + 2 by omega) (i := 0) (u := .string p)) (show w.heap.size ≤ w.heap.size + 2 by omega) (i := 1) (u := .string v))
      clear G0 G1 G2 hb HB2 HV2
      go_wp2
      have y0 := HR.out.cell 0
      have y1 := HR.out.cell 1
      simp at y0 y1
      exact bodyPost_ret (v := .tuple #[.agg #[.string p, .string v], .bool false]) (by simp [results, Tryz.results39, go_sem, y0, y1]) rfl ⟨(p, v), false, HRR.out, rfl, HE.out⟩
    · have HRR := Lib.hid (replL_path HN1.out n2)
      clear n2 HF2
      rw [e2]
      have hb := HB2.out
      obtain ⟨a', c', e, hcap, hr⟩ := HV2.out
      subst e
      obtain ⟨g, o, rfl, hg, hat⟩ := hr (by intro e; rw [e] at hk; simp at hk)
      obtain ⟨q1, q2, q3, q4⟩ := rep_at hat k hk
      clear hat hr
      generalize xs[k] = x at *
      obtain ⟨⟨x1, x2⟩, x3, x4⟩ := x
      dsimp only at q1 q2 q3 q4
      have hkl : (k : Int) < (xs.length : Int) := by omega
      have z0 := G2.cell 0
      have z1 := G2.cell 1
      have k3 := G0.cell 3
      simp only [List.getElem?_toArray, List.getElem?_cons_succ, List.getElem?_cons_zero] at z0 z1 k3
      have f0 := G2.frozen 0
      have f1 := G2.frozen 1
      have HR := Lib.hid ((G2.set 0 (.string x3)).set 1 (.string x4))
      have HE := Lib.hid (below_set (below_set hb (show w.heap.size ≤ w.heap.size + 2 by omega) (i := 0) (u := .string x3)) (show w.heap.size ≤ w.heap.size + 2 by omega) (i := 1) (u := .string x4))
      clear G0 G1 G2 hb HB2 HV2
      go_wp2
      have y0 := HR.out.cell 0
      have y1 := HR.out.cell 1
      simp at y0 y1
      exact bodyPost_ret (v := .tuple #[.agg #[.string x3, .string x4], .bool true]) (by simp [results, Tryz.results39, go_sem, y0, y1]) rfl ⟨(x3, x4), true, HRR.out, rfl, HE.out⟩
  · have HRR := Lib.hid (replL_some n1)
    clear n1 HF1 HF2
    rw [e1]
    have hb := HB1.out
    obtain ⟨a', c', e, hcap, hr⟩ := HV1.out
    subst e
    obtain ⟨g, o, rfl, hg, hat⟩ := hr (by intro e; rw [e] at hk; simp at hk)
    obtain ⟨q1, q2, q3, q4⟩ := rep_at hat k hk
    clear hat hr
    generalize xs[k] = x at *
    obtain ⟨⟨x1, x2⟩, x3, x4⟩ := x
    dsimp only at q1 q2 q3 q4
    have hkl : (k : Int) < (xs.length : Int) := by omega
    have z0 := G2.cell 0
    have z1 := G2.cell 1
    have k3 := G0.cell 3
    simp only [List.getElem?_toArray, List.getElem?_cons_succ, List.getElem?_cons_zero] at z0 z1 k3
    have f0 := G2.frozen 0
    have f1 := G2.frozen 1
    have HR := Lib.hid ((G2.set 0 (.string x3)).set 1 (.string x4))
    have HE := Lib.hid (below_set (below_set hb (show w.heap.size ≤ w.heap.size + 2 by omega) (i := 0) (u := .string x3)) (show w.heap.size ≤ w.heap.size + 2 by omega) (i := 1) (u := .string x4))
    clear G0 G1 G2 hb HB1 HV1
    go_wp2
    have y0 := HR.out.cell 0
    have y1 := HR.out.cell 1
    simp at y0 y1
    exact bodyPost_ret (v := .tuple #[.agg #[.string x3, .string x4], .bool true]) (by simp [results, Tryz.results39, go_sem, y0, y1]) rfl ⟨(x3, x4), true, HRR.out, rfl, HE.out⟩
end Go.Proofs.YtcbpkbemnaondaaGreatDoor
