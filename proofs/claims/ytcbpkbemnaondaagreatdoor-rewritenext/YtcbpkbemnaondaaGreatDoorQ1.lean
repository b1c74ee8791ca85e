/-
  What a go.mod file says, in memory: its records, how they lie, how they are opened; searches.
-/
import Derived.Test.YtcbpkbemnaondaaGreatDoorN13
import Derived.BigRegion
import Derived.Deep.QuietTactic
import Derived.BigQuiet
namespace Go.Proofs.YtcbpkbemnaondaaGreatDoor
open Go.RowKit Go.Shelf
abbrev ReqB := ModB × Bool
abbrev RepB := ModB × ModB
abbrev RetB := ByteArray × ByteArray × ByteArray
structure FileG where
  mo : ByteArray
  go : ByteArray
  reqs : List ReqB
  reps : List RepB
  excs : List ModB
  rets : List RetB
def reqR : Rec ReqB := ⟨3, fun x => [.string x.1.1, .string x.1.2, .bool x.2], fun _ => rfl, fun x u hu => by simp at hu; rcases hu with rfl | rfl | rfl <;> rfl, by decide⟩
def repR : Rec RepB := ⟨4, fun x => [.string x.1.1, .string x.1.2, .string x.2.1, .string x.2.2], fun _ => rfl, fun x u hu => by simp at hu; rcases hu with rfl | rfl | rfl | rfl <;> rfl, by decide⟩
def retR : Rec RetB := ⟨3, fun x => [.string x.1, .string x.2.1, .string x.2.2], fun _ => rfl, fun x u hu => by simp at hu; rcases hu with rfl | rfl | rfl <;> rfl, by decide⟩
theorem mod_at {w : World} {g o : Nat} {xs : List ModB} (h : RAt modR w g o xs) (i : Nat) (hi : i < xs.length) :
    w.cell? ⟨g, o + i * 2, none⟩ = some (.string xs[i].1) ∧ w.cell? ⟨g, o + i * 2 + 1, none⟩ = some (.string xs[i].2) := ⟨h i hi 0 _ rfl, h i hi 1 _ rfl⟩
theorem req_at {w : World} {g o : Nat} {xs : List ReqB} (h : RAt reqR w g o xs) (i : Nat) (hi : i < xs.length) :
    w.cell? ⟨g, o + i * 3, none⟩ = some (.string xs[i].1.1) ∧ w.cell? ⟨g, o + i * 3 + 1, none⟩ = some (.string xs[i].1.2) ∧ w.cell? ⟨g, o + i * 3 + 2, none⟩ = some (.bool xs[i].2) := ⟨h i hi 0 _ rfl, h i hi 1 _ rfl, h i hi 2 _ rfl⟩
theorem rep_at {w : World} {g o : Nat} {xs : List RepB} (h : RAt repR w g o xs) (i : Nat) (hi : i < xs.length) :
    w.cell? ⟨g, o + i * 4, none⟩ = some (.string xs[i].1.1) ∧ w.cell? ⟨g, o + i * 4 + 1, none⟩ = some (.string xs[i].1.2) ∧ w.cell? ⟨g, o + i * 4 + 2, none⟩ = some (.string xs[i].2.1) ∧ w.cell? ⟨g, o + i * 4 + 3, none⟩ = some (.string xs[i].2.2) :=
  ⟨h i hi 0 _ rfl, h i hi 1 _ rfl, h i hi 2 _ rfl, h i hi 3 _ rfl⟩
theorem ret_at {w : World} {g o : Nat} {xs : List RetB} (h : RAt retR w g o xs) (i : Nat) (hi : i < xs.length) :
    w.cell? ⟨g, o + i * 3, none⟩ = some (.string xs[i].1) ∧ w.cell? ⟨g, o + i * 3 + 1, none⟩ = some (.string xs[i].2.1) ∧ w.cell? ⟨g, o + i * 3 + 2, none⟩ = some (.string xs[i].2.2) := ⟨h i hi 0 _ rfl, h i hi 1 _ rfl, h i hi 2 _ rfl⟩
def sameM (a b : ModB) : Bool := a.1.toList == b.1.toList && a.2.toList == b.2.toList
/-- The first place at which p holds, or -1. -/
def idxL {α : Type} (p : α → Bool) : List α → Int
  | [] => -1
  | x :: r => if p x then 0 else if idxL p r < 0 then -1 else idxL p r + 1
theorem idxL_range {α : Type} (p : α → Bool) : ∀ xs : List α, idxL p xs = -1 ∨ 0 ≤ idxL p xs
  | [] => .inl rfl
  | x :: r => by
    unfold idxL
    rcases idxL_range p r with h | h
    · split
      · omega
      · simp [h]
    · split
      · omega
      · split <;> omega
theorem idxL_hit {α : Type} (p : α → Bool) : ∀ (xs : List α) (k : Nat) (hk : k < xs.length), (∀ j (hj : j < xs.length), j < k → p xs[j] = false) → p xs[k] = true → idxL p xs = k
  | x :: r, 0, _, _, h => by simp at h; simp [idxL, h]
  | x :: r, k + 1, hk, ha, h => by
    have h0 := ha 0 (by simp) (by omega)
    have ih := idxL_hit p r k (by simpa using hk) (fun j hj hjk => ha (j + 1) (by simpa using hj) (by omega)) (by simpa using h)
    simp only [List.getElem_cons_zero] at h0
    simp only [idxL, h0, ih, Bool.false_eq_true, if_false]
    rw [if_neg (by omega)]
    omega
theorem idxL_none {α : Type} (p : α → Bool) : ∀ (xs : List α), (∀ j (hj : j < xs.length), p xs[j] = false) → idxL p xs = -1
  | [], _ => rfl
  | x :: r, ha => by
    have h0 := ha 0 (by simp)
    have ih := idxL_none p r (fun j hj => ha (j + 1) (by simpa using hj))
    simp only [List.getElem_cons_zero] at h0
    simp [idxL, h0, ih]
theorem idxL_any {α : Type} (p : α → Bool) : ∀ xs : List α, decide (0 ≤ idxL p xs) = xs.any p
  | [] => by simp [idxL]
  | x :: r => by
    have ih := idxL_any p r
    rw [List.any_cons, ← ih, show idxL p (x :: r) = if p x then 0 else if idxL p r < 0 then -1 else idxL p r + 1 from rfl]
    cases h : p x
    · simp only [Bool.false_eq_true, if_false, Bool.false_or]
      rcases idxL_range p r with h2 | h2
      · simp [h2]
      · rw [if_neg (by omega)]; simp; omega
    · simp
def NoneTo {α : Type} (p : α → Bool) (xs : List α) (k : Nat) : Prop := ∀ j (hj : j < xs.length), j < k → p xs[j] = false
theorem NoneTo.start {α : Type} (p : α → Bool) (xs : List α) : NoneTo p xs 0 := fun _ _ h => absurd h (Nat.not_lt_zero _)
theorem NoneTo.on {α : Type} {p : α → Bool} {xs : List α} {k : Nat} (h : NoneTo p xs k) (hk : k < xs.length) (e : p xs[k] = false) : NoneTo p xs (k + 1) := fun j hj hjk => by
  by_cases ej : j = k
  · subst ej; exact e
  · exact h j hj (by omega)
theorem NoneTo.hit {α : Type} {p : α → Bool} {xs : List α} {k : Nat} (h : NoneTo p xs k) (hk : k < xs.length) (e : p xs[k] = true) : idxL p xs = k := idxL_hit p xs k hk h e
theorem NoneTo.done {α : Type} {p : α → Bool} {xs : List α} {k : Nat} (h : NoneTo p xs k) (hk : xs.length ≤ k) : idxL p xs = -1 := idxL_none p xs fun j hj => h j hj (by omega)
/-- A file lies so, as a value. -/
structure FileAt (w : World) (a b c d : Value) (f : FileG) : Prop where
  reqs : RRow reqR w a f.reqs
  reps : RRow repR w b f.reps
  excs : RRow modR w c f.excs
  rets : RRow retR w d f.rets
theorem FileAt.below {w w' : World} {a b c d : Value} {f : FileG} (h : FileAt w a b c d f) (hb : Below w.heap.size w w') : FileAt w' a b c d f := ⟨h.reqs.below hb, h.reps.below hb, h.excs.below hb, h.rets.below hb⟩
theorem sameM_tt {a b : ModB} (h : (a.1.toList == b.1.toList) = true) (k : (a.2.toList == b.2.toList) = true) : sameM a b = true := by simp only [sameM, h, k]; rfl
theorem sameM_tf {a b : ModB} (h : (a.1.toList == b.1.toList) = true) (k : (a.2.toList == b.2.toList) = false) : sameM a b = false := by simp only [sameM, h, k]; rfl
theorem sameM_f {a b : ModB} (h : (a.1.toList == b.1.toList) = false) : sameM a b = false := by simp only [sameM, h]; rfl
theorem sameM_swap (a b : ModB) : sameM a b = sameM b a := by
  have h : ∀ x y : List UInt8, (x == y) = (y == x) := fun x y => by
    rw [Bool.eq_iff_iff, beq_iff_eq, beq_iff_eq]; exact eq_comm
  rw [sameM, sameM, h, h a.2.toList]
end Go.Proofs.YtcbpkbemnaondaaGreatDoor
/-
  A file as an argument: opened, and read again behind the call.
-/
namespace Go.Proofs.YtcbpkbemnaondaaGreatDoor
open Go.ChangeShapes Go.WideShapes Go.ChangeAt Go.RowKit Go.Deep Go.Joins
open Go.ChangeMaps (open_string shut_string)
section
variable {H : Type} {enc : TypeId × Value → H}
set_option maxRecDepth 100000 in
theorem bool_opens {W : World} {base fuel : Nat} {sp : Nat → Bool} {c : Value} {x : DataW H × List MemPlace} (h : DataW.trod enc Tryz.prog W base sp true fuel 4 [c] = some x) : ∃ b : Bool, c = .bool b ∧ x = (.lit (.bool b), []) := by
  cases fuel with
  | zero => simp [DataW.trod] at h
  | succ n =>
    unfold DataW.trod at h
    rw [Tryz.underlying4] at h
    cases c <;> simp_all
theorem bool_shuts (b : Bool) (W : World) (base : Nat) (sp : Nat → Bool) : ∃ n, DataW.trod enc Tryz.prog W base sp true n 4 [.bool b] = some (.lit (.bool b), []) := ⟨1, by simp [DataW.trod, Tryz.underlying4]⟩
theorem qcells9 : Tryz.prog.cellsOf 9 = 1 := by kernel_rfl
theorem qcells4 : Tryz.prog.cellsOf 4 = 1 := by kernel_rfl
theorem qcells41 : Tryz.prog.cellsOf 24 = 2 := by kernel_rfl
theorem qcells50 : Tryz.prog.cellsOf 209 = 3 := by kernel_rfl
theorem qcells56 : Tryz.prog.cellsOf 71 = 4 := by kernel_rfl
theorem qcells58 : Tryz.prog.cellsOf 73 = 3 := by kernel_rfl
theorem qcells27 : Tryz.prog.cellsOf 49 = 6 := by kernel_rfl
def reqD (r : ReqB) : DataW H := .agg [modD r.1, .lit (.bool r.2)]
def reqOk (r : ReqB) : Prop := modOk r.1
set_option maxRecDepth 100000 in
theorem reqRD : RData enc Tryz.prog reqR 209 reqOk (reqD (H := H)) where
  opens := by
    intro W base fuel sp cs x h
    obtain ⟨xs, n, _, rfl, hl, hlen, hall⟩ := DataW.trod_struct Tryz.underlying209 h
    rw [qcells50] at hl
    obtain ⟨c0, c1, c2, rfl⟩ := len3 hl
    obtain ⟨x0, x1, rfl⟩ := len2 hlen
    have h0 := hall 0 _ rfl
    have h1 := hall 1 _ rfl
    simp [qcells41, qcells4] at h0 h1
    obtain ⟨m, e, rfl, hm⟩ := modRD.opens h0
    obtain ⟨b, rfl, rfl⟩ := bool_opens h1
    simp only [modR, List.cons.injEq, and_true] at e
    obtain ⟨rfl, rfl⟩ := e
    exact ⟨(m, b), rfl, rfl, hm⟩
  shuts := by
    intro y hy W base sp
    obtain ⟨n0, h0⟩ := modRD.shuts (enc := enc) hy W base sp
    obtain ⟨n1, h1⟩ := bool_shuts (enc := enc) y.2 W base sp
    have h0' := DataW.trod_le (Nat.le_max_left n0 n1) h0
    have h1' := DataW.trod_le (Nat.le_max_right n0 n1) h1
    refine ⟨max n0 n1 + 1, ?_⟩
    simp only [modR] at h0'
    exact trod_struct_mk (enc := enc) (w := W) (base := base) (spare := sp) (held := true) (n := max n0 n1) (cs := [.string y.1.1, .string y.1.2, .bool y.2]) (xs := [(modD y.1, []), (.lit (.bool y.2), [])]) Tryz.underlying209 (by rw [qcells50]; rfl) (by simp [qcells41, qcells4, h0', h1'])
  cellsOf := qcells50
def repD (r : RepB) : DataW H := .agg [modD r.1, modD r.2]
def repOk (r : RepB) : Prop := modOk r.1 ∧ modOk r.2
set_option maxRecDepth 100000 in
theorem repRD : RData enc Tryz.prog repR 71 repOk (repD (H := H)) where
  opens := by
    intro W base fuel sp cs x h
    obtain ⟨xs, n, _, rfl, hl, hlen, hall⟩ := DataW.trod_struct Tryz.underlying71 h
    rw [qcells56] at hl
    obtain ⟨c0, c1, c2, c3, rfl⟩ := len4 hl
    obtain ⟨x0, x1, rfl⟩ := len2 hlen
    have h0 := hall 0 _ rfl
    have h1 := hall 1 _ rfl
    simp [qcells41] at h0 h1
    obtain ⟨m, e, rfl, hm⟩ := modRD.opens h0
    obtain ⟨m', e', rfl, hm'⟩ := modRD.opens h1
    simp only [modR, List.cons.injEq, and_true] at e e'
    obtain ⟨rfl, rfl⟩ := e
    obtain ⟨rfl, rfl⟩ := e'
    exact ⟨(m, m'), rfl, rfl, hm, hm'⟩
  shuts := by
    intro y hy W base sp
    obtain ⟨n0, h0⟩ := modRD.shuts (enc := enc) hy.1 W base sp
    obtain ⟨n1, h1⟩ := modRD.shuts (enc := enc) hy.2 W base sp
    have h0' := DataW.trod_le (Nat.le_max_left n0 n1) h0
    have h1' := DataW.trod_le (Nat.le_max_right n0 n1) h1
    refine ⟨max n0 n1 + 1, ?_⟩
    simp only [modR] at h0' h1'
    exact trod_struct_mk (enc := enc) (w := W) (base := base) (spare := sp) (held := true) (n := max n0 n1) (cs := [.string y.1.1, .string y.1.2, .string y.2.1, .string y.2.2]) (xs := [(modD y.1, []), (modD y.2, [])]) Tryz.underlying71 (by rw [qcells56]; rfl) (by simp [qcells41, h0', h1'])
  cellsOf := qcells56
def retD (r : RetB) : DataW H := .agg [litS r.1, litS r.2.1, litS r.2.2]
def retOk (r : RetB) : Prop := r.1.size ≤ maxLen ∧ r.2.1.size ≤ maxLen ∧ r.2.2.size ≤ maxLen
set_option maxRecDepth 100000 in
theorem retRD : RData enc Tryz.prog retR 73 retOk (retD (H := H)) where
  opens := by
    intro W base fuel sp cs x h
    obtain ⟨xs, n, _, rfl, hl, hlen, hall⟩ := DataW.trod_struct Tryz.underlying73 h
    rw [qcells58] at hl
    obtain ⟨c0, c1, c2, rfl⟩ := len3 hl
    obtain ⟨x0, x1, x2, rfl⟩ := len3 hlen
    have h0 := hall 0 _ rfl
    have h1 := hall 1 _ rfl
    have h2 := hall 2 _ rfl
    simp [qcells9] at h0 h1 h2
    obtain ⟨s, rfl, rfl, hs⟩ := str_opens h0
    obtain ⟨s', rfl, rfl, hs'⟩ := str_opens h1
    obtain ⟨s2, rfl, rfl, hs2⟩ := str_opens h2
    exact ⟨(s, s', s2), rfl, rfl, hs, hs', hs2⟩
  shuts := by
    intro y hy W base sp
    obtain ⟨n0, h0⟩ := str_shuts (enc := enc) hy.1 W base sp
    obtain ⟨n1, h1⟩ := str_shuts (enc := enc) hy.2.1 W base sp
    obtain ⟨n2, h2⟩ := str_shuts (enc := enc) hy.2.2 W base sp
    have h0' := DataW.trod_le (show n0 ≤ max n0 (max n1 n2) by omega) h0
    have h1' := DataW.trod_le (show n1 ≤ max n0 (max n1 n2) by omega) h1
    have h2' := DataW.trod_le (show n2 ≤ max n0 (max n1 n2) by omega) h2
    refine ⟨max n0 (max n1 n2) + 1, ?_⟩
    exact trod_struct_mk (enc := enc) (w := W) (base := base) (spare := sp) (held := true) (n := max n0 (max n1 n2)) (cs := [.string y.1, .string y.2.1, .string y.2.2]) (xs := [(litS y.1, []), (litS y.2.1, []), (litS y.2.2, [])]) Tryz.underlying73 (by rw [qcells58]; rfl) (by simp [qcells9, h0', h1', h2']; exact ⟨rfl, rfl, rfl⟩)
  cellsOf := qcells58
set_option maxRecDepth 100000 in
theorem open_fileG {W : World} {r : Reach} {b0 : Nat} {v : Value} {d : DataW H} {p : List MemPlace} (hval : Value.okWide Tryz.prog W r b0 49 v) (h : DataW.Trod enc Tryz.prog W 0 (fun _ => true) true 49 v d p) :
    ∃ (f : FileG) (a b c e : Value), v = .agg #[.string f.mo, .string f.go, a, b, c, e] ∧ FileAt W a b c e f ∧ ∀ W', Below W.heap.size W W' → DataW.Trod enc Tryz.prog W' 0 (fun b => decide (b < W.heap.size)) true 49 v d p := by
  obtain ⟨cs, xs, n, rfl, hcs, hxs, rfl, rfl, hall⟩ := open_aggs Tryz.underlying49 (by kernel_rfl) (by kernel_rfl) hval h
  obtain ⟨c0, e0, h0⟩ := hall 0 _ rfl
  obtain ⟨c1, e1, h1⟩ := hall 1 _ rfl
  obtain ⟨c2, e2, h2⟩ := hall 2 _ rfl
  obtain ⟨c3, e3, h3⟩ := hall 3 _ rfl
  obtain ⟨c4, e4, h4⟩ := hall 4 _ rfl
  obtain ⟨c5, e5, h5⟩ := hall 5 _ rfl
  have hx6 : xs.length = 6 := hxs
  match xs, hx6 with
  | [x0, x1, x2, x3, x4, x5], _ =>
    simp only [List.getElem?_cons_zero, List.getElem?_cons_succ] at h0 h1 h2 h3 h4 h5
    obtain ⟨mo, rfl, rfl, s0⟩ := str_opens h0
    obtain ⟨go, rfl, rfl, s1⟩ := str_opens h1
    obtain ⟨reqs, R0, _, _, T0⟩ := open_recs reqRD Tryz.underlying44 h2
    obtain ⟨reps, R1, _, _, T1⟩ := open_recs repRD Tryz.underlying45 h3
    obtain ⟨excs, R2, _, _, T2⟩ := open_recs modRD Tryz.underlying46 h4
    obtain ⟨rets, R3, _, _, T3⟩ := open_recs retRD Tryz.underlying47 h5
    have hc : cs = #[.string mo, .string go, c2, c3, c4, c5] := by
      have hs6 : cs.size = 6 := hcs
      apply Array.ext
      · rw [hs6]; rfl
      · intro i h1 h2
        rw [hs6] at h1
        rcases i with _ | _ | _ | _ | _ | _ | i
        · exact (Array.getElem?_eq_some_iff.1 e0).2
        · exact (Array.getElem?_eq_some_iff.1 e1).2
        · exact (Array.getElem?_eq_some_iff.1 e2).2
        · exact (Array.getElem?_eq_some_iff.1 e3).2
        · exact (Array.getElem?_eq_some_iff.1 e4).2
        · exact (Array.getElem?_eq_some_iff.1 e5).2
        · omega
    subst hc
    refine ⟨⟨mo, go, reqs, reps, excs, rets⟩, c2, c3, c4, c5, rfl, ⟨R0, R1, R2, R3⟩, fun W' hb => ?_⟩
    refine shut_aggs Tryz.underlying49 (by kernel_rfl) (by kernel_rfl) rfl rfl ?_
    intro i f hif
    have hi : i < 6 := (Array.getElem?_eq_some_iff.1 hif).1
    rcases i with _ | _ | _ | _ | _ | _ | i
    · cases hif; obtain ⟨k, hk⟩ := str_shuts (enc := enc) s0 W' 0 (fun b => decide (b < W.heap.size)); exact ⟨_, k, rfl, hk⟩
    · cases hif; obtain ⟨k, hk⟩ := str_shuts (enc := enc) s1 W' 0 (fun b => decide (b < W.heap.size)); exact ⟨_, k, rfl, hk⟩
    · cases hif; obtain ⟨k, hk⟩ := T0 W' hb; exact ⟨_, k, rfl, hk⟩
    · cases hif; obtain ⟨k, hk⟩ := T1 W' hb; exact ⟨_, k, rfl, hk⟩
    · cases hif; obtain ⟨k, hk⟩ := T2 W' hb; exact ⟨_, k, rfl, hk⟩
    · cases hif; obtain ⟨k, hk⟩ := T3 W' hb; exact ⟨_, k, rfl, hk⟩
    · omega
end
end Go.Proofs.YtcbpkbemnaondaaGreatDoor
