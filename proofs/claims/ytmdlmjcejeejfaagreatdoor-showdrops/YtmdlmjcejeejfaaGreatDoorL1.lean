/-
  What the laws' frames share: the listed variables, as the program's own door lays them.
-/
import Derived.Test.YtmdlmjcejeejfaaGreatDoorRows
import Derived.WalkKit
import Derived.ProofKit
import Derived.OpenShut
import Derived.ShutString
import Derived.ChangeOld
import Derived.Below
import Derived.LaidMore
import Derived.Lay
import Derived.LaidOnce
import Derived.Stop.Joined
import Derived.Test.YtmdlmjcejeejfaaGreatDoorRec2
import Derived.Test.YtmdlmjcejeejfaaGreatDoorC3
namespace Go.Proofs.YtmdlmjcejeejfaaGreatDoor
open Go.ChangeShapes Go.WideShapes Go.ChangeAt Go.RowKit

theorem own : ownKnob Tryz.prog.godebug = none := by kernel_rfl
def laid0 : List (String × DataW Unit) := [("math/bits.deBruijn32tab", Rows.laid_math_bits_deBruijn32tab), ("math/bits.deBruijn64tab", Rows.laid_math_bits_deBruijn64tab), ("internal/strconv.uint64pow10", Rows.laid_internal_strconv_uint64pow10), ("unicode/utf8.acceptRanges", Rows.laid_unicode_utf8_acceptRanges), ("strconv.ErrRange", Rows.laid_strconv_ErrRange), ("strconv.ErrSyntax", Rows.laid_strconv_ErrSyntax), ("unicode/utf8.first", Rows.laid_unicode_utf8_first)]
set_option maxRecDepth 100000 in
theorem door_met (os : Os) (args : Array Value) : laidMetH Tryz.prog laid0 ((World.laidAll Tryz.prog os laid0).forCall (fun _ _ => 0) ⟨#[], args, []⟩).memory := by
  rw [MakeChecks.laidMetH_plain _ _ _ (by kernel_rfl)]
  exact laidMet_laidAll _ (by kernel_rfl) (by kernel_rfl)
end Go.Proofs.YtmdlmjcejeejfaaGreatDoor

/-
  A file as a law's argument: opened, and read again behind the call.
-/
namespace Go.Proofs.YtmdlmjcejeejfaaGreatDoor
open Go.ChangeShapes Go.WideShapes Go.ChangeAt Go.RowKit Go.Deep Go.Joins
open Go.ChangeMaps (open_string shut_string)

section
variable {H : Type} {enc : TypeId × Value → H}

theorem str_opens {W : World} {base fuel : Nat} {sp : Nat → Bool} {c : Value} {x : DataW H × List MemPlace} (h : DataW.trod enc Tryz.prog W base sp true fuel 9 [c] = some x) : ∃ s : ByteArray, c = .string s ∧ x = (.lit (.string s.data.toList), []) ∧ s.size ≤ maxLen := by
  obtain ⟨s, e, rfl, hs⟩ := DataW.trod_string Tryz.underlying9 h
  simp only [List.cons.injEq, and_true] at e
  exact ⟨s, e, rfl, hs⟩
theorem str_shuts {s : ByteArray} (hs : s.size ≤ maxLen) (W : World) (base : Nat) (sp : Nat → Bool) : ∃ n, DataW.trod enc Tryz.prog W base sp true n 9 [.string s] = some (.lit (.string s.data.toList), []) := by
  obtain ⟨k, hk⟩ := shut_string (enc := enc) (P := Tryz.prog) (w := W) (base := base) (sp := sp) (held := true) (s := s) Tryz.underlying9 hs
  exact ⟨k, by simpa [Value.cells] using hk⟩
set_option maxRecDepth 100000 in
theorem bool_opens {W : World} {base fuel : Nat} {sp : Nat → Bool} {c : Value} {x : DataW H × List MemPlace} (h : DataW.trod enc Tryz.prog W base sp true fuel 4 [c] = some x) : ∃ b : Bool, c = .bool b ∧ x = (.lit (.bool b), []) := by
  cases fuel with
  | zero => simp [DataW.trod] at h
  | succ n =>
    unfold DataW.trod at h
    rw [Tryz.underlying4] at h
    cases c <;> simp_all
theorem bool_shuts (b : Bool) (W : World) (base : Nat) (sp : Nat → Bool) : ∃ n, DataW.trod enc Tryz.prog W base sp true n 4 [.bool b] = some (.lit (.bool b), []) := ⟨1, by simp [DataW.trod, Tryz.underlying4]⟩

theorem cells9 : Tryz.prog.cellsOf 9 = 1 := by kernel_rfl
theorem cells4 : Tryz.prog.cellsOf 4 = 1 := by kernel_rfl
theorem cells41 : Tryz.prog.cellsOf 41 = 2 := by kernel_rfl
theorem cells50 : Tryz.prog.cellsOf 50 = 3 := by kernel_rfl
theorem cells56 : Tryz.prog.cellsOf 56 = 4 := by kernel_rfl
theorem cells58 : Tryz.prog.cellsOf 58 = 3 := by kernel_rfl
theorem cells27 : Tryz.prog.cellsOf 27 = 6 := by kernel_rfl

def litS (s : ByteArray) : DataW H := .lit (.string s.data.toList)
def modD (m : ModB) : DataW H := .agg [litS m.1, litS m.2]
def modOk (m : ModB) : Prop := m.1.size ≤ maxLen ∧ m.2.size ≤ maxLen
theorem len2 {α : Type} {l : List α} (h : l.length = 2) : ∃ a b, l = [a, b] := by
  match l, h with
  | [a, b], _ => exact ⟨a, b, rfl⟩
theorem len3 {α : Type} {l : List α} (h : l.length = 3) : ∃ a b c, l = [a, b, c] := by
  match l, h with
  | [a, b, c], _ => exact ⟨a, b, c, rfl⟩
theorem len4 {α : Type} {l : List α} (h : l.length = 4) : ∃ a b c d, l = [a, b, c, d] := by
  match l, h with
  | [a, b, c, d], _ => exact ⟨a, b, c, d, rfl⟩

theorem modRD : RData enc Tryz.prog modR 41 modOk (modD (H := H)) where
  opens := by
    intro W base fuel sp cs x h
    obtain ⟨xs, n, _, rfl, hl, hlen, hall⟩ := DataW.trod_struct Tryz.underlying41 h
    rw [cells41] at hl
    obtain ⟨c0, c1, rfl⟩ := len2 hl
    obtain ⟨x0, x1, rfl⟩ := len2 hlen
    have h0 := hall 0 _ rfl
    have h1 := hall 1 _ rfl
    simp [cells9] at h0 h1
    obtain ⟨s, rfl, rfl, hs⟩ := str_opens h0
    obtain ⟨s', rfl, rfl, hs'⟩ := str_opens h1
    exact ⟨(s, s'), rfl, rfl, hs, hs'⟩
  shuts := by
    intro y hy W base sp
    obtain ⟨n0, h0⟩ := str_shuts (enc := enc) hy.1 W base sp
    obtain ⟨n1, h1⟩ := str_shuts (enc := enc) hy.2 W base sp
    have h0' := DataW.trod_le (Nat.le_max_left n0 n1) h0
    have h1' := DataW.trod_le (Nat.le_max_right n0 n1) h1
    refine ⟨max n0 n1 + 1, ?_⟩
    have := trod_struct_mk (enc := enc) (w := W) (base := base) (spare := sp) (held := true) (n := max n0 n1) (cs := [.string y.1, .string y.2]) (xs := [(litS y.1, []), (litS y.2, [])]) Tryz.underlying41 (by rw [cells41]; rfl) (by simp [cells9, h0', h1']; exact ⟨rfl, rfl⟩)
    exact this
  cellsOf := cells41

def reqD (r : ReqB) : DataW H := .agg [modD r.1, .lit (.bool r.2)]
def reqOk (r : ReqB) : Prop := modOk r.1
theorem reqRD : RData enc Tryz.prog reqR 50 reqOk (reqD (H := H)) where
  opens := by
    intro W base fuel sp cs x h
    obtain ⟨xs, n, _, rfl, hl, hlen, hall⟩ := DataW.trod_struct Tryz.underlying50 h
    rw [cells50] at hl
    obtain ⟨c0, c1, c2, rfl⟩ := len3 hl
    obtain ⟨x0, x1, rfl⟩ := len2 hlen
    have h0 := hall 0 _ rfl
    have h1 := hall 1 _ rfl
    simp [cells41, cells4] at h0 h1
    obtain ⟨m, e, rfl, hm⟩ := modRD.opens h0
    obtain ⟨b, rfl, rfl⟩ := bool_opens h1
    simp only [modR, List.cons.injEq, and_true] at e
    obtain ⟨rfl, rfl⟩ := e
    exact ⟨(m, b), rfl, rfl, hm⟩
  shuts := by
    intro y hy W base sp
    obtain ⟨n0, h0⟩ := modRD.shuts (enc := enc) hy W base sp
    obtain ⟨n1, h1⟩ := bool_shuts (enc := enc) y.2 W base sp
    have h0' := DataW.trod_le (Nat.le_max_left n0 n1) h0
    have h1' := DataW.trod_le (Nat.le_max_right n0 n1) h1
    refine ⟨max n0 n1 + 1, ?_⟩
    simp only [modR] at h0'
    exact trod_struct_mk (enc := enc) (w := W) (base := base) (spare := sp) (held := true) (n := max n0 n1) (cs := [.string y.1.1, .string y.1.2, .bool y.2]) (xs := [(modD y.1, []), (.lit (.bool y.2), [])]) Tryz.underlying50 (by rw [cells50]; rfl) (by simp [cells41, cells4, h0', h1'])
  cellsOf := cells50

def repD (r : RepB) : DataW H := .agg [modD r.1, modD r.2]
def repOk (r : RepB) : Prop := modOk r.1 ∧ modOk r.2
theorem repRD : RData enc Tryz.prog repR 56 repOk (repD (H := H)) where
  opens := by
    intro W base fuel sp cs x h
    obtain ⟨xs, n, _, rfl, hl, hlen, hall⟩ := DataW.trod_struct Tryz.underlying56 h
    rw [cells56] at hl
    obtain ⟨c0, c1, c2, c3, rfl⟩ := len4 hl
    obtain ⟨x0, x1, rfl⟩ := len2 hlen
    have h0 := hall 0 _ rfl
    have h1 := hall 1 _ rfl
    simp [cells41] at h0 h1
    obtain ⟨m, e, rfl, hm⟩ := modRD.opens h0
    obtain ⟨m', e', rfl, hm'⟩ := modRD.opens h1
    simp only [modR, List.cons.injEq, and_true] at e e'
    obtain ⟨rfl, rfl⟩ := e
    obtain ⟨rfl, rfl⟩ := e'
    exact ⟨(m, m'), rfl, rfl, hm, hm'⟩
  shuts := by
    intro y hy W base sp
    obtain ⟨n0, h0⟩ := modRD.shuts (enc := enc) hy.1 W base sp
    obtain ⟨n1, h1⟩ := modRD.shuts (enc := enc) hy.2 W base sp
    have h0' := DataW.trod_le (Nat.le_max_left n0 n1) h0
    have h1' := DataW.trod_le (Nat.le_max_right n0 n1) h1
    refine ⟨max n0 n1 + 1, ?_⟩
    simp only [modR] at h0' h1'
    exact trod_struct_mk (enc := enc) (w := W) (base := base) (spare := sp) (held := true) (n := max n0 n1) (cs := [.string y.1.1, .string y.1.2, .string y.2.1, .string y.2.2]) (xs := [(modD y.1, []), (modD y.2, [])]) Tryz.underlying56 (by rw [cells56]; rfl) (by simp [cells41, h0', h1'])
  cellsOf := cells56

def retD (r : RetB) : DataW H := .agg [litS r.1, litS r.2.1, litS r.2.2]
def retOk (r : RetB) : Prop := r.1.size ≤ maxLen ∧ r.2.1.size ≤ maxLen ∧ r.2.2.size ≤ maxLen
theorem retRD : RData enc Tryz.prog retR 58 retOk (retD (H := H)) where
  opens := by
    intro W base fuel sp cs x h
    obtain ⟨xs, n, _, rfl, hl, hlen, hall⟩ := DataW.trod_struct Tryz.underlying58 h
    rw [cells58] at hl
    obtain ⟨c0, c1, c2, rfl⟩ := len3 hl
    obtain ⟨x0, x1, x2, rfl⟩ := len3 hlen
    have h0 := hall 0 _ rfl
    have h1 := hall 1 _ rfl
    have h2 := hall 2 _ rfl
    simp [cells9] at h0 h1 h2
    obtain ⟨s, rfl, rfl, hs⟩ := str_opens h0
    obtain ⟨s', rfl, rfl, hs'⟩ := str_opens h1
    obtain ⟨s2, rfl, rfl, hs2⟩ := str_opens h2
    exact ⟨(s, s', s2), rfl, rfl, hs, hs', hs2⟩
  shuts := by
    intro y hy W base sp
    obtain ⟨n0, h0⟩ := str_shuts (enc := enc) hy.1 W base sp
    obtain ⟨n1, h1⟩ := str_shuts (enc := enc) hy.2.1 W base sp
    obtain ⟨n2, h2⟩ := str_shuts (enc := enc) hy.2.2 W base sp
    have h0' := DataW.trod_le (show n0 ≤ max n0 (max n1 n2) by omega) h0
    have h1' := DataW.trod_le (show n1 ≤ max n0 (max n1 n2) by omega) h1
    have h2' := DataW.trod_le (show n2 ≤ max n0 (max n1 n2) by omega) h2
    refine ⟨max n0 (max n1 n2) + 1, ?_⟩
    exact trod_struct_mk (enc := enc) (w := W) (base := base) (spare := sp) (held := true) (n := max n0 (max n1 n2)) (cs := [.string y.1, .string y.2.1, .string y.2.2]) (xs := [(litS y.1, []), (litS y.2.1, []), (litS y.2.2, [])]) Tryz.underlying58 (by rw [cells58]; rfl) (by simp [cells9, h0', h1', h2']; exact ⟨rfl, rfl, rfl⟩)
  cellsOf := cells58

set_option maxRecDepth 100000 in
theorem open_mod {W : World} {r : Reach} {b0 : Nat} {v : Value} {d : DataW H} {p : List MemPlace} (hval : Value.okWide Tryz.prog W r b0 41 v) (h : DataW.Trod enc Tryz.prog W 0 (fun _ => true) true 41 v d p) :
    ∃ m : ModB, v = .agg #[.string m.1, .string m.2] ∧ modOk m ∧ ∀ (W' : World) (sp : Nat → Bool), DataW.Trod enc Tryz.prog W' 0 sp true 41 v d p := by
  obtain ⟨cs, rfl, hsz⟩ := okWide_struct Tryz.underlying41 hval
  obtain ⟨fuel, hf⟩ := h
  obtain ⟨m, e, hx, hm⟩ := modRD.opens hf
  simp only [Prod.mk.injEq] at hx
  obtain ⟨rfl, rfl⟩ := hx
  have : cs = #[.string m.1, .string m.2] := by
    have e' : cs.toList = [.string m.1, .string m.2] := e
    rw [← Array.toArray_toList (xs := cs), e']
  subst this
  exact ⟨m, rfl, hm, fun W' sp => modRD.shuts hm W' 0 sp⟩

set_option maxRecDepth 100000 in
theorem open_fileG {W : World} {r : Reach} {b0 : Nat} {v : Value} {d : DataW H} {p : List MemPlace} (hval : Value.okWide Tryz.prog W r b0 27 v) (h : DataW.Trod enc Tryz.prog W 0 (fun _ => true) true 27 v d p) :
    ∃ (f : FileG) (a b c e : Value), v = .agg #[.string f.mo, .string f.go, a, b, c, e] ∧ FileAt W a b c e f ∧ ∀ W', Below W.heap.size W W' → DataW.Trod enc Tryz.prog W' 0 (fun b => decide (b < W.heap.size)) true 27 v d p := by
  obtain ⟨cs, xs, n, rfl, hcs, hxs, rfl, rfl, hall⟩ := open_aggs Tryz.underlying27 (by kernel_rfl) (by kernel_rfl) hval h
  obtain ⟨c0, e0, h0⟩ := hall 0 _ rfl
  obtain ⟨c1, e1, h1⟩ := hall 1 _ rfl
  obtain ⟨c2, e2, h2⟩ := hall 2 _ rfl
  obtain ⟨c3, e3, h3⟩ := hall 3 _ rfl
  obtain ⟨c4, e4, h4⟩ := hall 4 _ rfl
  obtain ⟨c5, e5, h5⟩ := hall 5 _ rfl
  have hx6 : xs.length = 6 := hxs
  match xs, hx6 with
  | [x0, x1, x2, x3, x4, x5], _ =>
    simp only [List.getElem?_cons_zero, List.getElem?_cons_succ] at h0 h1 h2 h3 h4 h5
    obtain ⟨mo, rfl, rfl, s0⟩ := str_opens h0
    obtain ⟨go, rfl, rfl, s1⟩ := str_opens h1
    obtain ⟨reqs, R0, _, _, T0⟩ := open_recs reqRD Tryz.underlying22 h2
    obtain ⟨reps, R1, _, _, T1⟩ := open_recs repRD Tryz.underlying23 h3
    obtain ⟨excs, R2, _, _, T2⟩ := open_recs modRD Tryz.underlying24 h4
    obtain ⟨rets, R3, _, _, T3⟩ := open_recs retRD Tryz.underlying25 h5
    have hc : cs = #[.string mo, .string go, c2, c3, c4, c5] := by
      have hs6 : cs.size = 6 := hcs
      apply Array.ext
      · rw [hs6]; rfl
      · intro i h1 h2
        rw [hs6] at h1
        rcases i with _ | _ | _ | _ | _ | _ | i
        · exact (Array.getElem?_eq_some_iff.1 e0).2
        · exact (Array.getElem?_eq_some_iff.1 e1).2
        · exact (Array.getElem?_eq_some_iff.1 e2).2
        · exact (Array.getElem?_eq_some_iff.1 e3).2
        · exact (Array.getElem?_eq_some_iff.1 e4).2
        · exact (Array.getElem?_eq_some_iff.1 e5).2
        · omega
    subst hc
    refine ⟨⟨mo, go, reqs, reps, excs, rets⟩, c2, c3, c4, c5, rfl, ⟨R0, R1, R2, R3⟩, fun W' hb => ?_⟩
    refine shut_aggs Tryz.underlying27 (by kernel_rfl) (by kernel_rfl) rfl rfl ?_
    intro i f hif
    have hi : i < 6 := (Array.getElem?_eq_some_iff.1 hif).1
    rcases i with _ | _ | _ | _ | _ | _ | i
    · cases hif; obtain ⟨k, hk⟩ := str_shuts (enc := enc) s0 W' 0 (fun b => decide (b < W.heap.size)); exact ⟨_, k, rfl, hk⟩
    · cases hif; obtain ⟨k, hk⟩ := str_shuts (enc := enc) s1 W' 0 (fun b => decide (b < W.heap.size)); exact ⟨_, k, rfl, hk⟩
    · cases hif; obtain ⟨k, hk⟩ := T0 W' hb; exact ⟨_, k, rfl, hk⟩
    · cases hif; obtain ⟨k, hk⟩ := T1 W' hb; exact ⟨_, k, rfl, hk⟩
    · cases hif; obtain ⟨k, hk⟩ := T2 W' hb; exact ⟨_, k, rfl, hk⟩
    · cases hif; obtain ⟨k, hk⟩ := T3 W' hb; exact ⟨_, k, rfl, hk⟩
    · omega
end
end Go.Proofs.YtmdlmjcejeejfaaGreatDoor
