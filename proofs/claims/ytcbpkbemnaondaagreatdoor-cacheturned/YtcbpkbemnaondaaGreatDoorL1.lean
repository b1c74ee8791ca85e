/-
  What the law's frame wants: the listed variables, as the program's own door lays them; a module as a law's argument: opened, and read again behind the call.
-/
import Derived.Test.YtcbpkbemnaondaaGreatDoorRows
import Derived.WalkKit
import Derived.ProofKit
import Derived.OpenShut
import Derived.ShutString
import Derived.ChangeOld
import Derived.Below
import Derived.LaidMore
import Derived.Lay
import Derived.LaidOnce
import Derived.Stop.Joined
import Derived.Test.YtcbpkbemnaondaaGreatDoorRec2
import Derived.Test.YtcbpkbemnaondaaGreatDoorX0
namespace Go.Proofs.YtcbpkbemnaondaaGreatDoor
open Go.ChangeShapes Go.WideShapes Go.ChangeAt Go.RowKit

theorem own : ownKnob Tryz.prog.godebug = none := by kernel_rfl
def laid0 : List (String × DataW Unit) := [("math/bits.deBruijn32tab", Rows.laid_math_bits_deBruijn32tab), ("math/bits.deBruijn64tab", Rows.laid_math_bits_deBruijn64tab), ("internal/strconv.uint64pow10", Rows.laid_internal_strconv_uint64pow10), ("strconv.ErrRange", Rows.laid_strconv_ErrRange), ("strconv.ErrSyntax", Rows.laid_strconv_ErrSyntax)]
set_option maxRecDepth 100000 in
theorem door_met (os : Os) (args : Array Value) : laidMetH Tryz.prog laid0 ((World.laidAll Tryz.prog os laid0).forCall (fun _ _ => 0) ⟨#[], args, []⟩).memory := by
  rw [MakeChecks.laidMetH_plain _ _ _ (by kernel_rfl)]
  exact laidMet_laidAll _ (by kernel_rfl) (by kernel_rfl)
end Go.Proofs.YtcbpkbemnaondaaGreatDoor

namespace Go.Proofs.YtcbpkbemnaondaaGreatDoor
open Go.ChangeShapes Go.WideShapes Go.ChangeAt Go.RowKit Go.Deep Go.Joins
open Go.ChangeMaps (open_string shut_string)

section
variable {H : Type} {enc : TypeId × Value → H}

theorem str_opens {W : World} {base fuel : Nat} {sp : Nat → Bool} {c : Value} {x : DataW H × List MemPlace} (h : DataW.trod enc Tryz.prog W base sp true fuel 9 [c] = some x) : ∃ s : ByteArray, c = .string s ∧ x = (.lit (.string s.data.toList), []) ∧ s.size ≤ maxLen := by
  obtain ⟨s, e, rfl, hs⟩ := DataW.trod_string Tryz.underlying9 h
  simp only [List.cons.injEq, and_true] at e
  exact ⟨s, e, rfl, hs⟩
theorem str_shuts {s : ByteArray} (hs : s.size ≤ maxLen) (W : World) (base : Nat) (sp : Nat → Bool) : ∃ n, DataW.trod enc Tryz.prog W base sp true n 9 [.string s] = some (.lit (.string s.data.toList), []) := by
  obtain ⟨k, hk⟩ := shut_string (enc := enc) (P := Tryz.prog) (w := W) (base := base) (sp := sp) (held := true) (s := s) Tryz.underlying9 hs
  exact ⟨k, by simpa [Value.cells] using hk⟩

theorem cells9 : Tryz.prog.cellsOf 9 = 1 := by kernel_rfl
theorem cells23 : Tryz.prog.cellsOf 24 = 2 := by kernel_rfl
def modR : Rec ModB := ⟨2, fun x => [.string x.1, .string x.2], fun _ => rfl, fun x u hu => by simp at hu; rcases hu with rfl | rfl <;> rfl, by decide⟩

def litS (s : ByteArray) : DataW H := .lit (.string s.data.toList)
def modD (m : ModB) : DataW H := .agg [litS m.1, litS m.2]
def modOk (m : ModB) : Prop := m.1.size ≤ maxLen ∧ m.2.size ≤ maxLen
theorem len2 {α : Type} {l : List α} (h : l.length = 2) : ∃ a b, l = [a, b] := by
  match l, h with
  | [a, b], _ => exact ⟨a, b, rfl⟩

theorem modRD : RData enc Tryz.prog modR 24 modOk (modD (H := H)) where
  opens := by
    intro W base fuel sp cs x h
    obtain ⟨xs, n, _, rfl, hl, hlen, hall⟩ := DataW.trod_struct Tryz.underlying24 h
    rw [cells23] at hl
    obtain ⟨c0, c1, rfl⟩ := len2 hl
    obtain ⟨x0, x1, rfl⟩ := len2 hlen
    have h0 := hall 0 _ rfl
    have h1 := hall 1 _ rfl
    simp [cells9] at h0 h1
    obtain ⟨s, rfl, rfl, hs⟩ := str_opens h0
    obtain ⟨s', rfl, rfl, hs'⟩ := str_opens h1
    exact ⟨(s, s'), rfl, rfl, hs, hs'⟩
  shuts := by
    intro y hy W base sp
    obtain ⟨n0, h0⟩ := str_shuts (enc := enc) hy.1 W base sp
    obtain ⟨n1, h1⟩ := str_shuts (enc := enc) hy.2 W base sp
    have h0' := DataW.trod_le (Nat.le_max_left n0 n1) h0
    have h1' := DataW.trod_le (Nat.le_max_right n0 n1) h1
    refine ⟨max n0 n1 + 1, ?_⟩
    have := trod_struct_mk (enc := enc) (w := W) (base := base) (spare := sp) (held := true) (n := max n0 n1) (cs := [.string y.1, .string y.2]) (xs := [(litS y.1, []), (litS y.2, [])]) Tryz.underlying24 (by rw [cells23]; rfl) (by simp [cells9, h0', h1']; exact ⟨rfl, rfl⟩)
    exact this
  cellsOf := cells23

set_option maxRecDepth 100000 in
theorem open_mod {W : World} {r : Reach} {b0 : Nat} {v : Value} {d : DataW H} {p : List MemPlace} (hval : Value.okWide Tryz.prog W r b0 24 v) (h : DataW.Trod enc Tryz.prog W 0 (fun _ => true) true 24 v d p) :
    ∃ m : ModB, v = .agg #[.string m.1, .string m.2] ∧ modOk m ∧ ∀ (W' : World) (sp : Nat → Bool), DataW.Trod enc Tryz.prog W' 0 sp true 24 v d p := by
  obtain ⟨cs, rfl, hsz⟩ := okWide_struct Tryz.underlying24 hval
  obtain ⟨fuel, hf⟩ := h
  obtain ⟨m, e, hx, hm⟩ := modRD.opens hf
  simp only [Prod.mk.injEq] at hx
  obtain ⟨rfl, rfl⟩ := hx
  have : cs = #[.string m.1, .string m.2] := by
    have e' : cs.toList = [.string m.1, .string m.2] := e
    rw [← Array.toArray_toList (xs := cs), e']
  subst this
  exact ⟨m, rfl, hm, fun W' sp => modRD.shuts hm W' 0 sp⟩
end
end Go.Proofs.YtcbpkbemnaondaaGreatDoor
