/-
  What ranges over the elements: paths.every with a test of elements; paths.Valid, check, Module, Import.
-/
import Derived.Test.YtoljpmelfebjoaaDoorW4
namespace Go.Proofs.YtoljpmelfebjoaaDoor
open Go.RowKit Go.Shelf
attribute [local go_sem] Oper.semAt_some

/-- A test of elements, as a function of the program. -/
structure ElemTest (g : Nat) (p : ByteArray → Bool) : Prop where
  enters : ∀ args w, (callFunc g args).run Tryd.prog w = .ok (.enter g args) w
  tells : ∀ (s : ByteArray) (w : World), s.size ≤ 20400 → Calls Tryd.prog g #[.string s] w fun e w' => e = .returned (.bool (p s)) ∧ w = w'

def everyB (s : ByteArray) (p : ByteArray → Bool) : Bool := (elemsB s).all p
theorem every_yes {s : ByteArray} {hs : s.size ≤ 20400} {p : ByteArray → Bool} (h : ∀ y ∈ elemsS s hs, p y.1 = true) : everyB s p = true := by
  unfold everyB
  rw [← elemsS_map s hs, List.all_eq_true]
  intro x hx
  obtain ⟨y, hy, rfl⟩ := List.mem_map.1 hx
  exact h y hy
theorem every_no {s : ByteArray} {hs : s.size ≤ 20400} {p : ByteArray → Bool} {pre : List Str} (hp : pre <+: elemsS s hs) {y : Str} (hy : y ∈ pre) (h : p y.1 = false) : everyB s p = false := by
  unfold everyB
  rw [← elemsS_map s hs, List.all_eq_false]
  exact ⟨y.1, List.mem_map.2 ⟨y, hp.subset hy, rfl⟩, by simp [h]⟩

def validB (s : ByteArray) : Bool := decide (1 ≤ s.size) && decide (s.size ≤ 60) && everyB s vElem
def checkN (s : ByteArray) (p : ByteArray → Bool) : Int := if validB s && everyB s p then 0 else 10
def firstB (s : ByteArray) : Bool := decide (0 ≤ Lib.indexByte (cutB s).1.data.toList 46) && !prefB (cutB s).1 ⟨#[45]⟩
def moduleN (s : ByteArray) : Int := if firstB s then checkN s mElem else 10

theorem cutB_size (s : ByteArray) : (cutB s).1.size ≤ s.size := by
  unfold cutB
  split
  · exact Nat.le_refl _
  · exact Nat.le_trans (extract_size_le _ _ _) (by omega)

theorem below_drewN {B : Nat} {w w' : World} (h : Below B w w') (n : Nat) : Below B w (w'.drewN n) := ⟨h.os, h.tape, h.output, h.size, h.block⟩
theorem below_drewN' {B : Nat} {w w' : World} {n : Nat} (h : Below B (w.drewN n) w') : Below B w w' := ⟨h.os, h.tape, h.output, h.size, h.block⟩

end Go.Proofs.YtoljpmelfebjoaaDoor
