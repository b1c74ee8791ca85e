/-
  A struct variable in memory, of whatever program.
-/
import Derived.Test.YtinaeegijmkbhaaGreatDoorQ4
import Derived.Below
import Derived.RangeFuncRecord
set_option linter.unusedVariables false
namespace Go.Proofs.YtinaeegijmkbhaaGreatDoor
open Go.RowKit Go.Shelf

/-- A block that holds just these cells. -/
def GBlk (w : World) (B : Nat) (t : TypeId) (cs : Array Value) : Prop := w.heap[B]? = some (.cells cs t (0, 0))
theorem GBlk.lt {w : World} {B : Nat} {t : TypeId} {cs : Array Value} (h : GBlk w B t cs) : B < w.heap.size := (Array.getElem?_eq_some_iff.1 h).1
theorem GBlk.new (w : World) (t : TypeId) (cs : Array Value) : GBlk (w.alloc (.cells cs t)) w.heap.size t cs := World.alloc_heap_new w _
theorem GBlk.below {w w' : World} {B : Nat} {t : TypeId} {cs : Array Value} (h : GBlk w B t cs) (hb : Below w.heap.size w w') : GBlk w' B t cs := (hb.block B h.lt).trans h
theorem GBlk.alloc {w : World} {B : Nat} {t : TypeId} {cs : Array Value} (h : GBlk w B t cs) (o : Obj) : GBlk (w.alloc o) B t cs := h.below ((Below.refl _ _).alloc (Nat.le_refl _) _)
theorem GBlk.drew {w : World} {B : Nat} {t : TypeId} {cs : Array Value} (h : GBlk w B t cs) : GBlk w.drew B t cs := h
theorem GBlk.drewN {w : World} {B : Nat} {t : TypeId} {cs : Array Value} (h : GBlk w B t cs) (n : Nat) : GBlk (w.drewN n) B t cs := h
theorem GBlk.cell {w : World} {B : Nat} {t : TypeId} {cs : Array Value} (h : GBlk w B t cs) (i : Nat) : w.cell? ⟨B, i, none⟩ = cs[i]? := by
  unfold GBlk at h
  simp [World.cell?, h]
theorem GBlk.frozen {w : World} {B : Nat} {t : TypeId} {cs : Array Value} (h : GBlk w B t cs) (i : Nat) : w.frozen? ⟨B, i, none⟩ = false := by
  unfold GBlk at h
  simp [World.frozen?, h]
theorem GBlk.set {w : World} {B : Nat} {t : TypeId} {cs : Array Value} (h : GBlk w B t cs) (i : Nat) (u : Value) : GBlk (w.setCell ⟨B, i, none⟩ u) B t (cs.setIfInBounds i u) := by
  unfold GBlk at h ⊢
  simp [World.setCell, Array.getElem?_modify, h]
theorem GBlk.setOther {w : World} {B B' : Nat} {t : TypeId} {cs : Array Value} (h : GBlk w B t cs) (hne : B ≠ B') {i : Nat} {u : Value} : GBlk (w.setCell ⟨B', i, none⟩ u) B t cs := by
  unfold GBlk at h ⊢
  exact (Below.heap_setCell w ⟨B', i, none⟩ u B hne).trans h
theorem below_set {w0 w : World} {B i : Nat} (h : Below w0.heap.size w0 w) (hB : w0.heap.size ≤ B) (u : Value) : Below w0.heap.size w0 (w.setCell ⟨B, i, none⟩ u) := h.setCell (p := ⟨B, i, none⟩) hB u
end Go.Proofs.YtinaeegijmkbhaaGreatDoor
