/-
  A list of files that is written in place.
-/
import Derived.Test.YteffoajheolpmaaF19
import Derived.Test.YteffoajheolpmaaT8
import Derived.BigRegion
namespace Go.Proofs.Yteffoajheolpmaa
open Go.RowKit Go.Shelf

/-- The list under way: it lies in a block of the call's own, beside the sorted list's block. -/
structure Work (w0 : World) (g c n B : Nat) (u : Value) (w : World) (xs : List FileB) : Prop where
  len : xs.length = n
  own : FOwn w w0.heap.size (.slice (some ⟨g, 0, none⟩) n c) xs
  below : Below w0.heap.size w0 w
  box : SBox w B u
  apart : g ≠ B

theorem Work.block {w0 : World} {g c n B : Nat} {u : Value} {w : World} {xs : List FileB} (h : Work w0 g c n B u w xs) :
    ∃ cur, w.heap[g]? = some (.cells cur 32 (0, 0)) ∧ w0.heap.size ≤ g ∧ n ≤ c ∧ c ≤ maxLen ∧ cur.size = c * 2 ∧ cur.toList.take (n * 2) = cellsF xs := by
  obtain ⟨h0, ⟨e, _⟩ | ⟨g', cap, cur, e, hg, hh, hle, hm, hcs, ht⟩⟩ := h.own
  · cases e
  · injection e with e1 e2 e3
    injection e1 with e1
    injection e1 with e1
    subst e1 e3
    rw [h.len] at hle ht
    exact ⟨cur, hh, hg, hle, hm, hcs, ht⟩
theorem Work.call {w0 : World} {g c n B : Nat} {u : Value} {w w' : World} {xs : List FileB} (h : Work w0 g c n B u w xs) (hb : Below w.heap.size w w') : Work w0 g c n B u w' xs :=
  ⟨h.len, h.own.below hb, h.below.trans (hb.mono h.below.size), h.box.below hb, h.apart⟩
theorem Work.drew {w0 : World} {g c n B : Nat} {u : Value} {w : World} {xs : List FileB} (h : Work w0 g c n B u w xs) : Work w0 g c n B u w.drew xs := h.call (below_drew (Below.refl _ _))
theorem Work.drewN {w0 : World} {g c n B : Nat} {u : Value} {w : World} {xs : List FileB} (h : Work w0 g c n B u w xs) (k : Nat) : Work w0 g c n B u (w.drewN k) xs := h.call (below_drewN (Below.refl _ _) k)
theorem Work.cell {w0 : World} {g c n B : Nat} {u : Value} {w : World} {xs : List FileB} (h : Work w0 g c n B u w xs) {i : Nat} {x : FileB} (hi : xs[i]? = some x) :
    w.cell? ⟨g, i * 2, none⟩ = some (.string x.1) ∧ w.cell? ⟨g, i * 2 + 1, none⟩ = some (.string x.2) := by
  obtain ⟨hlt, rfl⟩ := List.getElem?_eq_some_iff.1 hi
  obtain ⟨A, cc, e, _, hcl⟩ := h.own.row
  obtain ⟨g', o, e2, _, hcell⟩ := hcl (by intro e; rw [e] at hlt; simp at hlt)
  injection e with e1 e3 e4
  obtain ⟨cur, hh, _, _, _, hcs, ht⟩ := h.block
  have hl := h.len
  have key : ∀ j, j < n * 2 → w.cell? ⟨g, j, none⟩ = (cellsF xs)[j]? := by
    intro j hj
    have : (cur.toList.take (n * 2))[j]? = (cellsF xs)[j]? := by rw [ht]
    rw [List.getElem?_take_of_lt hj, Array.getElem?_toList] at this
    rw [← this]
    simp [World.cell?, hh]
  rw [key _ (by omega), key _ (by omega)]
  exact cellsF_at xs i hlt
theorem Work.frozen {w0 : World} {g c n B : Nat} {u : Value} {w : World} {xs : List FileB} (h : Work w0 g c n B u w xs) (j : Nat) : w.frozen? ⟨g, j, none⟩ = false := by
  obtain ⟨cur, hh, _⟩ := h.block
  simp [World.frozen?, hh]

theorem heap_setCell_other (w : World) (b o : Nat) (x : Value) (k : Nat) (h : k ≠ b) : (w.setCell ⟨b, o, none⟩ x).heap[k]? = w.heap[k]? := by
  simp [World.setCell, Array.getElem?_modify, Ne.symm h]
theorem heap_setCell_same (w : World) (b o : Nat) (x : Value) (cur : Array Value) (e : TypeId) (f : Nat × Nat) (h : w.heap[b]? = some (.cells cur e f)) : (w.setCell ⟨b, o, none⟩ x).heap[b]? = some (.cells (cur.setIfInBounds o x) e f) := by
  simp [World.setCell, Array.getElem?_modify, h]
theorem size_setCell (w : World) (b o : Nat) (x : Value) : (w.setCell ⟨b, o, none⟩ x).heap.size = w.heap.size := by simp [World.setCell]

theorem cellsF_set : ∀ (xs : List FileB) (i : Nat) (y : FileB), cellsF (xs.set i y) = ((cellsF xs).set (i * 2) (.string y.1)).set (i * 2 + 1) (.string y.2)
  | [], _, _ => rfl
  | x :: xs, 0, y => rfl
  | x :: xs, i + 1, y => by
    rw [List.set_cons_succ, cellsF_cons, cellsF_cons, cellsF_set xs i y, show (i + 1) * 2 = i * 2 + 1 + 1 by omega]
    rfl

theorem Work.set {w0 : World} {g c n B : Nat} {u : Value} {w : World} {xs : List FileB} (h : Work w0 g c n B u w xs) (i : Nat) (y : FileB) :
    Work w0 g c n B u ((w.setCell ⟨g, i * 2, none⟩ (.string y.1)).setCell ⟨g, i * 2 + 1, none⟩ (.string y.2)) (xs.set i y) := by
  obtain ⟨cur, hh, hg, hle, hm, hcs, ht⟩ := h.block
  have hlen : (xs.set i y).length = n := by rw [List.length_set]; exact h.len
  have oth : ∀ k, k ≠ g → ((w.setCell ⟨g, i * 2, none⟩ (.string y.1)).setCell ⟨g, i * 2 + 1, none⟩ (.string y.2)).heap[k]? = w.heap[k]? := fun k hk => by
    rw [heap_setCell_other _ _ _ _ _ hk, heap_setCell_other _ _ _ _ _ hk]
  have hsz : ((w.setCell ⟨g, i * 2, none⟩ (.string y.1)).setCell ⟨g, i * 2 + 1, none⟩ (.string y.2)).heap.size = w.heap.size := by rw [size_setCell, size_setCell]
  refine ⟨hlen, ⟨by rw [cellsF_len], .inr ⟨g, c, _, by rw [hlen], hg, heap_setCell_same _ _ _ _ _ _ _ (heap_setCell_same _ _ _ _ _ _ _ hh), by rw [hlen]; exact hle, hm, by simpa using hcs, ?_⟩⟩, ?_, ?_, h.apart⟩
  · rw [hlen, cellsF_set, ← ht]
    simp [List.take_set]
  · refine ⟨h.below.os, h.below.tape, h.below.output, by rw [hsz]; exact h.below.size, fun k hk => ?_⟩
    rw [oth k (by omega)]
    exact h.below.block k hk
  · have hB := oth B (Ne.symm h.apart)
    obtain ⟨b1, b2, b3, b4⟩ := h.box
    exact ⟨by rw [hsz]; exact b1, (World.cell?_of_block (a := ⟨B, 0, none⟩) hB).trans b2, (World.cell?_of_block (a := ⟨B, 1, none⟩) hB).trans b3, (World.cell?_of_block (a := ⟨B, 2, none⟩) hB).trans b4⟩

def DoneOut (w0 : World) (g c n B : Nat) (u : Value) (ys : List FileB) (e : Ending) (w' : World) : Prop := e = .returned (.tuple #[]) ∧ Work w0 g c n B u w' ys

theorem set_mid (P S : List FileB) (x y : FileB) : (P ++ x :: S).set P.length y = P ++ y :: S := by simp
theorem set_two (P M S : List FileB) (x y : FileB) : ((P ++ x :: M ++ y :: S).set P.length y).set (P.length + 1 + M.length) x = P ++ y :: M ++ x :: S := by
  have e1 : P ++ x :: M ++ y :: S = P ++ x :: (M ++ y :: S) := by simp
  rw [e1, set_mid, show P ++ y :: (M ++ y :: S) = (P ++ y :: M) ++ y :: S by simp, show P.length + 1 + M.length = (P ++ y :: M).length by simp; omega, set_mid]
theorem at_mid (P S : List FileB) (x : FileB) : (P ++ x :: S)[P.length]? = some x := by simp
theorem at_two (P M S : List FileB) (x y : FileB) : (P ++ x :: M ++ y :: S)[P.length]? = some x ∧ (P ++ x :: M ++ y :: S)[P.length + 1 + M.length]? = some y := by
  constructor
  · rw [show P ++ x :: M ++ y :: S = P ++ x :: (M ++ y :: S) by simp, at_mid]
  · rw [show P.length + 1 + M.length = (P ++ x :: M).length by simp; omega, at_mid]
/-- Two files change places. -/
theorem Work.swap {w0 : World} {g c n B : Nat} {u : Value} {w : World} {P M S : List FileB} {x y : FileB} (h : Work w0 g c n B u w (P ++ x :: M ++ y :: S)) :
    Work w0 g c n B u ((((w.setCell ⟨g, P.length * 2, none⟩ (.string y.1)).setCell ⟨g, P.length * 2 + 1, none⟩ (.string y.2)).setCell ⟨g, (P.length + 1 + M.length) * 2, none⟩ (.string x.1)).setCell ⟨g, (P.length + 1 + M.length) * 2 + 1, none⟩ (.string x.2)) (P ++ y :: M ++ x :: S) := by
  rw [← set_two]
  exact (h.set _ y).set _ x
end Go.Proofs.Yteffoajheolpmaa
