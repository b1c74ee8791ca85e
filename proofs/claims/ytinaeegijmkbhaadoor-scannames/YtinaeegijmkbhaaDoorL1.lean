/-
  A slice of strings among the arguments: opened, and read again behind the call.
-/
import Derived.Test.YtinaeegijmkbhaaDoorL0
import Derived.Deep.SlicePairs
import Derived.Lib.SmallJoins
set_option linter.unusedVariables false
namespace Go.Proofs.YtinaeegijmkbhaaDoor
open Go.ChangeShapes Go.WideShapes Go.ChangeAt Go.RowKit Go.Deep Go.Joins
open Go.ChangeMaps (open_string shut_string)

/-- A list of texts, as a slice that can be read. -/
def Texts (W : World) (v : Value) (xs : List ByteArray) : Prop :=
  ∃ a cap, v = .slice a xs.length cap ∧ (xs ≠ [] → ∃ g o, a = some ⟨g, o, none⟩ ∧ g < W.heap.size ∧ ∀ i (h : i < xs.length), W.cell? ⟨g, o + i, none⟩ = some (.string xs[i]))
theorem add_plainT (g o j : Nat) : (⟨g, o, none⟩ : Addr).add j = ⟨g, o + j, none⟩ := by
  unfold Addr.add
  split
  · simp_all
  · rfl
theorem cells9 : Tryd.prog.cellsOf 9 = 1 := by kernel_rfl
section
variable {H : Type} {enc : TypeId × Value → H} {W : World}
set_option maxRecDepth 100000 in
theorem open_texts {r : Reach} {b0 : Nat} {v : Value} {d : DataW H} {p : List MemPlace} (hval : Value.okWide Tryd.prog W r b0 42 v) (h : DataW.Trod enc Tryd.prog W 0 (fun _ => true) true 42 v d p) :
    ∃ xs : List ByteArray, Texts W v xs ∧ ∀ W', Below W.heap.size W W' → DataW.Trod enc Tryd.prog W' 0 (fun b => decide (b < W.heap.size)) true 42 v d p := by
  obtain ⟨a, len, cap, rfl⟩ := okWide_slice Tryd.underlying42 hval
  obtain ⟨fuel, hf⟩ := h
  have ht := Tryd.underlying42
  rcases open_slice ht (by simpa [Value.cells] using hf) with ⟨hcs, hx⟩ | ⟨a, len, cap, m, n, D', Pl, hcs, _, hl, hm, hmeq, hx, hall⟩
  · simp only [List.cons.injEq, and_true, Value.slice.injEq] at hcs
    obtain ⟨rfl, rfl, rfl⟩ := hcs
    simp only [Prod.mk.injEq] at hx
    obtain ⟨rfl, rfl⟩ := hx
    exact ⟨[], ⟨none, 0, rfl, fun h => absurd rfl h⟩, fun W' _ => ⟨1, by unfold DataW.trod; rw [ht]; rfl⟩⟩
  · simp only [if_true] at hmeq
    subst hmeq
    simp only [List.cons.injEq, and_true, Value.slice.injEq] at hcs
    obtain ⟨rfl, rfl, rfl⟩ := hcs
    simp only [Prod.mk.injEq] at hx
    obtain ⟨rfl, rfl⟩ := hx
    rw [cells9] at hall
    obtain ⟨Y, hY⟩ := choose_lt (α := ByteArray) (n := cap) (p := fun i y => W.cells? 0 (a.add (i * 1)) 1 = some [.string y] ∧ D' i = .lit (.string y.data.toList) ∧ Pl i = [] ∧ y.size ≤ maxLen) (fun i hi => by
      obtain ⟨cs', h1, h2⟩ := hall i hi
      obtain ⟨s, rfl, e, hs⟩ := DataW.trod_string Tryd.underlying9 h2
      simp only [Prod.mk.injEq] at e
      exact ⟨s, h1, e.1, e.2, hs⟩)
    have spot : 0 < cap → ∃ g o, a = ⟨g, o, none⟩ ∧ g < W.heap.size := fun hi => by
      obtain ⟨_, hlen, hc⟩ := World.cells?_some (hY 0 hi).1
      have h0 := hc 0 (by omega)
      obtain ⟨g, o, sp⟩ := a
      have hsp : sp = none := by
        have := World.cell?_spot h0
        cases sp with
        | none => rfl
        | some z => simp [Addr.add] at this
      subst hsp
      refine ⟨g, o, rfl, ?_⟩
      have := World.block_lt_of_cell? W _ h0
      rwa [add_plainT, add_plainT] at this
    refine ⟨(List.range len).map Y, ⟨some a, cap, by simp, fun hne => ?_⟩, fun W' hb => ?_⟩
    · have hpos : 0 < len := by
        rcases Nat.eq_zero_or_pos len with h0 | h0
        · subst h0; exact absurd rfl hne
        · exact h0
      obtain ⟨g, o, rfl, hg⟩ := spot (by omega)
      refine ⟨g, o, rfl, hg, fun i hi => ?_⟩
      simp only [List.length_map, List.length_range] at hi
      simp only [List.getElem_map, List.getElem_range]
      obtain ⟨_, hlen, hc⟩ := World.cells?_some (hY i (by omega)).1
      have := hc 0 (by omega)
      rwa [add_plainT, add_plainT, Nat.mul_one] at this
    · by_cases h0 : cap = 0
      · subst h0
        obtain rfl : len = 0 := by omega
        by_cases hlt : a.block < W.heap.size
        · have := shut_slice_whole_cells (enc := enc) (P := Tryd.prog) (w := W') (base := 0) (spare := fun b => decide (b < W.heap.size)) (held := true) (a := a) (len := 0) (cap := 0) ht (Nat.zero_le _) (Nat.le_refl _) hm (by simpa using hlt) D' Pl (fun i hi => absurd hi (Nat.not_lt_zero _))
          simpa [DataW.Trod, Value.cells] using this
        · have := shut_slice_cells (enc := enc) (P := Tryd.prog) (w := W') (base := 0) (spare := fun b => decide (b < W.heap.size)) (held := true) (a := a) (len := 0) (cap := 0) ht (Nat.zero_le _) (Nat.le_refl _) hm (by simpa using hlt) D' Pl (fun i hi => absurd hi (Nat.not_lt_zero _))
          simpa [DataW.Trod, Value.cells] using this
      · obtain ⟨g, o, rfl, hg⟩ := spot (by omega)
        have := shut_slice_whole_cells (enc := enc) (P := Tryd.prog) (w := W') (base := 0) (spare := fun b => decide (b < W.heap.size)) (held := true) (a := ⟨g, o, none⟩) ht (Nat.zero_le _) hl hm (by simpa using hg) D' Pl (fun i hi => by
          obtain ⟨h1, h2, h3, h4⟩ := hY i hi
          obtain ⟨n', hn'⟩ := shut_string (enc := enc) (P := Tryd.prog) (w := W') (base := 0) (sp := fun b => decide (b < W.heap.size)) (held := true) (s := Y i) Tryd.underlying9 h4
          refine ⟨[.string (Y i)], n', ?_, by rw [h2, h3]; simpa [Value.cells] using hn'⟩
          rw [cells9, ← h1]
          unfold World.cells?
          simp only [Nat.zero_le, if_true]
          congr 1
          funext j
          rw [add_plainT, add_plainT]
          exact hb.cell (p := ⟨g, _, none⟩) hg)
        simpa [DataW.Trod, Value.cells] using this
end
end Go.Proofs.YtinaeegijmkbhaaDoor
