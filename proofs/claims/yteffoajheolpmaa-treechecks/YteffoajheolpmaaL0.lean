/-
  The laws' arguments: lists of files, and files, opened and read again behind the call.
-/
import Derived.Test.YteffoajheolpmaaF0
import Derived.WalkKit
import Derived.ProofKit
import Derived.OpenShut
import Derived.ShutString
import Derived.ChangeOld
import Derived.Below
import Derived.Deep.SlicePairs
import Derived.Lib.SmallJoins
namespace Go.Proofs.Yteffoajheolpmaa
open Go.ChangeShapes Go.WideShapes Go.ChangeAt Go.RowKit Go.Deep Go.Joins
open Go.ChangeMaps (open_string shut_string)

theorem own : ownKnob Try.prog.godebug = none := by kernel_rfl
theorem Try.cells32 : Try.prog.cellsOf 32 = 2 := by kernel_rfl
theorem Try.cells9 : Try.prog.cellsOf 9 = 1 := by kernel_rfl

section
variable {H : Type} {enc : TypeId × Value → H} {W : World}

theorem shut_str {W' : World} {sp : Nat → Bool} {s : ByteArray} (hs : s.size ≤ maxLen) : ∃ n, DataW.trod enc Try.prog W' 0 sp true n 9 [.string s] = some (.lit (.string s.data.toList), []) := by
  obtain ⟨k, hk⟩ := shut_string (enc := enc) (P := Try.prog) (w := W') (base := 0) (sp := sp) (held := true) (s := s) Try.underlying9 hs
  exact ⟨k, by simpa [Value.cells] using hk⟩

theorem open_file {r : Reach} {b0 : Nat} {v : Value} {d : DataW H} {p : List MemPlace} (hval : Value.okWide Try.prog W r b0 32 v) (h : DataW.Trod enc Try.prog W 0 (fun _ => true) true 32 v d p) :
    ∃ f : FileB, v = fileV f ∧ f.1.size ≤ maxLen ∧ f.2.size ≤ maxLen ∧ ∀ (W' : World) (sp : Nat → Bool), DataW.Trod enc Try.prog W' 0 sp true 32 v d p := by
  obtain ⟨v0, v1, y0, y1, n, rfl, rfl, rfl, t0, t1⟩ := open_agg2 Try.underlying32 (by kernel_rfl) Try.cells32 hval h
  obtain ⟨s, e0, rfl, hs⟩ := DataW.trod_string Try.underlying9 t0
  obtain ⟨s', e1, rfl, hs'⟩ := DataW.trod_string Try.underlying9 t1
  simp only [List.cons.injEq, and_true] at e0 e1
  subst e0 e1
  exact ⟨(s, s'), rfl, hs, hs', fun W' sp => shut_agg2 Try.underlying32 (by kernel_rfl) Try.cells32 (shut_str hs) (shut_str hs')⟩

def strOf : Value → ByteArray
  | .string s => s
  | _ => ⟨#[]⟩

theorem open_files {r : Reach} {b0 : Nat} {v : Value} {d : DataW H} {p : List MemPlace} (hval : Value.okWide Try.prog W r b0 22 v) (h : DataW.Trod enc Try.prog W 0 (fun _ => true) true 22 v d p) :
    ∃ xs : List FileB, FRow W v xs ∧ xs.length ≤ maxLen ∧ (∀ f ∈ xs, f.1.size ≤ maxLen ∧ f.2.size ≤ maxLen) ∧ ∀ W', Below W.heap.size W W' → DataW.Trod enc Try.prog W' 0 (fun b => decide (b < W.heap.size)) true 22 v d p := by
  obtain ⟨av, ln, cp, rfl⟩ := okWide_slice Try.underlying22 hval
  obtain ⟨fuel, hf⟩ := h
  rcases open_slice_pairs Try.underlying22 Try.underlying32 Try.cells32 rfl rfl Try.cells9 Try.cells9 hf with ⟨hcs, hx⟩ | ⟨a, len, cap, m, n, V0, V1, D0, D1, P0, P1, hcs, _, hl, hm, hmeq, hx, hall⟩
  · simp only [Value.cells, List.cons.injEq, and_true] at hcs
    simp only [Prod.mk.injEq] at hx
    obtain ⟨rfl, rfl⟩ := hx
    rw [hcs]
    exact ⟨[], FRow.nil W, Nat.zero_le _, by simp, fun W' _ => shut_slice_nil Try.underlying22⟩
  · simp only [if_true] at hmeq
    subst hmeq
    simp only [Value.cells, List.cons.injEq, and_true] at hcs
    simp only [Prod.mk.injEq] at hx
    obtain ⟨rfl, rfl⟩ := hx
    rw [hcs]
    have key : ∀ i, i < m → V0 i = .string (strOf (V0 i)) ∧ V1 i = .string (strOf (V1 i)) ∧ (strOf (V0 i)).size ≤ maxLen ∧ (strOf (V1 i)).size ≤ maxLen ∧
        D0 i = .lit (.string (strOf (V0 i)).data.toList) ∧ D1 i = .lit (.string (strOf (V1 i)).data.toList) ∧ P0 i = [] ∧ P1 i = [] := fun i hi => by
      obtain ⟨_, _, t0, t1⟩ := hall i hi
      obtain ⟨s, e0, x0, hs⟩ := DataW.trod_string Try.underlying9 t0
      obtain ⟨s', e1, x1, hs'⟩ := DataW.trod_string Try.underlying9 t1
      simp only [List.cons.injEq, and_true] at e0 e1
      simp only [Prod.mk.injEq] at x0 x1
      rw [e0, e1]
      exact ⟨rfl, rfl, hs, hs', x0.1, x1.1, x0.2, x1.2⟩
    refine ⟨(List.range len).map fun i => (strOf (V0 i), strOf (V1 i)), ?_, by simp; omega, ?_, ?_⟩
    · refine ⟨some a, m, by simp, by simpa using hl, fun hne => ?_⟩
      have hpos : 0 < len := by
        rcases Nat.eq_zero_or_pos len with h0 | h0
        · subst h0; exact absurd rfl hne
        · exact h0
      obtain ⟨g, o, spot⟩ := a
      have h00 := (hall 0 (by omega)).1
      have hspot : spot = none := by simpa [Addr.add] using World.cell?_spot h00
      subst hspot
      have hg := World.block_lt_of_cell? W _ h00
      refine ⟨g, o, rfl, by simpa [Addr.add] using hg, fun i hi => ?_⟩
      simp only [List.length_map, List.length_range] at hi
      obtain ⟨c0, c1, _, _⟩ := hall i (by omega)
      obtain ⟨k0, k1, _⟩ := key i (by omega)
      rw [add_plain] at c0 c1
      rw [k0] at c0
      rw [k1] at c1
      simp only [List.getElem_map, List.getElem_range]
      exact ⟨c0, by rw [← Nat.add_assoc] at c1; exact c1⟩
    · intro f hf'
      obtain ⟨i, hi, rfl⟩ := List.mem_map.1 hf'
      have hi' := List.mem_range.1 hi
      obtain ⟨_, _, k2, k3, _⟩ := key i (by omega)
      exact ⟨k2, k3⟩
    · intro W' hb
      by_cases h0 : m = 0
      · subst h0
        have hl0 : len = 0 := by omega
        subst hl0
        by_cases hlt : a.block < W.heap.size
        · have := shut_slice_whole_cells (enc := enc) (P := Try.prog) (w := W') (base := 0) (spare := fun b => decide (b < W.heap.size)) (held := true) (a := a) (len := 0) (cap := 0) Try.underlying22 (Nat.zero_le _) (Nat.le_refl _) hm (by simpa using hlt) (fun i => .agg [D0 i, D1 i]) (fun i => P0 i ++ P1 i) (fun i hi => absurd hi (Nat.not_lt_zero _))
          rw [Try.cells32] at this
          obtain ⟨k, hk⟩ := this
          exact ⟨k, by simpa [Value.cells] using hk⟩
        · have := shut_slice_cells (enc := enc) (P := Try.prog) (w := W') (base := 0) (spare := fun b => decide (b < W.heap.size)) (held := true) (a := a) (len := 0) (cap := 0) Try.underlying22 (Nat.zero_le _) (Nat.le_refl _) hm (by simpa using hlt) (fun i => .agg [D0 i, D1 i]) (fun i => P0 i ++ P1 i) (fun i hi => absurd hi (Nat.not_lt_zero _))
          rw [Try.cells32] at this
          obtain ⟨k, hk⟩ := this
          exact ⟨k, by simpa [Value.cells] using hk⟩
      · obtain ⟨g, o, spot⟩ := a
        have h00 := (hall 0 (by omega)).1
        have hspot : spot = none := by simpa [Addr.add] using World.cell?_spot h00
        subst hspot
        have hg : g < W.heap.size := by simpa [Addr.add] using World.block_lt_of_cell? W _ h00
        obtain ⟨k, hk⟩ := shut_slice_pairs_whole (enc := enc) (P := Try.prog) (w := W') (base := 0) (spare := fun b => decide (b < W.heap.size)) (held := true) Try.underlying22 Try.underlying32 Try.cells32 rfl rfl Try.cells9 Try.cells9 (b := g) (off := o) (Nat.zero_le _) hl hm (by simpa using hg)
          V0 V1 D0 D1 P0 P1
          (fun i hi => by have := (hall i hi).1; rw [add_plain] at this; exact (hb.cell (p := ⟨g, _, none⟩) hg).trans this)
          (fun i hi => by have := (hall i hi).2.1; rw [add_plain, ← Nat.add_assoc] at this; exact (hb.cell (p := ⟨g, _, none⟩) hg).trans this)
          (fun i hi => by obtain ⟨k0, _, k2, _, k4, _, k6, _⟩ := key i hi; rw [k4, k6, k0]; exact shut_str k2)
          (fun i hi => by obtain ⟨_, k1, _, k3, _, k5, _, k7⟩ := key i hi; rw [k5, k7, k1]; exact shut_str k3)
        exact ⟨k, by simpa [Value.cells] using hk⟩
end
end Go.Proofs.Yteffoajheolpmaa
