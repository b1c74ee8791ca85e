/-
  The stable sort of a list of files: the comparison.
-/
import Derived.Test.YteffoajheolpmaaF18
namespace Go.Proofs.Yteffoajheolpmaa
open Go.RowKit Go.Shelf

set_option maxRecDepth 100000 in
set_option maxHeartbeats 1000000 in
theorem arr1_any (f g : FileB) (B : Nat) (v : Value) (w : World) (hs : SBox w B v) (h1 : f.1.size ≤ 20300) (h2 : g.1.size ≤ 20300) :
    Calls Try.prog 62 #[fileV f, fileV g, .pointer (some ⟨B, 0, none⟩)] w (IntOut (compareN f.1 g.1) w) := by
  obtain ⟨p, d⟩ := f
  obtain ⟨q, c⟩ := g
  have hb0 : Below w.heap.size w (w.alloc (.cells #[.string p, .string d] 32)) := (Below.refl _ _).alloc (Nat.le_refl _) _
  have hb1 : Below w.heap.size w ((w.alloc (.cells #[.string p, .string d] 32)).alloc (.cells #[.string q, .string c] 32)) := hb0.alloc (by simp) _
  obtain ⟨-, hc0, hc1, hc2⟩ := hs.below hb1
  have hB := hs.1
  have hbk : Below (w.alloc (.cells #[.string p, .string d] 32)).heap.size (w.alloc (.cells #[.string p, .string d] 32)) ((w.alloc (.cells #[.string p, .string d] 32)).alloc (.cells #[.string q, .string c] 32)) := (Below.refl _ _).alloc (Nat.le_refl _) _
  have k0 := (hbk.cell (p := ⟨w.heap.size, 0, none⟩) (by simp)).trans (cell_new w #[.string p, .string d] 32 0)
  have k1 := (hbk.cell (p := ⟨w.heap.size, 1, none⟩) (by simp)).trans (cell_new w #[.string p, .string d] 32 1)
  have k2 := cell_new (w.alloc (.cells #[.string p, .string d] 32)) #[.string q, .string c] 32 0
  have k3 := cell_new (w.alloc (.cells #[.string p, .string d] 32)) #[.string q, .string c] 32 1
  change _ = some (Value.string p) at k0
  change _ = some (Value.string d) at k1
  change _ = some (Value.string q) at k2
  change _ = some (Value.string c) at k3
  have hz1 : (w.alloc (.cells #[.string p, .string d] 32)).heap.size = w.heap.size + 1 := by simp
  rw [hz1] at k2 k3
  have P1 := fun w => pathOf_any (p, d) w
  have P2 := fun w => pathOf_any (q, c) w
  unfold fileV at P1 P2 ⊢
  go_enter Try.func62, Try.ntmps62
  go_wp2
  go_region_held3 (fun w' => w'.cell? ⟨B, 1, none⟩ = some (.func (.func 59) #[] #[]) ∧ w'.cell? ⟨B, 2, none⟩ = some (.func (.func 60) #[] #[]) ∧ w'.cell? ⟨w.heap.size, 0, none⟩ = some (.string p) ∧ w'.cell? ⟨w.heap.size, 1, none⟩ = some (.string d) ∧ w'.cell? ⟨w.heap.size + 1, 0, none⟩ = some (.string q) ∧ w'.cell? ⟨w.heap.size + 1, 1, none⟩ = some (.string c)) (first | go_keep | (go_split_ands; refine ⟨?_, ?_, ?_, ?_, ?_, ?_⟩ <;> (rw [hb.cell (by simp <;> omega)]; assumption)))
    (first | (go_at_call 59; refine (P1 _).mono ?_; rintro e w' ⟨rfl, rfl⟩) | (go_at_call 59; refine (P2 _).mono ?_; rintro e w' ⟨rfl, rfl⟩) | (go_at_call 60; refine (compare_any _ _ (by omega) (by omega) _).mono ?_; rintro e w1 ⟨rfl, hb⟩))
  go_wp2
  go_ret
  have hz2 := hb1.size
  refine ⟨rfl, Below.trans ?_ (hb.mono ?_)⟩
  · exact below_drew ((hb1.alloc (by simp; omega) _).alloc (by simp; omega) _)
  · simp; omega
end Go.Proofs.Yteffoajheolpmaa
