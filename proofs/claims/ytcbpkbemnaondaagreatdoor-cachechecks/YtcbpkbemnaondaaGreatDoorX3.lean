/-
  Of any two modules the names, the order, and whether they may be, is the document's; of three the order goes on: the law's own walk.
-/
import Derived.Test.YtcbpkbemnaondaaGreatDoorX2
import Derived.Deep.RegionHeld3
namespace Go.Proofs.YtcbpkbemnaondaaGreatDoor
open Go.RowKit Go.Shelf

theorem three_mods (w : World) (p v q u r s : ByteArray) :
    let W := ((w.alloc (.cells #[.string p, .string v] 24)).alloc (.cells #[.string q, .string u] 24)).alloc (.cells #[.string r, .string s] 24)
    Below w.heap.size w W ∧ w.heap.size + 2 < W.heap.size ∧ W.cell? ⟨w.heap.size, 0, none⟩ = some (.string p) ∧ W.cell? ⟨w.heap.size, 1, none⟩ = some (.string v) ∧ W.cell? ⟨w.heap.size + 1, 0, none⟩ = some (.string q) ∧ W.cell? ⟨w.heap.size + 1, 1, none⟩ = some (.string u) ∧ W.cell? ⟨w.heap.size + 2, 0, none⟩ = some (.string r) ∧ W.cell? ⟨w.heap.size + 2, 1, none⟩ = some (.string s) := by
  intro W
  obtain ⟨hb, hz, c0, c1, c2, c3⟩ := two_mods w p v q u
  have hs : ((w.alloc (.cells #[.string p, .string v] 24)).alloc (.cells #[.string q, .string u] 24)).heap.size = w.heap.size + 2 := by simp
  have hn := cell_newR ((w.alloc (.cells #[.string p, .string v] 24)).alloc (.cells #[.string q, .string u] 24)) #[.string r, .string s] 24
  rw [hs] at hn
  have h2 := (Below.refl ((w.alloc (.cells #[.string p, .string v] 24)).alloc (.cells #[.string q, .string u] 24)).heap.size ((w.alloc (.cells #[.string p, .string v] 24)).alloc (.cells #[.string q, .string u] 24))).alloc (Nat.le_refl _) (.cells #[.string r, .string s] 24)
  rw [hs] at h2
  refine ⟨hb.alloc hb.size _, by simp [W], ?_, ?_, ?_, ?_, hn 0, hn 1⟩
  · exact (h2.cell (p := ⟨w.heap.size, 0, none⟩) (by show w.heap.size < _; omega)).trans c0
  · exact (h2.cell (p := ⟨w.heap.size, 1, none⟩) (by show w.heap.size < _; omega)).trans c1
  · exact (h2.cell (p := ⟨w.heap.size + 1, 0, none⟩) (by show w.heap.size + 1 < _; omega)).trans c2
  · exact (h2.cell (p := ⟨w.heap.size + 1, 1, none⟩) (by show w.heap.size + 1 < _; omega)).trans c3
theorem three_keep {w W W' : World} {p v q u r s : ByteArray} (h : Below W.heap.size W W') (hz : w.heap.size + 2 < W.heap.size) (k : W.cell? ⟨w.heap.size, 0, none⟩ = some (.string p) ∧ W.cell? ⟨w.heap.size, 1, none⟩ = some (.string v) ∧ W.cell? ⟨w.heap.size + 1, 0, none⟩ = some (.string q) ∧ W.cell? ⟨w.heap.size + 1, 1, none⟩ = some (.string u) ∧ W.cell? ⟨w.heap.size + 2, 0, none⟩ = some (.string r) ∧ W.cell? ⟨w.heap.size + 2, 1, none⟩ = some (.string s)) : W'.cell? ⟨w.heap.size, 0, none⟩ = some (.string p) ∧ W'.cell? ⟨w.heap.size, 1, none⟩ = some (.string v) ∧ W'.cell? ⟨w.heap.size + 1, 0, none⟩ = some (.string q) ∧ W'.cell? ⟨w.heap.size + 1, 1, none⟩ = some (.string u) ∧ W'.cell? ⟨w.heap.size + 2, 0, none⟩ = some (.string r) ∧ W'.cell? ⟨w.heap.size + 2, 1, none⟩ = some (.string s) := by
  obtain ⟨c0, c1, c2, c3, c4, c5⟩ := k
  refine ⟨?_, ?_, ?_, ?_, ?_, ?_⟩
  · exact (h.cell (p := ⟨w.heap.size, 0, none⟩) (by show w.heap.size < _; omega)).trans c0
  · exact (h.cell (p := ⟨w.heap.size, 1, none⟩) (by show w.heap.size < _; omega)).trans c1
  · exact (h.cell (p := ⟨w.heap.size + 1, 0, none⟩) (by show w.heap.size + 1 < _; omega)).trans c2
  · exact (h.cell (p := ⟨w.heap.size + 1, 1, none⟩) (by show w.heap.size + 1 < _; omega)).trans c3
  · exact (h.cell (p := ⟨w.heap.size + 2, 0, none⟩) hz).trans c4
  · exact (h.cell (p := ⟨w.heap.size + 2, 1, none⟩) hz).trans c5
theorem order_at (p v q u : ByteArray) (hp : p.size ≤ 1024) (hv : v.size ≤ 1024) (hq : q.size ≤ 1024) (hu : u.size ≤ 1024) {n : Int} (h : modCmp (p, v) (q, u) = n) (w : World) :
    Calls Tryz.prog 34 #[.agg #[.string p, .string v], .agg #[.string q, .string u]] w fun e w' => e = .returned (.int .i64 n) ∧ Below w.heap.size w w' :=
  (order_any p v q u (by omega) (by omega) (by omega) (by omega) w).mono fun _ _ k => ⟨by rw [k.1, h], k.2⟩
theorem rorder_at (p v q u : ByteArray) (hp : p.size ≤ 1024) (hv : v.size ≤ 1024) (hq : q.size ≤ 1024) (hu : u.size ≤ 1024) {n : Int} (h : modCmp (p, v) (q, u) = n) (w : World) :
    Calls Tryz.prog 35 #[.agg #[.string p, .string v], .agg #[.string q, .string u]] w fun e w' => e = .returned (.int .i64 n) ∧ Below w.heap.size w w' :=
  (rorderM_any p v q u (by omega) (by omega) (by omega) (by omega) w).mono fun _ _ k => ⟨by rw [k.1, h], k.2⟩
theorem known_at (p v : ByteArray) (hp : p.size ≤ 1024) (hv : v.size ≤ 1024) {n : Int} (h : knownN (p, v) = n) (w : World) :
    Calls Tryz.prog 25 #[.agg #[.string p, .string v]] w fun e w' => e = .returned (.int .i64 n) ∧ Below w.heap.size w w' :=
  (known_any p v (by omega) (by omega) w).mono fun _ _ k => ⟨by rw [k.1, h], k.2⟩
theorem rknown_at (p v : ByteArray) (hp : p.size ≤ 1024) (hv : v.size ≤ 1024) {n : Int} (h : knownN (p, v) = n) (w : World) :
    Calls Tryz.prog 29 #[.agg #[.string p, .string v]] w fun e w' => e = .returned (.int .i64 n) ∧ Below w.heap.size w w' :=
  (rknown_any p v (by omega) (by omega) w).mono fun _ _ k => ⟨by rw [k.1, h], k.2⟩
theorem at_at (p v : ByteArray) (hp : p.size ≤ 1024) (hv : v.size ≤ 1024) {n : ByteArray} (h : atB (p, v) = n) (w : World) :
    Calls Tryz.prog 24 #[.agg #[.string p, .string v]] w fun e w' => e = .returned (.string n) ∧ Below w.heap.size w w' :=
  (at_any p v (by omega) (by omega) w).mono fun _ _ k => ⟨by rw [k.1, h], k.2⟩
theorem rat_at (p v : ByteArray) (hp : p.size ≤ 1024) (hv : v.size ≤ 1024) {n : ByteArray} (h : atB (p, v) = n) (w : World) :
    Calls Tryz.prog 31 #[.agg #[.string p, .string v]] w fun e w' => e = .returned (.string n) ∧ Below w.heap.size w w' :=
  (rat_any p v (by omega) (by omega) w).mono fun _ _ k => ⟨by rw [k.1, h], k.2⟩
theorem below_drew1 {w w' : World} (h : Below w.drew.heap.size w.drew w') : Below w.heap.size w w' := below_drewN' (n := 1) h
theorem eq_size {a b : ByteArray} (h : a.toList = b.toList) : a = b := data_inj (by rw [← Lib.toList_data, ← Lib.toList_data]; exact h)

end Go.Proofs.YtcbpkbemnaondaaGreatDoor
