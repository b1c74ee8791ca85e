/-
  Lists of files in memory: a slice of structs of two texts, as it can be read.
-/
import Derived.Test.YteffoajheolpmaaW8
namespace Go.Proofs.Yteffoajheolpmaa
open Go.RowKit Go.Shelf

theorem Try.info32 : (Try.prog.info? 32).map (fun i => (i.zero, i.size, i.bytes)) = some (some (.agg #[.string ⟨#[]⟩, .string ⟨#[]⟩]), 2, 32) := by kernel_rfl

/-- A file: its path, its bytes. -/
abbrev FileB := ByteArray × ByteArray
def fileV (f : FileB) : Value := .agg #[.string f.1, .string f.2]
def cellsF (xs : List FileB) : List Value := xs.flatMap fun f => [.string f.1, .string f.2]

/-- The files lie from that cell on. -/
def FAt (w : World) (g o : Nat) (xs : List FileB) : Prop := ∀ i (h : i < xs.length), w.cell? ⟨g, o + i * 2, none⟩ = some (.string xs[i].1) ∧ w.cell? ⟨g, o + i * 2 + 1, none⟩ = some (.string xs[i].2)

/-- A list of files, as a slice that can be read. -/
def FRow (w : World) (v : Value) (xs : List FileB) : Prop :=
  ∃ a cap, v = .slice a xs.length cap ∧ xs.length ≤ cap ∧ (xs ≠ [] → ∃ g o, a = some ⟨g, o, none⟩ ∧ g < w.heap.size ∧ FAt w g o xs)

theorem FRow.below {w w' : World} {v : Value} {xs : List FileB} (h : FRow w v xs) (hb : Below w.heap.size w w') : FRow w' v xs := by
  obtain ⟨a, cap, rfl, hl, hc⟩ := h
  refine ⟨a, cap, rfl, hl, fun hne => ?_⟩
  obtain ⟨g, o, rfl, hg, hcell⟩ := hc hne
  exact ⟨g, o, rfl, Nat.lt_of_lt_of_le hg hb.size, fun i h => ⟨(hb.cell (p := ⟨g, _, none⟩) hg).trans (hcell i h).1, (hb.cell (p := ⟨g, _, none⟩) hg).trans (hcell i h).2⟩⟩
theorem FRow.drew {w : World} {v : Value} {xs : List FileB} (h : FRow w v xs) (n : Nat) : FRow (w.drewN n) v xs := h
theorem FRow.nil (w : World) : FRow w (.slice none 0 0) [] := ⟨none, 0, rfl, Nat.le_refl _, fun h => absurd rfl h⟩

/-- Few and small enough. -/
def Light (xs : List FileB) : Prop := xs.length ≤ 80 ∧ ∀ f ∈ xs, f.1.size ≤ 16384 ∧ f.2.size ≤ 16384
def weight (xs : List FileB) : Nat := (xs.map fun f => min f.1.size 1048576 + min f.2.size 1048576).sum
theorem weight_snoc (xs : List FileB) {k : Nat} (h : k < xs.length) : weight (xs.take (k + 1)) = weight (xs.take k) + (min xs[k].1.size 1048576 + min xs[k].2.size 1048576) := by
  unfold weight
  rw [List.take_succ_eq_append_getElem h, List.map_append, List.sum_append]; simp
theorem le_sum : ∀ {l : List Nat} {x : Nat}, x ∈ l → x ≤ l.sum
  | [], _, h => by simp at h
  | y :: l, x, h => by
    rw [List.sum_cons]
    rcases List.mem_cons.1 h with rfl | h
    · omega
    · have := le_sum h; omega
theorem light_of {xs : List FileB} (h : xs.length ≤ 80) (hw : xs.length + weight xs ≤ 16384) : Light xs := by
  refine ⟨h, fun f hf => ?_⟩
  have : min f.1.size 1048576 + min f.2.size 1048576 ≤ weight xs := by
    unfold weight
    exact le_sum (List.mem_map.2 ⟨f, hf, rfl⟩)
  omega

def HeavyOut (xs : List FileB) (w : World) (e : Ending) (w' : World) : Prop := ∃ b n, e = .returned (.bool b) ∧ (b = false → Light xs) ∧ w' = w.drewN n

set_option maxRecDepth 100000 in
set_option maxHeartbeats 1000000 in
theorem heavy_any (xs : List FileB) (v : Value) (w : World) (hv : FRow w v xs) (hm : xs.length ≤ maxLen) :
    Calls Try.prog 12 #[v] w (HeavyOut xs w) := by
  obtain ⟨a, c, rfl, hl, hc⟩ := hv
  have HC := Lib.hid hc
  clear hc
  unfold maxLen at hm
  by_cases h80 : xs.length ≤ 80
  · go_enter Try.func12, Try.ntmps12
    go_wp2
    go_loopw [3, 4] (fun n i wr => ∃ k m : Nat, k ≤ xs.length ∧ i = .int .i64 k ∧ n = .int .i64 (xs.length + weight (xs.take k) : Nat) ∧ weight (xs.take k) ≤ k * 2097152 ∧ wr = w.drewN m) (fun _ i _ => xs.length - (intOf i).toNat)
    case atStart => exact ⟨0, 0, Nat.zero_le _, rfl, rfl, Nat.zero_le _, rfl⟩
    case round =>
      obtain ⟨k, m, hk, rfl, rfl, hw, rfl⟩ := hrel
      by_cases hlt : k < xs.length
      · have HW := Lib.hid (weight_snoc xs hlt)
        obtain ⟨g, o, rfl, hg, hcell⟩ := HC.out (by intro e; rw [e] at hlt; simp at hlt)
        obtain ⟨q1, q2⟩ := hcell k hlt
        clear hcell
        generalize xs[k] = x at *
        obtain ⟨x1, x2⟩ := x
        by_cases hbig : xs.length + weight (xs.take k) ≤ 16384
        · have hwe : weight (xs.take (k + 1)) ≤ (k + 1) * 2097152 := by rw [HW.out]; omega
          go_wp2
          go_region
          all_goals
            go_wp2
            refine ⟨⟨k + 1, m + 1, by omega, by go_num, ?_, hwe, rfl⟩, by simp [intOf]; omega⟩
            rw [HW.out]
            congr 1
            split <;> split <;> omega
        · go_wp2
          go_ret
          exact ⟨true, _, rfl, (fun h => by cases h), rfl⟩
      · have hkl : k = xs.length := by omega
        subst hkl
        rw [List.take_length] at *
        have HL := Lib.hid (fun h => light_of h80 h)
        go_wp2
        go_ret
        exact ⟨_, _, rfl, (fun h => HL.out (by simp at h; omega)), rfl⟩
  · go_enter Try.func12, Try.ntmps12
    go_wp2
    all_goals
      go_ret
      exact ⟨true, 0, rfl, (fun h => by cases h), rfl⟩
end Go.Proofs.Yteffoajheolpmaa
