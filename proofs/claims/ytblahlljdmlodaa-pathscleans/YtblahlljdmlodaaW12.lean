/-
  paths.Clean, and the document's own.
-/
import Derived.Test.YtblahlljdmlodaaW11
namespace Go.Proofs.Ytblahlljdmlodaa
open Go.RowKit Go.Shelf
attribute [local go_sem] Oper.semAt_some

theorem boxed_stepped {W w1 : World} {n₀ B : Nat} {t e : TypeId} {size : Nat} {v v' : Value} {k m : Nat} {xs ys : List Value}
    (hv : Boxed W B t v) (hte : t ≠ e) (hrow : W.ownsRow n₀ e size v k xs) (hn₀ : n₀ ≤ W.heap.size) (hB : n₀ ≤ B)
    (hown' : w1.ownsRow n₀ e size v' m ys) (hgrow : W.grownBy w1 v.ownBlock) :
    Boxed w1 B t v ∧ Boxed (w1.setCell ⟨B, 0, none⟩ v') B t v' ∧ (w1.setCell ⟨B, 0, none⟩ v').ownsRow n₀ e size v' m ys ∧ KeepsOthers W (w1.setCell ⟨B, 0, none⟩ v') ∧ Below n₀ W (w1.setCell ⟨B, 0, none⟩ v') := by
  have hv1 : Boxed w1 B t v := hv.kept hgrow (hv.not_row hte hrow)
  refine ⟨hv1, hv1.set v', hown'.kept (grownBy_setCell' w1 B v') (.inr (hv1.not_row hte hown').symm), ?_, ?_⟩
  · refine (KeepsOthers.of_grownBy hgrow fun j o ej hj => ?_).trans (KeepsOthers.setCell _ _ _)
    rcases hrow.2 with ⟨rfl, _⟩ | ⟨g, cap, cur, rfl, _, hgb, _⟩
    · simp [Value.ownBlock] at ej
    · obtain rfl : g = j := by simpa [Value.ownBlock] using ej
      rw [hgb] at hj; cases hj; rfl
  · refine ((Below.refl n₀ W).grown hgrow hn₀ fun j ej => ?_).setCell (p := ⟨B, 0, none⟩) hB v'
    exact owns_block hrow j ej

theorem foldC_snoc (r : Bool) (L xs : List ByteArray) (x : ByteArray) : foldC r L (xs ++ [x]) = stepL r (foldC r L xs) x := by simp [foldC]
theorem stepL_sub {r : Bool} {L : List ByteArray} {x y : ByteArray} (h : y ∈ stepL r L x) : y ∈ L ∨ y = x := by
  unfold stepL at h
  split at h
  · exact .inl h
  · split at h
    · simpa using h
    · split at h
      · exact .inl (List.dropLast_subset L h)
      · split at h
        · exact .inl h
        · simpa using h
theorem stepL_len (r : Bool) (L : List ByteArray) (x : ByteArray) : (stepL r L x).length ≤ L.length + 1 := by
  unfold stepL
  split
  · omega
  · split
    · simp
    · split
      · simp; omega
      · split
        · omega
        · simp
theorem foldC_sub (r : Bool) : ∀ (xs L : List ByteArray) (y : ByteArray), y ∈ foldC r L xs → y ∈ L ∨ y ∈ xs
  | [], L, y, h => .inl h
  | x :: xs, L, y, h => by
    rcases foldC_sub r xs (stepL r L x) y h with h | h
    · rcases stepL_sub h with h | rfl
      · exact .inl h
      · exact .inr (by simp)
    · exact .inr (by simp [h])
theorem foldC_len (r : Bool) : ∀ (xs L : List ByteArray), (foldC r L xs).length ≤ L.length + xs.length
  | [], L => by simp [foldC]
  | x :: xs, L => by
    have h1 := foldC_len r xs (stepL r L x)
    have h2 := stepL_len r L x
    have e : foldC r L (x :: xs) = foldC r (stepL r L x) xs := rfl
    rw [e, List.length_cons]
    omega

/-- What is left of the elements that have come. -/
def leftOfC (r : Bool) (pre : List Str) : List ByteArray := foldC r [] (pre.map (·.1))
theorem leftOfC_snoc (r : Bool) (pre : List Str) (x : Str) : leftOfC r (pre ++ [x]) = stepL r (leftOfC r pre) x.1 := by
  rw [leftOfC, List.map_append, List.map_cons, List.map_nil, foldC_snoc]; rfl
theorem leftOfC_len (r : Bool) (pre : List Str) : (leftOfC r pre).length ≤ pre.length := by
  have := foldC_len r (pre.map (·.1)) []
  simpa [leftOfC] using this

theorem cleanB_1 {s : ByteArray} (h : (bareB s).toList.isEmpty = true) : cleanB s = ⟨#[46]⟩ := by rw [cleanB, h]; rfl
theorem cleanB_2 {s : ByteArray} (h : (bareB s).toList.isEmpty = false) : cleanB s = bareB s := by rw [cleanB, h]; rfl
theorem bare_t {s : ByteArray} (h : rootB s = true) : bareB s = slashB ++ joinBs (foldC true [] (elemsB s)) := by rw [bareB, h]; rfl
theorem bare_f {s : ByteArray} (h : rootB s = false) : bareB s = joinBs (foldC false [] (elemsB s)) := by rw [bareB, h]; exact empty_app _
theorem fold_small (r : Bool) (s : ByteArray) (hs : s.size ≤ 4200) : (foldC r [] (elemsB s)).length ≤ 4300 ∧ ∀ x ∈ foldC r [] (elemsB s), x.size ≤ 4200 := by
  have h1 := foldC_len r (elemsB s) []
  have h2 := elemsB_count s
  refine ⟨by simp at h1; omega, fun x hx => ?_⟩
  rcases foldC_sub r _ _ x hx with h | h
  · simp at h
  · exact Nat.le_trans (elemsB_size h) hs

theorem pre_t {s : ByteArray} {r : Bool} (h : rootB s = r) (w : World) : Calls Try.prog 38 #[.string s, .string ⟨#[47]⟩] w fun e w' => e = .returned (.bool r) ∧ w = w' := by
  rw [← h]; exact hasp_any s slashB w

set_option maxRecDepth 100000 in
set_option maxHeartbeats 2000000 in
theorem clean_gen (s : ByteArray) (hs : s.size ≤ 4200) (r : Bool) (hroot : rootB s = r) (w : World) :
    Calls Try.prog 21 #[.string s] w fun e w' => e = .returned (.string (cleanB s)) ∧ Below w.heap.size w w' := by
  have hcount := elemsB_count s
  have HR := Lib.hid hroot
  clear hroot
  refine (callsIn_wide (n := 4)).1 ?_
  refine callsIn_of_wp_marks Try.func21 rfl trivial ?_ rfl
  simp only [Try.ntmps21, List.size_toArray, List.length_cons, List.length_nil, Nat.reduceAdd, Nat.reduceSub, Array.replicate_succ, Array.replicate_zero, List.push_toArray, List.append_toArray, List.nil_append, List.cons_append]
  gi_wp2_with (first
    | (refine ⟨trivial, ?_⟩; gi_at_call 38; refine (callsIn_wide.2 (pre_t HR.out _)).mono ?_; rintro e w' ⟨rfl, rfl⟩)
    | (refine ⟨trivial, ?_⟩; gi_at_call 32; refine (callsIn_wide.2 (elements_any _ _)).mono ?_; rintro e w' ⟨rfl, rfl⟩))
  have c0 := Boxed.new w 4 (.bool r)
  have c1 := Boxed.new (w.alloc (.cells #[.bool r] 4)) 23 (.slice none 0 0)
  have c2 := Boxed.new ((w.alloc (.cells #[.bool r] 4)).alloc (.cells #[.slice none 0 0] 23)) 9 (.string s)
  simp only [World.size_alloc] at c1 c2
  have hB0 : Below w.heap.size w (((w.alloc (.cells #[.bool r] 4)).alloc (.cells #[.slice none 0 0] 23)).alloc (.cells #[.string s] 9)) := (((Below.refl _ w).alloc (Nat.le_refl _) _).alloc (by simp) _).alloc (by simp; omega) _
  refine wpIn_rangeFunc_ownG rfl (by omega) (gf := 50) (lb := #[.pointer (some ⟨w.heap.size + 1 + 1, 0, none⟩)]) rfl trivial (enters_of Try.func50 (by kernel_rfl) rfl)
    (elements_stops _ (by omega) (w.heap.size + 1 + 1) s hs _ (by simp) c2.cell) (fun _ _ => trivial) (fun _ _ _ _ _ _ _ _ => trivial) (Below.refl _ _) (fun _ => rfl)
    (fun pre W => (∃ v, Boxed W (w.heap.size + 1) 23 v ∧ W.ownsRow w.heap.size 9 1 v (leftOfC r pre).length ((leftOfC r pre).map Value.string) ∧ True) ∧ (Boxed W w.heap.size 4 (.bool r) ∧ Below w.heap.size w W))
    (fun _ _ _ => False)
    (OwnFrom.and (Own.from (holdsRow_own w.heap.size (w.heap.size + 1) 23 9 1 (fun pre : List Str => (leftOfC r pre).length) (fun pre => (leftOfC r pre).map Value.string) (fun pre v => True)) _) (OwnFrom.and (Own.from (boxed_own w.heap.size 4 (fun _ => .bool r)) _) (ownFrom_below (Nat.le_refl _) (by simp; omega))))
    (fun _ _ _ _ _ hs _ _ => hs)
    ⟨⟨_, c1.alloc _, World.ownsRow_nil _ _ _ _, trivial⟩, (c0.alloc _).alloc _, hB0⟩
    (fun x => { tmps := #[.string s, undef, .string ⟨#[]⟩, .pointer (some ⟨w.heap.size, 0, none⟩), .pointer (some ⟨w.heap.size + 1, 0, none⟩), .string x.1, undef, .string s, .bool r, .string s, .func (.func 50) #[] #[.pointer (some ⟨w.heap.size + 1 + 1, 0, none⟩)], .string x.1, undef, undef, undef, undef, undef, undef, undef, undef, undef, undef, undef, undef], defers := [] }) ?assign ?body ?done ?stop
  case assign =>
    intro l x W K hK
    gi_wp2
    exact hK
  case body =>
    rintro l pre x W ⟨⟨v, hv, hrow, _⟩, hr, hB⟩ hlt
    have hcv := hv.cell
    have hcr := hr.cell
    have hlen := leftOfC_len r pre
    gi_wp2_with fail
    refine ⟨trivial, ?_⟩
    refine (CallsIn.inRound l (callsIn_wide.2 (step_any w.heap.size v (leftOfC r pre) x.1 r _ hrow (by omega) hB.size))).mono ?_
    rintro _ w1 ⟨v', rfl, hown', hgrow⟩
    obtain ⟨hv1, hv2, hr2, hk2, hb2⟩ := boxed_stepped hv (by decide) hrow hB.size (by omega) hown' hgrow
    have hc1 := hv1.cell
    have hf1 := hv1.frozen
    have hr1 := (hr.kept hgrow (hr.not_row (by decide) hrow)).other (B' := w.heap.size + 1) (by omega) v'
    have hex := owns_shape hown'
    obtain ⟨a', cap', rfl⟩ := hex
    gi_wp2
    exact ⟨hk2.from _, trivial, ⟨_, hv2, by rw [leftOfC_snoc]; exact hr2, trivial⟩, hr1, hB.trans hb2⟩
  case done =>
    rintro D ys W hD rfl ⟨⟨v, hv, hrow, _⟩, hr, hB⟩ hK
    have hcv := hv.cell
    have e1 : leftOfC r (elemsS s hs) = foldC r [] (elemsB s) := by rw [leftOfC, elemsS_map]
    rw [e1] at hrow
    obtain ⟨hsm1, hsm2⟩ := fold_small r s hs
    have HS2 := Lib.hid hsm2
    clear e1 hsm2
    gi_wp2_with fail
    refine ⟨trivial, ?_⟩
    refine (callsIn_wide.2 (sjoin_any w.heap.size v _ _ hrow hsm1 HS2.out)).mono ?_
    rintro _ w1 ⟨rfl, hb1⟩
    have hK1 : w1.heap[D]? = some (.deferred (some [])) := (hb1.block D (Array.getElem?_eq_some_iff.1 hK).1).trans hK
    have hcr : w1.cell? ⟨w.heap.size, 0, none⟩ = some (.bool r) := (hb1.cell (p := ⟨w.heap.size, 0, none⟩) hr.lt).trans hr.cell
    have hjs := joinBs_size hsm1 HS2.out
    have hB1 := hB.trans (hb1.mono hB.size)
    have hB2 := hB1.trans (belowK_b (w := w) (Nat.le_refl _) w1 D _ (.deferred none) (by simp at hD; omega) hK1 rfl rfl)
    cases r
    · have HB := Lib.hid (bare_f HR.out)
      cases hemp : (joinBs (foldC false [] (elemsB s))).toList.isEmpty
      · have HC := Lib.hid (cleanB_2 (s := s) (by rw [HB.out]; exact hemp))
        gi_wp2
        refine ⟨by simp, .inl ⟨_, _, rfl, run_takeDeferred hK1, ?_⟩⟩
        exact ⟨_, results_tmp rfl _ _ _, (by rw [HC.out, HB.out]; rfl), hB2⟩
      · have HC := Lib.hid (cleanB_1 (s := s) (by rw [HB.out]; exact hemp))
        gi_wp2
        refine ⟨by simp, .inl ⟨_, _, rfl, run_takeDeferred hK1, ?_⟩⟩
        exact ⟨_, results_tmp rfl _ _ _, (by rw [HC.out]; rfl), hB2⟩
    · have HB := Lib.hid (bare_t HR.out)
      have hemp : (slashB ++ joinBs (foldC true [] (elemsB s))).toList.isEmpty = false := isEmpty_no (by rw [Lib.toList_data, data_app]; simp)
      have HC := Lib.hid (cleanB_2 (s := s) (by rw [HB.out]; exact hemp))
      gi_wp2
      refine ⟨by simp, .inl ⟨_, _, rfl, run_takeDeferred hK1, ?_⟩⟩
      exact ⟨_, results_tmp rfl _ _ _, (by rw [HC.out, HB.out]; rfl), hB2⟩
  case stop =>
    rintro D c pre W _ _ h _
    exact h.elim

theorem clean_any (s : ByteArray) (hs : s.size ≤ 4200) (w : World) :
    Calls Try.prog 21 #[.string s] w fun e w' => e = .returned (.string (cleanB s)) ∧ Below w.heap.size w w' := clean_gen s hs _ rfl w
end Go.Proofs.Ytblahlljdmlodaa
