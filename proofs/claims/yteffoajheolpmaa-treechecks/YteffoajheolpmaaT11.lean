/-
  The parts of a merge, plain.
-/
import Derived.Test.YteffoajheolpmaaF25
namespace Go.Proofs.Yteffoajheolpmaa
open Go.RowKit Go.Shelf

/-- The four parts at a cut. -/
structure Quart (A C A1 A2 C1 C2 : List FileB) : Prop where
  ha : A = A1 ++ A2
  hc : C = C1 ++ C2
  r1 : Rises A1
  r2 : Rises A2
  r3 : Rises C1
  r4 : Rises C2
  whole : ∀ L R, Rises L → Kept (A1 ++ C1) L → Rises R → Kept (A2 ++ C2) R → Rises (L ++ R) ∧ Kept (A ++ C) (L ++ R)
theorem Cut.quart {A C : List FileB} {s e : Nat} (h : Cut A C s e) (ha : Rises A) (hc : Rises C) : Quart A C (A.take s) (A.drop s) (C.take e) (C.drop e) := by
  have ha' := ha
  have hc' := hc
  rw [← List.take_append_drop s A] at ha'
  rw [← List.take_append_drop e C] at hc'
  have pa := List.pairwise_append.1 ha'
  have pc := List.pairwise_append.1 hc'
  exact ⟨(List.take_append_drop s A).symm, (List.take_append_drop e C).symm, pa.1, pa.2.1, pc.1, pc.2.1, fun L R h1 h2 h3 h4 => h.whole ha hc h1 h2 h3 h4⟩
/-- What the third search leaves. -/
theorem third_parts {P A C S : List FileB} {mid lo hi st : Nat} (ha : Rises A) (hc : Rises C) (hA : 0 < A.length) (hC : 0 < C.length) (hb : Bounds P.length (P.length + A.length) (P.length + A.length + C.length) mid lo hi)
    (h : Sk (fun q => NotLess (keyAt (P ++ A ++ C ++ S) (mid + (P.length + A.length) - 1 - q)) (keyAt (P ++ A ++ C ++ S) q)) lo hi st st) :
    ∃ A1 A2 C1 C2, Quart A C A1 A2 C1 C2 ∧ P.length + A1.length = st ∧ P.length + A1.length + C1.length = mid ∧ st ≤ mid := by
  have hcut := third_cut (S := S) ha hc hA hC hb h
  obtain ⟨hm, hb⟩ := hb
  have h1 := h.a
  have h2 := h.c
  have h3 := hcut.hs
  have h4 := hcut.he
  exact ⟨_, _, _, _, hcut.quart ha hc, by rw [List.length_take]; omega, by rw [List.length_take, List.length_take]; omega, by omega⟩
theorem third_mono' {P A C S : List FileB} {mid lo hi : Nat} (ha : Rises A) (hc : Rises C) (hA : 0 < A.length) (hC : 0 < C.length) (hb : Bounds P.length (P.length + A.length) (P.length + A.length + C.length) mid lo hi) (q r : Nat) (h1 : lo ≤ q) (h2 : q ≤ r) (h3 : r < hi)
    (h : NotLess (keyAt (P ++ A ++ C ++ S) (mid + (P.length + A.length) - 1 - r)) (keyAt (P ++ A ++ C ++ S) r)) : NotLess (keyAt (P ++ A ++ C ++ S) (mid + (P.length + A.length) - 1 - q)) (keyAt (P ++ A ++ C ++ S) q) := third_mono ha hc hA hC hb q r h1 h2 h3 h

/-- A list under way that has come so far. -/
def Came (w0 : World) (g c n B : Nat) (u : Value) (P A S : List FileB) (w' : World) : Prop := ∃ ys, Parted P A S ys ∧ Short ys ∧ Work w0 g c n B u w' ys
theorem Quart.turn {A C A1 A2 C1 C2 : List FileB} (h : Quart A C A1 A2 C1 C2) (P S : List FileB) : P ++ A ++ C ++ S = (P ++ A1) ++ A2 ++ C1 ++ (C2 ++ S) := by
  rw [h.ha, h.hc]; simp only [List.append_assoc]
theorem left_form (P A1 C1 A2 C2 S : List FileB) : (P ++ A1) ++ C1 ++ A2 ++ (C2 ++ S) = P ++ A1 ++ C1 ++ (A2 ++ C2 ++ S) := by simp only [List.append_assoc]
/-- The left half is merged by itself where one of its parts is empty. -/
theorem Quart.left {w0 : World} {g c n B : Nat} {u : Value} {w : World} {A C A1 A2 C1 C2 P S : List FileB} (h : Quart A C A1 A2 C1 C2) (he : A1.length = 0 ∨ C1.length = 0) (hs : Short (P ++ A1 ++ C1 ++ (A2 ++ C2 ++ S))) (hw : Work w0 g c n B u w (P ++ A1 ++ C1 ++ (A2 ++ C2 ++ S))) : Came w0 g c n B u P (A1 ++ C1) (A2 ++ C2 ++ S) w := by
  refine ⟨_, ⟨A1 ++ C1, ?_, Kept.refl _, by simp only [List.append_assoc]⟩, hs, hw⟩
  rcases he with e | e
  · rw [List.length_eq_zero_iff.1 e]; exact h.r3
  · rw [List.length_eq_zero_iff.1 e, List.append_nil]; exact h.r1
/-- The right half. -/
theorem Quart.right {w0 : World} {g c n B : Nat} {u : Value} {w : World} {A C A1 A2 C1 C2 P S L : List FileB} (h : Quart A C A1 A2 C1 C2) (he : A2.length = 0 ∨ C2.length = 0) (hs : Short (P ++ L ++ (A2 ++ C2 ++ S))) (hw : Work w0 g c n B u w (P ++ L ++ (A2 ++ C2 ++ S))) : Came w0 g c n B u (P ++ L) (A2 ++ C2) S w := by
  refine ⟨_, ⟨A2 ++ C2, ?_, Kept.refl _, by simp only [List.append_assoc]⟩, hs, hw⟩
  rcases he with e | e
  · rw [List.length_eq_zero_iff.1 e]; exact h.r4
  · rw [List.length_eq_zero_iff.1 e, List.append_nil]; exact h.r2
theorem Quart.done {w0 : World} {g c n B : Nat} {u : Value} {w : World} {A C A1 A2 C1 C2 P S L : List FileB} (h : Quart A C A1 A2 C1 C2) (h1 : Rises L) (h2 : Kept (A1 ++ C1) L) (hr : Came w0 g c n B u (P ++ L) (A2 ++ C2) S w) : Came w0 g c n B u P (A ++ C) S w := by
  obtain ⟨ys, ⟨R, h3, h4, rfl⟩, h5, h6⟩ := hr
  obtain ⟨k1, k2⟩ := h.whole L R h1 h2 h3 h4
  exact ⟨_, ⟨L ++ R, k1, k2, by simp only [List.append_assoc]⟩, h5, h6⟩
theorem short_turn {P A1 A2 C1 C2 S : List FileB} (h : Short ((P ++ A1) ++ A2 ++ C1 ++ (C2 ++ S))) : Short (P ++ A1 ++ C1 ++ (A2 ++ C2 ++ S)) := by
  intro f hf
  apply h f
  simp only [List.mem_append] at hf ⊢
  rcases hf with ((h | h) | h) | ((h | h) | h) <;> simp [h]
theorem no_turn {P A1 A2 C1 C2 S : List FileB} (he : A2.length = 0 ∨ C1.length = 0) : (P ++ A1) ++ A2 ++ C1 ++ (C2 ++ S) = P ++ A1 ++ C1 ++ (A2 ++ C2 ++ S) := by
  rcases he with e | e <;> rw [List.length_eq_zero_iff.1 e] <;> simp
end Go.Proofs.Yteffoajheolpmaa
