/-
  Plain facts: a Pre that ends in a time and a hash, by its last signs.
-/
import Derived.Test.YtoljpmelfebjoaaDoorP22
namespace Go.Proofs.YtoljpmelfebjoaaDoor
set_option linter.unusedVariables false

def headOk (H : List UInt8) : Prop := H = [] ∨ H = [48, 46] ∨ (3 < H.length ∧ H.drop (H.length - 3) = [46, 48, 46])
structure Ps (L H t r : List UInt8) : Prop where
  whole : L = H ++ (t ++ 45 :: r)
  time : t.length = 14
  hash : r.length = 12
  digits : digs t = true
  hex : hexL r = true
  head : headOk H
theorem ext (p : ByteArray) (a b : Nat) : (p.extract a b).data.toList = (p.data.toList.drop a).take (b - a) := by simp
theorem hOk_iff (H : ByteArray) : hOk H = true ↔ headOk H.data.toList := by
  unfold hOk headOk
  simp only [Bool.or_eq_true, Bool.and_eq_true, decide_eq_true_eq, beq_iff_eq, List.isEmpty_iff, Lib.toList_data, ext, size_data]
  rw [List.take_of_length_le (by simp)]
theorem hex_all {r : List UInt8} (h : r.length = 12) : hexL r = r.all hexS := by
  unfold hexL allL
  cases r with
  | nil => simp at h
  | cons c r => rfl
theorem outS_ps {p : ByteArray} {H t r : List UInt8} (h : Ps p.data.toList H t r) : outS p = .tuple #[.string (mkB t), .string (mkB r), .bool true] := by
  have hz : p.size = H.length + 27 := by
    rw [← size_data, h.whole]; simp [h.time, h.hash]
  rw [outS_1 hz]
  have e1 : (p.extract H.length (H.length + 14)).data.toList = t := by
    rw [ext, h.whole, List.drop_left, show H.length + 14 - H.length = t.length by rw [h.time]; omega, List.take_left]
  have e2 : (p.extract (H.length + 15) (H.length + 27)).data.toList = r := by
    rw [ext, h.whole, show H.length + 15 = H.length + (t.length + 1) by rw [h.time], ← List.drop_drop, List.drop_left, ← List.drop_drop, List.drop_left]
    rw [h.time]
    rw [show H.length + 27 - (H.length + (14 + 1)) = r.length by rw [h.hash]; omega]
    simp
  have e3 : (p.extract 0 H.length).data.toList = H := by
    rw [ext, h.whole]; simp
  have e4 : p.data.toList[H.length + 14]? = some 45 := by
    rw [h.whole, List.getElem?_append_right (by omega), show H.length + 14 - H.length = t.length by rw [h.time]; omega, List.getElem?_append_right (by omega)]; simp
  have k : endOk p H.length = true := by
    unfold endOk allB
    rw [e1, e2, e4, h.digits, ← hex_all h.hash, h.hex, (hOk_iff _).2 (by rw [e3]; exact h.head)]; rfl
  rw [outN, if_pos k]
  rw [show p.extract H.length (H.length + 14) = mkB t from data_inj (by rw [e1, data_mkB]), show p.extract (H.length + 15) (H.length + 27) = mkB r from data_inj (by rw [e2, data_mkB])]
theorem outS_no {p : ByteArray} (h : ∀ H t r, ¬ Ps p.data.toList H t r) : outS p = noQ := by
  unfold outS
  split
  · rename_i hz
    unfold outN
    split
    · rename_i k
      exfalso
      unfold endOk allB at k
      simp only [Bool.and_eq_true, beq_iff_eq] at k
      obtain ⟨k1, k2, k3, k4⟩ := k
      have hl : p.data.toList.length = p.size := size_data p
      refine h (p.extract 0 (p.size - 27)).data.toList (p.extract (p.size - 27) (p.size - 27 + 14)).data.toList (p.extract (p.size - 27 + 15) (p.size - 27 + 27)).data.toList ⟨?_, ?_, ?_, k1, ?_, (hOk_iff _).1 k4⟩
      · rw [ext, ext, ext]
        generalize hn : p.size - 27 = n at *
        have z : p.data.toList.length = n + 27 := by omega
        generalize p.data.toList = L at *
        have w1 : L.drop (n + 14) = 45 :: L.drop (n + 15) := by
          obtain ⟨hlt, hg⟩ := List.getElem?_eq_some_iff.1 k2
          rw [List.drop_eq_getElem_cons hlt, hg]
        rw [show n + 27 - (n + 15) = 12 by omega, List.take_of_length_le (l := L.drop (n + 15)) (by simp; omega), ← w1, show n + 14 - n = 14 by omega, ← List.drop_drop, List.take_append_drop]
        simp
      · rw [ext]; simp; omega
      · rw [ext]; simp; omega
      · rw [hex_all (by rw [ext]; simp; omega)]; exact k3
    · rfl
  · rfl
end Go.Proofs.YtoljpmelfebjoaaDoor
