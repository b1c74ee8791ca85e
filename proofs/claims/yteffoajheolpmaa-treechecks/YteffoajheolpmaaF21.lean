/-
  Two parts of a list change places (slices' swapRange).
-/
import Derived.Test.YteffoajheolpmaaF20
namespace Go.Proofs.Yteffoajheolpmaa
open Go.RowKit Go.Shelf

def cmpV (B : Nat) : Value := .func (.func 62) #[] #[.pointer (some ⟨B, 0, none⟩)]

/-- How far two parts have changed places. -/
def SwapAt (P A M C S : List FileB) (k : Nat) (ys : List FileB) : Prop := ys = P ++ C.take k ++ A.drop k ++ M ++ A.take k ++ C.drop k ++ S
theorem SwapAt.next {P A M C S ys : List FileB} {k : Nat} (h : SwapAt P A M C S k ys) (hk : k < A.length) (hc : C.length = A.length) :
    ∃ P' M' S' x y, ys = P' ++ x :: M' ++ y :: S' ∧ P'.length = P.length + k ∧ P'.length + 1 + M'.length = P.length + A.length + M.length + k ∧ SwapAt P A M C S (k + 1) (P' ++ y :: M' ++ x :: S') := by
  refine ⟨P ++ C.take k, A.drop (k + 1) ++ M ++ A.take k, C.drop (k + 1) ++ S, A[k], C[k], ?_, ?_, ?_, ?_⟩
  · rw [h, List.drop_eq_getElem_cons hk, List.drop_eq_getElem_cons (by omega : k < C.length)]; simp only [List.append_assoc, List.cons_append]
  · simp; omega
  · simp; omega
  · unfold SwapAt
    rw [List.take_succ_eq_append_getElem hk, List.take_succ_eq_append_getElem (by omega : k < C.length)]; simp only [List.append_assoc, List.cons_append, List.nil_append]

set_option maxRecDepth 100000 in
set_option maxHeartbeats 2000000 in
theorem swapRange_any (w0 : World) (g c n B : Nat) (u : Value) (w : World) (P A M C S : List FileB) (hw : Work w0 g c n B u w (P ++ A ++ M ++ C ++ S)) (hc : C.length = A.length) (a b m : Nat) (ha : a = P.length) (hb : b = P.length + A.length + M.length) (hm : m = A.length) (hn : n ≤ 1000) :
    Calls Try.prog 99 #[.slice (some ⟨g, 0, none⟩) n c, .int .i64 a, .int .i64 b, .int .i64 m, cmpV B] w (DoneOut w0 g c n B u (P ++ C ++ M ++ A ++ S)) := by
  have hlen := hw.len
  simp only [List.length_append] at hlen
  have hbn : b + m ≤ n := by omega
  have hab : a + m ≤ b := by omega
  have HW := Lib.hid hw
  have HN := Lib.hid (fun ys k (h : SwapAt P A M C S k ys) (hk : k < m) => h.next (by omega) hc)
  have H0 := Lib.hid (show SwapAt P A M C S 0 (P ++ A ++ M ++ C ++ S) by simp [SwapAt])
  have HE := Lib.hid (fun ys k (h : SwapAt P A M C S k ys) (hk : k = m) => show ys = P ++ C ++ M ++ A ++ S by subst hk; rw [h, hm, List.take_of_length_le (Nat.le_of_eq hc), List.take_length, List.drop_length, List.drop_of_length_le (Nat.le_of_eq hc)]; simp)
  have HA := Lib.hid ha
  have HB := Lib.hid hb
  clear hw hlen ha hb hm hc
  unfold cmpV
  go_enter Try.func99, Try.ntmps99
  go_wp2
  go_loopw [10] (fun i wr => ∃ (k : Nat) (ys : List FileB), k ≤ m ∧ i = .int .i64 k ∧ SwapAt P A M C S k ys ∧ Work w0 g c n B u wr ys) (fun i _ => m - (intOf i).toNat)
  case atStart => exact ⟨0, _, Nat.zero_le _, rfl, H0.out, HW.out⟩
  case round =>
    obtain ⟨k, ys, hk, rfl, hsw, hwk⟩ := hrel
    by_cases hlt : k < m
    · obtain ⟨P', M', S', ⟨x1, x2⟩, ⟨y1, y2⟩, rfl, h1, h2, h3⟩ := HN.out ys k hsw hlt
      have e1 : P'.length = a + k := by rw [h1, HA.out]
      have e2 : P'.length + 1 + M'.length = b + k := by rw [h2, HB.out]
      obtain ⟨q1, q2⟩ := hwk.cell (at_two P' M' S' _ _).1
      obtain ⟨q3, q4⟩ := hwk.cell (at_two P' M' S' _ _).2
      have HS := Lib.hid hwk.swap
      rw [e2] at q3 q4 HS
      rw [e1] at q1 q2 HS
      have f1 := hwk.frozen ((a + k) * 2)
      have f2 := hwk.frozen ((a + k) * 2 + 1)
      have f3 := hwk.frozen ((b + k) * 2)
      have f4 := hwk.frozen ((b + k) * 2 + 1)
      have t1 : ((a : Int) + (k : Int)).toNat = a + k := by omega
      have t2 : ((b : Int) + (k : Int)).toNat = b + k := by omega
      have i1 : (0 : Int) ≤ (a : Int) + (k : Int) := by omega
      have i2 : (a : Int) + (k : Int) < (n : Int) := by omega
      have i3 : (0 : Int) ≤ (b : Int) + (k : Int) := by omega
      have i4 : (b : Int) + (k : Int) < (n : Int) := by omega
      have H3 := Lib.hid h3
      clear hsw h1 h2 h3 hwk e1 e2
      go_wp2
      go_region
      go_wp2
      go_roundw
      case rel => exact ⟨k + 1, _, by omega, by go_num, H3.out, HS.out.drew⟩
      case measure => simp [intOf]; omega
    · have HEE := Lib.hid (HE.out ys k hsw (by omega))
      clear hsw
      go_wp2
      go_end0
      rw [← HEE.out]
      exact ⟨rfl, hwk⟩
end Go.Proofs.Yteffoajheolpmaa
