/-
  Two neighbouring parts of a list change places (slices' rotate).
-/
import Derived.Test.YteffoajheolpmaaF21
namespace Go.Proofs.Yteffoajheolpmaa
open Go.RowKit Go.Shelf

/-- How far it has come: what is left to change places, between what stays. -/
def RotAt (T : List FileB) (m i j : Nat) (ys : List FileB) : Prop := ∃ P A C S, ys = P ++ A ++ C ++ S ∧ T = P ++ C ++ A ++ S ∧ A.length = i ∧ C.length = j ∧ P.length + i = m
theorem RotAt.more {T : List FileB} {m i j : Nat} {ys : List FileB} (h : RotAt T m i j ys) (hij : j < i) :
    ∃ P A M C S, ys = P ++ A ++ M ++ C ++ S ∧ C.length = A.length ∧ m - i = P.length ∧ m = P.length + A.length + M.length ∧ j = A.length ∧ RotAt T m (i - j) j (P ++ C ++ M ++ A ++ S) := by
  obtain ⟨P, A, C, S, rfl, rfl, h1, h2, h3⟩ := h
  refine ⟨P, A.take j, A.drop j, C, S, ?_, ?_, ?_, ?_, ?_, P ++ C, A.drop j, A.take j, S, ?_, ?_, ?_, ?_, ?_⟩
  · rw [List.append_assoc P (A.take j), List.take_append_drop]
  · simp; omega
  · omega
  · simp; omega
  · simp; omega
  · rfl
  · rw [List.append_assoc (P ++ C) (A.take j), List.take_append_drop]
  · simp; omega
  · simp; omega
  · simp; omega
theorem RotAt.less {T : List FileB} {m i j : Nat} {ys : List FileB} (h : RotAt T m i j ys) (hij : i < j) :
    ∃ P A M C S, ys = P ++ A ++ M ++ C ++ S ∧ C.length = A.length ∧ m - i = P.length ∧ m + j - i = P.length + A.length + M.length ∧ i = A.length ∧ RotAt T m i (j - i) (P ++ C ++ M ++ A ++ S) := by
  obtain ⟨P, A, C, S, rfl, rfl, h1, h2, h3⟩ := h
  refine ⟨P, A, C.take (j - i), C.drop (j - i), S, ?_, ?_, ?_, ?_, ?_, P, C.drop (j - i), C.take (j - i), A ++ S, ?_, ?_, ?_, ?_, ?_⟩
  · rw [List.append_assoc (P ++ A) (C.take _), List.take_append_drop]
  · simp; omega
  · omega
  · simp; omega
  · omega
  · simp only [List.append_assoc]
  · rw [List.append_assoc P (C.take _), List.take_append_drop]; simp only [List.append_assoc]
  · simp; omega
  · simp; omega
  · omega
theorem RotAt.last {T : List FileB} {m i : Nat} {ys : List FileB} (h : RotAt T m i i ys) :
    ∃ P A M C S, ys = P ++ A ++ M ++ C ++ S ∧ C.length = A.length ∧ m - i = P.length ∧ m = P.length + A.length + M.length ∧ i = A.length ∧ P ++ C ++ M ++ A ++ S = T := by
  obtain ⟨P, A, C, S, rfl, rfl, h1, h2, h3⟩ := h
  exact ⟨P, A, [], C, S, by simp, by omega, by omega, by simp; omega, by omega, by simp⟩

set_option maxRecDepth 100000 in
set_option maxHeartbeats 2000000 in
theorem rotate_any (w0 : World) (g c n B : Nat) (u : Value) (w : World) (P A C S : List FileB) (hw : Work w0 g c n B u w (P ++ A ++ C ++ S)) (a m b : Nat) (ha : a = P.length) (hm : m = P.length + A.length) (hb : b = P.length + A.length + C.length) (h1 : a < m) (h2 : m < b) (hn : n ≤ 1000) :
    Calls Try.prog 95 #[.slice (some ⟨g, 0, none⟩) n c, .int .i64 a, .int .i64 m, .int .i64 b, cmpV B] w (DoneOut w0 g c n B u (P ++ C ++ A ++ S)) := by
  have hlen := hw.len
  simp only [List.length_append] at hlen
  have hbn : b ≤ n := by omega
  have H0 := Lib.hid (show RotAt (P ++ C ++ A ++ S) m (m - a) (b - m) (P ++ A ++ C ++ S) from ⟨P, A, C, S, rfl, rfl, by omega, by omega, by omega⟩)
  generalize P ++ C ++ A ++ S = T at *
  have HW := Lib.hid hw
  clear hw hlen ha hb hm
  have ew1 : ((m : Int) - (a : Int)) = ((m - a : Nat) : Int) := by omega
  have ew2 : ((b : Int) - (m : Int)) = ((b - m : Nat) : Int) := by omega
  go_enter Try.func95, Try.ntmps95
  go_wp2
  go_loopw [10, 11] (fun i j wr => ∃ (k l : Nat) (ys : List FileB), 0 < k ∧ 0 < l ∧ k ≤ m ∧ m + l ≤ b ∧ i = .int .i64 k ∧ j = .int .i64 l ∧ RotAt T m k l ys ∧ Work w0 g c n B u wr ys) (fun i j _ => (intOf i + intOf j).toNat)
  case atStart => exact ⟨m - a, b - m, _, by omega, by omega, by omega, by omega, by go_num, by go_num, H0.out, HW.out⟩
  case round =>
    obtain ⟨k, l, ys, hk0, hl0, hkm, hlb, rfl, rfl, hr, hwk⟩ := hrel
    have ek : ((m : Int) - (k : Int)) = ((m - k : Nat) : Int) := by omega
    by_cases heq : k = l
    · subst heq
      obtain ⟨P, A, M, C, S, rfl, q1, q2, q3, q4, q5⟩ := hr.last
      have HX := Lib.hid (swapRange_any w0 g c n B u _ P A M C S hwk q1 (m - k) m k q2 q3 q4 hn)
      rw [q5] at HX
      clear hr q1 q2 q3 q4 q5 hwk
      go_wp2_with fail
      refine HX.out.mono ?_
      rintro _ w1 ⟨rfl, hd⟩
      go_wp2
      go_end0
      exact ⟨rfl, hd⟩
    · by_cases hlt : l < k
      · obtain ⟨P, A, M, C, S, rfl, q1, q2, q3, q4, q5⟩ := hr.more hlt
        have HX := Lib.hid (swapRange_any w0 g c n B u _ P A M C S hwk q1 (m - k) m l q2 q3 q4 hn)
        have H5 := Lib.hid q5
        clear hr q1 q2 q3 q4 q5 hwk
        generalize P ++ C ++ M ++ A ++ S = zs at *
        go_wp2_with fail
        refine HX.out.mono ?_
        rintro _ w1 ⟨rfl, hd⟩
        go_wp2
        go_roundw
        case rel => exact ⟨k - l, l, zs, by omega, by omega, by omega, by omega, by go_num, rfl, H5.out, hd⟩
        case measure => simp [intOf]; omega
      · obtain ⟨P, A, M, C, S, rfl, q1, q2, q3, q4, q5⟩ := hr.less (by omega)
        have HX := Lib.hid (swapRange_any w0 g c n B u _ P A M C S hwk q1 (m - k) (m + l - k) k q2 q3 q4 hn)
        have H5 := Lib.hid q5
        clear hr q1 q2 q3 q4 q5 hwk
        generalize P ++ C ++ M ++ A ++ S = zs at *
        have ek2 : ((m : Int) + (l : Int) - (k : Int)) = ((m + l - k : Nat) : Int) := by omega
        go_wp2_with fail
        refine HX.out.mono ?_
        rintro _ w1 ⟨rfl, hd⟩
        go_wp2
        go_roundw
        case rel => exact ⟨k, l - k, zs, by omega, by omega, by omega, by omega, rfl, by go_num, H5.out, hd⟩
        case measure => simp [intOf]; omega
end Go.Proofs.Yteffoajheolpmaa
