/-
  tree.Sort: the files in the order of their paths, those of one path as they stood.
-/
import Derived.Test.YteffoajheolpmaaF28
namespace Go.Proofs.Yteffoajheolpmaa
open Go.RowKit Go.Shelf

set_option maxRecDepth 100000 in
set_option maxHeartbeats 400000 in
theorem insertion_none (c B : Nat) (w : World) : Calls Try.prog 83 #[.slice none 0 c, .int .i64 0, .int .i64 0, cmpV B] w (fun e w' => e = .returned (.tuple #[]) ∧ w' = w) := by
  unfold cmpV
  go_enter Try.func83, Try.ntmps83
  go_wp2
  go_loopw [8] (fun i wr => i = .int .i64 1 ∧ wr = w) (fun _ _ => 0)
  case atStart => exact ⟨rfl, rfl⟩
  case round =>
    obtain ⟨rfl, rfl⟩ := hrel
    go_wp2
    go_end0
    exact ⟨rfl, rfl⟩

set_option maxRecDepth 100000 in
set_option maxHeartbeats 400000 in
theorem stable_none (c B : Nat) (w : World) : Calls Try.prog 74 #[.slice none 0 c, .int .i64 0, cmpV B] w (fun e w' => e = .returned (.tuple #[]) ∧ w' = w) := by
  unfold cmpV
  go_enter Try.func74, Try.ntmps74
  go_wp2
  go_loopw [7, 8] (fun i j wr => i = .int .i64 0 ∧ j = .int .i64 20 ∧ wr = w) (fun _ _ _ => 0)
  case atStart => exact ⟨rfl, rfl, rfl⟩
  case round =>
    obtain ⟨rfl, rfl, rfl⟩ := hrel
    go_wp2_with fail
    refine (insertion_none c B _).mono ?_
    rintro _ w1 ⟨rfl, rfl⟩
    go_wp2
    go_loopw [6] (fun i wr => i = .int .i64 20 ∧ wr = w1) (fun _ _ => 0)
    case atStart => exact ⟨rfl, rfl⟩
    case round =>
      obtain ⟨rfl, rfl⟩ := hrel
      go_wp2
      go_end0
      exact ⟨rfl, rfl⟩

set_option maxRecDepth 100000 in
set_option maxHeartbeats 400000 in
theorem stableF_any (w0 : World) (g c n B : Nat) (u : Value) (w : World) (xs : List FileB) (hw : Work w0 g c n B u w xs) (hs : Short xs) (hn : n ≤ 1000) :
    Calls Try.prog 61 #[.slice (some ⟨g, 0, none⟩) n c, cmpV B] w (fun e w' => e = .returned (.tuple #[]) ∧ ∃ ys, Rises ys ∧ Kept xs ys ∧ Work w0 g c n B u w' ys) := by
  have HX := Lib.hid (stable_any w0 g c n B u w xs hw hs hn)
  clear hw hs
  unfold cmpV
  go_enter Try.func61, Try.ntmps61
  go_wp2_with fail
  refine HX.out.mono ?_
  rintro _ w1 ⟨rfl, ys, h1, h2, h3⟩
  have H1 := Lib.hid h1
  have H2 := Lib.hid h2
  clear h1 h2
  go_wp2
  go_end0
  exact ⟨rfl, ys, H1.out, H2.out, h3⟩

set_option maxRecDepth 100000 in
set_option maxHeartbeats 400000 in
theorem stableF_none (c B : Nat) (w : World) : Calls Try.prog 61 #[.slice none 0 c, cmpV B] w (fun e w' => e = .returned (.tuple #[]) ∧ w' = w) := by
  unfold cmpV
  go_enter Try.func61, Try.ntmps61
  go_wp2_with fail
  refine (stable_none c B _).mono ?_
  rintro _ w1 ⟨rfl, rfl⟩
  go_wp2
  go_end0
  exact ⟨rfl, rfl⟩

theorem withL_nil (xs : List FileB) : withL xs [] = xs := by cases xs <;> rfl
theorem sort_nil {xs : List FileB} (h : xs.length = 0) : sortB xs = xs := by rw [List.length_eq_zero_iff.1 h]; rfl

set_option maxRecDepth 100000 in
set_option maxHeartbeats 1000000 in
theorem arranged_any (xs : List FileB) (v : Value) (w : World) (hv : FRow w v xs) (h1 : Short xs) (hm : xs.length ≤ 160) :
    Calls Try.prog 40 #[sortV v] w (LOut (sortB xs) w) := by
  have hb0 : Below w.heap.size w (w.alloc (.cells #[v, .func (.func 59) #[] #[], .func (.func 60) #[] #[]] 54)) := (Below.refl _ _).alloc (Nat.le_refl _) _
  have hs : SBox (w.alloc (.cells #[v, .func (.func 59) #[] #[], .func (.func 60) #[] #[]] 54)) w.heap.size v := ⟨by simp, cell_new _ _ _ 0, cell_new _ _ _ 1, cell_new _ _ _ 2⟩
  have HX := Lib.hid (with_any xs [] v (.slice none 0 0) _ (hv.below hb0) (FRow.nil _) h1 (fun _ h => by cases h) hm (by simp) (fun h => absurd rfl h))
  have HB := Lib.hid hs
  have HS := Lib.hid h1
  obtain ⟨-, k0, k1, k2⟩ := hs
  obtain ⟨a, c, rfl, hl, -⟩ := hv
  clear h1
  unfold sortV
  go_enter Try.func40, Try.ntmps40
  go_wp2_with fail
  refine HX.out.mono ?_
  rw [withL_nil]
  rintro _ w1 ⟨A, c1, rfl, hown, hb1⟩
  have HB1 := Lib.hid (HB.out.below hb1)
  have hB := hb0.trans (hb1.mono hb0.size)
  clear k0 k1 k2 HB HX
  have hrow := hown.row
  rcases hown.2 with ⟨e, hz⟩ | ⟨g, cap, cur, e, hg, hh, hrest⟩
  · obtain rfl := List.length_eq_zero_iff.1 hz
    simp only [List.length_nil] at *
    injection e with e1 e2 e3
    subst e1 e3
    have HR := Lib.hid hrow
    clear hown hrow hb1
    go_wp2_with fail
    refine (stableF_none _ w.heap.size _).mono ?_
    rintro _ w2 ⟨rfl, rfl⟩
    go_wp2
    go_ret
    exact ⟨none, _, rfl, HR.out, hB⟩
  · injection e with e1 e2 e3
    subst e1 e3
    have hg' : w.heap.size + 1 ≤ g := by simpa using hg
    have hW : Work w g c1 xs.length w.heap.size (.slice a xs.length c) w1 xs := ⟨rfl, ⟨hown.1,   .inr ⟨g, c1, cur, rfl, by omega, hh, hrest⟩⟩, hB, HB1.out, by omega⟩
    have HX := Lib.hid (stableF_any w g c1 xs.length w.heap.size _ w1 xs hW HS.out (by omega))
    clear hown hrow hb1 hW hh hrest
    go_wp2_with fail
    refine HX.out.mono ?_
    rintro _ w2 ⟨rfl, ys, h1, h2, h3⟩
    have HY := Lib.hid (sort_is h1 h2)
    have HR := Lib.hid h3.own.row
    have HL := Lib.hid h3.len
    have hB2 := h3.below
    clear h1 h2 h3 hB HX
    go_wp2
    go_ret
    rw [← HY.out]
    refine ⟨some ⟨g, 0, none⟩, c1, by rw [HL.out]; rfl, ?_, hB2⟩
    rw [HL.out]; exact HR.out

set_option maxRecDepth 100000 in
set_option maxHeartbeats 400000 in
theorem tsort_any (xs : List FileB) (v : Value) (w : World) (hv : FRow w v xs) (h1 : Short xs) (hm : xs.length ≤ 160) :
    Calls Try.prog 14 #[v] w (LOut (sortB xs) w) := by
  have HV := Lib.hid hv
  have HS := Lib.hid h1
  obtain ⟨a, c, rfl, hl, -⟩ := hv
  clear h1
  go_enter Try.func14, Try.ntmps14
  go_wp2_with fail
  refine (byPath_any _ _ _ _).mono ?_
  rintro _ w1 ⟨rfl, hb1⟩
  go_wp2_with fail
  refine (arranged_any xs _ _ (HV.out.below hb1) HS.out hm).mono ?_
  rintro _ w2 ⟨A, c2, rfl, hrow, hb2⟩
  have HR := Lib.hid hrow
  clear hrow
  go_wp2
  go_ret
  exact ⟨A, c2, rfl, HR.out, hb1.trans (hb2.mono hb1.size)⟩
end Go.Proofs.Yteffoajheolpmaa
