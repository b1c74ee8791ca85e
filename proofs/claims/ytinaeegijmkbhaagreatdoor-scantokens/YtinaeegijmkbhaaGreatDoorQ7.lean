/-
  The document's own scanner: New.
-/
import Derived.Test.YtinaeegijmkbhaaGreatDoorQ3
import Derived.Test.YtinaeegijmkbhaaGreatDoorQ4
import Derived.Below
import Derived.RangeFuncRecord
set_option linter.unusedVariables false
namespace Go.Proofs.YtinaeegijmkbhaaGreatDoor
open Go.RowKit Go.Shelf

theorem bad_nil (k : Nat) : badL k [] = none := by rw [badL]
theorem bad_yes {k : Nat} {c : UInt8} {r : List UInt8} (h : wideL (c :: r) = 0 ∨ c = 0) : badL k (c :: r) = some k := by rw [badL, if_pos h]
theorem bad_on {k : Nat} {c : UInt8} {r : List UInt8} (h : ¬ (wideL (c :: r) = 0 ∨ c = 0)) : badL k (c :: r) = badL (k + wideL (c :: r)) ((c :: r).drop (wideL (c :: r))) := by
  rw [badL, if_neg h, dif_neg (fun x => h (.inl x))]
/-- How far a source was looked through. -/
def NewTo (s : ByteArray) (k : Nat) : Prop := badL 0 s.data.toList = badL k (s.data.toList.drop k)
theorem NewTo.start (s : ByteArray) : NewTo s 0 := rfl
theorem NewTo.done {s : ByteArray} {k : Nat} (h : NewTo s k) (hk : s.size ≤ k) : badL 0 s.data.toList = none := by
  unfold NewTo at h; rw [h, List.drop_of_length_le (by rw [size_data]; exact hk), bad_nil]
theorem NewTo.bad {s : ByteArray} {k : Nat} (h : NewTo s k) (hk : k < s.size) (e : wideL (s.data.toList.drop k) = 0 ∨ s[k] = 0) : badL 0 s.data.toList = some k := by
  unfold NewTo at h
  rw [h]
  rw [drop_get s k hk] at e ⊢
  exact bad_yes e
theorem NewTo.on {s : ByteArray} {k : Nat} (h : NewTo s k) (hk : k < s.size) (e : ¬ (wideL (s.data.toList.drop k) = 0 ∨ s[k] = 0)) : NewTo s (k + wideL (s.data.toList.drop k)) := by
  unfold NewTo at h ⊢
  have hd := drop_get s k hk
  rw [h]
  rw [← List.drop_drop]
  rw [hd] at e ⊢
  rw [bad_on e]

/-- A source's beginning: behind EF BB BF. -/
def bomN (s : ByteArray) : Nat := if s.data.toList.take 3 = [239, 187, 191] then 3 else 0
/-- A scanner in memory: the source, where it is, and may a line end there. -/
def ScanR (w : World) (p : Nat) (s : ByteArray) (k : Nat) (semi : Bool) : Prop := w.heap[p]? = some (.cells #[.string s, .int .i64 (k : Int), .bool semi] 46)

/-- What New tells. -/
def NewOut (s : ByteArray) (w : World) (e : Ending) (w' : World) : Prop := Below w.heap.size w w' ∧
  ((∃ k, badL 0 s.data.toList = some k ∧ e = .returned (.tuple #[.pointer none, .agg #[.int .i64 100, .string ⟨#[]⟩, .int .i64 (lineL (s.data.toList.take k) : Nat)]])) ∨
   (badL 0 s.data.toList = none ∧ ∃ p, w.heap.size ≤ p ∧ e = .returned (.tuple #[.pointer (some ⟨p, 0, none⟩), .agg #[.int .i64 0, .string ⟨#[]⟩, .int .i64 0]]) ∧ ScanR w' p s (bomN s) false))

set_option maxRecDepth 100000 in
set_option maxHeartbeats 1600000 in
theorem rnew_any (s : ByteArray) (hs : s.size ≤ 20400) (w : World) : Calls Tryz.prog 6 #[.string s] w (NewOut s w) := by
  have H0 := Lib.hid (NewTo.start s)
  go_enter Tryz.func6, Tryz.ntmps6
  go_wp2
  go_loop [4] (fun i => ∃ k : Nat, k ≤ s.size ∧ i = .int .i64 k ∧ NewTo s k) (fun i => s.size - (intOf i).toNat)
  case atStart => exact ⟨0, Nat.zero_le _, rfl, H0.out⟩
  case round =>
    obtain ⟨k, hk, rfl, hN⟩ := hrel
    have HN := Lib.hid hN
    clear hN H0
    by_cases hlt : k < s.size
    · have hwl : wideL (s.data.toList.drop k) ≤ s.size - k := by
        have := wideL_le (s.data.toList.drop k)
        rwa [List.length_drop, size_data] at this
      have HBad := Lib.hid (fun h => HN.out.bad hlt h)
      have HOn := Lib.hid (fun h => HN.out.on hlt h)
      go_wp2_with fail
      refine (rwide_any (s.extract k s.size) (by rw [ByteArray.size_extract]; omega) (by rw [ByteArray.size_extract]; omega) _).mono ?_
      rintro _ w' ⟨rfl, rfl⟩
      rw [extract_tail]
      generalize wideL (s.data.toList.drop k) = n at *
      by_cases hb : n = 0 ∨ s[k] = 0
      · have HH := Lib.hid (HBad.out hb)
        have hb' : ((n : Int) == 0) = true ∨ (((n : Int) == 0) = false ∧ ((s[k].toNat : Int) == 0) = true) := by
          by_cases h : n = 0
          · left; subst h; rfl
          · right
            refine ⟨by simp; exact h, ?_⟩
            rw [hb.resolve_left h]; rfl
        clear hb HBad HOn
        rcases hb' with hb | ⟨hb, hb'⟩
        all_goals
          go_wp2_with fail
          refine (rline_any _ _ hs _).mono ?_
          rintro _ w' ⟨rfl, rfl⟩
          simp only [Int.toNat_natCast]
          go_wp2
          generalize hL : lineL (s.data.toList.take k) = L at *
          have y0 : (w.alloc (.cells #[.int .i64 100, .string ⟨#[]⟩, .int .i64 (L : Int)] 26)).cell? ⟨w.heap.size, 0, none⟩ = some (.int .i64 100) := cell_new w _ 26 0
          have y1 : (w.alloc (.cells #[.int .i64 100, .string ⟨#[]⟩, .int .i64 (L : Int)] 26)).cell? ⟨w.heap.size, 1, none⟩ = some (.string ⟨#[]⟩) := cell_new w _ 26 1
          have y2 : (w.alloc (.cells #[.int .i64 100, .string ⟨#[]⟩, .int .i64 (L : Int)] 26)).cell? ⟨w.heap.size, 2, none⟩ = some (.int .i64 (L : Int)) := cell_new w _ 26 2
          exact bodyPost_ret (v := .tuple #[.pointer none, .agg #[.int .i64 100, .string ⟨#[]⟩, .int .i64 (L : Int)]]) (by simp [results, Tryz.results6, go_sem, y0, y1, y2]) rfl ⟨(Below.refl _ _).alloc (Nat.le_refl _) _, .inl ⟨k, HH.out, by rw [hL]⟩⟩
      · have HH := Lib.hid (HOn.out hb)
        have hn0 : n ≠ 0 := fun x => hb (.inl x)
        have b1 : ((n : Int) == 0) = false := by simp; exact hn0
        have b2 : ((s[k].toNat : Int) == 0) = false := by
          cases h : ((s[k].toNat : Int) == 0)
          · rfl
          · exact absurd (byte_eq (d := 0) h) fun x => hb (.inr x)
        clear hb HBad HOn
        go_wp2
        go_round
        case rel => exact ⟨k + n, by omega, by go_num, HH.out⟩
        case measure => simp [intOf]; omega
    · have HH := Lib.hid (HN.out.done (by omega))
      have hk' : k = s.size := by omega
      by_cases hb : 3 ≤ s.size ∧ ((s.extract 0 3).toList == [239, 187, 191]) = true
      · obtain ⟨hb1, hb2⟩ := hb
        have HBom := Lib.hid (show bomN s = 3 by
          have := eq_of_beq hb2
          rw [Lib.toList_data, extract_mid, List.drop_zero] at this
          unfold bomN; rw [if_pos this])
        have i3 : (3 : Int) ≤ (s.size : Int) := by omega
        clear hk'
        go_wp2
        generalize hA : (.cells #[.int .i64 0, .string ⟨#[]⟩, .int .i64 0] 26 : Obj) = A
        have HA := Lib.hid hA
        have y (j : Nat) : ((w.alloc A).alloc (.cells #[.string s, .int .i64 3, .bool false] 46)).cell? ⟨w.heap.size, j, none⟩ = (#[.int .i64 0, .string ⟨#[]⟩, .int .i64 0] : Array Value)[j]? := by
          rw [← hA]
          exact (((Below.refl _ (w.alloc (.cells #[.int .i64 0, .string ⟨#[]⟩, .int .i64 0] 26))).alloc (Nat.le_refl _) _).cell (p := ⟨w.heap.size, j, none⟩) (by simp)).trans (cell_new w _ 26 j)
        have y0 := y 0
        have y1 := y 1
        have y2 := y 2
        clear hA y
        refine bodyPost_ret (v := .tuple #[.pointer (some ⟨w.heap.size + 1, 0, none⟩), .agg #[.int .i64 0, .string ⟨#[]⟩, .int .i64 0]]) (by simp [results, Tryz.results6, go_sem, y0, y1, y2]) rfl ⟨((Below.refl _ _).alloc (Nat.le_refl _) _).alloc (by simp) _, .inr ⟨HH.out, w.heap.size + 1, by omega, rfl, ?_⟩⟩
        unfold ScanR
        rw [HBom.out, show w.heap.size + 1 = (w.alloc A).heap.size by simp, World.alloc_heap_new]
        rfl
      · have HBom := Lib.hid (show bomN s = 0 by
          unfold bomN
          rw [if_neg]
          intro e
          refine hb ⟨?_, ?_⟩
          · have := congrArg List.length e
            rw [List.length_take, size_data] at this
            simp at this; omega
          · rw [Lib.toList_data, extract_mid, List.drop_zero, e]; rfl)
        have hb' : (s.size : Int) < 3 ∨ (3 ≤ (s.size : Int) ∧ ((s.extract 0 3).toList == [239, 187, 191]) = false) := by
          by_cases h : 3 ≤ s.size
          · right
            refine ⟨by omega, ?_⟩
            cases h' : ((s.extract 0 3).toList == [239, 187, 191])
            · rfl
            · exact absurd ⟨h, h'⟩ hb
          · left; omega
        clear hb hk'
        rcases hb' with h3 | ⟨h3, h4⟩
        all_goals
          go_wp2
          generalize hA : (.cells #[.int .i64 0, .string ⟨#[]⟩, .int .i64 0] 26 : Obj) = A
          have HA := Lib.hid hA
          have y (j : Nat) : ((w.alloc A).alloc (.cells #[.string s, .int .i64 0, .bool false] 46)).cell? ⟨w.heap.size, j, none⟩ = (#[.int .i64 0, .string ⟨#[]⟩, .int .i64 0] : Array Value)[j]? := by
            rw [← hA]
            exact (((Below.refl _ (w.alloc (.cells #[.int .i64 0, .string ⟨#[]⟩, .int .i64 0] 26))).alloc (Nat.le_refl _) _).cell (p := ⟨w.heap.size, j, none⟩) (by simp)).trans (cell_new w _ 26 j)
          have y0 := y 0
          have y1 := y 1
          have y2 := y 2
          clear hA y
          refine bodyPost_ret (v := .tuple #[.pointer (some ⟨w.heap.size + 1, 0, none⟩), .agg #[.int .i64 0, .string ⟨#[]⟩, .int .i64 0]]) (by simp [results, Tryz.results6, go_sem, y0, y1, y2]) rfl ⟨((Below.refl _ _).alloc (Nat.le_refl _) _).alloc (by simp) _, .inr ⟨HH.out, w.heap.size + 1, by omega, rfl, ?_⟩⟩
          unfold ScanR
          rw [HBom.out, show w.heap.size + 1 = (w.alloc A).heap.size by simp, World.alloc_heap_new]
          rfl
end Go.Proofs.YtinaeegijmkbhaaGreatDoor
