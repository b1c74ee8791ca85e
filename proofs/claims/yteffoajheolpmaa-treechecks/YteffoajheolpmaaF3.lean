/-
  tree.Find and the document's own; whether two lists of files are the same.
-/
import Derived.Test.YteffoajheolpmaaF2
namespace Go.Proofs.Yteffoajheolpmaa
open Go.RowKit Go.Shelf

theorem seek_ex {q : ByteArray} : ∀ {xs : List FileB}, Up xs → ∃ i, Seek xs q i i
  | [], _ => ⟨0, Seek.start [] q⟩
  | x :: xs, h => by
    have h' := List.pairwise_cons.1 h
    by_cases e : compareN x.1 q < 0
    · obtain ⟨i, h1, h2, h3, h4⟩ := seek_ex (q := q) h'.2
      refine ⟨i + 1, Nat.le_refl _, by simp; omega, fun f hf => ?_, by simpa using h4⟩
      rw [List.take_succ_cons] at hf
      rcases List.mem_cons.1 hf with rfl | hf
      · exact e
      · exact h3 f hf
    · refine ⟨0, Nat.le_refl _, Nat.zero_le _, by simp, fun f hf => ?_⟩
      rw [List.drop_zero] at hf
      rcases List.mem_cons.1 hf with rfl | hf
      · exact e
      · intro hc
        have := h'.1 f hf
        exact e (cmp_lt (b := f.1) (by omega) (Int.le_of_lt hc))
theorem seek_place {xs : List FileB} (q : ByteArray) (h : Up xs) : Seek xs q (placeN xs q) (placeN xs q) := by
  obtain ⟨i, hi⟩ := seek_ex (q := q) h
  rw [hi.place]; exact hi
theorem place_le (xs : List FileB) (q : ByteArray) : placeN xs q ≤ xs.length := List.length_filter_le _ _
theorem cmp_zero {a b : ByteArray} : compareN a b = 0 ↔ a = b := ⟨compareN_eq, fun h => by rw [h]; exact cmp_self b⟩
theorem has_iff {xs : List FileB} {q : ByteArray} : hasP xs q = true ↔ ∃ f ∈ xs, f.1 = q := by
  unfold hasP
  rw [List.any_eq_true]
  simp only [decide_eq_true_eq, cmp_zero]
theorem has_place {xs : List FileB} {q : ByteArray} (hu : Up xs) (h : hasP xs q = true) : ∃ hp : placeN xs q < xs.length, xs[placeN xs q].1 = q := by
  have hs := seek_place q hu
  by_cases hp : placeN xs q < xs.length
  · refine ⟨hp, ?_⟩
    rw [hs.has hu hp] at h
    exact cmp_zero.1 (of_decide_eq_true h)
  · rw [hs.none hp] at h; cases h

/-- The bytes of the first file of that path, and whether there is one. -/
def findB (xs : List FileB) (q : ByteArray) : ByteArray × Bool :=
  match xs.find? fun f => f.1.toList == q.toList with
  | some f => (f.2, true)
  | none => (⟨#[]⟩, false)
theorem find_none {xs : List FileB} {q : ByteArray} (h : hasP xs q = false) : findB xs q = (⟨#[]⟩, false) := by
  have : (xs.find? fun f => f.1.toList == q.toList) = none := by
    rw [List.find?_eq_none]
    intro f hf e
    have e' := toList_inj.1 (eq_of_beq e)
    have := has_iff.2 ⟨f, hf, e'⟩
    rw [h] at this; cases this
  rw [findB, this]
theorem find_first {xs : List FileB} {q : ByteArray} {k : Nat} (hk : k < xs.length) (h : ∀ f ∈ xs.take k, ¬ f.1 = q) (e : xs[k].1 = q) : findB xs q = (xs[k].2, true) := by
  have : (xs.find? fun f => f.1.toList == q.toList) = some xs[k] := by
    conv => lhs; rw [← List.take_append_drop k xs]
    rw [List.find?_append, List.find?_eq_none.2 (fun f hf e => h f hf (toList_inj.1 (eq_of_beq e))), List.drop_eq_getElem_cons hk, List.find?_cons_of_pos (by simp [e])]; rfl
  rw [findB, this]
theorem find_place {xs : List FileB} {q : ByteArray} (hu : Up xs) (h : hasP xs q = true) (hp : placeN xs q < xs.length) : findB xs q = (xs[placeN xs q].2, true) := by
  obtain ⟨_, e⟩ := has_place hu h
  refine find_first hp (fun f hf hc => ?_) e
  have := (seek_place q hu).2.2.1 f hf
  rw [hc, cmp_self] at this; omega

def FoundOut (xs : List FileB) (q : ByteArray) (w : World) (e : Ending) (w' : World) : Prop := e = .returned (.tuple #[.string (findB xs q).1, .bool (findB xs q).2]) ∧ Below w.heap.size w w'

set_option maxRecDepth 100000 in
set_option maxHeartbeats 1000000 in
theorem tfind_any (xs : List FileB) (v : Value) (q : ByteArray) (w : World) (hv : FRow w v xs) (h1 : Short xs) (h2 : q.size ≤ 20300) (hm : xs.length ≤ 1000) (hu : Up xs) :
    Calls Try.prog 23 #[v, .string q] w (FoundOut xs q w) := by
  have HV := Lib.hid hv
  obtain ⟨a, c, rfl, hl, -⟩ := hv
  cases hh : hasP xs q
  · have HF := Lib.hid (find_none hh)
    have H1 := Lib.hid h1
    have HU := Lib.hid hu
    clear h1 hu
    go_enter Try.func23, Try.ntmps23
    go_wp2_with fail
    refine (byPath_any _ _ _ _).mono ?_
    rintro _ w1 ⟨rfl, hb⟩
    go_wp2_with fail
    refine (find_any xs _ q _ (HV.out.below hb) H1.out h2 hm HU.out).mono ?_
    rintro _ w2 ⟨rfl, hb2⟩
    replace hb := hb.trans (hb2.mono hb.size)
    go_wp2
    go_ret2
    exact ⟨by rw [HF.out]; rfl, hb⟩
  · have hp := (has_place hu hh).1
    have HF := Lib.hid (find_place hu hh hp)
    have H1 := Lib.hid h1
    have HU := Lib.hid hu
    clear h1 hu
    go_enter Try.func23, Try.ntmps23
    go_wp2_with fail
    refine (byPath_any _ _ _ _).mono ?_
    rintro _ w1 ⟨rfl, hb⟩
    go_wp2_with fail
    refine (find_any xs _ q _ (HV.out.below hb) H1.out h2 hm HU.out).mono ?_
    rintro _ w2 ⟨rfl, hb2⟩
    replace hb := hb.trans (hb2.mono hb.size)
    obtain ⟨a', c', e', hl', hcl⟩ := HV.out.below hb
    cases e'
    obtain ⟨g, o, rfl, hg, hcell⟩ := hcl (by intro e; rw [e] at hp; simp at hp)
    obtain ⟨q1, q2⟩ := hcell _ hp
    clear hcell hcl
    go_wp2
    go_ret2
    exact ⟨by rw [HF.out]; rfl, hb⟩

def FoundQ (xs : List FileB) (q : ByteArray) (w : World) (e : Ending) (w' : World) : Prop := e = .returned (.tuple #[.string (findB xs q).1, .bool (findB xs q).2]) ∧ w = w'
theorem none_on {xs : List FileB} {q : ByteArray} {k : Nat} (h : ∀ f ∈ xs.take k, ¬ f.1 = q) (hk : k < xs.length) (e : ¬ xs[k].1 = q) : ∀ f ∈ xs.take (k + 1), ¬ f.1 = q := by
  rw [List.take_succ_eq_append_getElem hk]
  intro f hf
  rcases List.mem_append.1 hf with hf | hf
  · exact h f hf
  · simp at hf; subst hf; exact e
theorem none_end {xs : List FileB} {q : ByteArray} {k : Nat} (h : ∀ f ∈ xs.take k, ¬ f.1 = q) (hk : xs.length ≤ k) : findB xs q = (⟨#[]⟩, false) := by
  refine find_none ?_
  cases e : hasP xs q
  · rfl
  · obtain ⟨f, hf, e⟩ := has_iff.1 e
    rw [List.take_of_length_le hk] at h
    exact absurd e (h f hf)

set_option maxRecDepth 100000 in
set_option maxHeartbeats 1000000 in
theorem rfind_any (xs : List FileB) (v : Value) (q : ByteArray) (w : World) (hv : FRow w v xs) (hm : xs.length ≤ 1000) :
    Calls Try.prog 24 #[v, .string q] w (FoundQ xs q w) := by
  obtain ⟨a, c, rfl, hl, hc⟩ := hv
  have HC := Lib.hid hc
  clear hc
  go_enter Try.func24, Try.ntmps24
  go_wp2
  go_loop [6] (fun i => ∃ k : Nat, k ≤ xs.length ∧ i = .int .i64 k ∧ ∀ f ∈ xs.take k, ¬ f.1 = q) (fun i => xs.length - (intOf i).toNat)
  case atStart => exact ⟨0, Nat.zero_le _, rfl, by simp⟩
  case round =>
    obtain ⟨k, hk, rfl, ht⟩ := hrel
    have HT := Lib.hid ht
    clear ht
    by_cases hlt : k < xs.length
    · obtain ⟨g, o, rfl, hg, hcell⟩ := HC.out (by intro e; rw [e] at hlt; simp at hlt)
      obtain ⟨q1, q2⟩ := hcell k hlt
      have HY := Lib.hid (find_first hlt HT.out)
      have HN := Lib.hid (none_on HT.out hlt)
      clear hcell
      generalize xs[k] = x at *
      obtain ⟨x1, x2⟩ := x
      cases he : (x1.toList == q.toList)
      · have HP := Lib.hid (HN.out (fun e => by rw [show x1 = q from e] at he; simp at he))
        go_wp2
        go_round
        case rel => exact ⟨k + 1, by omega, by go_num, HP.out⟩
        case measure => simp [intOf]; omega
      · have HP := Lib.hid (HY.out (toList_inj.1 (eq_of_beq he)))
        go_wp2
        go_ret2
        exact ⟨by rw [HP.out]; rfl, rfl⟩
    · have HP := Lib.hid (none_end HT.out (by omega))
      go_wp2
      go_ret2
      exact ⟨by rw [HP.out]; rfl, rfl⟩

def sameF (xs ys : List FileB) : Bool := decide (xs = ys)
theorem sameF_on {xs ys : List FileB} {k : Nat} (h : xs.take k = ys.take k) (hx : k < xs.length) (hy : k < ys.length) (e : xs[k] = ys[k]) : xs.take (k + 1) = ys.take (k + 1) := by
  rw [List.take_succ_eq_append_getElem hx, List.take_succ_eq_append_getElem hy, h, e]
theorem sameF_no {xs ys : List FileB} {k : Nat} (hx : k < xs.length) (hy : k < ys.length) (e : ¬ xs[k] = ys[k]) : sameF xs ys = false := by
  unfold sameF
  refine decide_eq_false ?_
  rintro rfl
  exact e rfl
theorem sameF_end {xs ys : List FileB} {k : Nat} (h : xs.take k = ys.take k) (hl : xs.length = ys.length) (hk : xs.length ≤ k) : sameF xs ys = true := by
  unfold sameF
  rw [List.take_of_length_le hk, List.take_of_length_le (by omega)] at h
  exact decide_eq_true h
theorem sameF_len {xs ys : List FileB} (hl : ¬ xs.length = ys.length) : sameF xs ys = false := by
  unfold sameF
  exact decide_eq_false (fun e => hl (by rw [e]))

def SameOut (b : Bool) (w : World) (e : Ending) (w' : World) : Prop := e = .returned (.bool b) ∧ ∃ n, w' = w.drewN n

set_option maxRecDepth 100000 in
set_option maxHeartbeats 1000000 in
theorem rsame_any (xs ys : List FileB) (v u : Value) (w : World) (hv : FRow w v xs) (hu : FRow w u ys) (hx : xs.length ≤ 1000) :
    Calls Try.prog 17 #[v, u] w (SameOut (sameF xs ys) w) := by
  obtain ⟨a, c, rfl, hlc, hc⟩ := hv
  obtain ⟨b, d, rfl, hld, hd⟩ := hu
  by_cases hl : xs.length = ys.length
  · have hb1 : ((xs.length : Int) == (ys.length : Int)) = true := by simp [hl]
    have hb2 : ((xs.length : Int) != (ys.length : Int)) = false := by simp [hl]
    have HL := Lib.hid hl
    have HC := Lib.hid hc
    have HD := Lib.hid hd
    clear hl hc hd
    go_enter Try.func17, Try.ntmps17
    go_wp2
    go_loopw [5] (fun i wr => ∃ k n : Nat, k ≤ xs.length ∧ i = .int .i64 k ∧ xs.take k = ys.take k ∧ wr = w.drewN n) (fun i _ => xs.length - (intOf i).toNat)
    case atStart => exact ⟨0, 0, Nat.zero_le _, rfl, rfl, rfl⟩
    case round =>
      obtain ⟨k, n, hk, rfl, ht, rfl⟩ := hrel
      have HT := Lib.hid ht
      clear ht
      by_cases hlt : k < xs.length
      · have hlt2 : k < ys.length := by rw [← HL.out]; exact hlt
        obtain ⟨g, o, rfl, hg, hcell⟩ := HC.out (by intro e; rw [e] at hlt; simp at hlt)
        obtain ⟨g2, o2, rfl, hg2, hcell2⟩ := HD.out (by intro e; rw [e] at hlt2; simp at hlt2)
        obtain ⟨q1, q2⟩ := hcell k hlt
        obtain ⟨q3, q4⟩ := hcell2 k hlt2
        have HY := Lib.hid (sameF_on HT.out hlt hlt2)
        have HN := Lib.hid (sameF_no hlt hlt2)
        clear hcell hcell2
        generalize xs[k] = x at *
        generalize ys[k] = y at *
        obtain ⟨x1, x2⟩ := x
        obtain ⟨y1, y2⟩ := y
        by_cases e1 : x1 = y1
        · subst e1
          by_cases e2 : x2 = y2
          · subst e2
            have HP := Lib.hid (HY.out rfl)
            go_wp2
            go_region
            all_goals
              go_wp2
              go_roundw
              case rel => exact ⟨k + 1, _, by omega, by go_num, HP.out, rfl⟩
              case measure => simp [intOf]; omega
          · have e3 : ¬ x2.toList = y2.toList := fun h => e2 (toList_inj.1 h)
            have HP := Lib.hid (HN.out (fun h => e2 (Prod.mk.inj h).2))
            clear e2
            go_wp2
            go_region
            all_goals
              go_wp2
              go_ret
              exact ⟨ret_bool HP.out.symm, _, rfl⟩
        · have e3 : ¬ x1.toList = y1.toList := fun h => e1 (toList_inj.1 h)
          have HP := Lib.hid (HN.out (fun h => e1 (Prod.mk.inj h).1))
          clear e1
          go_wp2
          go_region
          all_goals
            go_wp2
            go_ret
            exact ⟨ret_bool HP.out.symm, _, rfl⟩
      · go_wp2
        go_ret
        exact ⟨ret_bool (sameF_end HT.out HL.out (by omega)).symm, _, rfl⟩
  · have hb1 : ((xs.length : Int) == (ys.length : Int)) = false := by simp; omega
    have HL := Lib.hid (sameF_len hl)
    go_enter Try.func17, Try.ntmps17
    go_wp2
    go_ret
    exact ⟨ret_bool HL.out.symm, 0, rfl⟩
end Go.Proofs.Yteffoajheolpmaa
