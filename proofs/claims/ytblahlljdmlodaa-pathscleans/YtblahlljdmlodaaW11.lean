/-
  Cleaning: one step (paths.step), strings.Join at a slash over a list that the call owns.
-/
import Derived.Test.YtblahlljdmlodaaM4
import Derived.Test.YtblahlljdmlodaaJoin
import Derived.WalkSmall
import Derived.Deep.DeepCutAuto
namespace Go.Proofs.Ytblahlljdmlodaa
open Go.RowKit Go.Shelf

/-- A call that hands back a list of its own, that may lie in the memory of the list v. -/
def StepOut (base : Nat) (v : Value) (w : World) (L : List ByteArray) (e : Ending) (w' : World) : Prop :=
  ∃ v', e = .returned v' ∧ w'.ownsRow base 9 1 v' L.length (L.map Value.string) ∧ w.grownBy w' v.ownBlock

theorem owns_shape {w : World} {base : Nat} {v : Value} {L : List ByteArray} (h : w.ownsRow base 9 1 v L.length (L.map Value.string)) : ∃ a cap, v = .slice a L.length cap := by
  obtain ⟨_, ⟨rfl, h0⟩ | ⟨g, cap, cur, rfl, _⟩⟩ := h
  · exact ⟨none, 0, by rw [h0]⟩
  · exact ⟨_, cap, rfl⟩
theorem owns_last {w : World} {base : Nat} {a : Option Addr} {k cap : Nat} {L : List ByteArray} {y : ByteArray} (hk : k = L.length) (h : w.ownsRow base 9 1 (.slice a (k + 1) cap) (L ++ [y]).length ((L ++ [y]).map Value.string)) :
    ∃ g, a = some ⟨g, 0, none⟩ ∧ k + 1 ≤ cap ∧ w.cell? ⟨g, k, none⟩ = some (.string y) ∧ w.ownsRow base 9 1 (.slice (some ⟨g, 0, none⟩) k cap) L.length (L.map Value.string) := by
  subst hk
  obtain ⟨g, ha, _, hc⟩ := (Row.at (Row.of_owns h)).2 (by simp)
  subst ha
  have hcap : L.length + 1 ≤ cap := by
    obtain ⟨_, ⟨e, _⟩ | ⟨g', cap', cur, e, _, _, hle, _⟩⟩ := h
    · cases e
    · simp only [Value.slice.injEq] at e
      obtain ⟨_, _, rfl⟩ := e
      simpa using hle
  refine ⟨g, rfl, hcap, ?_, ?_⟩
  · have := hc L.length (by simp)
    simpa using this
  · refine ownsRow_pop (last := [.string y]) (by simp) ?_
    simpa using h
theorem grown_app {w w1 : World} {o : Obj} {row : Option Nat} (h : (w.alloc o).grownBy w1 row) : w.grownBy w1 row := (World.grownBy_alloc w o row).trans h
theorem stepL_0 {r : Bool} {L : List ByteArray} {x : ByteArray} (h : hereB x = true) : stepL r L x = L := by simp [stepL, h]
theorem stepL_1 {r : Bool} {L : List ByteArray} {x : ByteArray} (h : hereB x = false) (hd : ddB x = false) : stepL r L x = L ++ [x] := by simp [stepL, h, hd]
theorem stepL_2 {r : Bool} {L : List ByteArray} {x : ByteArray} (h : hereB x = false) (hd : ddB x = true) (hl : lastDD L = true) : stepL r L x = L.dropLast := by simp [stepL, h, hd, hl]
theorem stepL_3 {r : Bool} {L : List ByteArray} {x : ByteArray} (h : hereB x = false) (hd : ddB x = true) (hl : lastDD L = false) : stepL r L x = if r then L else L ++ [x] := by simp [stepL, h, hd, hl]
theorem lastDD_snoc (L : List ByteArray) (y : ByteArray) : lastDD (L ++ [y]) = !ddB y := by simp [lastDD]

theorem libjoin : ∀ X : List (List UInt8), Lib.join X [47] = joinL X
  | [] => rfl
  | [x] => Lib.join_one x [47]
  | x :: y :: t => by
    have ih := libjoin (y :: t)
    rw [joinL_cons x (by simp), ← ih, Lib.join_cons, Lib.join_cons]
    simp [Lib.joinTail]
theorem joinL_len (m : Nat) : ∀ X : List (List UInt8), (∀ x ∈ X, x.length ≤ m) → (joinL X).length ≤ X.length * (m + 1)
  | [], _ => by simp [joinL]
  | [x], h => by have := h x (by simp); simp [joinL]; omega
  | x :: y :: t, h => by
    have ih := joinL_len m (y :: t) (fun z hz => h z (by simp [hz]))
    have hx := h x (by simp)
    have e : (x :: y :: t).length = (y :: t).length + 1 := rfl
    rw [joinL_cons x (by simp), List.length_append, List.length_cons, e, Nat.succ_mul]
    omega
theorem joinBs_size {L : List ByteArray} (hL : L.length ≤ 4300) (hs : ∀ x ∈ L, x.size ≤ 4200) : (joinBs L).size ≤ 4300 * 4201 := by
  rw [← size_data, joinBs_data]
  have := joinL_len 4200 (L.map fun x => x.data.toList) (fun x hx => by obtain ⟨y, hy, rfl⟩ := List.mem_map.1 hx; rw [size_data]; exact hs y hy)
  rw [List.length_map] at this
  exact Nat.le_trans this (Nat.mul_le_mul hL (Nat.le_refl _))

theorem sjoin_any (base : Nat) (v : Value) (L : List ByteArray) (w : World) (hown : w.ownsRow base 9 1 v L.length (L.map Value.string)) (hL : L.length ≤ 4300) (hs : ∀ x ∈ L, x.size ≤ 4200) :
    Calls Try.prog 44 #[v, .string slashB] w fun e w' => e = .returned (.string (joinBs L)) ∧ Below w.heap.size w w' := by
  obtain ⟨a, cap, rfl⟩ := owns_shape hown
  cases L with
  | nil =>
    refine (Try.strings_Join_none a cap slashB w).mono ?_
    rintro e w' ⟨rfl, rfl⟩
    exact ⟨rfl, Below.refl _ _⟩
  | cons y t =>
    obtain ⟨g, ha, hg, hc⟩ := (Row.at (Row.of_owns hown)).2 (by simp)
    subst ha
    have hcap : (y :: t).length ≤ cap := by
      obtain ⟨_, ⟨e, _⟩ | ⟨g', cap', cur, e, _, _, hle, _⟩⟩ := hown
      · cases e
      · cases e; exact hle
    have hj := joinBs_size hL hs
    rw [← size_data, joinBs_data] at hj
    refine (Try.strings_Join g 0 cap (y :: t) slashB w (fun j x hx => ?_) hg (by omega) hcap ?_).mono ?_
    · obtain ⟨hlt, hx'⟩ := List.getElem?_eq_some_iff.1 hx
      rw [← hx', Nat.zero_add]; exact hc j hlt
    · show (Lib.join _ [47]).length ≤ _
      rw [libjoin]; exact Nat.le_trans hj (by decide)
    · rintro e w' ⟨rfl, hb⟩
      refine ⟨?_, hb⟩
      show Ending.returned (.string (mkB (Lib.join _ [47]))) = _
      rw [libjoin]; rfl

set_option maxRecDepth 100000 in
set_option maxHeartbeats 1000000 in
theorem step_any (base : Nat) (v : Value) (L : List ByteArray) (x : ByteArray) (r : Bool) (w : World) (hown : w.ownsRow base 9 1 v L.length (L.map Value.string)) (hL : L.length ≤ 4300) (hbase : base ≤ w.heap.size) :
    Calls Try.prog 43 #[v, .string x, .bool r] w (StepOut base v w (stepL r L x)) := by
  obtain ⟨i0, hi, hz0, hz1, hz2⟩ := info_parts Try.info9
  obtain ⟨a, cap, rfl⟩ := owns_shape hown
  by_cases hx1 : x.toList = []
  · have HS := Lib.hid (stepL_0 (r := r) (L := L) (hereB_yes hx1))
    go_enter Try.func43, Try.ntmps43
    go_wp2
    go_ret
    exact ⟨_, rfl, by rw [HS.out]; exact hown, World.grownBy.refl _ _⟩
  · have hx1' : x.toList.isEmpty = false := isEmpty_no hx1
    cases hx2 : (x.toList == [46])
    · have hh : hereB x = false := hereB_no ⟨hx1', hx2⟩
      cases hx3 : (x.toList == [46, 46])
      · have HS := Lib.hid (stepL_1 (r := r) (L := L) hh hx3)
        go_enter Try.func43, Try.ntmps43
        go_wp2_with (at_builtin; refine wpList_append_own _ rfl _ _ 23 rfl base 9 i0 (.string ⟨#[]⟩) 1 16 Try.underlying23 hi hz0 hz1 hz2 rfl (by decide) _ L.length (L.map Value.string) rfl (hown.alloc _) ⟨w.heap.size, 0, none⟩ 1 1 [.string x] rfl rfl (cell_one_new _ _ _) (by simp [Value.oneCell']) (by unfold maxLen; omega) (by omega) (by simp; omega) ?_; intro v' w1 hown' hgrow _)
        go_ret
        exact ⟨v', rfl, by rw [HS.out]; exact owns_snoc hown', grown_app hgrow⟩
      · have hd : ddB x = true := hx3
        rcases List.eq_nil_or_concat L with rfl | ⟨L', y, rfl⟩
        · have HS := Lib.hid (stepL_3 (r := r) (L := []) hh hd rfl)
          cases r
          · go_enter Try.func43, Try.ntmps43
            go_wp2_with (at_builtin; refine wpList_append_own _ rfl _ _ 23 rfl base 9 i0 (.string ⟨#[]⟩) 1 16 Try.underlying23 hi hz0 hz1 hz2 rfl (by decide) _ 0 [] rfl (hown.alloc _) ⟨w.heap.size, 0, none⟩ 1 1 [.string x] rfl rfl (cell_one_new _ _ _) (by simp [Value.oneCell']) (by unfold maxLen; omega) (by omega) (by simp; omega) ?_; intro v' w1 hown' hgrow _)
            go_ret
            exact ⟨v', rfl, by rw [HS.out]; exact owns_snoc (xs := []) hown', grown_app hgrow⟩
          · go_enter Try.func43, Try.ntmps43
            go_wp2
            go_ret
            exact ⟨_, rfl, by rw [HS.out]; exact hown, World.grownBy.refl _ _⟩
        · rw [List.concat_eq_append] at *
          have hlen : (L' ++ [y]).length = L'.length + 1 := by simp
          have hown0 := hown
          rw [hlen] at hL
          rw [show (Value.slice a (L' ++ [y]).length cap) = Value.slice a (L'.length + 1) cap by rw [hlen]] at hown0 ⊢
          obtain ⟨g, rfl, hcap, hcell, hpop⟩ := owns_last rfl hown0
          have HO := Lib.hid hown0
          clear hown hown0 hlen
          cases hy : (y.toList == [46, 46])
          · have HS := Lib.hid (stepL_2 (r := r) (L := L' ++ [y]) hh hd (by rw [lastDD_snoc]; simp [ddB, hy]))
            go_enter Try.func43, Try.ntmps43
            go_wp2
            go_ret
            exact ⟨_, rfl, by rw [HS.out, List.dropLast_concat]; exact hpop, World.grownBy.refl _ _⟩
          · have HS := Lib.hid (stepL_3 (r := r) (L := L' ++ [y]) hh hd (by rw [lastDD_snoc]; simp [ddB, hy]))
            cases r
            · have hrow := HO.out
              go_enter Try.func43, Try.ntmps43
              go_wp2_with (at_builtin; refine wpList_append_own _ rfl _ _ 23 rfl base 9 i0 (.string ⟨#[]⟩) 1 16 Try.underlying23 hi hz0 hz1 hz2 rfl (by decide) _ (L' ++ [y]).length ((L' ++ [y]).map Value.string) rfl (hrow.alloc _) ⟨w.heap.size, 0, none⟩ 1 1 [.string x] rfl rfl (cell_one_new _ _ _) (by simp [Value.oneCell']) (by unfold maxLen; simp; omega) (by simp; omega) (by simp; omega) ?_; intro v' w1 hown' hgrow _)
              go_ret
              exact ⟨v', rfl, by rw [HS.out]; exact owns_snoc hown', grown_app hgrow⟩
            · go_enter Try.func43, Try.ntmps43
              go_wp2
              go_ret
              exact ⟨_, rfl, by rw [HS.out]; exact HO.out, World.grownBy.refl _ _⟩
    · have HS := Lib.hid (stepL_0 (r := r) (L := L) (hereB_yes2 (.inr hx2)))
      go_enter Try.func43, Try.ntmps43
      go_wp2
      go_ret
      exact ⟨_, rfl, by rw [HS.out]; exact hown, World.grownBy.refl _ _⟩
end Go.Proofs.Ytblahlljdmlodaa
