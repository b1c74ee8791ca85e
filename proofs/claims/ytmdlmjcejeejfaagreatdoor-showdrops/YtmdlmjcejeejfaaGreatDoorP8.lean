/-
  The document's own split of a text at a sign, and its test of identifiers.
-/
import Derived.Test.YtmdlmjcejeejfaaGreatDoorP6
namespace Go.Proofs.YtmdlmjcejeejfaaGreatDoor
open Go.RowKit Go.Shelf

theorem segD_step {d : UInt8} {l : List UInt8} {f k : Nat} (hf : f ≤ k) (hk : l[k]? = some d) (hn : ∀ j, f ≤ j → j < k → l[j]? ≠ some d) : sp d (l.drop f) = (l.drop f).take (k - f) :: sp d (l.drop (k + 1)) := by
  have h1 : (l.drop f)[k - f]? = some d := by rw [List.getElem?_drop, show f + (k - f) = k by omega, hk]
  have h2 : ∀ c ∈ (l.drop f).take (k - f), c ≠ d := by
    intro c hc e
    obtain ⟨j, hj⟩ := List.mem_iff_getElem?.1 hc
    rw [List.getElem?_take] at hj
    split at hj
    · rw [List.getElem?_drop] at hj
      exact hn (f + j) (by omega) (by omega) (by rw [hj, e])
    · cases hj
  conv => lhs; rw [take_at h1, sp_at h2]
  rw [List.drop_drop, show f + (k - f + 1) = k + 1 by omega]
theorem segD_end {d : UInt8} {l : List UInt8} {f : Nat} (hn : ∀ j, f ≤ j → l[j]? ≠ some d) : sp d (l.drop f) = [l.drop f] := by
  refine sp_none ?_
  intro c hc e
  obtain ⟨j, hj⟩ := List.mem_iff_getElem?.1 hc
  rw [List.getElem?_drop] at hj
  exact hn (f + j) (by omega) (by rw [hj, e])

/-- How far the document's Elems has come: the elements that it has told, where the next one begins, where it looks. -/
def TolD (d : UInt8) (s : ByteArray) (f k : Nat) (acc : List ByteArray) : Prop :=
  (k ≤ s.size ∧ f ≤ k ∧ acc ++ (sp d (s.data.toList.drop f)).map mkB = partsD d s ∧ ∀ j, f ≤ j → j < k → s.data.toList[j]? ≠ some d) ∨ (k = s.size + 1 ∧ acc = partsD d s)
theorem TolD.start (d : UInt8) (s : ByteArray) : TolD d s 0 0 [] := .inl ⟨Nat.zero_le _, Nat.le_refl _, rfl, fun _ _ h => absurd h (Nat.not_lt_zero _)⟩
theorem TolD.on {d : UInt8} {s : ByteArray} {f k : Nat} {acc : List ByteArray} (h : TolD d s f k acc) (hk : k < s.size) (hc : ((s[k].toNat : Int) == (d.toNat : Int)) = false) : TolD d s f (k + 1) acc := by
  rcases h with ⟨h1, h2, h3, h4⟩ | ⟨h1, _⟩
  · refine .inl ⟨by omega, by omega, h3, fun j hj1 hj2 => ?_⟩
    by_cases e : j = k
    · subst e
      rw [get_data s j hk]
      intro e
      have := Option.some.inj e
      rw [this] at hc
      simp at hc
    · exact h4 j hj1 (by omega)
  · omega
theorem TolD.cut {d : UInt8} {s : ByteArray} {f k : Nat} {acc : List ByteArray} (h : TolD d s f k acc) (hk : k < s.size) (hc : ((s[k].toNat : Int) == (d.toNat : Int)) = true) : TolD d s (k + 1) (k + 1) (acc ++ [s.extract f k]) := by
  rcases h with ⟨h1, h2, h3, h4⟩ | ⟨h1, _⟩
  · have e : s[k] = d := by
      have := eq_of_beq hc
      apply UInt8.toNat.inj
      show s[k].toNat = d.toNat
      omega
    refine .inl ⟨by omega, by omega, ?_, fun j hj1 hj2 => by omega⟩
    rw [← h3, segD_step h2 (by rw [get_data s k hk, e]) h4, Lib.extract_eq]
    simp [mkB]
  · omega
theorem TolD.last {d : UInt8} {s : ByteArray} {f k : Nat} {acc : List ByteArray} (h : TolD d s f k acc) (hk : k = s.size) : TolD d s (k + 1) (k + 1) (acc ++ [s.extract f k]) := by
  rcases h with ⟨h1, h2, h3, h4⟩ | ⟨h1, _⟩
  · refine .inr ⟨by omega, ?_⟩
    rw [← h3, segD_end, Lib.extract_eq, hk, List.take_of_length_le (by rw [List.length_drop, size_data]; omega)]
    · simp [mkB]
    · intro j hj
      by_cases hjk : j < k
      · exact h4 j hj hjk
      · rw [List.getElem?_eq_none (by rw [size_data]; omega)]; simp
  · omega
theorem TolD.done {d : UInt8} {s : ByteArray} {f k : Nat} {acc : List ByteArray} (h : TolD d s f k acc) (hk : s.size < k) : acc = partsD d s := by
  rcases h with ⟨h1, _⟩ | ⟨_, h⟩
  · omega
  · exact h
theorem TolD.from_le {d : UInt8} {s : ByteArray} {f k : Nat} {acc : List ByteArray} (h : TolD d s f k acc) (hk : k ≤ s.size) : f ≤ k := by
  rcases h with ⟨_, h, _⟩ | ⟨h1, _⟩
  · exact h
  · omega
theorem TolD.count {d : UInt8} {s : ByteArray} {f k : Nat} {acc : List ByteArray} (h : TolD d s f k acc) : acc.length ≤ s.size + 1 := by
  have hc : (partsD d s).length ≤ s.size + 1 := by
    exact partsD_count d s
  rcases h with ⟨_, _, h, _⟩ | ⟨_, h⟩
  · rw [← h, List.length_append] at hc; omega
  · rw [h]; exact hc


set_option maxRecDepth 100000 in
set_option maxHeartbeats 1000000 in
theorem rsplit_any (d : UInt8) (s : ByteArray) (hs : s.size ≤ 20400) (w : World) :
    Calls Tryz.prog 40 #[.string s, .int .u8 (d.toNat : Int)] w (RowOut w (partsD d s)) := by
  obtain ⟨i0, hi, hz0, hz1, hz2⟩ := info_parts Tryz.info9
  go_enter Tryz.func40, Tryz.ntmps40
  go_wp2
  go_loopw [5, 6, 7] (fun l f i wr => ∃ (fr k : Nat) (acc : List ByteArray), k ≤ s.size + 1 ∧ f = .int .i64 fr ∧ i = .int .i64 k ∧ TolD d s fr k acc ∧ wr.ownsRow w.heap.size 9 1 l acc.length (acc.map Value.string) ∧ Below w.heap.size w wr)
    (fun _ _ i _ => s.size + 1 - (intOf i).toNat)
  case atStart => exact ⟨0, 0, [], Nat.zero_le _, rfl, rfl, TolD.start d s, owns_empty w, (Below.refl _ _).alloc (Nat.le_refl _) _⟩
  case round =>
    obtain ⟨fr, k, acc, hk, rfl, rfl, hT, hrow, hB⟩ := hrel
    have hcount := hT.count
    have hblk := Lib.hid (owns_block hrow)
    by_cases hend : k = s.size + 1
    · subst hend
      have HT := Lib.hid (hT.done (by omega))
      clear hT
      go_wp2
      go_ret
      exact ⟨_, rfl, by rw [← HT.out]; exact Row.of_owns hrow, hB⟩
    · by_cases hlast : k = s.size
      · have hfr := hT.from_le (by omega)
        have HT := Lib.hid (hT.last hlast)
        subst hlast
        clear hT
        go_wp2_with (at_builtin; refine wpList_append_own _ rfl _ _ 87 rfl w.heap.size 9 i0 (.string ⟨#[]⟩) 1 16 Tryz.underlying87 hi hz0 hz1 hz2 rfl (by decide) _ acc.length (acc.map Value.string) rfl (hrow.alloc _) ⟨wr.heap.size, 0, none⟩ 1 1 [.string (s.extract fr s.size)] rfl rfl (cell_one_new _ _ _) (by simp [Value.oneCell']) (by unfold maxLen; omega) (by omega) (by have := hB.size; simp; omega) ?_; intro v' w1 hown' hgrow _)
        go_roundw
        case rel => exact ⟨s.size + 1, s.size + 1, acc ++ [s.extract fr s.size], by omega, by go_num, by go_num, HT.out, owns_snoc hown', (hB.alloc hB.size _).grown hgrow (by have := hB.size; simp; omega) hblk.out⟩
        case measure => simp [intOf]
      · have hlt : k < s.size := by omega
        have hb1 : ((k : Int) == (s.size : Int)) = false := by simp; omega
        have hfr := hT.from_le (by omega)
        cases hc : ((s[k].toNat : Int) == (d.toNat : Int))
        · have HT := Lib.hid (hT.on hlt hc)
          clear hT
          go_wp2
          go_roundw
          case rel => exact ⟨fr, k + 1, acc, by omega, rfl, by go_num, HT.out, hrow, hB⟩
          case measure => simp [intOf]; omega
        · have HT := Lib.hid (hT.cut hlt hc)
          clear hT
          go_wp2_with (at_builtin; refine wpList_append_own _ rfl _ _ 87 rfl w.heap.size 9 i0 (.string ⟨#[]⟩) 1 16 Tryz.underlying87 hi hz0 hz1 hz2 rfl (by decide) _ acc.length (acc.map Value.string) rfl (hrow.alloc _) ⟨wr.heap.size, 0, none⟩ 1 1 [.string (s.extract fr k)] rfl rfl (cell_one_new _ _ _) (by simp [Value.oneCell']) (by unfold maxLen; omega) (by omega) (by have := hB.size; simp; omega) ?_; intro v' w1 hown' hgrow _)
          go_roundw
          case rel => exact ⟨k + 1, k + 1, acc ++ [s.extract fr k], by omega, by go_num, by go_num, HT.out, owns_snoc hown', (hB.alloc hB.size _).grown hgrow (by have := hB.size; simp; omega) hblk.out⟩
          case measure => simp [intOf]; omega

/-- How a sign is one of an identifier. -/
theorem nam_cases (c : UInt8) : (nam c = true ∧ (dig c = true ∨ dig c = false ∧ ((97 ≤ (c.toNat : Int) ∧ (c.toNat : Int) ≤ 122) ∨ ((c.toNat : Int) < 97 ∧ 65 ≤ (c.toNat : Int) ∧ (c.toNat : Int) ≤ 90) ∨ (c.toNat : Int) = 45))) ∨
    (nam c = false ∧ dig c = false ∧ ((c.toNat : Int) == 45) = false ∧ ((c.toNat : Int) < 65 ∨ (90 < (c.toNat : Int) ∧ (c.toNat : Int) < 97) ∨ 122 < (c.toNat : Int))) := by
  have hd : dig c = true ∨ dig c = false := by cases dig c <;> simp
  rcases hd with hd | hd
  · exact .inl ⟨by simp [nam, hd], .inl hd⟩
  · by_cases h1 : 97 ≤ c.toNat ∧ c.toNat ≤ 122
    · exact .inl ⟨by simp [nam, h1], .inr ⟨hd, .inl (by omega)⟩⟩
    · by_cases h2 : 65 ≤ c.toNat ∧ c.toNat ≤ 90
      · exact .inl ⟨by simp [nam, h2], .inr ⟨hd, .inr (.inl (by omega))⟩⟩
      · by_cases h3 : c.toNat = 45
        · exact .inl ⟨by simp [nam, h3], .inr ⟨hd, .inr (.inr (by omega))⟩⟩
        · refine .inr ⟨?_, hd, ?_, by omega⟩
          · have e1 : (decide (65 ≤ c.toNat) && decide (c.toNat ≤ 90)) = false := by rw [← Bool.decide_and]; exact decide_eq_false h2
            have e2 : (decide (97 ≤ c.toNat) && decide (c.toNat ≤ 122)) = false := by rw [← Bool.decide_and]; exact decide_eq_false h1
            simp only [nam, hd, e1, e2, decide_eq_false h3]; rfl
          · rw [beq_eq_false_iff_ne]; omega
end Go.Proofs.YtmdlmjcejeejfaaGreatDoor
