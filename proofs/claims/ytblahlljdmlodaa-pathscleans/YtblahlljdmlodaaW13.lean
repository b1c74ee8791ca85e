/-
  The document's own Clean answers as paths.Clean does.
-/
import Derived.Test.YtblahlljdmlodaaW12
import Derived.Test.YtblahlljdmlodaaW10
namespace Go.Proofs.Ytblahlljdmlodaa
open Go.RowKit Go.Shelf

theorem joinL_snoc (z : List UInt8) : ∀ ys : List (List UInt8), joinL (ys ++ [z]) = if ys = [] then z else joinL ys ++ 47 :: z
  | [] => rfl
  | [p] => rfl
  | p :: q :: t => by
    have ih := joinL_snoc z (q :: t)
    simp only [List.cons_append, List.cons_ne_nil, if_false] at ih ⊢
    rw [joinL_cons p (by simp), ih]
    simp [joinL]
theorem root_yes {s : ByteArray} (h : 0 < s.size) (e : ((s[0].toNat : Int) == 47) = true) : rootB s = true := by
  rw [rootB, prefB_at 47 h]; exact e
theorem root_no {s : ByteArray} (h : 0 < s.size) (e : ((s[0].toNat : Int) == 47) = false) : rootB s = false := by
  rw [rootB, prefB_at 47 h]; exact e
theorem root_empty {s : ByteArray} (h : s.size = 0) : rootB s = false := by
  rw [rootB, prefB]
  have : ¬ slashB.size ≤ s.size := by rw [h]; decide
  simp only [this, decide_false, Bool.false_and]
theorem root_cases {s : ByteArray} {r : Bool} (h : rootB s = r) : (s.size = 0 ∧ r = false) ∨ ∃ h : 0 < s.size, ((s[0].toNat : Int) == 47) = r := by
  by_cases h0 : s.size = 0
  · rw [root_empty h0] at h; exact .inl ⟨h0, h.symm⟩
  · have hp : 0 < s.size := by omega
    refine .inr ⟨hp, ?_⟩
    rw [rootB, prefB_at 47 hp] at h; exact h
/-- What the document's Clean has written when j elements have come. -/
def accB (r : Bool) (L : List ByteArray) (j : Nat) : ByteArray := headB r ++ joinBs (L.take j)
theorem accB_zero (r : Bool) (L : List ByteArray) : accB r L 0 = headB r := by
  apply data_ext; rw [accB, data_app, List.take_zero]; simp [joinBs_data, joinL]
theorem joinBs_snoc {L : List ByteArray} {j : Nat} (h : j < L.length) : joinBs (L.take (j + 1)) = if j = 0 then L[j] else joinBs (L.take j) ++ slashB ++ L[j] := by
  apply data_ext
  rw [joinBs_data, take_succ_of h, List.map_append, List.map_cons, List.map_nil, joinL_snoc]
  by_cases hj : j = 0
  · subst hj; simp
  · have : ¬ (L.take j).map (fun x => x.data.toList) = [] := by
      intro e
      have := congrArg List.length e
      rw [List.length_map, List.length_take, List.length_nil] at this
      omega
    rw [if_neg this, if_neg hj, data_app, data_app, joinBs_data]
    simp
theorem accB_snoc0 {r : Bool} {L : List ByteArray} (h : 0 < L.length) : accB r L 1 = accB r L 0 ++ L[0] := by
  rw [accB_zero, accB, joinBs_snoc h]; rfl
theorem accB_snoc {r : Bool} {L : List ByteArray} {j : Nat} (h : j < L.length) (hj : ¬ j = 0) : accB r L (j + 1) = accB r L j ++ slashB ++ L[j] := by
  rw [accB, accB, joinBs_snoc h, if_neg hj]
  apply data_ext
  simp only [data_app, List.append_assoc]
theorem accB_end {r : Bool} {L : List ByteArray} {j : Nat} (h : L.length ≤ j) : accB r L j = headB r ++ joinBs L := by
  rw [accB, List.take_of_length_le h]
theorem accB_size {r : Bool} {L : List ByteArray} {j : Nat} (hL : L.length ≤ 4300) (hs : ∀ x ∈ L, x.size ≤ 4200) : (accB r L j).size ≤ 4300 * 4201 + 1 := by
  have h1 := joinBs_size (L := L.take j) (by rw [List.length_take]; omega) (fun x hx => hs x (List.mem_of_mem_take hx))
  have h2 : (headB r).size ≤ 1 := by cases r <;> decide
  rw [accB, size_app]; omega
theorem bare_eq {s : ByteArray} {r : Bool} (h : rootB s = r) : bareB s = headB r ++ joinBs (foldC r [] (elemsB s)) := by rw [bareB, h]
theorem foldC_take {r : Bool} {xs : List ByteArray} {k : Nat} (h : k < xs.length) : foldC r [] (xs.take (k + 1)) = stepL r (foldC r [] (xs.take k)) xs[k] := by
  rw [take_succ_of h, foldC_snoc]
theorem fold_small' (r : Bool) {xs : List ByteArray} (k : Nat) (hl : xs.length ≤ 4201) (hs : ∀ x ∈ xs, x.size ≤ 4200) : (foldC r [] (xs.take k)).length ≤ 4300 ∧ ∀ x ∈ foldC r [] (xs.take k), x.size ≤ 4200 := by
  have h1 := foldC_len r (xs.take k) []
  rw [List.length_take, List.length_nil] at h1
  refine ⟨by omega, fun x hx => ?_⟩
  rcases foldC_sub r _ _ x hx with h | h
  · simp at h
  · exact hs x (List.mem_of_mem_take h)

set_option maxRecDepth 100000 in
set_option maxHeartbeats 4000000 in
theorem rclean_t (s : ByteArray) (hs : s.size ≤ 4200) (hroot : rootB s = true) (w : World) :
    Calls Try.prog 22 #[.string s] w fun e w' => e = .returned (.string (cleanB s)) ∧ Below w.heap.size w w' := by
  obtain ⟨i0, hi, hz0, hz1, hz2⟩ := info_parts Try.info9
  have hcount := elemsB_count s
  have HBare := Lib.hid (bare_eq hroot)
  have HSZ := Lib.hid (fun x (hx : x ∈ elemsB s) => Nat.le_trans (elemsB_size hx) hs)
  go_enter Try.func22, Try.ntmps22
  go_upto_region 1 with fail
  go_cut [3] (fun s3 wx => s3 = .bool true ∧ wx = w)
  case first =>
    rcases root_cases hroot with ⟨h0, hr⟩ | ⟨hp, hr⟩
    · cases hr
    · go_wp2_with fail
      go_meet
      exact ⟨rfl, rfl⟩
  case rest =>
  obtain ⟨rfl, rfl⟩ := hcut
  clear hroot
  go_wp2_with fail
  refine (relems_any s hs _).mono ?_
  rintro _ w1 ⟨v, rfl, ⟨a, cap, rfl, hc⟩, hB⟩
  have HC := Lib.hid hc
  clear hc
  generalize elemsB s = xs at *
  go_wp2
  go_loopw [5, 6] (fun o i wr => ∃ (k : Nat) (L : List ByteArray), k ≤ xs.length ∧ i = .int .i64 k ∧ L = foldC true [] (xs.take k) ∧ wr.ownsRow w1.heap.size 9 1 o L.length (L.map Value.string) ∧ Below w1.heap.size w1 wr) (fun _ i _ => xs.length - (intOf i).toNat)
  case atStart => exact ⟨0, [], Nat.zero_le _, rfl, rfl, owns_empty w1, (Below.refl _ _).alloc (Nat.le_refl _) _⟩
  case round =>
    obtain ⟨k, L, hk, rfl, hLe, hrow, hB1⟩ := hrel
    obtain ⟨hsm1, hsm2⟩ := fold_small' true k (show xs.length ≤ 4201 by omega) HSZ.out
    rw [← hLe] at hsm1 hsm2
    have HLe := Lib.hid hLe
    have HS2 := Lib.hid hsm2
    clear hLe hsm2
    obtain ⟨oa, ocap, rfl⟩ := owns_shape hrow
    by_cases hlt : k < xs.length
    · have HF := Lib.hid (show foldC true [] (xs.take (k + 1)) = stepL true L xs[k] by rw [HLe.out]; exact foldC_take hlt)
      obtain ⟨g, rfl, hg, hcell⟩ := HC.out (by intro e; rw [e] at hlt; simp at hlt)
      have q1 : wr.cell? ⟨g, k, none⟩ = some (.string xs[k]) := (hB1.cell (p := ⟨g, k, none⟩) hg).trans (hcell k hlt)
      have qa : ∀ o, (wr.alloc o).cell? ⟨g, k, none⟩ = some (.string xs[k]) := fun o => (Below.cell (((Below.refl wr.heap.size wr).alloc (Nat.le_refl _) o)) (p := ⟨g, k, none⟩) (Nat.lt_of_lt_of_le hg hB1.size)).trans q1
      clear hcell
      generalize xs[k] = x at *
      by_cases hx1 : x.toList = []
      · have HS := Lib.hid (stepL_0 (r := true) (L := L) (hereB_yes hx1))
        have hx1' : x.toList.isEmpty = true := by simp [hx1]
        go_wp2
        go_roundw
        case rel => exact ⟨k + 1, L, by omega, by go_num, by rw [HF.out, HS.out], hrow, hB1⟩
        case measure => simp [intOf]; omega
      · have hx1' : x.toList.isEmpty = false := isEmpty_no hx1
        cases hx2 : (x.toList == [46])
        · have hh : hereB x = false := hereB_no ⟨hx1', hx2⟩
          have HH := Lib.hid hh
          clear hh
          cases hx3 : (x.toList == [46, 46])
          · have HS := Lib.hid (stepL_1 (r := true) (L := L) HH.out hx3)
            have hblk := Lib.hid (owns_block hrow)
            go_wp2_with (at_builtin; refine wpList_append_own _ rfl _ _ 23 rfl w1.heap.size 9 i0 (.string ⟨#[]⟩) 1 16 Try.underlying23 hi hz0 hz1 hz2 rfl (by decide) _ L.length (L.map Value.string) rfl (hrow.alloc _) ⟨wr.heap.size, 0, none⟩ 1 1 [.string x] rfl rfl (cell_one_new _ _ _) (by simp [Value.oneCell']) (by unfold maxLen; omega) (by omega) (by have := hB1.size; simp; omega) ?_; intro v' w2 hown' hgrow _)
            go_roundw
            case rel => exact ⟨k + 1, L ++ [x], by omega, by go_num, by rw [HF.out, HS.out], owns_snoc hown', (hB1.alloc hB1.size _).grown hgrow (by have := hB1.size; simp; omega) hblk.out⟩
            case measure => simp [intOf]; omega
          · rcases List.eq_nil_or_concat L with rfl | ⟨L', y, rfl⟩
            · have HS := Lib.hid (stepL_3 (r := true) (L := []) HH.out hx3 rfl)
              have hblk := Lib.hid (owns_block hrow)
              go_wp2
              go_roundw
              case rel => exact ⟨k + 1, [], by omega, by go_num, by rw [HF.out, HS.out]; rfl, hrow, hB1⟩
              case measure => simp [intOf]; omega
            · rw [List.concat_eq_append] at *
              have hlen : (L' ++ [y]).length = L'.length + 1 := by simp
              have hown0 := hrow
              rw [hlen] at hsm1
              rw [show (Value.slice oa (L' ++ [y]).length ocap) = Value.slice oa (L'.length + 1) ocap by rw [hlen]] at hown0 ⊢
              obtain ⟨g2, rfl, hcap, hcell2, hpop⟩ := owns_last rfl hown0
              have HO := Lib.hid hown0
              have hblk := Lib.hid (owns_block hown0)
              clear hrow hown0 hlen
              cases hy : (y.toList == [46, 46])
              · have HS := Lib.hid (stepL_2 (r := true) (L := L' ++ [y]) HH.out hx3 (by rw [lastDD_snoc]; simp [ddB, hy]))
                go_wp2
                go_roundw
                case rel => exact ⟨k + 1, L', by omega, by go_num, by rw [HF.out, HS.out, List.dropLast_concat], hpop, hB1⟩
                case measure => simp [intOf]; omega
              · have HS := Lib.hid (stepL_3 (r := true) (L := L' ++ [y]) HH.out hx3 (by rw [lastDD_snoc]; simp [ddB, hy]))
                go_wp2
                go_roundw
                case rel => exact ⟨k + 1, L' ++ [y], by omega, by go_num, by rw [HF.out, HS.out]; rfl, HO.out, hB1⟩
                case measure => simp [intOf]; omega
        · have HS := Lib.hid (stepL_0 (r := true) (L := L) (hereB_yes2 (.inr hx2)))
          go_wp2
          go_roundw
          case rel => exact ⟨k + 1, L, by omega, by go_num, by rw [HF.out, HS.out], hrow, hB1⟩
          case measure => simp [intOf]; omega
    · have HL : Hid (foldC true [] xs = L) := by
        have h1 := HLe.out
        rw [List.take_of_length_le (by omega)] at h1
        exact h1.symm
      have hW := hB.trans (hB1.mono hB.size)
      have HR := Lib.hid ((Row.at (Row.of_owns hrow)).2)
      clear hrow HLe
      go_wp2
      go_loop [7, 8] (fun t i => ∃ j : Nat, j ≤ L.length ∧ i = .int .i64 j ∧ t = .string (accB true L j)) (fun _ i => L.length - (intOf i).toNat)
      case atStart => exact ⟨0, Nat.zero_le _, rfl, by rw [accB_zero]; rfl⟩
      case round =>
        obtain ⟨j, hj, rfl, rfl⟩ := hrel
        have hacc := accB_size (r := true) (j := j) hsm1 HS2.out
        by_cases hjt : j < L.length
        · obtain ⟨g2, rfl, hg2, hcell2⟩ := HR.out (by intro e; rw [e] at hjt; simp at hjt)
          have q2 := hcell2 j hjt
          have hsx : L[j].size ≤ 4200 := HS2.out _ (List.getElem_mem hjt)
          clear hcell2
          by_cases hj0 : j = 0
          · subst hj0
            have HA := Lib.hid (accB_snoc0 (r := true) hjt)
            generalize L[0] = y at *
            go_wp2
            go_round
            case rel => exact ⟨1, by omega, rfl, by rw [HA.out]⟩
            case measure => simp [intOf]; omega
          · have HA := Lib.hid (accB_snoc (r := true) hjt hj0)
            have hjp : (0 : Int) < j := by omega
            generalize L[j] = y at *
            go_wp2
            go_round
            case rel => exact ⟨j + 1, by omega, by go_num, by rw [HA.out]⟩
            case measure => simp [intOf]; omega
        · have HE := Lib.hid (accB_end (r := true) (L := L) (j := j) (by omega))
          have HBB : Hid (bareB s = accB true L j) := by
            show _ = _
            rw [HE.out, HBare.out, HL.out]
          cases hemp : (accB true L j).toList.isEmpty
          · have HC2 := Lib.hid (cleanB_2 (s := s) (by rw [HBB.out]; exact hemp))
            go_wp2
            go_ret
            exact ⟨ret_string (by rw [HC2.out, HBB.out]), hW⟩
          · have HC2 := Lib.hid (cleanB_1 (s := s) (by rw [HBB.out]; exact hemp))
            go_wp2
            go_ret
            exact ⟨ret_string (by rw [HC2.out]), hW⟩

set_option maxRecDepth 100000 in
set_option maxHeartbeats 4000000 in
theorem rclean_f (s : ByteArray) (hs : s.size ≤ 4200) (hroot : rootB s = false) (w : World) :
    Calls Try.prog 22 #[.string s] w fun e w' => e = .returned (.string (cleanB s)) ∧ Below w.heap.size w w' := by
  obtain ⟨i0, hi, hz0, hz1, hz2⟩ := info_parts Try.info9
  have hcount := elemsB_count s
  have HBare := Lib.hid (bare_eq hroot)
  have HSZ := Lib.hid (fun x (hx : x ∈ elemsB s) => Nat.le_trans (elemsB_size hx) hs)
  go_enter Try.func22, Try.ntmps22
  go_upto_region 1 with fail
  go_cut [3] (fun s3 wx => s3 = .bool false ∧ wx = w)
  case first =>
    rcases root_cases hroot with ⟨h0, hr⟩ | ⟨hp, hr⟩
    · go_wp2_with fail
      go_meet
      exact ⟨rfl, rfl⟩
    · go_wp2_with fail
      go_meet
      exact ⟨rfl, rfl⟩
  case rest =>
  obtain ⟨rfl, rfl⟩ := hcut
  clear hroot
  go_wp2_with fail
  refine (relems_any s hs _).mono ?_
  rintro _ w1 ⟨v, rfl, ⟨a, cap, rfl, hc⟩, hB⟩
  have HC := Lib.hid hc
  clear hc
  generalize elemsB s = xs at *
  go_wp2
  go_loopw [5, 6] (fun o i wr => ∃ (k : Nat) (L : List ByteArray), k ≤ xs.length ∧ i = .int .i64 k ∧ L = foldC false [] (xs.take k) ∧ wr.ownsRow w1.heap.size 9 1 o L.length (L.map Value.string) ∧ Below w1.heap.size w1 wr) (fun _ i _ => xs.length - (intOf i).toNat)
  case atStart => exact ⟨0, [], Nat.zero_le _, rfl, rfl, owns_empty w1, (Below.refl _ _).alloc (Nat.le_refl _) _⟩
  case round =>
    obtain ⟨k, L, hk, rfl, hLe, hrow, hB1⟩ := hrel
    obtain ⟨hsm1, hsm2⟩ := fold_small' false k (show xs.length ≤ 4201 by omega) HSZ.out
    rw [← hLe] at hsm1 hsm2
    have HLe := Lib.hid hLe
    have HS2 := Lib.hid hsm2
    clear hLe hsm2
    obtain ⟨oa, ocap, rfl⟩ := owns_shape hrow
    by_cases hlt : k < xs.length
    · have HF := Lib.hid (show foldC false [] (xs.take (k + 1)) = stepL false L xs[k] by rw [HLe.out]; exact foldC_take hlt)
      obtain ⟨g, rfl, hg, hcell⟩ := HC.out (by intro e; rw [e] at hlt; simp at hlt)
      have q1 : wr.cell? ⟨g, k, none⟩ = some (.string xs[k]) := (hB1.cell (p := ⟨g, k, none⟩) hg).trans (hcell k hlt)
      have qa : ∀ o, (wr.alloc o).cell? ⟨g, k, none⟩ = some (.string xs[k]) := fun o => (Below.cell (((Below.refl wr.heap.size wr).alloc (Nat.le_refl _) o)) (p := ⟨g, k, none⟩) (Nat.lt_of_lt_of_le hg hB1.size)).trans q1
      clear hcell
      generalize xs[k] = x at *
      by_cases hx1 : x.toList = []
      · have HS := Lib.hid (stepL_0 (r := false) (L := L) (hereB_yes hx1))
        have hx1' : x.toList.isEmpty = true := by simp [hx1]
        go_wp2
        go_roundw
        case rel => exact ⟨k + 1, L, by omega, by go_num, by rw [HF.out, HS.out], hrow, hB1⟩
        case measure => simp [intOf]; omega
      · have hx1' : x.toList.isEmpty = false := isEmpty_no hx1
        cases hx2 : (x.toList == [46])
        · have hh : hereB x = false := hereB_no ⟨hx1', hx2⟩
          have HH := Lib.hid hh
          clear hh
          cases hx3 : (x.toList == [46, 46])
          · have HS := Lib.hid (stepL_1 (r := false) (L := L) HH.out hx3)
            have hblk := Lib.hid (owns_block hrow)
            go_wp2_with (at_builtin; refine wpList_append_own _ rfl _ _ 23 rfl w1.heap.size 9 i0 (.string ⟨#[]⟩) 1 16 Try.underlying23 hi hz0 hz1 hz2 rfl (by decide) _ L.length (L.map Value.string) rfl (hrow.alloc _) ⟨wr.heap.size, 0, none⟩ 1 1 [.string x] rfl rfl (cell_one_new _ _ _) (by simp [Value.oneCell']) (by unfold maxLen; omega) (by omega) (by have := hB1.size; simp; omega) ?_; intro v' w2 hown' hgrow _)
            go_roundw
            case rel => exact ⟨k + 1, L ++ [x], by omega, by go_num, by rw [HF.out, HS.out], owns_snoc hown', (hB1.alloc hB1.size _).grown hgrow (by have := hB1.size; simp; omega) hblk.out⟩
            case measure => simp [intOf]; omega
          · rcases List.eq_nil_or_concat L with rfl | ⟨L', y, rfl⟩
            · have HS := Lib.hid (stepL_3 (r := false) (L := []) HH.out hx3 rfl)
              have hblk := Lib.hid (owns_block hrow)
              go_wp2_with (at_builtin; refine wpList_append_own _ rfl _ _ 23 rfl w1.heap.size 9 i0 (.string ⟨#[]⟩) 1 16 Try.underlying23 hi hz0 hz1 hz2 rfl (by decide) _ 0 [] rfl (hrow.alloc _) ⟨wr.heap.size, 0, none⟩ 1 1 [.string x] rfl rfl (cell_one_new _ _ _) (by simp [Value.oneCell']) (by unfold maxLen; simp; try omega) (by simp; try omega) (by have := hB1.size; simp; omega) ?_; intro v' w2 hown' hgrow _)
              go_roundw
              case rel => exact ⟨k + 1, [x], by omega, by go_num, by rw [HF.out, HS.out]; rfl, owns_snoc (xs := []) hown', (hB1.alloc hB1.size _).grown hgrow (by have := hB1.size; simp; omega) hblk.out⟩
              case measure => simp [intOf]; omega
            · rw [List.concat_eq_append] at *
              have hlen : (L' ++ [y]).length = L'.length + 1 := by simp
              have hown0 := hrow
              rw [hlen] at hsm1
              rw [show (Value.slice oa (L' ++ [y]).length ocap) = Value.slice oa (L'.length + 1) ocap by rw [hlen]] at hown0 ⊢
              obtain ⟨g2, rfl, hcap, hcell2, hpop⟩ := owns_last rfl hown0
              have HO := Lib.hid hown0
              have hblk := Lib.hid (owns_block hown0)
              clear hrow hown0 hlen
              cases hy : (y.toList == [46, 46])
              · have HS := Lib.hid (stepL_2 (r := false) (L := L' ++ [y]) HH.out hx3 (by rw [lastDD_snoc]; simp [ddB, hy]))
                go_wp2
                go_roundw
                case rel => exact ⟨k + 1, L', by omega, by go_num, by rw [HF.out, HS.out, List.dropLast_concat], hpop, hB1⟩
                case measure => simp [intOf]; omega
              · have HS := Lib.hid (stepL_3 (r := false) (L := L' ++ [y]) HH.out hx3 (by rw [lastDD_snoc]; simp [ddB, hy]))
                have hrow := HO.out
                go_wp2_with (at_builtin; refine wpList_append_own _ rfl _ _ 23 rfl w1.heap.size 9 i0 (.string ⟨#[]⟩) 1 16 Try.underlying23 hi hz0 hz1 hz2 rfl (by decide) _ (L' ++ [y]).length ((L' ++ [y]).map Value.string) rfl (hrow.alloc _) ⟨wr.heap.size, 0, none⟩ 1 1 [.string x] rfl rfl (cell_one_new _ _ _) (by simp [Value.oneCell']) (by unfold maxLen; simp; try omega) (by simp; try omega) (by have := hB1.size; simp; omega) ?_; intro v' w2 hown' hgrow _)
                go_roundw
                case rel => exact ⟨k + 1, L' ++ [y] ++ [x], by omega, by go_num, by rw [HF.out, HS.out]; rfl, owns_snoc hown', (hB1.alloc hB1.size _).grown hgrow (by have := hB1.size; simp; omega) hblk.out⟩
                case measure => simp [intOf]; omega
        · have HS := Lib.hid (stepL_0 (r := false) (L := L) (hereB_yes2 (.inr hx2)))
          go_wp2
          go_roundw
          case rel => exact ⟨k + 1, L, by omega, by go_num, by rw [HF.out, HS.out], hrow, hB1⟩
          case measure => simp [intOf]; omega
    · have HL : Hid (foldC false [] xs = L) := by
        have h1 := HLe.out
        rw [List.take_of_length_le (by omega)] at h1
        exact h1.symm
      have hW := hB.trans (hB1.mono hB.size)
      have HR := Lib.hid ((Row.at (Row.of_owns hrow)).2)
      clear hrow HLe
      go_wp2
      go_loop [7, 8] (fun t i => ∃ j : Nat, j ≤ L.length ∧ i = .int .i64 j ∧ t = .string (accB false L j)) (fun _ i => L.length - (intOf i).toNat)
      case atStart => exact ⟨0, Nat.zero_le _, rfl, by rw [accB_zero]; rfl⟩
      case round =>
        obtain ⟨j, hj, rfl, rfl⟩ := hrel
        have hacc := accB_size (r := false) (j := j) hsm1 HS2.out
        by_cases hjt : j < L.length
        · obtain ⟨g2, rfl, hg2, hcell2⟩ := HR.out (by intro e; rw [e] at hjt; simp at hjt)
          have q2 := hcell2 j hjt
          have hsx : L[j].size ≤ 4200 := HS2.out _ (List.getElem_mem hjt)
          clear hcell2
          by_cases hj0 : j = 0
          · subst hj0
            have HA := Lib.hid (accB_snoc0 (r := false) hjt)
            generalize L[0] = y at *
            go_wp2
            go_round
            case rel => exact ⟨1, by omega, rfl, by rw [HA.out]⟩
            case measure => simp [intOf]; omega
          · have HA := Lib.hid (accB_snoc (r := false) hjt hj0)
            have hjp : (0 : Int) < j := by omega
            generalize L[j] = y at *
            go_wp2
            go_round
            case rel => exact ⟨j + 1, by omega, by go_num, by rw [HA.out]⟩
            case measure => simp [intOf]; omega
        · have HE := Lib.hid (accB_end (r := false) (L := L) (j := j) (by omega))
          have HBB : Hid (bareB s = accB false L j) := by
            show _ = _
            rw [HE.out, HBare.out, HL.out]
          cases hemp : (accB false L j).toList.isEmpty
          · have HC2 := Lib.hid (cleanB_2 (s := s) (by rw [HBB.out]; exact hemp))
            go_wp2
            go_ret
            exact ⟨ret_string (by rw [HC2.out, HBB.out]), hW⟩
          · have HC2 := Lib.hid (cleanB_1 (s := s) (by rw [HBB.out]; exact hemp))
            go_wp2
            go_ret
            exact ⟨ret_string (by rw [HC2.out]), hW⟩

theorem rclean_any (s : ByteArray) (hs : s.size ≤ 4200) (w : World) :
    Calls Try.prog 22 #[.string s] w fun e w' => e = .returned (.string (cleanB s)) ∧ Below w.heap.size w w' := by
  cases h : rootB s
  · exact rclean_f s hs h w
  · exact rclean_t s hs h w
end Go.Proofs.Ytblahlljdmlodaa
