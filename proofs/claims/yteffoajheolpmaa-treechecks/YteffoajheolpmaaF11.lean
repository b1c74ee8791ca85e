/-
  tree.Sub, tree.Under, and the document's own.
-/
import Derived.Test.YteffoajheolpmaaT2
namespace Go.Proofs.Yteffoajheolpmaa
open Go.RowKit Go.Shelf

def subF (d : ByteArray) (f : FileB) : List FileB := if insideB f.1 d then [((withinB f.1 d).1, f.2)] else []
def subL (t : List FileB) (d : ByteArray) : List FileB := t.flatMap (subF d)
def underL (t : List FileB) (d : ByteArray) : List FileB := t.map fun f => (joinB d f.1, f.2)
theorem sub_snoc {t : List FileB} {k : Nat} (hk : k < t.length) (d : ByteArray) : subL (t.take (k + 1)) d = subL (t.take k) d ++ subF d t[k] := by
  unfold subL
  rw [List.take_succ_eq_append_getElem hk, List.flatMap_append]; simp
theorem under_snoc {t : List FileB} {k : Nat} (hk : k < t.length) (d : ByteArray) : underL (t.take (k + 1)) d = underL (t.take k) d ++ [(joinB d t[k].1, t[k].2)] := by
  unfold underL
  rw [List.take_succ_eq_append_getElem hk, List.map_append]; rfl
theorem subF_1 {d : ByteArray} {f : FileB} (h : insideB f.1 d = true) : subF d f = [((withinB f.1 d).1, f.2)] := by simp [subF, h]
theorem subF_2 {d : ByteArray} {f : FileB} (h : insideB f.1 d = false) : subF d f = [] := by simp [subF, h]
theorem subL_len (t : List FileB) (d : ByteArray) : (subL t d).length ≤ t.length := by
  unfold subL
  induction t with
  | nil => simp
  | cons x t ih =>
    rw [List.flatMap_cons, List.length_append, List.length_cons]
    have : (subF d x).length ≤ 1 := by unfold subF; split <;> simp
    omega

theorem FRow.one' {w : World} {n : Nat} (h : w.heap.size = n) (p d : ByteArray) : FRow (w.alloc (.cells #[.string p, .string d] 32)) (.slice (some ⟨n, 0, none⟩) 1 1) [(p, d)] := by
  subst h; exact FRow.one w p d

def LOut (xs : List FileB) (w : World) (e : Ending) (w' : World) : Prop := ∃ A c, e = .returned (.slice A xs.length c) ∧ FRow w' (.slice A xs.length c) xs ∧ Below w.heap.size w w'
theorem inside_parts {p d : ByteArray} {x : ByteArray} {b : Bool} (h : withinB p d = (x, b)) : insideB p d = (b && !(x.toList == [])) := by unfold insideB; rw [h]

theorem within_v {p d x : ByteArray} {b : Bool} (h : withinB p d = (x, b)) (w : World) (hb : d.size ≤ 20300) :
    Calls Try.prog 54 #[.string p, .string d] w fun e w' => e = .returned (.tuple #[.string x, .bool b]) ∧ w = w' := by
  refine (within_any p d w hb).mono ?_
  rintro e w' ⟨rfl, rfl⟩
  exact ⟨by rw [h], rfl⟩
theorem rwithin_v {p d x : ByteArray} {b : Bool} (h : withinB p d = (x, b)) (w : World) (hb : d.size ≤ 20300) :
    Calls Try.prog 56 #[.string p, .string d] w fun e w' => e = .returned (.tuple #[.string x, .bool b]) ∧ w = w' := by
  refine (rwithin_any p d w hb).mono ?_
  rintro e w' ⟨rfl, rfl⟩
  exact ⟨by rw [h], rfl⟩

set_option maxRecDepth 100000 in
set_option maxHeartbeats 2000000 in
theorem tsub_any (xs : List FileB) (d : ByteArray) (v : Value) (w : World) (hv : FRow w v xs) (hm : xs.length ≤ 1000) (hd : d.size ≤ 20300) :
    Calls Try.prog 30 #[v, .string d] w (LOut (subL xs d) w) := by
  have HV := Lib.hid hv
  obtain ⟨a, c, rfl, hlc, -⟩ := hv
  go_enter Try.func30, Try.ntmps30
  go_wp2
  go_loopw [5, 12] (fun ov i wr => ∃ (k : Nat) (acc : List FileB) (A : Option Addr) (c' : Nat), k ≤ xs.length ∧ i = .int .i64 k ∧ ov = .slice A acc.length c' ∧ acc = subL (xs.take k) d ∧ Acc w wr (.slice A acc.length c') acc)
    (fun _ i _ => xs.length - (intOf i).toNat)
  case atStart => exact ⟨0, [], none, 0, Nat.zero_le _, rfl, rfl, rfl, Acc.nil w⟩
  case round =>
    obtain ⟨k, acc, A, c', hk, rfl, rfl, hL, hacc⟩ := hrel
    have hal : acc.length ≤ k := by
      rw [hL]
      refine Nat.le_trans (subL_len _ _) ?_
      rw [List.length_take]; omega
    have HL := Lib.hid hL
    clear hL
    by_cases hlt : k < xs.length
    · obtain ⟨a', c'', e', hl', hcl⟩ := HV.out.below hacc.below
      cases e'
      obtain ⟨g, o, rfl, hg, hcell⟩ := hcl (by intro e; rw [e] at hlt; simp at hlt)
      obtain ⟨q1, q2⟩ := hcell k hlt
      have HN := Lib.hid (sub_snoc hlt d)
      clear hcell hcl
      generalize xs[k] = x at *
      obtain ⟨x1, x2⟩ := x
      have haccX := hacc.alloc (.cells #[.string x1, .string x2] 32)
      obtain ⟨-, y0, y1⟩ := FBox.new wr x1 x2
      change _ = some (Value.string x1) at y0
      change _ = some (Value.string x2) at y1
      obtain ⟨⟨p, b⟩, hwi⟩ : ∃ q, withinB x1 d = q := ⟨_, rfl⟩
      have HWi := Lib.hid hwi
      have HIn := Lib.hid (inside_parts hwi)
      clear hwi
      cases b
      · have HN' := Lib.hid (show acc = subL (xs.take (k + 1)) d by rw [HN.out, HL.out, subF_2 (by rw [HIn.out]; rfl), List.append_nil])
        go_wp2_with fail
        refine (within_v HWi.out _ hd).mono ?_
        rintro _ w1 ⟨rfl, rfl⟩
        go_wp2
        go_roundw
        case rel => exact ⟨k + 1, acc, A, c', by omega, by go_num, rfl, HN'.out, haccX⟩
        case measure => simp [intOf]; omega
      · by_cases hp : p.toList = []
        · have HN' := Lib.hid (show acc = subL (xs.take (k + 1)) d by rw [HN.out, HL.out, subF_2 (by rw [HIn.out, hp]; rfl), List.append_nil])
          go_wp2_with fail
          refine (within_v HWi.out _ hd).mono ?_
          rintro _ w1 ⟨rfl, rfl⟩
          go_wp2
          go_roundw
          case rel => exact ⟨k + 1, acc, A, c', by omega, by go_num, rfl, HN'.out, haccX⟩
          case measure => simp [intOf]; omega
        · have HN' := Lib.hid (show acc ++ [(p, x2)] = subL (xs.take (k + 1)) d by
            rw [HN.out, HL.out, subF_1 (by rw [HIn.out]; simp [hp]), HWi.out])
          have hp' : p.toList.isEmpty = false := by cases h : p.toList <;> simp_all
          have hp'' : (p.toList == []) = false := by simp [hp]
          have hp3 : (p.toList != []) = true := by simp [hp]
          go_wp2_with fail
          refine (within_v HWi.out _ hd).mono ?_
          rintro _ w1 ⟨rfl, rfl⟩
          go_wp2_with (at_builtin; refine wpList_facc rfl _ _ rfl (haccX.alloc _) rfl (FRow.one' (by simp) _ _) rfl (by simp; omega) ?_; intro A3 c3 acc3 w3 hgr; have hacc3 := hgr.acc; have HL3 := Lib.hid hgr.list; clear hgr)
          go_roundw
          case rel => exact ⟨k + 1, acc3, A3, c3, by omega, by go_num, rfl, by rw [HL3.out]; exact HN'.out, hacc3⟩
          case measure => simp [intOf]; omega
    · have HE := Lib.hid (show acc = subL xs d by rw [HL.out, List.take_of_length_le (by omega)])
      go_wp2
      go_ret
      rw [← HE.out]
      exact ⟨A, c', rfl, hacc.own.row, hacc.below⟩

set_option maxRecDepth 100000 in
set_option maxHeartbeats 2000000 in
theorem rsub_any (xs : List FileB) (d : ByteArray) (v : Value) (w : World) (hv : FRow w v xs) (hm : xs.length ≤ 1000) (hd : d.size ≤ 20300) :
    Calls Try.prog 33 #[v, .string d] w (LOut (subL xs d) w) := by
  have HV := Lib.hid hv
  obtain ⟨a, c, rfl, hlc, -⟩ := hv
  go_enter Try.func33, Try.ntmps33
  go_wp2
  go_loopw [5, 6] (fun ov i wr => ∃ (k : Nat) (acc : List FileB) (A : Option Addr) (c' : Nat), k ≤ xs.length ∧ i = .int .i64 k ∧ ov = .slice A acc.length c' ∧ acc = subL (xs.take k) d ∧ Acc w wr (.slice A acc.length c') acc)
    (fun _ i _ => xs.length - (intOf i).toNat)
  case atStart => exact ⟨0, [], _, 0, Nat.zero_le _, rfl, rfl, rfl, Acc.start w⟩
  case round =>
    obtain ⟨k, acc, A, c', hk, rfl, rfl, hL, hacc⟩ := hrel
    have hal : acc.length ≤ k := by
      rw [hL]
      refine Nat.le_trans (subL_len _ _) ?_
      rw [List.length_take]; omega
    have HL := Lib.hid hL
    clear hL
    by_cases hlt : k < xs.length
    · obtain ⟨a', c'', e', hl', hcl⟩ := HV.out.below hacc.below
      cases e'
      obtain ⟨g, o, rfl, hg, hcell⟩ := hcl (by intro e; rw [e] at hlt; simp at hlt)
      obtain ⟨q1, q2⟩ := hcell k hlt
      have HN := Lib.hid (sub_snoc hlt d)
      clear hcell hcl
      generalize xs[k] = x at *
      obtain ⟨x1, x2⟩ := x
      obtain ⟨⟨p, b⟩, hwi⟩ : ∃ q, withinB x1 d = q := ⟨_, rfl⟩
      have HWi := Lib.hid hwi
      have HIn := Lib.hid (inside_parts hwi)
      clear hwi
      cases b
      · have HN' := Lib.hid (show acc = subL (xs.take (k + 1)) d by rw [HN.out, HL.out, subF_2 (by rw [HIn.out]; rfl), List.append_nil])
        go_wp2_with fail
        refine (rwithin_v HWi.out _ hd).mono ?_
        rintro _ w1 ⟨rfl, rfl⟩
        go_wp2
        go_roundw
        case rel => exact ⟨k + 1, acc, A, c', by omega, by go_num, rfl, HN'.out, hacc⟩
        case measure => simp [intOf]; omega
      · by_cases hp : p.toList = []
        · have HN' := Lib.hid (show acc = subL (xs.take (k + 1)) d by rw [HN.out, HL.out, subF_2 (by rw [HIn.out, hp]; rfl), List.append_nil])
          go_wp2_with fail
          refine (rwithin_v HWi.out _ hd).mono ?_
          rintro _ w1 ⟨rfl, rfl⟩
          go_wp2
          go_roundw
          case rel => exact ⟨k + 1, acc, A, c', by omega, by go_num, rfl, HN'.out, hacc⟩
          case measure => simp [intOf]; omega
        · have HN' := Lib.hid (show acc ++ [(p, x2)] = subL (xs.take (k + 1)) d by
            rw [HN.out, HL.out, subF_1 (by rw [HIn.out]; simp [hp]), HWi.out])
          have hp' : p.toList.isEmpty = false := by cases h : p.toList <;> simp_all
          have hp'' : (p.toList == []) = false := by simp [hp]
          have hp3 : (p.toList != []) = true := by simp [hp]
          go_wp2_with fail
          refine (rwithin_v HWi.out _ hd).mono ?_
          rintro _ w1 ⟨rfl, rfl⟩
          go_wp2_with (at_builtin; refine wpList_facc rfl _ _ rfl (hacc.alloc _) rfl (FRow.one _ _ _) rfl (by simp; omega) ?_; intro A3 c3 acc3 w3 hgr; have hacc3 := hgr.acc; have HL3 := Lib.hid hgr.list; clear hgr)
          go_roundw
          case rel => exact ⟨k + 1, acc3, A3, c3, by omega, by go_num, rfl, by rw [HL3.out]; exact HN'.out, hacc3⟩
          case measure => simp [intOf]; omega
    · have HE := Lib.hid (show acc = subL xs d by rw [HL.out, List.take_of_length_le (by omega)])
      go_wp2
      go_ret
      rw [← HE.out]
      exact ⟨A, c', rfl, hacc.own.row, hacc.below⟩

set_option maxRecDepth 100000 in
set_option maxHeartbeats 2000000 in
theorem tunder_any (xs : List FileB) (d : ByteArray) (v : Value) (w : World) (hv : FRow w v xs) (hs : Short xs) (hm : xs.length ≤ 1000) (hd : d.size ≤ 20300) :
    Calls Try.prog 31 #[v, .string d] w (LOut (underL xs d) w) := by
  have HV := Lib.hid hv
  have HS := Lib.hid hs
  obtain ⟨a, c, rfl, hlc, -⟩ := hv
  clear hs
  go_enter Try.func31, Try.ntmps31
  go_wp2
  go_loopw [5, 10] (fun ov i wr => ∃ (k : Nat) (acc : List FileB) (A : Option Addr) (c' : Nat), k ≤ xs.length ∧ i = .int .i64 k ∧ ov = .slice A acc.length c' ∧ acc = underL (xs.take k) d ∧ Acc w wr (.slice A acc.length c') acc)
    (fun _ i _ => xs.length - (intOf i).toNat)
  case atStart => exact ⟨0, [], none, 0, Nat.zero_le _, rfl, rfl, rfl, Acc.nil w⟩
  case round =>
    obtain ⟨k, acc, A, c', hk, rfl, rfl, hL, hacc⟩ := hrel
    have hal : acc.length ≤ k := by
      rw [hL]; unfold underL
      rw [List.length_map, List.length_take]; omega
    have HL := Lib.hid hL
    clear hL
    by_cases hlt : k < xs.length
    · obtain ⟨a', c'', e', hl', hcl⟩ := HV.out.below hacc.below
      cases e'
      obtain ⟨g, o, rfl, hg, hcell⟩ := hcl (by intro e; rw [e] at hlt; simp at hlt)
      obtain ⟨q1, q2⟩ := hcell k hlt
      have HN := Lib.hid (under_snoc hlt d)
      have hsz := HS.out _ (List.getElem_mem hlt)
      clear hcell hcl
      generalize xs[k] = x at *
      obtain ⟨x1, x2⟩ := x
      have hsz' : x1.size ≤ 20300 := hsz
      have haccX := hacc.alloc (.cells #[.string x1, .string x2] 32)
      obtain ⟨hxl, y0, y1⟩ := FBox.new wr x1 x2
      change _ = some (Value.string x1) at y0
      change _ = some (Value.string x2) at y1
      have hneX := hacc.far (Nat.le_refl _)
      have HN' := Lib.hid (show acc ++ [(joinB d x1, x2)] = underL (xs.take (k + 1)) d by rw [HN.out, HL.out])
      go_wp2
      go_region_held3 (fun w' => w'.cell? ⟨wr.heap.size, 0, none⟩ = some (.string x1) ∧ w'.cell? ⟨wr.heap.size, 1, none⟩ = some (.string x2))
        (first | go_keep | exact ⟨k1, k2⟩)
        (first
          | (go_at_call 55; refine (join_any _ _ _ (by omega) (by omega)).mono ?_; rintro e w' ⟨rfl, rfl⟩)
          | (refine step_facc rfl _ _ rfl (haccX.drew.alloc _) rfl (FRow.one' (by simp) _ _) rfl (by simp; omega) ?_; intro A3 c3 acc3 w3 hgr; have hacc3 := hgr.acc; have HL3 := Lib.hid hgr.list; have fX := hgr.far wr.heap.size (by simp; omega) hneX; have k1 := kept_cell fX (alloc_cell _ hxl y0); have k2 := kept_cell fX (alloc_cell _ hxl y1); clear hgr))
      all_goals
        go_wp2
        go_roundw
        case rel => exact ⟨k + 1, acc3, A3, c3, by omega, by go_num, rfl, by rw [HL3.out]; exact HN'.out, hacc3⟩
        case measure => simp [intOf]; omega
    · have HE := Lib.hid (show acc = underL xs d by rw [HL.out, List.take_of_length_le (by omega)])
      go_wp2
      go_ret
      rw [← HE.out]
      exact ⟨A, c', rfl, hacc.own.row, hacc.below⟩

set_option maxRecDepth 100000 in
set_option maxHeartbeats 2000000 in
theorem runder_any (xs : List FileB) (d : ByteArray) (v : Value) (w : World) (hv : FRow w v xs) (hs : Short xs) (hm : xs.length ≤ 1000) (hd : d.size ≤ 20300) :
    Calls Try.prog 34 #[v, .string d] w (LOut (underL xs d) w) := by
  have HV := Lib.hid hv
  have HS := Lib.hid hs
  obtain ⟨a, c, rfl, hlc, -⟩ := hv
  clear hs
  go_enter Try.func34, Try.ntmps34
  go_wp2
  go_loopw [5, 6] (fun ov i wr => ∃ (k : Nat) (acc : List FileB) (A : Option Addr) (c' : Nat), k ≤ xs.length ∧ i = .int .i64 k ∧ ov = .slice A acc.length c' ∧ acc = underL (xs.take k) d ∧ Acc w wr (.slice A acc.length c') acc)
    (fun _ i _ => xs.length - (intOf i).toNat)
  case atStart => exact ⟨0, [], _, 0, Nat.zero_le _, rfl, rfl, rfl, Acc.start w⟩
  case round =>
    obtain ⟨k, acc, A, c', hk, rfl, rfl, hL, hacc⟩ := hrel
    have hal : acc.length ≤ k := by
      rw [hL]; unfold underL
      rw [List.length_map, List.length_take]; omega
    have HL := Lib.hid hL
    clear hL
    by_cases hlt : k < xs.length
    · obtain ⟨a', c'', e', hl', hcl⟩ := HV.out
      cases e'
      obtain ⟨g, o, rfl, hg, hcell⟩ := hcl (by intro e; rw [e] at hlt; simp at hlt)
      have HQ := Lib.hid (fun w' (h : Below w.heap.size w w') => And.intro ((h.cell (p := ⟨g, _, none⟩) hg).trans (hcell k hlt).1) ((h.cell (p := ⟨g, _, none⟩) hg).trans (hcell k hlt).2))
      obtain ⟨q1, q2⟩ := HQ.out _ hacc.below
      have HN := Lib.hid (under_snoc hlt d)
      have hsz := HS.out _ (List.getElem_mem hlt)
      have ik0 : (0 : Int) ≤ (k : Int) := by omega
      have ik1 : (k : Int) < (xs.length : Int) := by omega
      clear hcell hcl
      generalize xs[k] = x at *
      obtain ⟨x1, x2⟩ := x
      have hsz' : x1.size ≤ 20300 := hsz
      have HN' := Lib.hid (show acc ++ [(joinB d x1, x2)] = underL (xs.take (k + 1)) d by rw [HN.out, HL.out])
      go_wp2
      go_region_held3 (fun w' => w'.cell? ⟨g, o + k * 2, none⟩ = some (.string x1) ∧ w'.cell? ⟨g, o + k * 2 + 1, none⟩ = some (.string x2))
        (first | go_keep | exact HQ.out _ hacc3.below)
        (first
          | (go_at_call 57; refine (rjoin_any _ _ _ (by omega) (by omega)).mono ?_; rintro e w' ⟨rfl, rfl⟩)
          | (refine step_facc rfl _ _ rfl (hacc.drew.alloc _) rfl (FRow.one _ _ _) rfl (by simp; omega) ?_; intro A3 c3 acc3 w3 hgr; have hacc3 := hgr.acc; have HL3 := Lib.hid hgr.list; clear hgr))
      all_goals
        go_wp2
        go_roundw
        case rel => exact ⟨k + 1, acc3, A3, c3, by omega, by go_num, rfl, by rw [HL3.out]; exact HN'.out, hacc3⟩
        case measure => simp [intOf]; omega
    · have HE := Lib.hid (show acc = underL xs d by rw [HL.out, List.take_of_length_le (by omega)])
      go_wp2
      go_ret
      rw [← HE.out]
      exact ⟨A, c', rfl, hacc.own.row, hacc.below⟩
end Go.Proofs.Yteffoajheolpmaa
