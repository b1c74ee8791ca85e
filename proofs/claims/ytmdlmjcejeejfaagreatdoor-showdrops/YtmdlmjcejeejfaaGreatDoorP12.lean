/-
  semver's order of identifiers, of lists of them, and of what stands ahead.
-/
import Derived.Test.YtmdlmjcejeejfaaGreatDoorP11
namespace Go.Proofs.YtmdlmjcejeejfaaGreatDoor
open Go.RowKit Go.Shelf

theorem cid_both {a b : List UInt8} (ha : digs a = true) (hb : digs b = true) : orL [icmp a.length b.length, tcmp a b] = idcmp a b := by
  rw [idcmp_both ha hb]; simp only [orL, orI]; split <;> (try split) <;> simp_all
theorem two_cells (w : World) (t : TypeId) (x y : Int) : ∀ i (h : i < [x, y].length), (w.alloc (.cells #[.int .i64 x, .int .i64 y] t)).cell? ⟨w.heap.size, i, none⟩ = some (.int .i64 [x, y][i]) := by
  intro i h
  match i, h with
  | 0, _ => unfold World.cell?; dsimp only; rw [World.alloc_heap_new]; rfl
  | 1, _ => unfold World.cell?; dsimp only; rw [World.alloc_heap_new]; rfl

set_option maxRecDepth 100000 in
set_option maxHeartbeats 800000 in
theorem cid_any (a b : ByteArray) (ha : a.size ≤ 20400) (hb : b.size ≤ 20400) (w : World) :
    Calls Tryz.prog 124 #[.string a, .string b] w fun e w' => e = .returned (.int .i64 (idcmp a.data.toList b.data.toList)) ∧ Below w.heap.size w w' := by
  have hb1 := newbelow w ⟨#[48, 57]⟩
  go_enter Tryz.func124, Tryz.ntmps124
  go_wp2_with fail
  refine (within_any _ _).mono ?_
  rintro _ w2 ⟨rfl, rfl⟩
  go_wp2_with fail
  refine (alldig_any _ a ha _ (newcell _ _)).mono ?_
  rintro _ w2 ⟨rfl, rfl⟩
  go_wp2_with fail
  refine (alldig_any _ b hb _ (newcell _ _)).mono ?_
  rintro _ w2 ⟨rfl, rfl⟩
  generalize w.alloc (.cells #[.string ⟨#[48, 57]⟩] 9) = w1 at *
  cases da : digs a.data.toList
  · cases db : digs b.data.toList
    · have H := Lib.hid (idcmp_none da db)
      go_wp2_with fail
      refine (scmpt_any _ _ _).mono ?_
      rintro _ w2 ⟨rfl, rfl⟩
      go_wp2
      go_ret
      exact ⟨ret_int H.out.symm, hb1⟩
    · have H := Lib.hid (idcmp_right da db)
      go_wp2
      go_ret
      exact ⟨ret_int H.out.symm, hb1⟩
  · cases db : digs b.data.toList
    · have H := Lib.hid (idcmp_left da db)
      go_wp2
      go_ret
      exact ⟨ret_int H.out.symm, hb1⟩
    · have H := Lib.hid (cid_both da db)
      go_wp2_with fail
      refine (ccmp_any _ _ _).mono ?_
      rintro _ w2 ⟨rfl, rfl⟩
      go_wp2_with fail
      refine (scmpt_any _ _ _).mono ?_
      rintro _ w2 ⟨rfl, rfl⟩
      have hq : icmp (a.size : Int) (b.size : Int) = icmp (a.data.toList.length : Int) (b.data.toList.length : Int) := by rw [size_data, size_data]
      rw [hq]
      clear hq
      generalize icmp (a.data.toList.length : Int) (b.data.toList.length : Int) = x at *
      generalize tcmp a.data.toList b.data.toList = y at *
      go_wp2_with fail
      refine (cor_any _ _ [x, y] (by simp) _ (two_cells _ _ x y)).mono ?_
      rintro _ w2 ⟨rfl, rfl⟩
      go_wp2
      go_ret
      exact ⟨ret_int H.out, hb1.alloc hb1.size _⟩

def idB (a b : ByteArray) : Int := idcmp a.data.toList b.data.toList
theorem lcmp_data : ∀ xs ys : List ByteArray, lcmp idcmp (xs.map fun x => x.data.toList) (ys.map fun x => x.data.toList) = lcmp idB xs ys
  | [], [] => rfl
  | [], _ :: _ => rfl
  | _ :: _, [] => rfl
  | x :: xs, y :: ys => by
    simp only [List.map_cons, lcmp, lcmp_data xs ys]; rfl
theorem parts_data (d : UInt8) (s : ByteArray) : (partsD d s).map (fun x => x.data.toList) = sp d s.data.toList := by
  rw [partsD, List.map_map]
  conv => rhs; rw [← List.map_id (sp d s.data.toList)]
  rfl
def CmpAt (xs ys : List ByteArray) (k : Nat) : Prop := k ≤ ys.length ∧ lcmp idB xs ys = lcmp idB (xs.drop k) (ys.drop k)
theorem CmpAt.start (xs ys : List ByteArray) : CmpAt xs ys 0 := ⟨Nat.zero_le _, rfl⟩
theorem CmpAt.on {xs ys : List ByteArray} {k : Nat} (h : CmpAt xs ys k) (hx : k < xs.length) (hy : k < ys.length) (e : idB xs[k] ys[k] = 0) : CmpAt xs ys (k + 1) := by
  refine ⟨hy, ?_⟩
  rw [h.2, List.drop_eq_getElem_cons hx, List.drop_eq_getElem_cons hy, lcmp, if_pos e]
theorem CmpAt.stop {xs ys : List ByteArray} {k : Nat} (h : CmpAt xs ys k) (hx : k < xs.length) (hy : k < ys.length) (e : ¬ idB xs[k] ys[k] = 0) : lcmp idB xs ys = idB xs[k] ys[k] := by
  rw [h.2, List.drop_eq_getElem_cons hx, List.drop_eq_getElem_cons hy, lcmp, if_neg e]
theorem CmpAt.gt {xs ys : List ByteArray} {k : Nat} (h : CmpAt xs ys k) (hx : k < xs.length) (hy : ys.length ≤ k) : lcmp idB xs ys = 1 := by
  rw [h.2, List.drop_eq_getElem_cons hx, List.drop_of_length_le hy, lcmp]
theorem CmpAt.lt {xs ys : List ByteArray} {k : Nat} (h : CmpAt xs ys k) (hx : xs.length ≤ k) (hy : k < ys.length) : lcmp idB xs ys = -1 := by
  rw [h.2, List.drop_eq_getElem_cons hy, List.drop_of_length_le hx, lcmp]
theorem CmpAt.eq {xs ys : List ByteArray} {k : Nat} (h : CmpAt xs ys k) (hx : xs.length ≤ k) (hy : ys.length ≤ k) : lcmp idB xs ys = 0 := by
  rw [h.2, List.drop_of_length_le hx, List.drop_of_length_le hy, lcmp]

set_option maxRecDepth 100000 in
set_option maxHeartbeats 1000000 in
theorem cfunc_any (xs ys : List ByteArray) (v u : Value) (w : World) (hv : Row w v xs) (hu : Row w u ys) (hx : xs.length ≤ 20500) (sx : ∀ x ∈ xs, x.size ≤ 20400) (sy : ∀ x ∈ ys, x.size ≤ 20400) :
    Calls Tryz.prog 122 #[v, u, .func (.func 124) #[] #[]] w fun e w' => e = .returned (.int .i64 (lcmp idB xs ys)) ∧ Below w.heap.size w w' := by
  have HV := Lib.hid hv
  have HU := Lib.hid hu
  have SX := Lib.hid sx
  have SY := Lib.hid sy
  have he := enters_of Tryz.func124 (by kernel_rfl) rfl
  obtain ⟨a, c, rfl, -⟩ := hv
  obtain ⟨b, d, rfl, -⟩ := hu
  clear sx sy
  go_enter Tryz.func122, Tryz.ntmps122
  go_wp2
  go_loopw [13] (fun i wr => ∃ k : Nat, k ≤ xs.length ∧ i = .int .i64 k ∧ CmpAt xs ys k ∧ Below w.heap.size w wr) (fun i _ => xs.length - (intOf i).toNat)
  case atStart => exact ⟨0, Nat.zero_le _, rfl, CmpAt.start xs ys, Below.refl _ _⟩
  case round =>
    obtain ⟨k, hk, rfl, ht, hB⟩ := hrel
    have HT := Lib.hid ht
    have hky := ht.1
    clear ht
    by_cases hlt : k < xs.length
    · obtain ⟨-, hc⟩ := Row.at (HV.out.below hB)
      obtain ⟨g, rfl, hg, hcell⟩ := hc (by intro e; rw [e] at hlt; simp at hlt)
      have q1 := hcell k hlt
      have z1 := SX.out _ (List.getElem_mem hlt)
      clear hcell hc
      by_cases hlt2 : k < ys.length
      · obtain ⟨-, hd⟩ := Row.at (HU.out.below hB)
        obtain ⟨g2, rfl, hg2, hcell2⟩ := hd (by intro e; rw [e] at hlt2; simp at hlt2)
        have q2 := hcell2 k hlt2
        have z2 := SY.out _ (List.getElem_mem hlt2)
        clear hcell2 hd
        have HS := Lib.hid (fun e => HT.out.stop hlt hlt2 e)
        have HO := Lib.hid (fun e => HT.out.on hlt hlt2 e)
        generalize xs[k] = x at *
        generalize ys[k] = y at *
        go_wp2_with fail
        refine (cid_any _ _ z1 z2 _).mono ?_
        rintro _ w' ⟨rfl, hb'⟩
        replace hB := hB.trans (hb'.mono hB.size)
        cases e : (idcmp x.data.toList y.data.toList == 0)
        · have HE := Lib.hid (HS.out (ne_of_beq_false e))
          have e' : (idcmp x.data.toList y.data.toList != 0) = true := by rw [bne, e]; rfl
          go_wp2
          go_ret
          exact ⟨ret_int HE.out.symm, hB⟩
        · have HE := Lib.hid (HO.out (eq_of_beq e))
          have e' : (idcmp x.data.toList y.data.toList != 0) = false := by rw [bne, e]; rfl
          go_wp2
          go_roundw
          case rel => exact ⟨k + 1, by omega, by go_num, HE.out, hB⟩
          case measure => simp [intOf]; omega
      · go_wp2
        go_ret
        exact ⟨ret_int (HT.out.gt hlt (by omega)).symm, hB⟩
    · by_cases hlt2 : xs.length < ys.length
      · go_wp2
        go_ret
        exact ⟨ret_int (HT.out.lt (by omega) (by omega)).symm, hB⟩
      · go_wp2
        go_ret
        exact ⟨ret_int (HT.out.eq (by omega) (by omega)).symm, hB⟩

theorem pcmp_same {a b : ByteArray} (h : (a.toList == b.toList) = true) : pcmp a.data.toList b.data.toList = 0 := by
  rw [Lib.toList_data, Lib.toList_data] at h; exact pcmp_zero.2 (eq_of_beq h)
theorem empty_yes {a : ByteArray} (h : a.toList.isEmpty = true) : a.data.toList = [] := by rw [Lib.toList_data] at h; simpa using h
theorem empty_no {a : ByteArray} (h : a.toList.isEmpty = false) : a.data.toList ≠ [] := by rw [Lib.toList_data] at h; intro e; rw [e] at h; cases h
theorem both_empty {a b : ByteArray} (h : (a.toList == b.toList) = false) (ha : a.toList.isEmpty = true) : b.data.toList ≠ [] := by
  rw [Lib.toList_data, Lib.toList_data, empty_yes ha] at h
  intro e; rw [e] at h; cases h

set_option maxRecDepth 100000 in
set_option maxHeartbeats 1000000 in
theorem cpre_any (a b : ByteArray) (ha : a.size ≤ 20400) (hb : b.size ≤ 20400) (w : World) :
    Calls Tryz.prog 74 #[.string a, .string b] w fun e w' => e = .returned (.int .i64 (pcmp a.data.toList b.data.toList)) ∧ Below w.heap.size w w' := by
  cases h1 : (a.toList == b.toList)
  · cases h2 : a.toList.isEmpty
    · cases h3 : b.toList.isEmpty
      · have H := Lib.hid (show lcmp idB (partsD 46 a) (partsD 46 b) = pcmp a.data.toList b.data.toList by rw [pcmp_both (empty_no h2) (empty_no h3), ← parts_data, ← parts_data, lcmp_data])
        have c0 := newcell w a
        go_enter Tryz.func74, Tryz.ntmps74
        go_wp2_with fail
        refine (identifiers_any _ _).mono ?_
        rintro _ w1 ⟨rfl, rfl⟩
        go_wp2_with fail
        refine (collids_any a ha w.heap.size _ (by simp) c0).mono ?_
        rintro _ w1 ⟨v, rfl, hrow, hb1⟩
        have hB := (newbelow w a).trans (hb1.mono (newbelow w a).size)
        clear hb1 c0
        have c1 := newcell w1 b
        have hB2 := hB.alloc hB.size (.cells #[.string b] 9)
        have hrow2 := hrow.below (newbelow w1 b)
        go_wp2_with fail
        refine (identifiers_any _ _).mono ?_
        rintro _ w2 ⟨rfl, rfl⟩
        go_wp2_with fail
        refine (collids_any b hb w1.heap.size _ (by simp) c1).mono ?_
        rintro _ w3 ⟨u, rfl, hrow3, hb3⟩
        have hB3 := hB2.trans (hb3.mono hB2.size)
        have hrow4 := hrow2.below hb3
        have hcount := partsD_count 46 a
        go_wp2_with fail
        refine (cfunc_any _ _ _ _ _ hrow4 hrow3 (by omega) (fun x hx => Nat.le_trans (partsD_size hx) ha) (fun x hx => Nat.le_trans (partsD_size hx) hb)).mono ?_
        rintro _ w4 ⟨rfl, hb4⟩
        have hB4 := hB3.trans (hb4.mono hB3.size)
        go_wp2
        go_ret
        exact ⟨ret_int H.out, hB4⟩
      · have H := Lib.hid (pcmp_right (empty_no h2) (empty_yes h3))
        go_enter Tryz.func74, Tryz.ntmps74
        go_wp2
        go_ret
        exact ⟨ret_int H.out.symm, Below.refl _ _⟩
    · have H := Lib.hid (pcmp_left (empty_yes h2) (both_empty h1 h2))
      go_enter Tryz.func74, Tryz.ntmps74
      go_wp2
      go_ret
      exact ⟨ret_int H.out.symm, Below.refl _ _⟩
  · have H := Lib.hid (pcmp_same h1)
    go_enter Tryz.func74, Tryz.ntmps74
    go_wp2
    go_ret
    exact ⟨ret_int H.out.symm, Below.refl _ _⟩
end Go.Proofs.YtmdlmjcejeejfaaGreatDoor
