/-
  The document's own Sort.
-/
import Derived.Test.YteffoajheolpmaaF11
namespace Go.Proofs.Yteffoajheolpmaa
open Go.RowKit Go.Shelf

def insB (f : FileB) : List FileB → List FileB
  | [] => [f]
  | g :: r => if compareN f.1 g.1 < 0 then f :: g :: r else g :: insB f r
def sortB (l : List FileB) : List FileB := l.foldl (fun acc f => insB f acc) []
theorem sort_snoc {l : List FileB} {k : Nat} (hk : k < l.length) : sortB (l.take (k + 1)) = insB l[k] (sortB (l.take k)) := by
  unfold sortB
  rw [List.take_succ_eq_append_getElem hk, List.foldl_append]; rfl
theorem ins_len (f : FileB) : ∀ l, (insB f l).length = l.length + 1
  | [] => rfl
  | g :: r => by
    unfold insB
    split
    · simp
    · simp [ins_len f r]
theorem mem_ins {f g : FileB} : ∀ {l : List FileB}, g ∈ insB f l ↔ g = f ∨ g ∈ l
  | [] => by simp [insB]
  | x :: r => by
    unfold insB
    split
    · simp
    · rw [List.mem_cons, mem_ins (l := r), List.mem_cons]
      constructor
      · rintro (h | h | h)
        · exact .inr (.inl h)
        · exact .inl h
        · exact .inr (.inr h)
      · rintro (h | h | h)
        · exact .inr (.inl h)
        · exact .inl h
        · exact .inr (.inr h)
theorem sort_len_take (l : List FileB) : ∀ k, k ≤ l.length → (sortB (l.take k)).length = k
  | 0, _ => rfl
  | k + 1, h => by rw [sort_snoc (by omega), ins_len, sort_len_take l k (by omega)]
theorem mem_sort_take (l : List FileB) (g : FileB) : ∀ k, k ≤ l.length → (g ∈ sortB (l.take k) ↔ g ∈ l.take k)
  | 0, _ => by simp [sortB]
  | k + 1, h => by
    rw [sort_snoc (by omega), mem_ins, mem_sort_take l g k (by omega), List.take_succ_eq_append_getElem (by omega : k < l.length), List.mem_append, List.mem_singleton, or_comm]
theorem mem_sort {l : List FileB} {g : FileB} : g ∈ sortB l ↔ g ∈ l := by
  have := mem_sort_take l g l.length (Nat.le_refl _)
  rwa [List.take_length] at this

/-- How far an insertion has come. -/
def IB (xs : List FileB) (f : FileB) (k : Nat) (b : Bool) (acc : List FileB) : Prop :=
  (b = false ∧ acc = xs.take k ∧ insB f xs = xs.take k ++ insB f (xs.drop k)) ∨ (b = true ∧ acc ++ xs.drop k = insB f xs)
theorem IB.start (xs : List FileB) (f : FileB) : IB xs f 0 false [] := .inl ⟨rfl, rfl, rfl⟩
theorem IB.hit {xs : List FileB} {f : FileB} {k : Nat} {acc : List FileB} (h : IB xs f k false acc) (hk : k < xs.length) (e : compareN f.1 xs[k].1 < 0) : IB xs f (k + 1) true (acc ++ [f] ++ [xs[k]]) := by
  rcases h with ⟨_, rfl, h⟩ | ⟨h, _⟩
  · refine .inr ⟨rfl, ?_⟩
    rw [h, List.drop_eq_getElem_cons hk, insB, if_pos e]; simp
  · cases h
theorem IB.pass {xs : List FileB} {f : FileB} {k : Nat} {acc : List FileB} (h : IB xs f k false acc) (hk : k < xs.length) (e : ¬ compareN f.1 xs[k].1 < 0) : IB xs f (k + 1) false (acc ++ [xs[k]]) := by
  rcases h with ⟨_, rfl, h⟩ | ⟨h, _⟩
  · refine .inl ⟨rfl, (List.take_succ_eq_append_getElem hk).symm, ?_⟩
    rw [h, List.drop_eq_getElem_cons hk, insB, if_neg e, List.take_succ_eq_append_getElem hk, List.append_assoc]; rfl
  · cases h
theorem IB.on {xs : List FileB} {f : FileB} {k : Nat} {acc : List FileB} (h : IB xs f k true acc) (hk : k < xs.length) : IB xs f (k + 1) true (acc ++ [xs[k]]) := by
  rcases h with ⟨h, _⟩ | ⟨_, h⟩
  · cases h
  · refine .inr ⟨rfl, ?_⟩
    rw [← h, List.drop_eq_getElem_cons hk]; simp
theorem IB.len {xs : List FileB} {f : FileB} {k : Nat} {b : Bool} {acc : List FileB} (h : IB xs f k b acc) : acc.length ≤ xs.length + 1 := by
  rcases h with ⟨_, rfl, _⟩ | ⟨_, h⟩
  · rw [List.length_take]; omega
  · have := congrArg List.length h
    rw [ins_len, List.length_append] at this; omega
theorem IB.done {xs : List FileB} {f : FileB} {k : Nat} {acc : List FileB} (h : IB xs f k true acc) (hk : xs.length ≤ k) : acc = insB f xs := by
  rcases h with ⟨h, _⟩ | ⟨_, h⟩
  · cases h
  · rw [← h, List.drop_of_length_le hk, List.append_nil]
theorem IB.last {xs : List FileB} {f : FileB} {k : Nat} {acc : List FileB} (h : IB xs f k false acc) (hk : xs.length ≤ k) : acc ++ [f] = insB f xs := by
  rcases h with ⟨_, rfl, h⟩ | ⟨h, _⟩
  · rw [h, List.drop_of_length_le hk]; rfl
  · cases h

set_option maxRecDepth 100000 in
set_option maxHeartbeats 4000000 in
theorem rsort_any (xs : List FileB) (v : Value) (w : World) (hv : FRow w v xs) (hs : Short xs) (hm : xs.length ≤ 200) :
    Calls Try.prog 18 #[v] w (LOut (sortB xs) w) := by
  have HV := Lib.hid hv
  have HS := Lib.hid hs
  obtain ⟨a, c, rfl, hlc, -⟩ := hv
  clear hs
  go_enter Try.func18, Try.ntmps18
  go_wp2
  go_loopw [3, 4] (fun ov i wr => ∃ (j : Nat) (out : List FileB) (A : Option Addr) (c' : Nat), j ≤ xs.length ∧ i = .int .i64 j ∧ ov = .slice A out.length c' ∧ out = sortB (xs.take j) ∧ FRow wr (.slice A out.length c') out ∧ Below w.heap.size w wr)
    (fun _ i _ => xs.length - (intOf i).toNat)
  case atStart => exact ⟨0, [], _, 0, Nat.zero_le _, rfl, rfl, rfl, (Acc.start w).own.row, (Acc.start w).below⟩
  case round =>
    obtain ⟨j, out, A, c', hj, rfl, rfl, hL, hrow, hb⟩ := hrel
    obtain ⟨wo, hwo⟩ : ∃ wo, wo = wr := ⟨_, rfl⟩
    subst hwo
    have hol : out.length ≤ 200 := by rw [hL, sort_len_take xs j hj]; omega
    have hso : Short out := fun f hf => HS.out f (List.mem_of_mem_take ((mem_sort_take xs f j hj).1 (by rw [← hL]; exact hf)))
    have HL := Lib.hid hL
    have HR := Lib.hid hrow
    have HSo := Lib.hid hso
    clear hL hrow hso
    by_cases hlt : j < xs.length
    · obtain ⟨a', c'', e', hl', hcl⟩ := HV.out
      cases e'
      obtain ⟨g, o, rfl, hg, hcell⟩ := hcl (by intro e; rw [e] at hlt; simp at hlt)
      have HQ := Lib.hid (fun w' (h : Below w.heap.size w w') => And.intro ((h.cell (p := ⟨g, _, none⟩) hg).trans (hcell j hlt).1) ((h.cell (p := ⟨g, _, none⟩) hg).trans (hcell j hlt).2))
      have hsf := HS.out _ (List.getElem_mem hlt)
      have HN := Lib.hid (sort_snoc hlt)
      have ij0 : (0 : Int) ≤ (j : Int) := by omega
      have ij1 : (j : Int) < (xs.length : Int) := by omega
      clear hcell hcl
      generalize xs[j] = f at *
      obtain ⟨p, d⟩ := f
      have hsf' : p.size ≤ 20300 := hsf
      clear hsf
      go_wp2
      go_loopw [5, 6, 7] (fun nv dn i wi => ∃ (k : Nat) (b : Bool) (acc : List FileB) (A' : Option Addr) (c1 : Nat), k ≤ out.length ∧ i = .int .i64 k ∧ dn = .bool b ∧ nv = .slice A' acc.length c1 ∧ IB out (p, d) k b acc ∧ Acc wo wi (.slice A' acc.length c1) acc)
        (fun _ _ i _ => out.length - (intOf i).toNat)
      case atStart => exact ⟨0, false, [], _, 0, Nat.zero_le _, rfl, rfl, rfl, IB.start _ _, Acc.start wo⟩
      case round =>
        obtain ⟨k, b, acc, A', c1, hk, rfl, rfl, rfl, hib, hacc⟩ := hrel
        have hal := hib.len
        have HI := Lib.hid hib
        clear hib
        obtain ⟨q1, q2⟩ := HQ.out _ (hb.trans (hacc.below.mono hb.size))
        by_cases hkl : k < out.length
        · obtain ⟨a2, c2, e2, hl2, hcl2⟩ := HR.out
          cases e2
          obtain ⟨g2, o2, rfl, hg2, hcell2⟩ := hcl2 (by intro e; rw [e] at hkl; simp at hkl)
          have HQ2 := Lib.hid (fun w' (h : Below wo.heap.size wo w') => And.intro ((h.cell (p := ⟨g2, _, none⟩) hg2).trans (hcell2 k hkl).1) ((h.cell (p := ⟨g2, _, none⟩) hg2).trans (hcell2 k hkl).2))
          obtain ⟨s1, s2⟩ := HQ2.out _ hacc.below
          have hsx := HSo.out _ (List.getElem_mem hkl)
          have ik0 : (0 : Int) ≤ (k : Int) := by omega
          have ik1 : (k : Int) < (out.length : Int) := by omega
          have hgw := Nat.lt_of_lt_of_le hg hb.size
          have hzi := hacc.below.size
          clear hcell2 hcl2
          cases b
          · by_cases hcm : compareN p out[k].1 < 0
            · have HO := Lib.hid (HI.out.hit hkl hcm)
              generalize out[k] = x at *
              obtain ⟨x1, x2⟩ := x
              have hsx' : x1.size ≤ 20300 := hsx
              go_wp2
              go_region_held3 (fun w' => w'.cell? ⟨g, o + j * 2, none⟩ = some (.string p) ∧ w'.cell? ⟨g2, o2 + k * 2, none⟩ = some (.string x1))
                (first | go_keep | (go_split_ands; refine ⟨?_, ?_⟩ <;> (rw [hb2.cell (by simp; omega)]; assumption)))
                (first | (go_at_call 43; refine (rcompare_any _ _ (by omega) (by omega) _).mono ?_; rintro e w2 ⟨rfl, hb2⟩))
              rename_i hheld
              clear hheld
              have hacc2 := hacc.drew.call hb2
              obtain ⟨q1', q2'⟩ := HQ.out _ (hb.trans (hacc2.below.mono hb.size))
              obtain ⟨s1', s2'⟩ := HQ2.out _ hacc2.below
              clear hb2 q1 q2 s1 s2
              go_wp2_with (first | (at_builtin; refine wpList_facc rfl _ _ rfl (hacc3.alloc _) rfl (FRow.one _ _ _) rfl (by simp; omega) ?_; intro A4 c4 acc4 w4 hgr; have hlen4 := hgr.len; (simp only [List.length_cons, List.length_nil] at hlen4); have hacc4 := hgr.acc; have HL4 := Lib.hid hgr.list; clear hgr) | (at_builtin; refine wpList_facc rfl _ _ rfl (hacc2.alloc _) rfl (FRow.one _ _ _) rfl (by simp; omega) ?_; intro A3 c3 acc3 w3 hgr; have hlen3 := hgr.len; (simp only [List.length_cons, List.length_nil] at hlen3); have hacc3 := hgr.acc; have HL3 := Lib.hid hgr.list; clear hgr; obtain ⟨s1, s2⟩ := HQ2.out _ hacc3.below))
              go_roundw
              case rel => exact ⟨k + 1, true, acc4, A4, c4, by omega, by go_num, rfl, rfl, by rw [HL4.out, HL3.out]; exact HO.out, hacc4⟩
              case measure => simp [intOf]; omega
            · have HO := Lib.hid (HI.out.pass hkl hcm)
              generalize out[k] = x at *
              obtain ⟨x1, x2⟩ := x
              have hsx' : x1.size ≤ 20300 := hsx
              go_wp2
              go_region_held3 (fun w' => w'.cell? ⟨g, o + j * 2, none⟩ = some (.string p) ∧ w'.cell? ⟨g2, o2 + k * 2, none⟩ = some (.string x1))
                (first | go_keep | (go_split_ands; refine ⟨?_, ?_⟩ <;> (rw [hb2.cell (by simp; omega)]; assumption)))
                (first | (go_at_call 43; refine (rcompare_any _ _ (by omega) (by omega) _).mono ?_; rintro e w2 ⟨rfl, hb2⟩))
              rename_i hheld
              clear hheld
              have hacc2 := hacc.drew.call hb2
              obtain ⟨q1', q2'⟩ := HQ.out _ (hb.trans (hacc2.below.mono hb.size))
              obtain ⟨s1', s2'⟩ := HQ2.out _ hacc2.below
              clear hb2 q1 q2 s1 s2
              go_wp2_with (at_builtin; refine wpList_facc rfl _ _ rfl (hacc2.alloc _) rfl (FRow.one _ _ _) rfl (by simp; omega) ?_; intro A3 c3 acc3 w3 hgr; have hlen3 := hgr.len; (simp only [List.length_cons, List.length_nil] at hlen3); have hacc3 := hgr.acc; have HL3 := Lib.hid hgr.list; clear hgr)
              go_roundw
              case rel => exact ⟨k + 1, false, acc3, A3, c3, by omega, by go_num, rfl, rfl, by rw [HL3.out]; exact HO.out, hacc3⟩
              case measure => simp [intOf]; omega
          · have HO := Lib.hid (HI.out.on hkl)
            generalize out[k] = x at *
            obtain ⟨x1, x2⟩ := x
            go_wp2
            go_quiet (fail)
            go_wp2_with (at_builtin; refine wpList_facc rfl _ _ rfl ((hacc.drewN _).alloc _) rfl (FRow.one _ _ _) rfl (by simp; omega) ?_; intro A3 c3 acc3 w3 hgr; have hlen3 := hgr.len; (simp only [List.length_cons, List.length_nil] at hlen3); have hacc3 := hgr.acc; have HL3 := Lib.hid hgr.list; clear hgr)
            go_roundw
            case rel => exact ⟨k + 1, true, acc3, A3, c3, by omega, by go_num, rfl, rfl, by rw [HL3.out]; exact HO.out, hacc3⟩
            case measure => simp [intOf]; omega
        · have hke : out.length ≤ k := by omega
          cases b
          · have HD := Lib.hid (HI.out.last hke)
            go_wp2_with (at_builtin; refine wpList_facc rfl _ _ rfl (hacc.alloc _) rfl (FRow.one _ _ _) rfl (by simp; omega) ?_; intro A3 c3 acc3 w3 hgr; have hlen3 := hgr.len; (simp only [List.length_cons, List.length_nil] at hlen3); have hacc3 := hgr.acc; have HL3 := Lib.hid hgr.list; clear hgr)
            go_roundw
            case rel => exact ⟨j + 1, acc3, A3, c3, by omega, by go_num, rfl, by rw [HL3.out, HD.out, HN.out, HL.out], hacc3.own.row, hb.trans (hacc3.below.mono hb.size)⟩
            case measure => simp [intOf]; omega
          · have HD := Lib.hid (HI.out.done hke)
            go_wp2
            go_roundw
            case rel => exact ⟨j + 1, acc, A', c1, by omega, by go_num, rfl, by rw [HD.out, HN.out, HL.out], hacc.own.row, hb.trans (hacc.below.mono hb.size)⟩
            case measure => simp [intOf]; omega
    · have HE := Lib.hid (show out = sortB xs by rw [HL.out, List.take_of_length_le (by omega)])
      go_wp2
      go_ret
      rw [← HE.out]
      exact ⟨A, c', rfl, HR.out, hb⟩
end Go.Proofs.Yteffoajheolpmaa
