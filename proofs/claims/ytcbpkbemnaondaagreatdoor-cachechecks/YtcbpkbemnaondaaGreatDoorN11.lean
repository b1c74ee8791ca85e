/-
  Plain facts, of no program: a list sorted by inserting, whatever is compared; the versions out of sorted entries.
-/
import Derived.Test.YtcbpkbemnaondaaGreatDoorN9
import Derived.Test.YtcbpkbemnaondaaGreatDoorZ0
import Derived.Deep.RegionHeld3
namespace Go.Proofs.YtcbpkbemnaondaaGreatDoor
open Go.RowKit Go.Shelf

/-- The order of entries: their modules'. -/
def entC (x y : EntB) : Int := modCmp x.m y.m
theorem entC_cmp : Cmp entC := modCmp_cmp.on EntB.m
def sortE (xs : List EntB) : List EntB := sortC entC xs
theorem sortE_len (xs : List EntB) (k : Nat) (h : k ≤ xs.length) : (sortC entC (xs.take k)).length = k := by rw [(sortC_perm xs k h).length_eq]; simp; omega
theorem sortE_perm (xs : List EntB) : (sortE xs).Perm xs := by
  have := sortC_perm (c := entC) xs xs.length (Nat.le_refl _)
  rwa [List.take_length] at this
theorem sortE_rises (xs : List EntB) : RisesC entC (sortE xs) := by
  have := sortC_rises entC_cmp xs xs.length (Nat.le_refl _)
  rwa [List.take_length] at this

/-- The versions of a path, out of sorted entries. -/
def addV (path : ByteArray) (out : List ByteArray) (x : EntB) : List ByteArray := if decide (x.p = path) && !decide (out.getLast? = some x.v) then out ++ [x.v] else out
def versL (path : ByteArray) (ss : List EntB) : List ByteArray := ss.foldl (addV path) []
theorem versL_snoc (path : ByteArray) (ss : List EntB) (k : Nat) (h : k < ss.length) : versL path (ss.take (k + 1)) = addV path (versL path (ss.take k)) ss[k] := by
  unfold versL
  rw [List.take_succ_eq_append_getElem h, List.foldl_append]; rfl
theorem addV_len (path : ByteArray) (out : List ByteArray) (x : EntB) : (addV path out x).length ≤ out.length + (if decide (x.p = path) then 1 else 0) := by
  unfold addV
  cases decide (x.p = path) <;> cases decide (out.getLast? = some x.v) <;> simp
structure VersUpto (path : ByteArray) (ss : List EntB) (k : Nat) (out : List ByteArray) : Prop where
  mem : ∀ s, s ∈ out ↔ ∃ x ∈ ss.take k, x.p = path ∧ x.v = s
  strict : out.Pairwise fun a b => verCmp a b = -1
  len : out.length ≤ cnt path (ss.take k)
theorem versL_upto (path : ByteArray) {ss : List EntB} (hs : RisesC entC ss) : ∀ k, k ≤ ss.length → VersUpto path ss k (versL path (ss.take k)) := by
  intro k
  induction k with
  | zero => intro _; exact ⟨by simp [versL], by simp [versL], by simp [versL, cnt]⟩
  | succ k ih =>
    intro hk
    have hlt : k < ss.length := by omega
    obtain ⟨hm, hst, hln⟩ := ih (by omega)
    have hle : ∀ s ∈ versL path (ss.take k), ss[k].p = path → verCmp s ss[k].v ≤ 0 := by
      intro s hsm hp
      obtain ⟨x, hx, h1, rfl⟩ := (hm s).1 hsm
      obtain ⟨i, hi, rfl⟩ := List.getElem_of_mem hx
      simp only [List.length_take] at hi
      rw [List.getElem_take] at h1 ⊢
      have h2 := List.pairwise_iff_getElem.1 hs i k (by omega) hlt (by omega)
      have h3 : entC ss[k] ss[i] = verCmp ss[k].v ss[i].v := by
        unfold entC EntB.m
        rw [hp, h1, modCmp_path]
      rw [h3] at h2
      have := verCmp_cmp.neg ss[i].v ss[k].v
      omega
    have hln2 : (addV path (versL path (ss.take k)) ss[k]).length ≤ cnt path (ss.take (k + 1)) := by
      rw [cnt_snoc path ss k hlt]
      exact Nat.le_trans (addV_len _ _ _) (Nat.add_le_add_right hln _)
    rw [versL_snoc path ss k hlt]
    generalize versL path (ss.take k) = out at *
    have hmem : ∀ s, (∃ x ∈ ss.take (k + 1), x.p = path ∧ x.v = s) ↔ s ∈ out ∨ (ss[k].p = path ∧ ss[k].v = s) := by
      intro s
      rw [hm s, List.take_succ_eq_append_getElem hlt]
      constructor
      · rintro ⟨x, hx, h⟩
        rcases List.mem_append.1 hx with hx | hx
        · exact .inl ⟨x, hx, h⟩
        · rw [List.mem_singleton.1 hx] at h; exact .inr h
      · rintro (⟨x, hx, h⟩ | h)
        · exact ⟨x, List.mem_append.2 (.inl hx), h⟩
        · exact ⟨_, List.mem_append.2 (.inr (by simp)), h⟩
    refine ⟨fun s => ?_, ?_, hln2⟩
    · rw [hmem s]
      unfold addV
      by_cases hp : ss[k].p = path
      · by_cases hl : out.getLast? = some ss[k].v
        · simp only [hp, hl, decide_true, Bool.not_true, Bool.and_false]
          have := List.mem_of_getLast? hl
          constructor
          · intro h; exact .inl h
          · rintro (h | ⟨_, rfl⟩)
            · exact h
            · exact this
        · simp only [hp, hl, decide_true, decide_false, Bool.not_false, Bool.and_self, if_true, List.mem_append, List.mem_singleton]
          constructor
          · rintro (h | h)
            · exact .inl h
            · exact .inr ⟨trivial, h.symm⟩
          · rintro (h | ⟨_, h⟩)
            · exact .inl h
            · exact .inr h.symm
      · simp only [hp, decide_false, Bool.false_and]
        constructor
        · intro h; exact .inl h
        · rintro (h | ⟨h, _⟩)
          · exact h
          · exact absurd h id
    · unfold addV
      split
      · rename_i h
        simp only [Bool.and_eq_true, decide_eq_true_eq, Bool.not_eq_true', decide_eq_false_iff_not] at h
        obtain ⟨hp, hl⟩ := h
        rw [List.pairwise_append]
        refine ⟨hst, by simp, fun a ha b hb => ?_⟩
        rw [List.mem_singleton.1 hb]
        have h1 := hle a ha hp
        rcases verCmp_cmp.range a ss[k].v with e | e | e
        · exact e
        · exfalso
          have hae := verCmp_zero.1 e
          obtain ⟨z, hz⟩ : ∃ z, out.getLast? = some z := by
            cases h : out.getLast? with
            | none => rw [List.getLast?_eq_none_iff] at h; rw [h] at ha; simp at ha
            | some z => exact ⟨z, rfl⟩
          have hzm := List.mem_of_getLast? hz
          have hz2 := hle z hzm hp
          by_cases hza : a = z
          · rw [← hza, hae] at hz; exact hl hz
          · have h3 : verCmp a z = -1 := by
              obtain ⟨ys, rfl⟩ := List.getLast?_eq_some_iff.1 hz
              rcases List.mem_append.1 ha with h4 | h4
              · exact (List.pairwise_append.1 hst).2.2 a h4 z (by simp)
              · exact absurd (List.mem_singleton.1 h4) hza
            rw [hae] at h3
            have := verCmp_cmp.neg z ss[k].v
            omega
        · omega
      · exact hst
theorem versL_is (path : ByteArray) (xs : List EntB) : Vers path xs (versL path (sortE xs)) := by
  have h := versL_upto path (sortE_rises xs) (sortE xs).length (Nat.le_refl _)
  rw [List.take_length] at h
  obtain ⟨h1, h2, h3⟩ := h
  have hp := sortE_perm xs
  refine ⟨fun s => ?_, h2, ?_⟩
  · rw [h1 s, List.take_length]
    constructor
    · rintro ⟨x, hx, h⟩; exact ⟨x, hp.mem_iff.1 hx, h⟩
    · rintro ⟨x, hx, h⟩; exact ⟨x, hp.mem_iff.2 hx, h⟩
  · rw [List.take_length] at h3
    refine Nat.le_trans h3 (Nat.le_of_eq ?_)
    unfold cnt
    exact (hp.filter _).length_eq
theorem Vers.unique {path : ByteArray} {xs : List EntB} {a b : List ByteArray} (ha : Vers path xs a) (hb : Vers path xs b) : a = b := strict_unique ha.strict hb.strict fun s => by rw [ha.mem, hb.mem]
end Go.Proofs.YtcbpkbemnaondaaGreatDoor

/-
  The document's own Sort.
-/
namespace Go.Proofs.YtcbpkbemnaondaaGreatDoor
open Go.RowKit Go.Shelf

set_option maxRecDepth 100000 in
theorem entTy : RTy Tryz.prog entR 22 29 (.agg #[.string ⟨#[]⟩, .string ⟨#[]⟩, .string ⟨#[]⟩, .slice none 0 0]) 72 := ⟨Tryz.underlying22, by kernel_rfl, rfl, by decide⟩
def EOut (ys : List EntB) (w : World) (e : Ending) (w' : World) : Prop := ∃ A c, e = .returned (.slice A ys.length c) ∧ ROwn entR 29 w' w.heap.size (.slice A ys.length c) ys ∧ Below w.heap.size w w'

theorem ROwn.lower {α : Type} {R : Rec α} {et : TypeId} {w : World} {base base' : Nat} {v : Value} {xs : List α} (h : ROwn R et w base v xs) (hb : base' ≤ base) : ROwn R et w base' v xs := by
  obtain ⟨hl, h0 | ⟨g, cap, cur, rfl, hg, hh⟩⟩ := h
  · exact ⟨hl, .inl h0⟩
  · exact ⟨hl, .inr ⟨g, cap, cur, rfl, Nat.le_trans hb hg, hh⟩⟩
theorem ROwn.apart {α β : Type} {R : Rec α} {Q : Rec β} {et et' : TypeId} {w : World} {b b' : Nat} {v u : Value} {xs : List α} {ys : List β} (h : ROwn R et w b v xs) (k : ROwn Q et' w b' u ys) (hne : et ≠ et') : v.ownBlock = none ∨ v.ownBlock ≠ u.ownBlock := by
  obtain ⟨_, ⟨rfl, _⟩ | ⟨g, cap, cur, rfl, _, hh, _⟩⟩ := h
  · exact .inl rfl
  · refine .inr fun e => ?_
    obtain ⟨_, ⟨rfl, _⟩ | ⟨g', cap', cur', rfl, _, hh', _⟩⟩ := k
    · cases e
    · simp only [Value.ownBlock, Option.some.injEq] at e
      subst e
      rw [hh] at hh'
      simp only [Option.some.injEq, Obj.cells.injEq] at hh'
      exact hne hh'.2.1
theorem below_zeroN (w : World) (n : Nat) : Below w.heap.size w (w.drewN n) := ⟨rfl, rfl, rfl, Nat.le_refl _, fun _ _ => rfl⟩

set_option maxRecDepth 100000 in
set_option maxHeartbeats 4000000 in
theorem rsort_any (xs : List EntB) (v : Value) (w : World) (hv : RRow entR w v xs) (hL : LightE xs) :
    Calls Tryz.prog 14 #[v] w (EOut (sortE xs) w) := by
  have HV := Lib.hid hv
  have HS := Lib.hid hL.2
  have h50 := hL.1
  obtain ⟨a, c, rfl, hlc, -⟩ := hv
  clear hL
  go_enter Tryz.func14, Tryz.ntmps14
  go_wp2
  go_loopw [3, 4] (fun ov i wr => ∃ (j : Nat) (out : List EntB) (A : Option Addr) (c' : Nat), j ≤ xs.length ∧ i = .int .i64 j ∧ ov = .slice A out.length c' ∧ out = sortC entC (xs.take j) ∧ ROwn entR 29 wr w.heap.size (.slice A out.length c') out ∧ Below w.heap.size w wr)
    (fun _ i _ => xs.length - (intOf i).toNat)
  case atStart => exact ⟨0, [], _, 0, Nat.zero_le _, rfl, rfl, rfl, (RAcc.start (R := entR) (et := 29) w).own, (RAcc.start (R := entR) (et := 29) w).below⟩
  case round =>
    obtain ⟨j, out, A, c', hj, rfl, rfl, hL, hrow, hb⟩ := hrel
    obtain ⟨wo, hwo⟩ : ∃ wo, wo = wr := ⟨_, rfl⟩
    subst hwo
    have hol : out.length ≤ 200 := by rw [hL, sortE_len xs j hj]; omega
    have hso : ∀ f ∈ out, f.p.size ≤ 16384 ∧ f.v.size ≤ 16384 := fun f hf => by
      have := HS.out f (List.mem_of_mem_take ((sortC_perm xs j hj).mem_iff.1 (by rw [← hL]; exact hf)))
      exact ⟨this.1, this.2.1⟩
    have HL := Lib.hid hL
    have HR := Lib.hid hrow.row
    have HRo := Lib.hid hrow
    have HSo := Lib.hid hso
    clear hL hrow hso
    by_cases hlt : j < xs.length
    · obtain ⟨a', c'', e', hl', hcl⟩ := HV.out
      cases e'
      obtain ⟨g, o, rfl, hg, hcell⟩ := hcl (ne_of_lt hlt)
      obtain ⟨e1, e2, e3, e4⟩ := ent_at hcell j hlt
      have HQ := Lib.hid (fun w' (h : Below w.heap.size w w') => And.intro ((h.cell (p := ⟨g, _, none⟩) hg).trans e1) (And.intro ((h.cell (p := ⟨g, _, none⟩) hg).trans e2) (And.intro ((h.cell (p := ⟨g, _, none⟩) hg).trans e3) ((h.cell (p := ⟨g, _, none⟩) hg).trans e4))))
      obtain ⟨y1, y2, -, -⟩ := HS.out _ (List.getElem_mem hlt)
      have HN := Lib.hid (sortC_snoc (c := entC) hlt)
      have ij0 : (0 : Int) ≤ (j : Int) := by omega
      have ij1 : (j : Int) < (xs.length : Int) := by omega
      clear hcell hcl e1 e2 e3 e4
      generalize xs[j] = f at *
      obtain ⟨p, v, fg, fa, fn, fc⟩ := f
      dsimp only at y1 y2
      go_wp2
      go_loopw [5, 6, 7] (fun nv dn i wi => ∃ (k : Nat) (b : Bool) (acc : List EntB) (A' : Option Addr) (c1 : Nat), k ≤ out.length ∧ i = .int .i64 k ∧ dn = .bool b ∧ nv = .slice A' acc.length c1 ∧ IC entC out ⟨p, v, fg, fa, fn, fc⟩ k b acc ∧ RAcc entR 29 wo wi (.slice A' acc.length c1) acc)
        (fun _ _ i _ => out.length - (intOf i).toNat)
      case atStart => exact ⟨0, false, [], _, 0, Nat.zero_le _, rfl, rfl, rfl, IC.start _ _, RAcc.start wo⟩
      case round =>
        obtain ⟨k, b, acc, A', c1, hk, rfl, rfl, rfl, hib, hacc⟩ := hrel
        have hal := hib.len
        have HI := Lib.hid hib
        clear hib
        obtain ⟨q1, q2, q3, q4⟩ := HQ.out _ (hb.trans (hacc.below.mono hb.size))
        try dsimp only at q1 q2 q3 q4
        by_cases hkl : k < out.length
        · obtain ⟨a2, c2, e2, hl2, hcl2⟩ := HR.out
          cases e2
          obtain ⟨g2, o2, rfl, hg2, hcell2⟩ := hcl2 (ne_of_lt hkl)
          obtain ⟨e1, e2, e3, e4⟩ := ent_at hcell2 k hkl
          have HQ2 := Lib.hid (fun w' (h : Below wo.heap.size wo w') => And.intro ((h.cell (p := ⟨g2, _, none⟩) hg2).trans e1) (And.intro ((h.cell (p := ⟨g2, _, none⟩) hg2).trans e2) (And.intro ((h.cell (p := ⟨g2, _, none⟩) hg2).trans e3) ((h.cell (p := ⟨g2, _, none⟩) hg2).trans e4))))
          obtain ⟨s1, s2, s3, s4⟩ := HQ2.out _ hacc.below
          obtain ⟨z1, z2⟩ := HSo.out _ (List.getElem_mem hkl)
          have ik0 : (0 : Int) ≤ (k : Int) := by omega
          have ik1 : (k : Int) < (out.length : Int) := by omega
          have hgi := Nat.lt_of_lt_of_le (Nat.lt_of_lt_of_le hg hb.size) hacc.below.size
          have hg2i := Nat.lt_of_lt_of_le hg2 hacc.below.size
          clear hcell2 hcl2 e1 e2 e3 e4
          cases b
          · by_cases hcm : entC ⟨p, v, fg, fa, fn, fc⟩ out[k] < 0
            · have HO := Lib.hid (HI.out.hit hkl hcm)
              generalize out[k] = x at *
              obtain ⟨x1, x2, xg, xa, xn, xc⟩ := x
              dsimp only [entC, EntB.m] at hcm s1 s2 s3 s4 z1 z2
              go_wp2
              go_region_held3 (fun w' => w'.cell? ⟨g, o + j * 4, none⟩ = some (.string p) ∧ w'.cell? ⟨g, o + j * 4 + 1, none⟩ = some (.string v) ∧ w'.cell? ⟨g2, o2 + k * 4, none⟩ = some (.string x1) ∧ w'.cell? ⟨g2, o2 + k * 4 + 1, none⟩ = some (.string x2))
                (first | go_keep | with_reducible exact K2.out)
                (first | (go_at_call 35; refine (rorderM_any _ _ _ _ (by omega) (by omega) (by omega) (by omega) _).mono ?_; rintro e w2 ⟨rfl, hb2'⟩; have hb2 := below_drew1 hb2'; have K2 := Lib.hid (And.intro ((hb2.cell (p := ⟨g, o + j * 4, none⟩) hgi).trans q1) (And.intro ((hb2.cell (p := ⟨g, o + j * 4 + 1, none⟩) hgi).trans q2) (And.intro ((hb2.cell (p := ⟨g2, o2 + k * 4, none⟩) hg2i).trans s1) ((hb2.cell (p := ⟨g2, o2 + k * 4 + 1, none⟩) hg2i).trans s2))))))
              rename_i hheld
              clear hheld K2 hb2'
              have hacc2 := hacc.call hb2
              obtain ⟨q1', q2', q3', q4'⟩ := HQ.out _ (hb.trans (hacc2.below.mono hb.size))
              obtain ⟨s1', s2', s3', s4'⟩ := HQ2.out _ hacc2.below
              clear hb2 q1 q2 q3 q4 s1 s2 s3 s4
              go_wp2_with (first | (at_builtin; refine wpList_racc entTy rfl _ _ rfl (hacc3.alloc _) rfl (RRow.oneB (R := entR) 29 ⟨x1, x2, xg, xa, xn, xc⟩ #[.string x1, .string x2, .string xg, .slice xa xn xc] rfl) rfl (by simp; omega) ?_; intro A4 c4 acc4 w4 hgr; have hlen4 := hgr.len; (simp only [List.length_cons, List.length_nil] at hlen4); have hacc4 := hgr.acc; have HL4 := Lib.hid hgr.list; clear hgr) | (at_builtin; refine wpList_racc entTy rfl _ _ rfl (hacc2.alloc _) rfl (RRow.oneB (R := entR) 29 ⟨p, v, fg, fa, fn, fc⟩ #[.string p, .string v, .string fg, .slice fa fn fc] rfl) rfl (by simp; omega) ?_; intro A3 c3 acc3 w3 hgr; have hlen3 := hgr.len; (simp only [List.length_cons, List.length_nil] at hlen3); have hacc3 := hgr.acc; have HL3 := Lib.hid hgr.list; clear hgr; obtain ⟨s1, s2, s3, s4⟩ := HQ2.out _ hacc3.below))
              go_roundw
              case rel => exact ⟨k + 1, true, acc4, A4, c4, by omega, by go_num, rfl, rfl, by rw [HL4.out, HL3.out]; exact HO.out, hacc4⟩
              case measure => simp [intOf]; omega
            · have HO := Lib.hid (HI.out.pass hkl hcm)
              generalize out[k] = x at *
              obtain ⟨x1, x2, xg, xa, xn, xc⟩ := x
              dsimp only [entC, EntB.m] at hcm s1 s2 s3 s4 z1 z2
              go_wp2
              go_region_held3 (fun w' => w'.cell? ⟨g, o + j * 4, none⟩ = some (.string p) ∧ w'.cell? ⟨g, o + j * 4 + 1, none⟩ = some (.string v) ∧ w'.cell? ⟨g2, o2 + k * 4, none⟩ = some (.string x1) ∧ w'.cell? ⟨g2, o2 + k * 4 + 1, none⟩ = some (.string x2))
                (first | go_keep | with_reducible exact K2.out)
                (first | (go_at_call 35; refine (rorderM_any _ _ _ _ (by omega) (by omega) (by omega) (by omega) _).mono ?_; rintro e w2 ⟨rfl, hb2'⟩; have hb2 := below_drew1 hb2'; have K2 := Lib.hid (And.intro ((hb2.cell (p := ⟨g, o + j * 4, none⟩) hgi).trans q1) (And.intro ((hb2.cell (p := ⟨g, o + j * 4 + 1, none⟩) hgi).trans q2) (And.intro ((hb2.cell (p := ⟨g2, o2 + k * 4, none⟩) hg2i).trans s1) ((hb2.cell (p := ⟨g2, o2 + k * 4 + 1, none⟩) hg2i).trans s2))))))
              rename_i hheld
              clear hheld K2 hb2'
              have hacc2 := hacc.call hb2
              obtain ⟨q1', q2', q3', q4'⟩ := HQ.out _ (hb.trans (hacc2.below.mono hb.size))
              obtain ⟨s1', s2', s3', s4'⟩ := HQ2.out _ hacc2.below
              clear hb2 q1 q2 q3 q4 s1 s2 s3 s4
              go_wp2_with (at_builtin; refine wpList_racc entTy rfl _ _ rfl (hacc2.alloc _) rfl (RRow.oneB (R := entR) 29 ⟨x1, x2, xg, xa, xn, xc⟩ #[.string x1, .string x2, .string xg, .slice xa xn xc] rfl) rfl (by simp; omega) ?_; intro A3 c3 acc3 w3 hgr; have hlen3 := hgr.len; (simp only [List.length_cons, List.length_nil] at hlen3); have hacc3 := hgr.acc; have HL3 := Lib.hid hgr.list; clear hgr)
              go_roundw
              case rel => exact ⟨k + 1, false, acc3, A3, c3, by omega, by go_num, rfl, rfl, by rw [HL3.out]; exact HO.out, hacc3⟩
              case measure => simp [intOf]; omega
          · have HO := Lib.hid (HI.out.on hkl)
            generalize out[k] = x at *
            obtain ⟨x1, x2, xg, xa, xn, xc⟩ := x
            try dsimp only at s1 s2 s3 s4
            go_wp2
            go_quiet (fail)
            go_wp2_with (at_builtin; refine wpList_racc entTy rfl _ _ rfl ((hacc.call (below_zeroN _ _)).alloc _) rfl (RRow.oneB (R := entR) 29 ⟨x1, x2, xg, xa, xn, xc⟩ #[.string x1, .string x2, .string xg, .slice xa xn xc] rfl) rfl (by simp; omega) ?_; intro A3 c3 acc3 w3 hgr; have hlen3 := hgr.len; (simp only [List.length_cons, List.length_nil] at hlen3); have hacc3 := hgr.acc; have HL3 := Lib.hid hgr.list; clear hgr)
            go_roundw
            case rel => exact ⟨k + 1, true, acc3, A3, c3, by omega, by go_num, rfl, rfl, by rw [HL3.out]; exact HO.out, hacc3⟩
            case measure => simp [intOf]; omega
        · have hke : out.length ≤ k := by omega
          cases b
          · have HD := Lib.hid (HI.out.last hke)
            go_wp2_with (at_builtin; refine wpList_racc entTy rfl _ _ rfl (hacc.alloc _) rfl (RRow.oneB (R := entR) 29 ⟨p, v, fg, fa, fn, fc⟩ #[.string p, .string v, .string fg, .slice fa fn fc] rfl) rfl (by simp; omega) ?_; intro A3 c3 acc3 w3 hgr; have hlen3 := hgr.len; (simp only [List.length_cons, List.length_nil] at hlen3); have hacc3 := hgr.acc; have HL3 := Lib.hid hgr.list; clear hgr)
            go_roundw
            case rel => exact ⟨j + 1, acc3, A3, c3, by omega, by go_num, rfl, by rw [HL3.out, HD.out, HN.out, HL.out], hacc3.own.lower hb.size, hb.trans (hacc3.below.mono hb.size)⟩
            case measure => simp [intOf]; omega
          · have HD := Lib.hid (HI.out.done hke)
            go_wp2
            go_roundw
            case rel => exact ⟨j + 1, acc, A', c1, by omega, by go_num, rfl, by rw [HD.out, HN.out, HL.out], hacc.own.lower hb.size, hb.trans (hacc.below.mono hb.size)⟩
            case measure => simp [intOf]; omega
    · have HE := Lib.hid (show out = sortE xs by rw [HL.out, List.take_of_length_le (by omega)]; rfl)
      go_wp2
      go_ret
      rw [← HE.out]
      exact ⟨A, c', rfl, HRo.out, hb⟩
end Go.Proofs.YtcbpkbemnaondaaGreatDoor
