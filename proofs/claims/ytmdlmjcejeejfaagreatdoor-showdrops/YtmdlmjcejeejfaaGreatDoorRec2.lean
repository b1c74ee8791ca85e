/-
  Records as a law's argument, of whatever program: a slice of records that hold no pointer, opened, and read again behind the call; a struct of many one-cell fields.
-/
import Derived.Test.YtmdlmjcejeejfaaGreatDoorRec
import Derived.WalkKit
import Derived.ProofKit
import Derived.OpenShut
import Derived.ShutString
import Derived.ChangeOld
import Derived.Below
import Derived.Deep.SlicePairs
import Derived.Lib.SmallJoins
namespace Go.Proofs.YtmdlmjcejeejfaaGreatDoor
open Go.ChangeShapes Go.WideShapes Go.ChangeAt Go.RowKit Go.Deep Go.Joins

section
variable {α H : Type} {enc : TypeId × Value → H} {P : Program} {W : World}

/-- What a record reads as: nothing of memory counts. -/
structure RData (enc : TypeId × Value → H) (P : Program) (R : Rec α) (et : TypeId) (ok : α → Prop) (D : α → DataW H) : Prop where
  opens : ∀ {W : World} {base fuel : Nat} {sp : Nat → Bool} {cs : List Value} {x : DataW H × List MemPlace}, DataW.trod enc P W base sp true fuel et cs = some x → ∃ y, cs = R.cells y ∧ x = (D y, []) ∧ ok y
  shuts : ∀ {y : α}, ok y → ∀ (W : World) (base : Nat) (sp : Nat → Bool), ∃ n, DataW.trod enc P W base sp true n et (R.cells y) = some (D y, [])
  cellsOf : P.cellsOf et = R.k

theorem open_recs [Inhabited α] {R : Rec α} {et st : TypeId} {ok : α → Prop} {D : α → DataW H} (T : RData enc P R et ok D) (ht : P.underlying st = some (.slice et)) {v : Value} {fuel : Nat} {x : DataW H × List MemPlace}
    (h : DataW.trod enc P W 0 (fun _ => true) true fuel st [v] = some x) :
    ∃ xs : List α, RRow R W v xs ∧ xs.length ≤ maxLen ∧ (∀ y ∈ xs, ok y) ∧ ∀ W', Below W.heap.size W W' → ∃ n, DataW.trod enc P W' 0 (fun b => decide (b < W.heap.size)) true n st [v] = some x := by
  rcases open_slice ht h with ⟨hcs, rfl⟩ | ⟨a, len, cap, m, n, D', Pl, hcs, _, hl, hm, hmeq, rfl, hall⟩
  · simp only [List.cons.injEq, and_true] at hcs
    subst hcs
    exact ⟨[], RRow.nil W, Nat.zero_le _, by simp, fun W' _ => ⟨1, by unfold DataW.trod; rw [ht]; rfl⟩⟩
  · simp only [if_true] at hmeq
    subst hmeq
    simp only [List.cons.injEq, and_true] at hcs
    subst hcs
    rw [T.cellsOf] at hall
    obtain ⟨Y, hY⟩ := choose_lt (α := α) (n := m) (p := fun i y => W.cells? 0 (a.add (i * R.k)) R.k = some (R.cells y) ∧ D' i = D y ∧ Pl i = [] ∧ ok y) (fun i hi => by
      obtain ⟨cs', h1, h2⟩ := hall i hi
      obtain ⟨y, rfl, e, hy⟩ := T.opens h2
      simp only [Prod.mk.injEq] at e
      exact ⟨y, h1, e.1, e.2, hy⟩)
    have hk := R.pos
    have spot : 0 < m → ∃ g o, a = ⟨g, o, none⟩ ∧ g < W.heap.size := fun hi => by
      obtain ⟨_, hlen, hc⟩ := World.cells?_some (hY 0 hi).1
      have h0 := hc 0 hk
      rw [List.getElem?_eq_getElem (by rw [R.len]; exact hk)] at h0
      obtain ⟨g, o, sp⟩ := a
      have hsp : sp = none := by
        have := World.cell?_spot h0
        cases sp with
        | none => rfl
        | some z => simp [Addr.add] at this
      subst hsp
      refine ⟨g, o, rfl, ?_⟩
      have := World.block_lt_of_cell? W _ h0
      rwa [add_plainR, add_plainR] at this
    refine ⟨(List.range len).map Y, ?_, by simp; omega, ?_, ?_⟩
    · refine ⟨some a, m, by simp, by simpa using hl, fun hne => ?_⟩
      have hpos : 0 < len := by
        rcases Nat.eq_zero_or_pos len with h0 | h0
        · subst h0; exact absurd rfl hne
        · exact h0
      obtain ⟨g, o, rfl, hg⟩ := spot (by omega)
      refine ⟨g, o, rfl, hg, fun i hi j u hu => ?_⟩
      simp only [List.length_map, List.length_range] at hi
      simp only [List.getElem_map, List.getElem_range] at hu
      obtain ⟨_, hlen, hc⟩ := World.cells?_some (hY i (by omega)).1
      have hj : j < R.k := by rw [← R.len (Y i)]; exact (List.getElem?_eq_some_iff.1 hu).1
      have := hc j hj
      rwa [hu, add_plainR, add_plainR] at this
    · intro y hy
      obtain ⟨i, hi, rfl⟩ := List.mem_map.1 hy
      exact (hY i (by have := List.mem_range.1 hi; omega)).2.2.2
    · intro W' hb
      by_cases h0 : m = 0
      · subst h0
        have hl0 : len = 0 := by omega
        subst hl0
        by_cases hlt : a.block < W.heap.size
        · have := shut_slice_whole_cells (enc := enc) (P := P) (w := W') (base := 0) (spare := fun b => decide (b < W.heap.size)) (held := true) (a := a) (len := 0) (cap := 0) ht (Nat.zero_le _) (Nat.le_refl _) hm (by simpa using hlt) D' Pl (fun i hi => absurd hi (Nat.not_lt_zero _))
          simpa using this
        · have := shut_slice_cells (enc := enc) (P := P) (w := W') (base := 0) (spare := fun b => decide (b < W.heap.size)) (held := true) (a := a) (len := 0) (cap := 0) ht (Nat.zero_le _) (Nat.le_refl _) hm (by simpa using hlt) D' Pl (fun i hi => absurd hi (Nat.not_lt_zero _))
          simpa using this
      · obtain ⟨g, o, rfl, hg⟩ := spot (by omega)
        refine shut_slice_whole_cells (enc := enc) (P := P) (w := W') (base := 0) (spare := fun b => decide (b < W.heap.size)) (held := true) (a := ⟨g, o, none⟩) ht (Nat.zero_le _) hl hm (by simpa using hg) D' Pl (fun i hi => ?_)
        obtain ⟨h1, h2, h3, h4⟩ := hY i hi
        obtain ⟨n', hn'⟩ := T.shuts h4 W' 0 (fun b => decide (b < W.heap.size))
        refine ⟨R.cells (Y i), n', ?_, by rw [h2, h3]; exact hn'⟩
        rw [T.cellsOf, ← h1]
        unfold World.cells?
        simp only [Nat.zero_le, if_true]
        congr 1
        funext j
        rw [add_plainR, add_plainR]
        exact hb.cell (p := ⟨g, _, none⟩) hg

/-- A struct of one-cell fields, opened: each field's cell with its reading. -/
theorem open_aggs {r : Reach} {b0 : Nat} {t : TypeId} {fs : Array Field} {v : Value} {d : DataW H} {p : List MemPlace} {base : Nat} {sp : Nat → Bool} {held : Bool} (hs : P.underlying t = some (.struct fs)) (hone : oneCellFields P fs = true) (hC : P.cellsOf t = fs.size)
    (hv : Value.okWide P W r b0 t v) (h : DataW.Trod enc P W base sp held t v d p) :
    ∃ (cs : Array Value) (xs : List (DataW H × List MemPlace)) (n : Nat), v = .agg cs ∧ cs.size = fs.size ∧ xs.length = fs.size ∧ d = .agg (xs.map (·.1)) ∧ p = xs.flatMap (·.2) ∧
      ∀ (i : Nat) (f : Field), fs[i]? = some f → ∃ c, cs[i]? = some c ∧ DataW.trod enc P W base sp held n f.type [c] = xs[i]? := by
  obtain ⟨cs, rfl, hsz⟩ := okWide_struct hs hv
  obtain ⟨fuel, hf⟩ := h
  obtain ⟨xs, n, _, hx, hl, hlen, hall⟩ := DataW.trod_struct hs hf
  simp only [Prod.mk.injEq] at hx
  refine ⟨cs, xs, n, rfl, hsz.trans hC, hlen, hx.1, hx.2, fun i f hif => ?_⟩
  obtain ⟨ho, hc⟩ := hone_of hone i f hif
  have hlt : i < cs.size := by rw [hsz, hC]; exact (Array.getElem?_eq_some_iff.1 hif).1
  refine ⟨cs[i], Array.getElem?_eq_getElem hlt, ?_⟩
  have := hall i f hif
  rw [ho, hc] at this
  rw [← this]
  congr 1
  simp only [Value.cells]
  rw [List.drop_eq_getElem_cons (by simpa using hlt)]
  simp
/-- .. shut again: each field by its own fuel. -/
theorem shut_aggs {t : TypeId} {fs : Array Field} {cs : Array Value} {xs : List (DataW H × List MemPlace)} {base : Nat} {sp : Nat → Bool} {held : Bool} (hs : P.underlying t = some (.struct fs)) (hone : oneCellFields P fs = true) (hC : P.cellsOf t = fs.size) (hsz : cs.size = fs.size) (hxs : xs.length = fs.size)
    (h : ∀ (i : Nat) (f : Field), fs[i]? = some f → ∃ c n, cs[i]? = some c ∧ DataW.trod enc P W base sp held n f.type [c] = xs[i]?) :
    DataW.Trod enc P W base sp held t (.agg cs) (.agg (xs.map (·.1))) (xs.flatMap (·.2)) := by
  obtain ⟨m, hm⟩ := fuel_lt (n := fs.size) (q := fun i m => ∀ f, fs[i]? = some f → ∃ c, cs[i]? = some c ∧ DataW.trod enc P W base sp held m f.type [c] = xs[i]?)
    (fun i a b hab hq f hf => by
      obtain ⟨c, h1, h2⟩ := hq f hf
      have hi : i < xs.length := by rw [hxs]; exact (Array.getElem?_eq_some_iff.1 hf).1
      rw [List.getElem?_eq_getElem hi] at h2 ⊢
      exact ⟨c, h1, DataW.trod_le hab h2⟩)
    (fun i hi => by
      obtain ⟨c, n, h1, h2⟩ := h i fs[i] (Array.getElem?_eq_getElem hi)
      exact ⟨n, fun f hf => by
        rw [Array.getElem?_eq_getElem hi] at hf
        obtain rfl := Option.some.inj hf
        exact ⟨c, h1, h2⟩⟩)
  have key : fs.toList.mapM (fun f => DataW.trod enc P W base sp held m f.type (((Value.agg cs).cells.toList.drop f.offset).take (P.cellsOf f.type))) = some xs := by
    have e : fs.toList = (List.range fs.size).map fun i => fs.getD i default := by
      apply List.ext_getElem
      · simp
      · intro i h1 h2
        simp at h1
        simp [h1]
    have e2 : xs = (List.range fs.size).map fun i => xs.getD i (.nil, []) := by
      apply List.ext_getElem
      · simp [hxs]
      · intro i h1 h2
        simp [h1]
    rw [e, List.mapM_map]
    rw [mapM_range_of (g := fun i => xs.getD i (.nil, [])) fs.size (fun i hi => ?_), ← e2]
    have hf : fs[i]? = some (fs.getD i default) := by simp [Array.getD, hi]
    obtain ⟨c, h1, h2⟩ := hm i hi _ hf
    obtain ⟨ho, hc⟩ := hone_of hone i _ hf
    have hlt : i < cs.size := by rw [hsz]; exact hi
    have hix : i < xs.length := by rw [hxs]; exact hi
    rw [List.getElem?_eq_getElem hix] at h2
    simp only [Function.comp]
    rw [ho, hc]
    have : ((Value.agg cs).cells.toList.drop i).take 1 = [c] := by
      simp only [Value.cells]
      rw [List.drop_eq_getElem_cons (by simpa using hlt)]
      rw [Array.getElem?_eq_getElem hlt] at h1
      simp at h1
      simp [h1]
    rw [this, h2]
    simp [List.getD, hix]
  exact ⟨m + 1, trod_struct_mk hs (by simp [Value.cells, hsz, hC]) key⟩
end
end Go.Proofs.YtmdlmjcejeejfaaGreatDoor
