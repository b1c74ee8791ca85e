/-
  Records in memory, of whatever program: a slice of structs of so many cells each, read, kept, appended to.
-/
import Derived.Test.YtmdlmjcejeejfaaGreatDoorW6
import Derived.Deep.AppendLies
import Derived.Maps.AppendAt
import Derived.Laws.OwnMore
namespace Go.Proofs.YtmdlmjcejeejfaaGreatDoor
open Go.RowKit Go.Shelf

/-- How a record lies: its cells, so many each. -/
structure Rec (α : Type) where
  k : Nat
  cells : α → List Value
  len : ∀ x, (cells x).length = k
  one : ∀ x, ∀ u ∈ cells x, u.oneCell' = true
  pos : 0 < k

section
variable {α : Type} (R : Rec α)

def Rec.flat (xs : List α) : List Value := xs.flatMap R.cells
theorem Rec.flat_nil : R.flat [] = [] := rfl
theorem Rec.flat_cons (x : α) (xs : List α) : R.flat (x :: xs) = R.cells x ++ R.flat xs := rfl
theorem Rec.flat_app (xs ys : List α) : R.flat (xs ++ ys) = R.flat xs ++ R.flat ys := by unfold Rec.flat; rw [List.flatMap_append]
theorem Rec.flat_len : ∀ xs : List α, (R.flat xs).length = xs.length * R.k
  | [] => by simp [Rec.flat]
  | x :: xs => by rw [R.flat_cons, List.length_append, R.len, Rec.flat_len xs, List.length_cons, Nat.add_mul]; omega
theorem Rec.flat_at : ∀ (xs : List α) (i : Nat) (h : i < xs.length) (j : Nat), j < R.k → (R.flat xs)[i * R.k + j]? = (R.cells xs[i])[j]?
  | x :: xs, 0, _, j, hj => by rw [R.flat_cons, Nat.zero_mul, Nat.zero_add, List.getElem?_append_left (by rw [R.len]; exact hj)]; rfl
  | x :: xs, i + 1, h, j, hj => by
    have ih := Rec.flat_at xs i (by simpa using h) j hj
    rw [R.flat_cons, List.getElem?_append_right (by rw [R.len, Nat.add_mul]; omega), R.len, show (i + 1) * R.k + j - R.k = i * R.k + j by rw [Nat.add_mul]; omega, ih]; rfl
theorem Rec.flat_one {xs : List α} : ∀ u ∈ R.flat xs, u.oneCell' = true := by
  intro u hu
  obtain ⟨x, _, hu⟩ := List.mem_flatMap.1 hu
  exact R.one x u hu

/-- The records lie from that cell on. -/
def RAt (w : World) (g o : Nat) (xs : List α) : Prop := ∀ i (h : i < xs.length) j u, (R.cells xs[i])[j]? = some u → w.cell? ⟨g, o + i * R.k + j, none⟩ = some u
/-- A list of records, as a slice that can be read. -/
def RRow (w : World) (v : Value) (xs : List α) : Prop :=
  ∃ a cap, v = .slice a xs.length cap ∧ xs.length ≤ cap ∧ (xs ≠ [] → ∃ g o, a = some ⟨g, o, none⟩ ∧ g < w.heap.size ∧ RAt R w g o xs)
def ROwn (et : TypeId) (w : World) (base : Nat) (v : Value) (xs : List α) : Prop := w.ownsRow base et R.k v xs.length (R.flat xs)

variable {R}
theorem RAt.of_block {w w' : World} {g o : Nat} {xs : List α} (h : RAt R w g o xs) (hb : w'.heap[g]? = w.heap[g]?) : RAt R w' g o xs :=
  fun i hi j u hu => (World.cell?_of_block (a := ⟨g, _, none⟩) hb).trans (h i hi j u hu)
theorem RRow.below {w w' : World} {v : Value} {xs : List α} (h : RRow R w v xs) (hb : Below w.heap.size w w') : RRow R w' v xs := by
  obtain ⟨a, cap, rfl, hl, hc⟩ := h
  refine ⟨a, cap, rfl, hl, fun hne => ?_⟩
  obtain ⟨g, o, rfl, hg, hcell⟩ := hc hne
  exact ⟨g, o, rfl, Nat.lt_of_lt_of_le hg hb.size, hcell.of_block (hb.block g hg)⟩
theorem RRow.drew {w : World} {v : Value} {xs : List α} (h : RRow R w v xs) (n : Nat) : RRow R (w.drewN n) v xs := h
theorem RRow.nil (w : World) : RRow R w (.slice none 0 0) [] := ⟨none, 0, rfl, Nat.le_refl _, fun h => absurd rfl h⟩
theorem RRow.form {w : World} {v : Value} {xs : List α} (h : RRow R w v xs) : ∃ A c, v = .slice A xs.length c := by
  obtain ⟨a, c, rfl, _⟩ := h
  exact ⟨a, c, rfl⟩
theorem add_plainR (g o j : Nat) : (⟨g, o, none⟩ : Addr).add j = ⟨g, o + j, none⟩ := by
  unfold Addr.add
  split
  · simp_all
  · rfl
theorem RAt.cells {w : World} {g o : Nat} {xs : List α} (h : RAt R w g o xs) : ∀ j u, (R.flat xs)[j]? = some u → w.cell? ((⟨g, o, none⟩ : Addr).add j) = some u := by
  intro j u hu
  have hj : j < (R.flat xs).length := (List.getElem?_eq_some_iff.1 hu).1
  rw [R.flat_len] at hj
  have hk := R.pos
  have hd : j / R.k < xs.length := (Nat.div_lt_iff_lt_mul hk).2 hj
  have hm : j % R.k < R.k := Nat.mod_lt _ hk
  have e : j / R.k * R.k + j % R.k = j := Nat.div_add_mod' j R.k
  have h1 := R.flat_at xs (j / R.k) hd (j % R.k) hm
  rw [e, hu] at h1
  have := h (j / R.k) hd (j % R.k) u h1.symm
  rw [add_plainR, ← this]
  congr 2
  omega
theorem RAt.mk {w : World} {g o : Nat} {xs : List α} (h : ∀ j u, (R.flat xs)[j]? = some u → w.cell? ⟨g, o + j, none⟩ = some u) : RAt R w g o xs := by
  intro i hi j u hu
  have hj : j < R.k := by rw [← R.len xs[i]]; exact (List.getElem?_eq_some_iff.1 hu).1
  have := h (i * R.k + j) u (by rw [R.flat_at xs i hi j hj]; exact hu)
  rwa [← Nat.add_assoc] at this

variable {et : TypeId}
theorem ROwn.form {w : World} {base : Nat} {v : Value} {xs : List α} (h : ROwn R et w base v xs) : ∃ A c, v = .slice A xs.length c := by
  obtain ⟨_, ⟨rfl, h0⟩ | ⟨g, cap, cur, rfl, _⟩⟩ := h
  · exact ⟨none, 0, by rw [h0]⟩
  · exact ⟨_, _, rfl⟩
theorem ROwn.row {w : World} {base : Nat} {v : Value} {xs : List α} (h : ROwn R et w base v xs) : RRow R w v xs := by
  obtain ⟨_, ⟨rfl, h0⟩ | ⟨g, cap, cur, rfl, hg, hh, hle, _, hcs, ht⟩⟩ := h
  · have : xs = [] := List.length_eq_zero_iff.1 h0
    subst this
    exact RRow.nil w
  · refine ⟨_, cap, rfl, hle, fun hne => ⟨g, 0, rfl, (Array.getElem?_eq_some_iff.1 hh).1, RAt.mk fun j u hu => ?_⟩⟩
    have hj : j < xs.length * R.k := by rw [← R.flat_len]; exact (List.getElem?_eq_some_iff.1 hu).1
    have : (cur.toList.take (xs.length * R.k))[j]? = some u := by rw [ht]; exact hu
    rw [List.getElem?_take_of_lt hj, Array.getElem?_toList] at this
    simp [World.cell?, hh, this]
theorem ROwn.below {w w' : World} {base : Nat} {v : Value} {xs : List α} (h : ROwn R et w base v xs) (hb : Below w.heap.size w w') : ROwn R et w' base v xs := by
  obtain ⟨hl, ⟨rfl, h0⟩ | ⟨g, cap, cur, rfl, hg, hh, hr⟩⟩ := h
  · exact ⟨hl, .inl ⟨rfl, h0⟩⟩
  · exact ⟨hl, .inr ⟨g, cap, cur, rfl, hg, (hb.block g (Array.getElem?_eq_some_iff.1 hh).1).trans hh, hr⟩⟩
theorem ROwn.alloc {w : World} {base : Nat} {v : Value} {xs : List α} (h : ROwn R et w base v xs) (o : Obj) : ROwn R et (w.alloc o) base v xs := h.below ((Below.refl _ w).alloc (Nat.le_refl _) _)
theorem ROwn.block {w : World} {base : Nat} {v : Value} {xs : List α} (h : ROwn R et w base v xs) : ∀ k, v.ownBlock = some k → base ≤ k := fun k e => (World.ownsRow.lt h k e).1
theorem ROwn.nil (w : World) (base : Nat) : ROwn R et w base (.slice none 0 0) [] := ⟨by simp [Rec.flat], .inl ⟨rfl, rfl⟩⟩
theorem ROwn.empty (w : World) (base : Nat) (hb : base ≤ w.heap.size) : ROwn R et (w.alloc (.cells #[] et)) base (.slice (some ⟨w.heap.size, 0, none⟩) 0 0) [] :=
  ⟨by simp [Rec.flat], .inr ⟨w.heap.size, 0, #[], rfl, hb, World.alloc_heap_new w _, Nat.le_refl _, Nat.zero_le _, by simp, by simp [Rec.flat]⟩⟩
theorem cell_newR (w : World) (cs : Array Value) (t i : Nat) : (w.alloc (.cells cs t)).cell? ⟨w.heap.size, i, none⟩ = cs[i]? := by
  unfold World.cell?
  dsimp only
  rw [World.alloc_heap_new]
  rfl
theorem RRow.one (w : World) (x : α) (t : TypeId) : RRow R (w.alloc (.cells (R.cells x).toArray t)) (.slice (some ⟨w.heap.size, 0, none⟩) 1 1) [x] := by
  refine ⟨_, 1, rfl, Nat.le_refl _, fun _ => ⟨w.heap.size, 0, rfl, by simp, RAt.mk fun j u hu => ?_⟩⟩
  rw [cell_newR, Nat.zero_add]
  simpa [Rec.flat] using hu
end

/-- The slice's type and the record's, as the program has them. -/
structure RTy {α : Type} (P : Program) (R : Rec α) (st et : TypeId) (z : Value) (bytes : Nat) : Prop where
  und : P.underlying st = some (.slice et)
  info : (P.info? et).map (fun i => (i.zero, i.size, i.bytes)) = some (some z, R.k, bytes)
  zs : z.cells.size = R.k
  small : bytes ≤ 1000000

section
variable {α : Type} {R : Rec α} {P : Program} {st et : TypeId} {z : Value} {bytes : Nat}

theorem run_rapp_nil (T : RTy P R st et z bytes) {w : World} {base : Nat} {ty : TypeId} {v : Value} {xs : List α} (h : ROwn R et w base v xs) (c : Nat) : (Builtin.append_ #[st, st] ty #[v, .slice none 0 c]).run P w = .ok v w := by
  obtain ⟨i0, hi, hz0, hz1, hz2⟩ := info_parts T.info
  rcases h.2 with ⟨rfl, h0⟩ | ⟨g, cap, cur, rfl, _, _, hnc, _⟩
  · simp [Builtin.append_, run_underlying T.und, sizeOf, typeInfo, hi, Builtin.lenOf, Builtin.firstCells]
  · simp [Builtin.append_, run_underlying T.und, sizeOf, typeInfo, hi, Builtin.lenOf, Builtin.firstCells, hnc, storeCells]

/-- What an append leaves: the longer list, new or where it was. -/
def RApp (R : Rec α) (et : TypeId) (w : World) (base : Nat) (v : Value) (xs ys : List α) (v' : Value) (w' : World) : Prop :=
  ROwn R et w' base v' (xs ++ ys) ∧ w.grownBy w' v.ownBlock ∧ (v'.ownBlock = v.ownBlock ∨ v'.ownBlock = some w.heap.size)

theorem run_rapp (T : RTy P R st et z bytes) {w : World} {base : Nat} {ty : TypeId} {v : Value} {xs ys : List α} (h : ROwn R et w base v xs) {A : Option Addr} {m c : Nat} (hr : RRow R w (.slice A m c) ys) (hn : xs.length + ys.length ≤ 100000) (hb : base ≤ w.heap.size) :
    ∃ A' c' w', (Builtin.append_ #[st, st] ty #[v, .slice A m c]).run P w = .ok (.slice A' (xs ++ ys).length c') w' ∧ RApp R et w base v xs ys (.slice A' (xs ++ ys).length c') w' := by
  obtain ⟨i0, hi, hz0, hz1, hz2⟩ := info_parts T.info
  obtain ⟨A1, c1, e, hlc, hcell⟩ := hr
  injection e with e1 e2 e3
  subst e1 e2 e3
  rcases A with _ | ad
  · have hy : ys = [] := by
      apply Classical.byContradiction
      intro hne
      obtain ⟨g, o, e, _⟩ := hcell hne
      cases e
    subst hy
    obtain ⟨A', c', rfl⟩ := h.form
    refine ⟨A', c', w, ?_, ?_, World.grownBy.refl w _, .inl ?_⟩
    · rw [List.append_nil]; exact run_rapp_nil T h c
    · rw [List.append_nil]; exact h
    · rw [List.append_nil]
  · have hnews : ∀ j u, (R.flat ys)[j]? = some u → w.cell? (ad.add j) = some u := by
      by_cases hne : ys = []
      · subst hne
        intro j u hu
        simp [Rec.flat] at hu
      · obtain ⟨g, o, e, _, hat⟩ := hcell hne
        injection e with e
        subst e
        exact hat.cells
    have hs := T.small
    have hmul : (xs.length + ys.length) * bytes ≤ 100000 * 1000000 := Nat.mul_le_mul hn hs
    obtain ⟨v', w', hrun, h2, h3, _, h5⟩ := run_append_own_at (P := P) w base st ty et i0 _ R.k bytes T.und hi hz0 hz1 hz2 T.zs R.pos v xs.length (R.flat xs) h ad ys.length c (R.flat ys) (R.flat_len ys) hnews R.flat_one (by unfold maxLen; omega) (by omega) hb
    have h2' : ROwn R et w' base v' (xs ++ ys) := by unfold ROwn; rw [R.flat_app, List.length_append]; exact h2
    obtain ⟨A', c', rfl⟩ := h2'.form
    exact ⟨A', c', w', hrun, h2', h3, h5⟩

theorem wp_rapp (T : RTy P R st et z bytes) {w : World} {o : Oper} {a : Act} {K : Act → World → Prop} {Q : Exit → Act → World → Prop} (s x : Operand)
    (ho : o.op = .call { callee := .builtin .append, args := #[s, x], argTypes := #[st, st] })
    (base : Nat) {v : Value} {xs ys : List α} (hs : a.eval s = v) (h : ROwn R et w base v xs) {A : Option Addr} {m c : Nat} (hx : a.eval x = .slice A m c) (hr : RRow R w (.slice A m c) ys) (hn : xs.length + ys.length ≤ 100000) (hb : base ≤ w.heap.size)
    (hk : ∀ A' c' w', RApp R et w base v xs ys (.slice A' (xs ++ ys).length c') w' → K (a.put o.dst (.slice A' (xs ++ ys).length c')) w') : o.wp P a w K Q := by
  obtain ⟨A', c', w', hrun, h2⟩ := run_rapp T (ty := o.type) h hr hn hb
  unfold Oper.wp execOp
  simp only [ho, resolve, invoke, builtin, Sem.run_bind, Sem.run_pure, Result.andThen_ok, List.map_toArray, List.map_cons, List.map_nil, hs, hx, hrun]
  exact hk A' c' w' h2

/-- A list that grows in memory that is new since w0; all else is as it was. -/
structure RAcc (R : Rec α) (et : TypeId) (w0 wr : World) (v : Value) (xs : List α) : Prop where
  own : ROwn R et wr w0.heap.size v xs
  below : Below w0.heap.size w0 wr
theorem RAcc.start (w0 : World) : RAcc R et w0 (w0.alloc (.cells #[] et)) (.slice (some ⟨w0.heap.size, 0, none⟩) 0 0) [] := ⟨ROwn.empty _ _ (Nat.le_refl _), (Below.refl _ _).alloc (Nat.le_refl _) _⟩
theorem RAcc.nil (w0 : World) : RAcc R et w0 w0 (.slice none 0 0) [] := ⟨ROwn.nil _ _, Below.refl _ _⟩
theorem RAcc.call {w0 wr w2 : World} {v : Value} {xs : List α} (h : RAcc R et w0 wr v xs) (hb : Below wr.heap.size wr w2) : RAcc R et w0 w2 v xs := ⟨h.own.below hb, h.below.trans (hb.mono h.below.size)⟩
theorem RAcc.alloc {w0 wr : World} {v : Value} {xs : List α} (h : RAcc R et w0 wr v xs) (o : Obj) : RAcc R et w0 (wr.alloc o) v xs := h.call ((Below.refl _ _).alloc (Nat.le_refl _) _)
theorem RAcc.app {w0 wr w2 : World} {v v' : Value} {xs ys : List α} (h : RAcc R et w0 wr v xs) (ha : RApp R et wr w0.heap.size v xs ys v' w2) : RAcc R et w0 w2 v' (xs ++ ys) :=
  ⟨ha.1, h.below.grown ha.2.1 h.below.size h.own.block⟩

/-- A list that has grown by an append, from the world w on. -/
structure RGrew (R : Rec α) (et : TypeId) (w0 w : World) (v : Value) (xs ys : List α) (A : Option Addr) (c : Nat) (zs : List α) (w' : World) : Prop where
  list : zs = xs ++ ys
  acc : RAcc R et w0 w' (.slice A zs.length c) zs
  far : ∀ b, b < w.heap.size → v.ownBlock ≠ some b → w'.heap[b]? = w.heap[b]?
  lies : (Value.slice A zs.length c).ownBlock = v.ownBlock ∨ (Value.slice A zs.length c).ownBlock = some w.heap.size
  size : w.heap.size ≤ w'.heap.size
theorem RGrew.len {w0 w : World} {v : Value} {xs ys : List α} {A : Option Addr} {c : Nat} {zs : List α} {w' : World} (h : RGrew R et w0 w v xs ys A c zs w') : zs.length ≤ xs.length + ys.length := by rw [h.list, List.length_append]; exact Nat.le_refl _
theorem RGrew.of {w0 w : World} {v : Value} {xs ys : List α} {A : Option Addr} {c : Nat} {w' : World} (h : RAcc R et w0 w v xs) (h2 : RApp R et w w0.heap.size v xs ys (.slice A (xs ++ ys).length c) w') : RGrew R et w0 w v xs ys A c (xs ++ ys) w' :=
  ⟨rfl, h.app h2, fun b hb hne => h2.2.1.block b hb (Ne.symm hne), h2.2.2, h2.2.1.size⟩

theorem wpList_racc (T : RTy P R st et z bytes) {w0 w : World} {ops : Array Oper} {rest : List Oper} {o : Oper} {a : Act} {Q : Exit → Act → World → Prop} (hgd : o.guard = none) (s x : Operand)
    (ho : o.op = .call { callee := .builtin .append, args := #[s, x], argTypes := #[st, st] })
    {v : Value} {xs : List α} (h : RAcc R et w0 w v xs) (hs : a.eval s = v) {A : Option Addr} {m c : Nat} {ys : List α} (hr : RRow R w (.slice A m c) ys) (hx : a.eval x = .slice A m c) (hn : xs.length + ys.length ≤ 100000)
    (hk : ∀ A' c' zs w', RGrew R et w0 w v xs ys A' c' zs w' → wpList P ops Q rest (a.put o.dst (.slice A' zs.length c')) w') : wpList P ops Q (o :: rest) a w :=
  wpList_plain hgd fun _ hK => wp_rapp T s x ho w0.heap.size hs h.own hx hr hn h.below.size fun A' c' w' h2 => hK _ _ (hk A' c' _ w' (RGrew.of h h2))

theorem step_racc (T : RTy P R st et z bytes) {w0 w : World} {ops : Array Oper} {o : Oper} {a : Act} {K : Act → World → Prop} {Q : Exit → Act → World → Prop} {E : Prop} (hgd : o.guard = none) (s x : Operand)
    (ho : o.op = .call { callee := .builtin .append, args := #[s, x], argTypes := #[st, st] })
    {v : Value} {xs : List α} (h : RAcc R et w0 w v xs) (hs : a.eval s = v) {A : Option Addr} {m c : Nat} {ys : List α} (hr : RRow R w (.slice A m c) ys) (hx : a.eval x = .slice A m c) (hn : xs.length + ys.length ≤ 100000)
    (hk : ∀ A' c' zs w', RGrew R et w0 w v xs ys A' c' zs w' → K (a.put o.dst (.slice A' zs.length c')) w') :
    if Region.wanted o (yielded ops a.tmps) = true then Oper.wp P o a w K Q else E := by
  rw [if_pos (by simp [Region.wanted, hgd])]
  exact wp_rapp T s x ho w0.heap.size hs h.own hx hr hn h.below.size fun A' c' w' h2 => hk A' c' _ w' (RGrew.of h h2)

theorem RAcc.far {w0 w : World} {v : Value} {xs : List α} (h : RAcc R et w0 w v xs) {b : Nat} (hb : w.heap.size ≤ b) : v.ownBlock ≠ some b := fun e => by have := (World.ownsRow.lt h.own b e).2; omega
end
end Go.Proofs.YtmdlmjcejeejfaaGreatDoor
