/-
  A list of files that the call makes itself: read, kept, appended to.
-/
import Derived.Test.YteffoajheolpmaaF3
import Derived.Deep.AppendLies
import Derived.Maps.AppendAt
import Derived.Laws.OwnMore
namespace Go.Proofs.Yteffoajheolpmaa
open Go.RowKit Go.Shelf

def FOwn (w : World) (base : Nat) (v : Value) (xs : List FileB) : Prop := w.ownsRow base 32 2 v xs.length (cellsF xs)

theorem cellsF_len : ∀ xs : List FileB, (cellsF xs).length = xs.length * 2
  | [] => rfl
  | x :: xs => by
    have := cellsF_len xs
    unfold cellsF at this ⊢
    rw [List.flatMap_cons, List.length_append, this]
    simp; omega
theorem cellsF_cons (x : FileB) (xs : List FileB) : cellsF (x :: xs) = .string x.1 :: .string x.2 :: cellsF xs := rfl
theorem cellsF_app (xs ys : List FileB) : cellsF (xs ++ ys) = cellsF xs ++ cellsF ys := by unfold cellsF; rw [List.flatMap_append]
theorem cellsF_at : ∀ (xs : List FileB) (i : Nat) (h : i < xs.length), (cellsF xs)[i * 2]? = some (.string xs[i].1) ∧ (cellsF xs)[i * 2 + 1]? = some (.string xs[i].2)
  | x :: xs, 0, _ => ⟨rfl, rfl⟩
  | x :: xs, i + 1, h => by
    have ih := cellsF_at xs i (by simpa using h)
    rw [cellsF_cons, show (i + 1) * 2 = i * 2 + 1 + 1 by omega]
    simpa using ih
theorem cellsF_one {xs : List FileB} : ∀ u ∈ cellsF xs, u.oneCell' = true := by
  intro u hu
  unfold cellsF at hu
  obtain ⟨f, _, hu⟩ := List.mem_flatMap.1 hu
  simp at hu
  rcases hu with rfl | rfl <;> rfl
theorem add_plain' (g o j : Nat) : (⟨g, o, none⟩ : Addr).add j = ⟨g, o + j, none⟩ := by
  unfold Addr.add
  split
  · simp_all
  · rfl
theorem fat_cells {w : World} {g o : Nat} {xs : List FileB} (h : FAt w g o xs) : ∀ j u, (cellsF xs)[j]? = some u → w.cell? ((⟨g, o, none⟩ : Addr).add j) = some u := by
  intro j u hu
  have hj : j < (cellsF xs).length := (List.getElem?_eq_some_iff.1 hu).1
  rw [cellsF_len] at hj
  rw [add_plain', ← hu]
  rcases Nat.mod_two_eq_zero_or_one j with e | e
  · obtain ⟨i, rfl⟩ : ∃ i, j = i * 2 := ⟨j / 2, by omega⟩
    rw [(h i (by omega)).1, (cellsF_at xs i (by omega)).1]
  · obtain ⟨i, rfl⟩ : ∃ i, j = i * 2 + 1 := ⟨j / 2, by omega⟩
    rw [← Nat.add_assoc, (h i (by omega)).2, (cellsF_at xs i (by omega)).2]

theorem FOwn.form {w : World} {base : Nat} {v : Value} {xs : List FileB} (h : FOwn w base v xs) : ∃ A c, v = .slice A xs.length c := by
  obtain ⟨_, ⟨rfl, h0⟩ | ⟨g, cap, cur, rfl, _⟩⟩ := h
  · exact ⟨none, 0, by rw [h0]⟩
  · exact ⟨_, _, rfl⟩
theorem FOwn.row {w : World} {base : Nat} {v : Value} {xs : List FileB} (h : FOwn w base v xs) : FRow w v xs := by
  obtain ⟨_, ⟨rfl, h0⟩ | ⟨g, cap, cur, rfl, hg, hh, hle, _, hcs, ht⟩⟩ := h
  · have : xs = [] := List.length_eq_zero_iff.1 h0
    subst this
    exact FRow.nil w
  · refine ⟨_, cap, rfl, hle, fun hne => ⟨g, 0, rfl, (Array.getElem?_eq_some_iff.1 hh).1, fun i hi => ?_⟩⟩
    have key : ∀ j, j < xs.length * 2 → w.cell? ⟨g, j, none⟩ = (cellsF xs)[j]? := by
      intro j hj
      have hci : j < cur.size := by omega
      have : (cur.toList.take (xs.length * 2))[j]? = (cellsF xs)[j]? := by rw [ht]
      rw [List.getElem?_take_of_lt hj, Array.getElem?_toList] at this
      rw [← this]
      simp [World.cell?, hh]
    rw [Nat.zero_add, key _ (by omega), key _ (by omega)]
    exact cellsF_at xs i hi
theorem FOwn.below {w w' : World} {base : Nat} {v : Value} {xs : List FileB} (h : FOwn w base v xs) (hb : Below w.heap.size w w') : FOwn w' base v xs := by
  obtain ⟨hl, ⟨rfl, h0⟩ | ⟨g, cap, cur, rfl, hg, hh, hr⟩⟩ := h
  · exact ⟨hl, .inl ⟨rfl, h0⟩⟩
  · exact ⟨hl, .inr ⟨g, cap, cur, rfl, hg, (hb.block g (Array.getElem?_eq_some_iff.1 hh).1).trans hh, hr⟩⟩
theorem FOwn.alloc {w : World} {base : Nat} {v : Value} {xs : List FileB} (h : FOwn w base v xs) (o : Obj) : FOwn (w.alloc o) base v xs := h.below ((Below.refl _ w).alloc (Nat.le_refl _) _)
theorem FOwn.block {w : World} {base : Nat} {v : Value} {xs : List FileB} (h : FOwn w base v xs) : ∀ k, v.ownBlock = some k → base ≤ k := owns_block h
theorem FOwn.empty (w : World) (base : Nat) (hb : base ≤ w.heap.size) : FOwn (w.alloc (.cells #[] 32)) base (.slice (some ⟨w.heap.size, 0, none⟩) 0 0) [] :=
  ⟨rfl, .inr ⟨w.heap.size, 0, #[], rfl, hb, World.alloc_heap_new w _, Nat.le_refl _, Nat.zero_le _, rfl, rfl⟩⟩
theorem FRow.one (w : World) (p d : ByteArray) : FRow (w.alloc (.cells #[.string p, .string d] 32)) (.slice (some ⟨w.heap.size, 0, none⟩) 1 1) [(p, d)] := by
  refine ⟨_, 1, rfl, Nat.le_refl _, fun _ => ⟨w.heap.size, 0, rfl, by simp, fun i h => ?_⟩⟩
  obtain rfl : i = 0 := by simpa using h
  exact ⟨cell_new _ _ _ 0, cell_new _ _ _ 1⟩

theorem run_app_nil {w : World} {base : Nat} {ty : TypeId} {v : Value} {xs : List FileB} (h : FOwn w base v xs) (c : Nat) : (Builtin.append_ #[22, 22] ty #[v, .slice none 0 c]).run Try.prog w = .ok v w := by
  obtain ⟨i0, hi, hz0, hz1, hz2⟩ := info_parts Try.info32
  rcases h.2 with ⟨rfl, h0⟩ | ⟨g, cap, cur, rfl, _, _, hnc, _⟩
  · simp [Builtin.append_, run_underlying Try.underlying22, sizeOf, typeInfo, hi, Builtin.lenOf, Builtin.firstCells]
  · simp [Builtin.append_, run_underlying Try.underlying22, sizeOf, typeInfo, hi, Builtin.lenOf, Builtin.firstCells, hnc, storeCells]

/-- What an append leaves: the longer list, new or where it was. -/
def Appended (w : World) (base : Nat) (v : Value) (xs ys : List FileB) (v' : Value) (w' : World) : Prop :=
  FOwn w' base v' (xs ++ ys) ∧ w.grownBy w' v.ownBlock ∧ (v'.ownBlock = v.ownBlock ∨ v'.ownBlock = some w.heap.size)

theorem run_fapp {w : World} {base : Nat} {ty : TypeId} {v : Value} {xs ys : List FileB} (h : FOwn w base v xs) {A : Option Addr} {m c : Nat} (hr : FRow w (.slice A m c) ys) (hn : xs.length + ys.length ≤ 100000) (hb : base ≤ w.heap.size) :
    ∃ A' c' w', (Builtin.append_ #[22, 22] ty #[v, .slice A m c]).run Try.prog w = .ok (.slice A' (xs ++ ys).length c') w' ∧ Appended w base v xs ys (.slice A' (xs ++ ys).length c') w' := by
  obtain ⟨i0, hi, hz0, hz1, hz2⟩ := info_parts Try.info32
  obtain ⟨A1, c1, e, hlc, hcell⟩ := hr
  injection e with e1 e2 e3
  subst e1 e2 e3
  rcases A with _ | ad
  · have hy : ys = [] := by
      apply Classical.byContradiction
      intro hne
      obtain ⟨g, o, e, _⟩ := hcell hne
      cases e
    subst hy
    obtain ⟨A', c', rfl⟩ := h.form
    refine ⟨A', c', w, ?_, ?_, World.grownBy.refl w _, .inl ?_⟩
    · rw [List.append_nil]; exact run_app_nil h c
    · rw [List.append_nil]; exact h
    · rw [List.append_nil]
  · have hnews : ∀ j u, (cellsF ys)[j]? = some u → w.cell? (ad.add j) = some u := by
      by_cases hne : ys = []
      · subst hne
        intro j u hu
        simp [cellsF] at hu
      · obtain ⟨g, o, e, _, hat⟩ := hcell hne
        injection e with e
        subst e
        exact fat_cells hat
    obtain ⟨v', w', hrun, h2, h3, _, h5⟩ := run_append_own_at (P := Try.prog) w base 22 ty 32 i0 _ 2 32 Try.underlying22 hi hz0 hz1 hz2 rfl (by decide) v xs.length (cellsF xs) h ad ys.length c (cellsF ys) (cellsF_len ys) hnews cellsF_one (by unfold maxLen; omega) (by omega) hb
    have h2' : FOwn w' base v' (xs ++ ys) := by unfold FOwn; rw [cellsF_app, List.length_append]; exact h2
    obtain ⟨A', c', rfl⟩ := h2'.form
    exact ⟨A', c', w', hrun, h2', h3, h5⟩

theorem wp_fapp {w : World} {o : Oper} {a : Act} {K : Act → World → Prop} {Q : Exit → Act → World → Prop} (s x : Operand)
    (ho : o.op = .call { callee := .builtin .append, args := #[s, x], argTypes := #[22, 22] })
    (base : Nat) {v : Value} {xs ys : List FileB} (hs : a.eval s = v) (h : FOwn w base v xs) {A : Option Addr} {m c : Nat} (hx : a.eval x = .slice A m c) (hr : FRow w (.slice A m c) ys) (hn : xs.length + ys.length ≤ 100000) (hb : base ≤ w.heap.size)
    (hk : ∀ A' c' w', Appended w base v xs ys (.slice A' (xs ++ ys).length c') w' → K (a.put o.dst (.slice A' (xs ++ ys).length c')) w') : o.wp Try.prog a w K Q := by
  obtain ⟨A', c', w', hrun, h2⟩ := run_fapp (ty := o.type) h hr hn hb
  unfold Oper.wp execOp
  simp only [ho, resolve, invoke, builtin, Sem.run_bind, Sem.run_pure, Result.andThen_ok, List.map_toArray, List.map_cons, List.map_nil, hs, hx, hrun]
  exact hk A' c' w' h2

theorem wpList_fapp {w : World} {ops : Array Oper} {rest : List Oper} {o : Oper} {a : Act} {Q : Exit → Act → World → Prop} (hgd : o.guard = none) (s x : Operand)
    (ho : o.op = .call { callee := .builtin .append, args := #[s, x], argTypes := #[22, 22] })
    (base : Nat) {v : Value} {xs ys : List FileB} (hs : a.eval s = v) (h : FOwn w base v xs) {A : Option Addr} {m c : Nat} (hx : a.eval x = .slice A m c) (hr : FRow w (.slice A m c) ys) (hn : xs.length + ys.length ≤ 100000) (hb : base ≤ w.heap.size)
    (hk : ∀ A' c' w', Appended w base v xs ys (.slice A' (xs ++ ys).length c') w' → wpList Try.prog ops Q rest (a.put o.dst (.slice A' (xs ++ ys).length c')) w') : wpList Try.prog ops Q (o :: rest) a w :=
  wpList_plain hgd fun _ hK => wp_fapp s x ho base hs h hx hr hn hb fun A' c' w' h2 => hK _ _ (hk A' c' w' h2)

theorem step_fapp {w : World} {ops : Array Oper} {o : Oper} {a : Act} {K : Act → World → Prop} {Q : Exit → Act → World → Prop} {E : Prop} (hgd : o.guard = none) (s x : Operand)
    (ho : o.op = .call { callee := .builtin .append, args := #[s, x], argTypes := #[22, 22] })
    (base : Nat) {v : Value} {xs ys : List FileB} (hs : a.eval s = v) (h : FOwn w base v xs) {A : Option Addr} {m c : Nat} (hx : a.eval x = .slice A m c) (hr : FRow w (.slice A m c) ys) (hn : xs.length + ys.length ≤ 100000) (hb : base ≤ w.heap.size)
    (hk : ∀ A' c' w', Appended w base v xs ys (.slice A' (xs ++ ys).length c') w' → K (a.put o.dst (.slice A' (xs ++ ys).length c')) w') :
    if Region.wanted o (yielded ops a.tmps) = true then Oper.wp Try.prog o a w K Q else E := by
  rw [if_pos (by simp [Region.wanted, hgd])]
  exact wp_fapp s x ho base hs h hx hr hn hb hk

/-- A list that grows in memory that is new since w0; all else is as it was. -/
structure Acc (w0 wr : World) (v : Value) (xs : List FileB) : Prop where
  own : FOwn wr w0.heap.size v xs
  below : Below w0.heap.size w0 wr
theorem Acc.start (w0 : World) : Acc w0 (w0.alloc (.cells #[] 32)) (.slice (some ⟨w0.heap.size, 0, none⟩) 0 0) [] := ⟨FOwn.empty _ _ (Nat.le_refl _), (Below.refl _ _).alloc (Nat.le_refl _) _⟩
theorem Acc.nil (w0 : World) : Acc w0 w0 (.slice none 0 0) [] := ⟨World.ownsRow_nil _ _ _ _, Below.refl _ _⟩
theorem Acc.drewN {w0 wr : World} {v : Value} {xs : List FileB} (h : Acc w0 wr v xs) (n : Nat) : Acc w0 (wr.drewN n) v xs := ⟨h.own, below_drewN h.below n⟩
theorem Acc.drew {w0 wr : World} {v : Value} {xs : List FileB} (h : Acc w0 wr v xs) : Acc w0 wr.drew v xs := ⟨h.own, below_drew h.below⟩
theorem Acc.call {w0 wr w2 : World} {v : Value} {xs : List FileB} (h : Acc w0 wr v xs) (hb : Below wr.heap.size wr w2) : Acc w0 w2 v xs := ⟨h.own.below hb, h.below.trans (hb.mono h.below.size)⟩
theorem Acc.alloc {w0 wr : World} {v : Value} {xs : List FileB} (h : Acc w0 wr v xs) (o : Obj) : Acc w0 (wr.alloc o) v xs := h.call ((Below.refl _ _).alloc (Nat.le_refl _) _)
theorem Acc.app {w0 wr w2 : World} {v v' : Value} {xs ys : List FileB} (h : Acc w0 wr v xs) (ha : Appended wr w0.heap.size v xs ys v' w2) : Acc w0 w2 v' (xs ++ ys) :=
  ⟨ha.1, h.below.grown ha.2.1 h.below.size h.own.block⟩

/-- A list that has grown by an append, from the world w on. -/
structure Grew (w0 w : World) (v : Value) (xs ys : List FileB) (A : Option Addr) (c : Nat) (zs : List FileB) (w' : World) : Prop where
  list : zs = xs ++ ys
  acc : Acc w0 w' (.slice A zs.length c) zs
  far : ∀ b, b < w.heap.size → v.ownBlock ≠ some b → w'.heap[b]? = w.heap[b]?
  lies : (Value.slice A zs.length c).ownBlock = v.ownBlock ∨ (Value.slice A zs.length c).ownBlock = some w.heap.size
  size : w.heap.size ≤ w'.heap.size
theorem Grew.len {w0 w : World} {v : Value} {xs ys : List FileB} {A : Option Addr} {c : Nat} {zs : List FileB} {w' : World} (h : Grew w0 w v xs ys A c zs w') : zs.length ≤ xs.length + ys.length := by rw [h.list, List.length_append]; exact Nat.le_refl _
theorem Grew.of {w0 w : World} {v : Value} {xs ys : List FileB} {A : Option Addr} {c : Nat} {w' : World} (h : Acc w0 w v xs) (h2 : Appended w w0.heap.size v xs ys (.slice A (xs ++ ys).length c) w') : Grew w0 w v xs ys A c (xs ++ ys) w' :=
  ⟨rfl, h.app h2, fun b hb hne => h2.2.1.block b hb (Ne.symm hne), h2.2.2, h2.2.1.size⟩

theorem wpList_facc {w0 w : World} {ops : Array Oper} {rest : List Oper} {o : Oper} {a : Act} {Q : Exit → Act → World → Prop} (hgd : o.guard = none) (s x : Operand)
    (ho : o.op = .call { callee := .builtin .append, args := #[s, x], argTypes := #[22, 22] })
    {v : Value} {xs : List FileB} (h : Acc w0 w v xs) (hs : a.eval s = v) {A : Option Addr} {m c : Nat} {ys : List FileB} (hr : FRow w (.slice A m c) ys) (hx : a.eval x = .slice A m c) (hn : xs.length + ys.length ≤ 100000)
    (hk : ∀ A' c' zs w', Grew w0 w v xs ys A' c' zs w' → wpList Try.prog ops Q rest (a.put o.dst (.slice A' zs.length c')) w') : wpList Try.prog ops Q (o :: rest) a w :=
  wpList_fapp hgd s x ho w0.heap.size hs h.own hx hr hn h.below.size fun A' c' w' h2 => hk A' c' _ w' (Grew.of h h2)

theorem step_facc {w0 w : World} {ops : Array Oper} {o : Oper} {a : Act} {K : Act → World → Prop} {Q : Exit → Act → World → Prop} {E : Prop} (hgd : o.guard = none) (s x : Operand)
    (ho : o.op = .call { callee := .builtin .append, args := #[s, x], argTypes := #[22, 22] })
    {v : Value} {xs : List FileB} (h : Acc w0 w v xs) (hs : a.eval s = v) {A : Option Addr} {m c : Nat} {ys : List FileB} (hr : FRow w (.slice A m c) ys) (hx : a.eval x = .slice A m c) (hn : xs.length + ys.length ≤ 100000)
    (hk : ∀ A' c' zs w', Grew w0 w v xs ys A' c' zs w' → K (a.put o.dst (.slice A' zs.length c')) w') :
    if Region.wanted o (yielded ops a.tmps) = true then Oper.wp Try.prog o a w K Q else E :=
  step_fapp hgd s x ho w0.heap.size hs h.own hx hr hn h.below.size fun A' c' w' h2 => hk A' c' _ w' (Grew.of h h2)

theorem Acc.far {w0 w : World} {v : Value} {xs : List FileB} (h : Acc w0 w v xs) {b : Nat} (hb : w.heap.size ≤ b) : v.ownBlock ≠ some b := fun e => by have := (World.ownsRow.lt h.own b e).2; omega
theorem kept_cell {w w' : World} {b i : Nat} {u : Value} (h : w'.heap[b]? = w.heap[b]?) (hc : w.cell? ⟨b, i, none⟩ = some u) : w'.cell? ⟨b, i, none⟩ = some u := (World.cell?_of_block (a := ⟨b, i, none⟩) h).trans hc
end Go.Proofs.Yteffoajheolpmaa
