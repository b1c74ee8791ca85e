/-
  semver.numbers: the three numbers behind the v.
-/
import Derived.Test.YtmdlmjcejeejfaaGreatDoorP3
import Derived.BigRegion
namespace Go.Proofs.YtmdlmjcejeejfaaGreatDoor
open Go.RowKit Go.Shelf
attribute [local go_sem] Oper.semAt_some

set_option maxRecDepth 100000 in
set_option maxHeartbeats 400000 in
theorem count_any (s : ByteArray) (c : UInt8) (w : World) :
    Calls Tryz.prog 167 #[.string s, .string ⟨#[c]⟩] w fun e w' => e = .returned (.int .i64 (Lib.countByte s.data.toList c)) ∧ w = w' := by
  go_enter Tryz.func167, Tryz.ntmps167
  go_wp2
  rw [run_callFunc_extern Tryz.func197 (by kernel_rfl) (by kernel_rfl) (by kernel_rfl) (e := Extern.BytealgCount.count) (by kernel_rfl), Lib.run_countString]
  simp only [Result.andThen]
  rw [Oper.upon_value]
  go_wp2
  go_ret
  exact ⟨rfl, rfl⟩

/-- A cell of the call's own, that may be written. -/
structure Cell1 (W : World) (p : Addr) (v : Value) : Prop where
  cell : W.cell? p = some v
  frozen : W.frozen? p = false
theorem Cell1.kept {A B : World} {row : Option Nat} {p : Addr} {v : Value} (h : Cell1 A p v) (hg : A.grownBy B row) (hr : ∀ r, row = some r → ∃ o : Obj, A.heap[r]? = some o ∧ o.isCells = false) : Cell1 B p v :=
  ⟨cell_kept h.cell hg hr, (frozen_kept h.cell hg hr).trans h.frozen⟩
theorem Cell1.below {A B : World} {n : Nat} {p : Addr} {v : Value} (h : Cell1 A p v) (hb : Below n A B) (hp : p.block < n) : Cell1 B p v :=
  ⟨(hb.cell hp).trans h.cell, (hb.frozen hp).trans h.frozen⟩
theorem Cell1.drew {A : World} {p : Addr} {v : Value} (h : Cell1 A p v) : Cell1 A.drew p v := ⟨h.cell, h.frozen⟩
theorem Cell1.same {A : World} {p : Addr} {v : Value} (h : Cell1 A p v) (u : Value) : Cell1 (A.setCell p u) p u :=
  ⟨World.cell?_setCell_same' _ _ _ (by rw [h.cell]; rfl), by rw [World.frozen?_setCell]; exact h.frozen⟩
theorem Cell1.other {A : World} {p q : Addr} {v : Value} (h : Cell1 A p v) (u : Value) (hn : q ≠ p) : Cell1 (A.setCell q u) p v :=
  ⟨by rw [World.cell?_setCell_other (h := hn)]; exact h.cell, by rw [World.frozen?_setCell]; exact h.frozen⟩
theorem size_setCell (W : World) (a : Addr) (v : Value) : W.heap.size ≤ (W.setCell a v).heap.size := (KeepsOthers.setCell W a v).size

theorem one_new (w : World) (t : TypeId) (v : Value) : Cell1 (w.alloc (.cells #[v] t)) ⟨w.heap.size, 0, none⟩ v := ⟨(Boxed.new w t v).cell, (Boxed.new w t v).frozen⟩
theorem three_new (w : World) (t : TypeId) : Cell1 (w.alloc (.cells #[.int .i64 0, .int .i64 0, .int .i64 0] t)) ⟨w.heap.size, 0, none⟩ (.int .i64 0) ∧ Cell1 (w.alloc (.cells #[.int .i64 0, .int .i64 0, .int .i64 0] t)) ⟨w.heap.size, 1, none⟩ (.int .i64 0) ∧ Cell1 (w.alloc (.cells #[.int .i64 0, .int .i64 0, .int .i64 0] t)) ⟨w.heap.size, 2, none⟩ (.int .i64 0) := by
  refine ⟨⟨?_, ?_⟩, ⟨?_, ?_⟩, ⟨?_, ?_⟩⟩ <;> first | (unfold World.cell?; dsimp only; rw [World.alloc_heap_new]; rfl) | (unfold World.frozen?; dsimp only; rw [World.alloc_heap_new]; rfl)
theorem Cell1.alloc {A : World} {p : Addr} {v : Value} (h : Cell1 A p v) (o : Obj) : Cell1 (A.alloc o) p v := h.kept (World.grownBy_alloc A o none) (fun r e => by cases e)

/-- The results' cells, as they were laid. -/
structure ResC (B : Nat) (W : World) : Prop where
  r0 : Cell1 W ⟨B, 0, none⟩ (.int .i64 0)
  r1 : Cell1 W ⟨B, 1, none⟩ (.int .i64 0)
  r2 : Cell1 W ⟨B, 2, none⟩ (.int .i64 0)
  rb : Cell1 W ⟨B + 1, 0, none⟩ (.bool false)
/-- The cells of numbers' own variables. -/
structure NumC (B : Nat) (W : World) (x0 x1 x2 t : Int) : Prop extends ResC B W where
  ok : Cell1 W ⟨B + 1 + 1, 0, none⟩ (.bool true)
  n0 : Cell1 W ⟨B + 1 + 1 + 1, 0, none⟩ (.int .i64 x0)
  n1 : Cell1 W ⟨B + 1 + 1 + 1, 1, none⟩ (.int .i64 x1)
  n2 : Cell1 W ⟨B + 1 + 1 + 1, 2, none⟩ (.int .i64 x2)
  pl : Cell1 W ⟨B + 1 + 1 + 1 + 1, 0, none⟩ (.int .i64 t)
  sz : B + 6 ≤ W.heap.size
theorem ResC.kept {B : Nat} {A C : World} {row : Option Nat} (h : ResC B A) (hg : A.grownBy C row) (hr : ∀ r, row = some r → ∃ o : Obj, A.heap[r]? = some o ∧ o.isCells = false) : ResC B C :=
  ⟨h.r0.kept hg hr, h.r1.kept hg hr, h.r2.kept hg hr, h.rb.kept hg hr⟩
theorem NumC.kept {B : Nat} {A C : World} {x0 x1 x2 t : Int} {row : Option Nat} (h : NumC B A x0 x1 x2 t) (hg : A.grownBy C row) (hr : ∀ r, row = some r → ∃ o : Obj, A.heap[r]? = some o ∧ o.isCells = false) : NumC B C x0 x1 x2 t :=
  ⟨h.toResC.kept hg hr, h.ok.kept hg hr, h.n0.kept hg hr, h.n1.kept hg hr, h.n2.kept hg hr, h.pl.kept hg hr, Nat.le_trans h.sz hg.size⟩
theorem NumC.below {B : Nat} {A C : World} {x0 x1 x2 t : Int} (h : NumC B A x0 x1 x2 t) (hb : Below A.heap.size A C) : NumC B C x0 x1 x2 t := h.kept (grown_of_below hb) (fun r e => by cases e)
theorem NumC.drew {B : Nat} {A : World} {x0 x1 x2 t : Int} (h : NumC B A x0 x1 x2 t) : NumC B A.drew x0 x1 x2 t :=
  ⟨⟨h.r0.drew, h.r1.drew, h.r2.drew, h.rb.drew⟩, h.ok.drew, h.n0.drew, h.n1.drew, h.n2.drew, h.pl.drew, h.sz⟩
theorem addr_ne {b c o q : Nat} (h : b ≠ c ∨ o ≠ q) : (⟨b, o, none⟩ : Addr) ≠ ⟨c, q, none⟩ := by
  intro e; injection e with h1 h2 _; omega
theorem ResC.set {B : Nat} {A : World} (h : ResC B A) {b o : Nat} (hb : B + 1 < b) (u : Value) : ResC B (A.setCell ⟨b, o, none⟩ u) :=
  ⟨h.r0.other u (addr_ne (by omega)), h.r1.other u (addr_ne (by omega)), h.r2.other u (addr_ne (by omega)), h.rb.other u (addr_ne (by omega))⟩
theorem NumC.setOk {B : Nat} {A : World} {x0 x1 x2 t : Int} (h : NumC B A x0 x1 x2 t) : NumC B (A.setCell ⟨B + 1 + 1, 0, none⟩ (.bool true)) x0 x1 x2 t :=
  ⟨h.toResC.set (by omega) _, h.ok.same _, h.n0.other _ (addr_ne (by omega)), h.n1.other _ (addr_ne (by omega)), h.n2.other _ (addr_ne (by omega)), h.pl.other _ (addr_ne (by omega)), Nat.le_trans h.sz (size_setCell _ _ _)⟩
theorem NumC.setAt {B : Nat} {A : World} {x0 x1 x2 t : Int} (h : NumC B A x0 x1 x2 t) (v : Int) : NumC B (A.setCell ⟨B + 1 + 1 + 1 + 1, 0, none⟩ (.int .i64 v)) x0 x1 x2 v :=
  ⟨h.toResC.set (by omega) _, h.ok.other _ (addr_ne (by omega)), h.n0.other _ (addr_ne (by omega)), h.n1.other _ (addr_ne (by omega)), h.n2.other _ (addr_ne (by omega)), h.pl.same _, Nat.le_trans h.sz (size_setCell _ _ _)⟩
theorem NumC.set0 {B : Nat} {A : World} {x0 x1 x2 t : Int} (h : NumC B A x0 x1 x2 t) (v : Int) : NumC B (A.setCell ⟨B + 1 + 1 + 1, 0, none⟩ (.int .i64 v)) v x1 x2 t :=
  ⟨h.toResC.set (by omega) _, h.ok.other _ (addr_ne (by omega)), h.n0.same _, h.n1.other _ (addr_ne (by omega)), h.n2.other _ (addr_ne (by omega)), h.pl.other _ (addr_ne (by omega)), Nat.le_trans h.sz (size_setCell _ _ _)⟩
theorem NumC.set1 {B : Nat} {A : World} {x0 x1 x2 t : Int} (h : NumC B A x0 x1 x2 t) (v : Int) : NumC B (A.setCell ⟨B + 1 + 1 + 1, 1, none⟩ (.int .i64 v)) x0 v x2 t :=
  ⟨h.toResC.set (by omega) _, h.ok.other _ (addr_ne (by omega)), h.n0.other _ (addr_ne (by omega)), h.n1.same _, h.n2.other _ (addr_ne (by omega)), h.pl.other _ (addr_ne (by omega)), Nat.le_trans h.sz (size_setCell _ _ _)⟩
theorem NumC.set2 {B : Nat} {A : World} {x0 x1 x2 t : Int} (h : NumC B A x0 x1 x2 t) (v : Int) : NumC B (A.setCell ⟨B + 1 + 1 + 1, 2, none⟩ (.int .i64 v)) x0 x1 v t :=
  ⟨h.toResC.set (by omega) _, h.ok.other _ (addr_ne (by omega)), h.n0.other _ (addr_ne (by omega)), h.n1.other _ (addr_ne (by omega)), h.n2.same _, h.pl.other _ (addr_ne (by omega)), Nat.le_trans h.sz (size_setCell _ _ _)⟩

theorem ResC.zero {B : Nat} {A : World} (h : ResC B A) : ResC B ((((A.setCell ⟨B, 0, none⟩ (.int .i64 0)).setCell ⟨B, 1, none⟩ (.int .i64 0)).setCell ⟨B, 2, none⟩ (.int .i64 0)).setCell ⟨B + 1, 0, none⟩ (.bool false)) :=
  ⟨(((h.r0.same _).other _ (addr_ne (by omega))).other _ (addr_ne (by omega))).other _ (addr_ne (by omega)), (((h.r1.other _ (addr_ne (by omega))).same _).other _ (addr_ne (by omega))).other _ (addr_ne (by omega)),
   (((h.r2.other _ (addr_ne (by omega))).other _ (addr_ne (by omega))).same _).other _ (addr_ne (by omega)), (((h.rb.other _ (addr_ne (by omega))).other _ (addr_ne (by omega))).other _ (addr_ne (by omega))).same _⟩
theorem ResC.full {B : Nat} {A : World} (h : ResC B A) (x0 x1 x2 : Int) : Cell1 ((((A.setCell ⟨B, 0, none⟩ (.int .i64 x0)).setCell ⟨B, 1, none⟩ (.int .i64 x1)).setCell ⟨B, 2, none⟩ (.int .i64 x2)).setCell ⟨B + 1, 0, none⟩ (.bool true)) ⟨B, 0, none⟩ (.int .i64 x0) ∧
    Cell1 ((((A.setCell ⟨B, 0, none⟩ (.int .i64 x0)).setCell ⟨B, 1, none⟩ (.int .i64 x1)).setCell ⟨B, 2, none⟩ (.int .i64 x2)).setCell ⟨B + 1, 0, none⟩ (.bool true)) ⟨B, 1, none⟩ (.int .i64 x1) ∧
    Cell1 ((((A.setCell ⟨B, 0, none⟩ (.int .i64 x0)).setCell ⟨B, 1, none⟩ (.int .i64 x1)).setCell ⟨B, 2, none⟩ (.int .i64 x2)).setCell ⟨B + 1, 0, none⟩ (.bool true)) ⟨B, 2, none⟩ (.int .i64 x2) ∧
    Cell1 ((((A.setCell ⟨B, 0, none⟩ (.int .i64 x0)).setCell ⟨B, 1, none⟩ (.int .i64 x1)).setCell ⟨B, 2, none⟩ (.int .i64 x2)).setCell ⟨B + 1, 0, none⟩ (.bool true)) ⟨B + 1, 0, none⟩ (.bool true) :=
  ⟨(((h.r0.same _).other _ (addr_ne (by omega))).other _ (addr_ne (by omega))).other _ (addr_ne (by omega)), (((h.r1.other _ (addr_ne (by omega))).same _).other _ (addr_ne (by omega))).other _ (addr_ne (by omega)),
   (((h.r2.other _ (addr_ne (by omega))).other _ (addr_ne (by omega))).same _).other _ (addr_ne (by omega)), (((h.rb.other _ (addr_ne (by omega))).other _ (addr_ne (by omega))).other _ (addr_ne (by omega))).same _⟩
def xv (pre : List Str) (k : Nat) : Int := (pre.map fun y => numI y.1.data.toList).getD k 0

set_option maxRecDepth 100000 in
set_option maxHeartbeats 4000000 in
theorem numbers_r (r : ByteArray) (hr : r.size ≤ 20400) (hC : (partsD 46 r).length = 3) (s : ByteArray) (hP : prefB s ⟨#[118]⟩ = true) (he : s.extract 1 s.size = r) (w : World) :
    Calls Tryz.prog 117 #[.string s] w fun e w' => (e = .returned (.tuple #[.agg #[.int .i64 (xv (idsS r hr) 0), .int .i64 (xv (idsS r hr) 1), .int .i64 (xv (idsS r hr) 2)], .bool true]) ∧ (∀ y ∈ idsS r hr, numOk y.1.data.toList = true) ∨ e = .returned (.tuple #[.agg #[.int .i64 0, .int .i64 0, .int .i64 0], .bool false]) ∧ ∃ y ∈ idsS r hr, numOk y.1.data.toList = false) ∧ Below w.heap.size w w' := by
  have HC := Lib.hid hC
  have hC2 : ((Lib.countByte r.data.toList 46 : Int) == 2) = true := by
    simp only [partsD, List.length_map, sp_count] at hC
    rw [beq_iff_eq, Lib.countByte]; omega
  clear hC
  refine (callsIn_wide (n := 4)).1 ?_
  refine callsIn_of_wp_marks Tryz.func117 rfl trivial ?_ rfl
  simp only [Tryz.ntmps117, List.size_toArray, List.length_cons, List.length_nil, Nat.reduceAdd, Nat.reduceSub, Array.replicate_succ, Array.replicate_zero, List.push_toArray, List.append_toArray, List.nil_append, List.cons_append]
  gi_wp2_with fail
  refine ⟨trivial, ?_⟩
  refine (callsIn_wide.2 (cutp_any _ _ _)).mono ?_
  rintro _ w1 ⟨rfl, rfl⟩
  rw [if_pos hP, hP, show s.extract (ByteArray.size ⟨#[118]⟩) s.size = r from he]
  clear he hP
  gi_wp2_with fail
  refine ⟨trivial, ?_⟩
  refine (callsIn_wide.2 (count_any _ _ _)).mono ?_
  rintro _ w1 ⟨rfl, rfl⟩
  gi_wp2_with fail
  refine ⟨trivial, ?_⟩
  refine (callsIn_wide.2 (identifiers_any _ _)).mono ?_
  rintro _ w1 ⟨rfl, rfl⟩
  gi_wp2
  have hmx : Tryz.prog.follows .mixedOrders = true := by kernel_rfl
  obtain ⟨W0, hW0⟩ : ∃ W0, W0 = ((((((w.alloc (Obj.cells #[Value.int IntKind.i64 0, Value.int IntKind.i64 0, Value.int IntKind.i64 0] 159)).alloc (Obj.cells #[Value.bool false] 4)).alloc (Obj.cells #[Value.bool true] 4)).alloc (Obj.cells #[Value.int IntKind.i64 0, Value.int IntKind.i64 0, Value.int IntKind.i64 0] 159)).alloc (Obj.cells #[Value.int IntKind.i64 0] 3)).alloc (Obj.cells #[Value.string r] 9)) := ⟨_, rfl⟩
  rw [← hW0]
  have hs0 : W0.heap.size = w.heap.size + 6 := by rw [hW0]; simp
  have h0 : NumC w.heap.size W0 0 0 0 0 := by
    rw [hW0]
    have z0 := three_new w 159
    have z1 := one_new (w.alloc (Obj.cells #[Value.int IntKind.i64 0, Value.int IntKind.i64 0, Value.int IntKind.i64 0] 159)) 4 (.bool false)
    have z2 := one_new ((w.alloc (Obj.cells #[Value.int IntKind.i64 0, Value.int IntKind.i64 0, Value.int IntKind.i64 0] 159)).alloc (Obj.cells #[Value.bool false] 4)) 4 (.bool true)
    have z3 := three_new (((w.alloc (Obj.cells #[Value.int IntKind.i64 0, Value.int IntKind.i64 0, Value.int IntKind.i64 0] 159)).alloc (Obj.cells #[Value.bool false] 4)).alloc (Obj.cells #[Value.bool true] 4)) 159
    have z4 := one_new ((((w.alloc (Obj.cells #[Value.int IntKind.i64 0, Value.int IntKind.i64 0, Value.int IntKind.i64 0] 159)).alloc (Obj.cells #[Value.bool false] 4)).alloc (Obj.cells #[Value.bool true] 4)).alloc (Obj.cells #[Value.int IntKind.i64 0, Value.int IntKind.i64 0, Value.int IntKind.i64 0] 159)) 3 (.int .i64 0)
    simp only [World.size_alloc] at z1 z2 z3 z4
    exact ⟨⟨((((z0.1.alloc _).alloc _).alloc _).alloc _).alloc _, ((((z0.2.1.alloc _).alloc _).alloc _).alloc _).alloc _, ((((z0.2.2.alloc _).alloc _).alloc _).alloc _).alloc _, (((z1.alloc _).alloc _).alloc _).alloc _⟩, ((z2.alloc _).alloc _).alloc _, (z3.1.alloc _).alloc _, (z3.2.1.alloc _).alloc _, (z3.2.2.alloc _).alloc _, z4.alloc _, by simp⟩
  have hcr : W0.cell? ⟨w.heap.size + 1 + 1 + 1 + 1 + 1, 0, none⟩ = some (.string r) := by
    rw [hW0]
    have z5 := one_new (((((w.alloc (Obj.cells #[Value.int IntKind.i64 0, Value.int IntKind.i64 0, Value.int IntKind.i64 0] 159)).alloc (Obj.cells #[Value.bool false] 4)).alloc (Obj.cells #[Value.bool true] 4)).alloc (Obj.cells #[Value.int IntKind.i64 0, Value.int IntKind.i64 0, Value.int IntKind.i64 0] 159)).alloc (Obj.cells #[Value.int IntKind.i64 0] 3)) 9 (.string r)
    simp only [World.size_alloc] at z5
    exact z5.cell
  have hB0 : Below w.heap.size w W0 := by
    rw [hW0]
    exact ((((((Below.refl _ w).alloc (Nat.le_refl _) _).alloc (by simp) _).alloc (by simp; omega) _).alloc (by simp; omega) _).alloc (by simp; omega) _).alloc (by simp; omega) _
  clear hW0
  refine wpIn_rangeFunc_ownF rfl (by omega) (gf := 172) (lb := #[.pointer (some ⟨w.heap.size + 1 + 1 + 1 + 1 + 1, 0, none⟩)]) rfl trivial (enters_of Tryz.func172 (by kernel_rfl) rfl)
    (identifiers_stops _ (by omega) (w.heap.size + 1 + 1 + 1 + 1 + 1) r hr _ (by omega) hcr) (fun _ _ => trivial) (fun _ _ _ _ _ _ _ _ => trivial) (Below.refl _ _) (fun _ => rfl)
    (fun pre W => ((∀ y ∈ pre, numOk y.1.data.toList = true) ∧ NumC w.heap.size W (xv pre 0) (xv pre 1) (xv pre 2) (pre.length : Int)) ∧ Below w.heap.size w W)
    (fun c pre W => (c = .ret ∧ (∃ y ∈ pre, numOk y.1.data.toList = false) ∧ ResC w.heap.size W) ∧ Below w.heap.size w W)
    (OwnFrom.and (Own.from (fun s A B row hs hg hr => ⟨hs.1, hs.2.kept hg hr⟩) _) (ownFrom_below (Nat.le_refl _) (by omega)))
    (fun c => OwnFrom.and (Own.from (fun s A B row hs hg hr => ⟨hs.1, hs.2.1, hs.2.2.kept hg hr⟩) _) (ownFrom_below (Nat.le_refl _) (by omega)))
    ⟨⟨by simp, h0⟩, hB0⟩
    (fun x => { tmps := #[Value.string s, undef, Value.pointer (some { block := w.heap.size, off := 0 }), Value.pointer (some { block := w.heap.size + 1, off := 0 }), Value.string r, Value.pointer (some { block := w.heap.size + 1 + 1, off := 0 }), Value.pointer (some { block := w.heap.size + 1 + 1 + 1, off := 0 }), Value.pointer (some { block := w.heap.size + 1 + 1 + 1 + 1, off := 0 }), Value.string x.1, Value.tuple #[Value.string r, Value.bool true], Value.string s, Value.tuple #[Value.string r, Value.bool true], Value.string r, Value.bool true, Value.bool true, Value.bool false, Value.bool false, Value.string r, Value.int IntKind.i64 ↑(Lib.countByte r.data.toList 46), Value.bool false, Value.bool false, undef, Value.string r, Value.func (Fn.func 172) #[] #[Value.pointer (some { block := w.heap.size + 1 + 1 + 1 + 1 + 1, off := 0 })], Value.string x.1, undef, undef, undef, undef, undef, undef, undef, undef, undef, undef, undef, undef, undef], defers := [] }) ?assign ?body ?done ?stop
  case assign =>
    intro l x W K hK
    gi_wp2
    exact hK
  case body =>
    rintro l pre x W ⟨⟨hp, hN⟩, hB⟩ hlt
    rw [HC.out] at hlt
    have HP := Lib.hid hp
    clear hp
    match pre, hlt, hN, HP with
    | [], _, hN, HP =>
      have hN : NumC w.heap.size W 0 0 0 0 := hN
      have HN := Lib.hid hN
      have q1 := hN.pl.cell
      clear hN
      gi_wp2
      gi_region_with_o (refine ⟨trivial, ?_⟩; gi_at_call 168; refine (CallsIn.inRound l (callsIn_wide.2 (number_any _ x.2 _))).mono ?_; rintro _ w' ⟨rfl, hb'⟩; have HN' := Lib.hid (HN.out.drew.below hb'); have q2 := HN'.out.pl.cell; have q3 := HN'.out.n0.cell; have q4 := HN'.out.n0.frozen; have q5 := HN'.out.ok.cell; have q6 := HN'.out.ok.frozen)
      all_goals (
        have hk' := Lib.hid ((KeepsOthers.drew W).trans (keeps_of_below hb'))
        have hB' := Lib.hid (hB.drew.trans (hb'.mono hB.size))
        cases hb : numOk x.1.data.toList
        · have HR := (HN'.out.set0 (numI x.1.data.toList)).toResC.set (b := w.heap.size + 1 + 1) (o := 0) (by omega) (.bool false)
          have hok := ((HN'.out.set0 (numI x.1.data.toList)).ok.same (.bool false)).cell
          have hWB := Lib.hid ((hB'.out.setCell (p := ⟨w.heap.size + 1 + 1 + 1, 0, none⟩) (by simp; omega) (.int .i64 (numI x.1.data.toList))).setCell (p := ⟨w.heap.size + 1 + 1, 0, none⟩) (by simp; omega) (.bool false))
          have hWK := Lib.hid ((hk'.out.trans (KeepsOthers.setCell w' ⟨w.heap.size + 1 + 1 + 1, 0, none⟩ (.int .i64 (numI x.1.data.toList)))).trans (KeepsOthers.setCell _ ⟨w.heap.size + 1 + 1, 0, none⟩ (.bool false)))
          generalize (w'.setCell ⟨w.heap.size + 1 + 1 + 1, 0, none⟩ (.int .i64 (numI x.1.data.toList))).setCell ⟨w.heap.size + 1 + 1, 0, none⟩ (.bool false) = Wx at *
          have a0 := HR.r0.cell
          have a1 := HR.r1.cell
          have a2 := HR.r2.cell
          have a3 := HR.rb.cell
          have f0 := HR.r0.frozen
          have f1 := HR.r1.frozen
          have f2 := HR.r2.frozen
          have f3 := HR.rb.frozen
          have HR' := Lib.hid HR
          clear HR q2 q3 q4 q5 q6
          gi_wp2
          exact ⟨(((hWK.out.trans (KeepsOthers.setCell _ _ _)).trans (KeepsOthers.setCell _ _ _)).trans (KeepsOthers.setCell _ _ _)).trans (KeepsOthers.setCell _ _ _), ⟨rfl, ⟨x, List.mem_append.2 (.inr (by simp)), hb⟩, HR'.out.zero⟩, (((hWB.out.setCell (p := ⟨w.heap.size, 0, none⟩) (Nat.le_refl _) _).setCell (p := ⟨w.heap.size, 1, none⟩) (Nat.le_refl _) _).setCell (p := ⟨w.heap.size, 2, none⟩) (Nat.le_refl _) _).setCell (p := ⟨w.heap.size + 1, 0, none⟩) (by simp) _⟩
        · have HR := (HN'.out.set0 (numI x.1.data.toList)).setOk
          have hWB := Lib.hid ((hB'.out.setCell (p := ⟨w.heap.size + 1 + 1 + 1, 0, none⟩) (by simp; omega) (.int .i64 (numI x.1.data.toList))).setCell (p := ⟨w.heap.size + 1 + 1, 0, none⟩) (by simp; omega) (.bool true))
          have hWK := Lib.hid ((hk'.out.trans (KeepsOthers.setCell w' ⟨w.heap.size + 1 + 1 + 1, 0, none⟩ (.int .i64 (numI x.1.data.toList)))).trans (KeepsOthers.setCell _ ⟨w.heap.size + 1 + 1, 0, none⟩ (.bool true)))
          generalize (w'.setCell ⟨w.heap.size + 1 + 1 + 1, 0, none⟩ (.int .i64 (numI x.1.data.toList))).setCell ⟨w.heap.size + 1 + 1, 0, none⟩ (.bool true) = Wx at *
          have a0 := HR.pl.cell
          have a1 := HR.ok.cell
          have f0 := HR.pl.frozen
          have HR' := Lib.hid HR
          clear HR q2 q3 q4 q5 q6
          gi_wp2
          exact ⟨hWK.out.trans (KeepsOthers.setCell _ _ _), trivial, ⟨fun y hy => (List.mem_append.1 hy).elim (HP.out y) (fun e => by simp at e; subst e; exact hb), HR'.out.setAt 1⟩, hWB.out.setCell (p := ⟨w.heap.size + 1 + 1 + 1 + 1, 0, none⟩) (by simp; omega) _⟩)
    | [a], _, hN, HP =>
      have hN : NumC w.heap.size W (numI a.1.data.toList) 0 0 1 := hN
      have HN := Lib.hid hN
      have q1 := hN.pl.cell
      clear hN
      gi_wp2
      gi_region_with_o (refine ⟨trivial, ?_⟩; gi_at_call 168; refine (CallsIn.inRound l (callsIn_wide.2 (number_any _ x.2 _))).mono ?_; rintro _ w' ⟨rfl, hb'⟩; have HN' := Lib.hid (HN.out.drew.below hb'); have q2 := HN'.out.pl.cell; have q3 := HN'.out.n1.cell; have q4 := HN'.out.n1.frozen; have q5 := HN'.out.ok.cell; have q6 := HN'.out.ok.frozen)
      all_goals (
        have hk' := Lib.hid ((KeepsOthers.drew W).trans (keeps_of_below hb'))
        have hB' := Lib.hid (hB.drew.trans (hb'.mono hB.size))
        cases hb : numOk x.1.data.toList
        · have HR := (HN'.out.set1 (numI x.1.data.toList)).toResC.set (b := w.heap.size + 1 + 1) (o := 0) (by omega) (.bool false)
          have hok := ((HN'.out.set1 (numI x.1.data.toList)).ok.same (.bool false)).cell
          have hWB := Lib.hid ((hB'.out.setCell (p := ⟨w.heap.size + 1 + 1 + 1, 1, none⟩) (by simp; omega) (.int .i64 (numI x.1.data.toList))).setCell (p := ⟨w.heap.size + 1 + 1, 0, none⟩) (by simp; omega) (.bool false))
          have hWK := Lib.hid ((hk'.out.trans (KeepsOthers.setCell w' ⟨w.heap.size + 1 + 1 + 1, 1, none⟩ (.int .i64 (numI x.1.data.toList)))).trans (KeepsOthers.setCell _ ⟨w.heap.size + 1 + 1, 0, none⟩ (.bool false)))
          generalize (w'.setCell ⟨w.heap.size + 1 + 1 + 1, 1, none⟩ (.int .i64 (numI x.1.data.toList))).setCell ⟨w.heap.size + 1 + 1, 0, none⟩ (.bool false) = Wx at *
          have a0 := HR.r0.cell
          have a1 := HR.r1.cell
          have a2 := HR.r2.cell
          have a3 := HR.rb.cell
          have f0 := HR.r0.frozen
          have f1 := HR.r1.frozen
          have f2 := HR.r2.frozen
          have f3 := HR.rb.frozen
          have HR' := Lib.hid HR
          clear HR q2 q3 q4 q5 q6
          gi_wp2
          exact ⟨(((hWK.out.trans (KeepsOthers.setCell _ _ _)).trans (KeepsOthers.setCell _ _ _)).trans (KeepsOthers.setCell _ _ _)).trans (KeepsOthers.setCell _ _ _), ⟨rfl, ⟨x, List.mem_append.2 (.inr (by simp)), hb⟩, HR'.out.zero⟩, (((hWB.out.setCell (p := ⟨w.heap.size, 0, none⟩) (Nat.le_refl _) _).setCell (p := ⟨w.heap.size, 1, none⟩) (Nat.le_refl _) _).setCell (p := ⟨w.heap.size, 2, none⟩) (Nat.le_refl _) _).setCell (p := ⟨w.heap.size + 1, 0, none⟩) (by simp) _⟩
        · have HR := (HN'.out.set1 (numI x.1.data.toList)).setOk
          have hWB := Lib.hid ((hB'.out.setCell (p := ⟨w.heap.size + 1 + 1 + 1, 1, none⟩) (by simp; omega) (.int .i64 (numI x.1.data.toList))).setCell (p := ⟨w.heap.size + 1 + 1, 0, none⟩) (by simp; omega) (.bool true))
          have hWK := Lib.hid ((hk'.out.trans (KeepsOthers.setCell w' ⟨w.heap.size + 1 + 1 + 1, 1, none⟩ (.int .i64 (numI x.1.data.toList)))).trans (KeepsOthers.setCell _ ⟨w.heap.size + 1 + 1, 0, none⟩ (.bool true)))
          generalize (w'.setCell ⟨w.heap.size + 1 + 1 + 1, 1, none⟩ (.int .i64 (numI x.1.data.toList))).setCell ⟨w.heap.size + 1 + 1, 0, none⟩ (.bool true) = Wx at *
          have a0 := HR.pl.cell
          have a1 := HR.ok.cell
          have f0 := HR.pl.frozen
          have HR' := Lib.hid HR
          clear HR q2 q3 q4 q5 q6
          gi_wp2
          exact ⟨hWK.out.trans (KeepsOthers.setCell _ _ _), trivial, ⟨fun y hy => (List.mem_append.1 hy).elim (HP.out y) (fun e => by simp at e; subst e; exact hb), HR'.out.setAt 2⟩, hWB.out.setCell (p := ⟨w.heap.size + 1 + 1 + 1 + 1, 0, none⟩) (by simp; omega) _⟩)
    | [a, b], _, hN, HP =>
      have hN : NumC w.heap.size W (numI a.1.data.toList) (numI b.1.data.toList) 0 2 := hN
      have HN := Lib.hid hN
      have q1 := hN.pl.cell
      clear hN
      gi_wp2
      gi_region_with_o (refine ⟨trivial, ?_⟩; gi_at_call 168; refine (CallsIn.inRound l (callsIn_wide.2 (number_any _ x.2 _))).mono ?_; rintro _ w' ⟨rfl, hb'⟩; have HN' := Lib.hid (HN.out.drew.below hb'); have q2 := HN'.out.pl.cell; have q3 := HN'.out.n2.cell; have q4 := HN'.out.n2.frozen; have q5 := HN'.out.ok.cell; have q6 := HN'.out.ok.frozen)
      all_goals (
        have hk' := Lib.hid ((KeepsOthers.drew W).trans (keeps_of_below hb'))
        have hB' := Lib.hid (hB.drew.trans (hb'.mono hB.size))
        cases hb : numOk x.1.data.toList
        · have HR := (HN'.out.set2 (numI x.1.data.toList)).toResC.set (b := w.heap.size + 1 + 1) (o := 0) (by omega) (.bool false)
          have hok := ((HN'.out.set2 (numI x.1.data.toList)).ok.same (.bool false)).cell
          have hWB := Lib.hid ((hB'.out.setCell (p := ⟨w.heap.size + 1 + 1 + 1, 2, none⟩) (by simp; omega) (.int .i64 (numI x.1.data.toList))).setCell (p := ⟨w.heap.size + 1 + 1, 0, none⟩) (by simp; omega) (.bool false))
          have hWK := Lib.hid ((hk'.out.trans (KeepsOthers.setCell w' ⟨w.heap.size + 1 + 1 + 1, 2, none⟩ (.int .i64 (numI x.1.data.toList)))).trans (KeepsOthers.setCell _ ⟨w.heap.size + 1 + 1, 0, none⟩ (.bool false)))
          generalize (w'.setCell ⟨w.heap.size + 1 + 1 + 1, 2, none⟩ (.int .i64 (numI x.1.data.toList))).setCell ⟨w.heap.size + 1 + 1, 0, none⟩ (.bool false) = Wx at *
          have a0 := HR.r0.cell
          have a1 := HR.r1.cell
          have a2 := HR.r2.cell
          have a3 := HR.rb.cell
          have f0 := HR.r0.frozen
          have f1 := HR.r1.frozen
          have f2 := HR.r2.frozen
          have f3 := HR.rb.frozen
          have HR' := Lib.hid HR
          clear HR q2 q3 q4 q5 q6
          gi_wp2
          exact ⟨(((hWK.out.trans (KeepsOthers.setCell _ _ _)).trans (KeepsOthers.setCell _ _ _)).trans (KeepsOthers.setCell _ _ _)).trans (KeepsOthers.setCell _ _ _), ⟨rfl, ⟨x, List.mem_append.2 (.inr (by simp)), hb⟩, HR'.out.zero⟩, (((hWB.out.setCell (p := ⟨w.heap.size, 0, none⟩) (Nat.le_refl _) _).setCell (p := ⟨w.heap.size, 1, none⟩) (Nat.le_refl _) _).setCell (p := ⟨w.heap.size, 2, none⟩) (Nat.le_refl _) _).setCell (p := ⟨w.heap.size + 1, 0, none⟩) (by simp) _⟩
        · have HR := (HN'.out.set2 (numI x.1.data.toList)).setOk
          have hWB := Lib.hid ((hB'.out.setCell (p := ⟨w.heap.size + 1 + 1 + 1, 2, none⟩) (by simp; omega) (.int .i64 (numI x.1.data.toList))).setCell (p := ⟨w.heap.size + 1 + 1, 0, none⟩) (by simp; omega) (.bool true))
          have hWK := Lib.hid ((hk'.out.trans (KeepsOthers.setCell w' ⟨w.heap.size + 1 + 1 + 1, 2, none⟩ (.int .i64 (numI x.1.data.toList)))).trans (KeepsOthers.setCell _ ⟨w.heap.size + 1 + 1, 0, none⟩ (.bool true)))
          generalize (w'.setCell ⟨w.heap.size + 1 + 1 + 1, 2, none⟩ (.int .i64 (numI x.1.data.toList))).setCell ⟨w.heap.size + 1 + 1, 0, none⟩ (.bool true) = Wx at *
          have a0 := HR.pl.cell
          have a1 := HR.ok.cell
          have f0 := HR.pl.frozen
          have HR' := Lib.hid HR
          clear HR q2 q3 q4 q5 q6
          gi_wp2
          exact ⟨hWK.out.trans (KeepsOthers.setCell _ _ _), trivial, ⟨fun y hy => (List.mem_append.1 hy).elim (HP.out y) (fun e => by simp at e; subst e; exact hb), HR'.out.setAt 3⟩, hWB.out.setCell (p := ⟨w.heap.size + 1 + 1 + 1 + 1, 0, none⟩) (by simp; omega) _⟩)
    | _ :: _ :: _ :: t, h, _, _ => simp at h; omega
  case done =>
    rintro D ys W hD rfl ⟨⟨hne, hN⟩, hB⟩ hK
    have HN := Lib.hid hne
    have a0 := hN.n0.cell
    have a1 := hN.n1.cell
    have a2 := hN.n2.cell
    have b0 := hN.r0.cell
    have b1 := hN.r1.cell
    have b2 := hN.r2.cell
    have b3 := hN.rb.cell
    have f0 := hN.r0.frozen
    have f1 := hN.r1.frozen
    have f2 := hN.r2.frozen
    have f3 := hN.rb.frozen
    have HR := Lib.hid hN
    clear hne hN
    obtain ⟨x0, hx0⟩ : ∃ x0, x0 = xv (idsS r hr) 0 := ⟨_, rfl⟩
    obtain ⟨x1, hx1⟩ : ∃ x1, x1 = xv (idsS r hr) 1 := ⟨_, rfl⟩
    obtain ⟨x2, hx2⟩ : ∃ x2, x2 = xv (idsS r hr) 2 := ⟨_, rfl⟩
    rw [← hx0] at a0 HR
    rw [← hx1] at a1 HR
    rw [← hx2] at a2 HR
    have HX := Lib.hid (And.intro hx0 (And.intro hx1 hx2))
    clear hx0 hx1 hx2
    gi_wp2
    have hK1 := (KeepsOthers.setCell W ⟨w.heap.size, 0, none⟩ (.int .i64 x0)).same D _ hK rfl
    have hK2 := (KeepsOthers.setCell _ ⟨w.heap.size, 1, none⟩ (.int .i64 x1)).same D _ hK1 rfl
    have hK3 := (KeepsOthers.setCell _ ⟨w.heap.size, 2, none⟩ (.int .i64 x2)).same D _ hK2 rfl
    have hK' := (KeepsOthers.setCell _ ⟨w.heap.size + 1, 0, none⟩ (.bool true)).same D _ hK3 rfl
    refine ⟨by simp, .inl ⟨_, _, rfl, run_takeDeferred hK', ?_⟩⟩
    obtain ⟨y0, y1, y2, y3⟩ := HR.out.toResC.full x0 x1 x2
    have hr := fun {p v} (h : Cell1 ((((W.setCell ⟨w.heap.size, 0, none⟩ (.int .i64 x0)).setCell ⟨w.heap.size, 1, none⟩ (.int .i64 x1)).setCell ⟨w.heap.size, 2, none⟩ (.int .i64 x2)).setCell ⟨w.heap.size + 1, 0, none⟩ (.bool true)) p v) => (h.kept (grownBy_putObj' _ D (.deferred none)) (fun r e => by cases e; exact ⟨_, hK', rfl⟩)).cell
    have c0 := hr y0
    have c1 := hr y1
    have c2 := hr y2
    have c3 := hr y3
    refine ⟨.tuple #[.agg #[.int .i64 x0, .int .i64 x1, .int .i64 x2], .bool true], ?_, .inl ⟨by rw [HX.out.1, HX.out.2.1, HX.out.2.2], HN.out⟩, ((((hB.setCell (p := ⟨w.heap.size, 0, none⟩) (Nat.le_refl _) _).setCell (p := ⟨w.heap.size, 1, none⟩) (Nat.le_refl _) _).setCell (p := ⟨w.heap.size, 2, none⟩) (Nat.le_refl _) _).setCell (p := ⟨w.heap.size + 1, 0, none⟩) (by simp) _).trans (belowK_b (w := w) (Nat.le_refl _) _ D _ _ (by omega) hK' rfl rfl)⟩
    simp [results, Tryz.f117, go_sem, c0, c1, c2, c3]
  case stop =>
    rintro D c pre W hD hpre ⟨⟨rfl, ⟨y, hy, hpy⟩, hR⟩, hB⟩ hK
    have HN := Lib.hid (And.intro (hpre.subset hy) hpy)
    have HR := Lib.hid hR
    clear hpy hpre hR
    gi_wp2
    refine ⟨by simp, .inl ⟨_, _, rfl, run_takeDeferred hK, ?_⟩⟩
    have hr := fun {p v} (h : Cell1 W p v) => (h.kept (grownBy_putObj' _ D (.deferred none)) (fun r e => by cases e; exact ⟨_, hK, rfl⟩)).cell
    have c0 := hr HR.out.r0
    have c1 := hr HR.out.r1
    have c2 := hr HR.out.r2
    have c3 := hr HR.out.rb
    refine ⟨.tuple #[.agg #[.int .i64 0, .int .i64 0, .int .i64 0], .bool false], ?_, .inr ⟨rfl, y, HN.out.1, HN.out.2⟩, hB.trans (belowK_b (w := w) (Nat.le_refl _) W D _ _ (by omega) hK rfl rfl)⟩
    simp [results, Tryz.f117, go_sem, c0, c1, c2, c3]
end Go.Proofs.YtmdlmjcejeejfaaGreatDoor
