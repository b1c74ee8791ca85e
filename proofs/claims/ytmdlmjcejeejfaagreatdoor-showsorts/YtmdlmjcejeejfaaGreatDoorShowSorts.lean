/-
  ShowSorts holds of whatever a file says: it is sorted as the document says; what is sorted stays. No condition.
-/
import Derived.Test.YtmdlmjcejeejfaaGreatDoorH1
import Derived.Test.YtmdlmjcejeejfaaGreatDoorYA
import Derived.Test.YtmdlmjcejeejfaaGreatDoorYB
import Derived.Test.YtmdlmjcejeejfaaGreatDoorRows
import Derived.Test.YtmdlmjcejeejfaaGreatDoorCards
import Derived.Test.YtmdlmjcejeejfaaGreatDoorTie
import Derived.Test.YtmdlmjcejeejfaaGreatDoorL1
import Derived.SevenTiedAt

/-
  The comparisons of a file's lists.
-/
set_option linter.unusedVariables false
namespace Go.Proofs.YtmdlmjcejeejfaaGreatDoor
open Go.RowKit Go.Shelf

theorem compareN_cmp : Cmp compareN where
  range a b := cmpE_range _ _
  neg a b := cmpE_neg _ _
  trans a b c := by
    intro h1 h2
    refine ⟨cmpE_trans _ _ _ h1 h2, fun e => ?_⟩
    have := compareN_eq e
    subst this
    have h3 : compareN b a = - compareN a b := cmpE_neg _ _
    omega
def verCmp (a b : ByteArray) : Int := orI (scmp a.data.toList b.data.toList) (tcmp a.data.toList b.data.toList)
theorem verCmp_cmp : Cmp verCmp := (Cmp.or scmp_cmp tcmp_cmp).on (fun a : ByteArray => a.data.toList)
def modCmp (a b : ModB) : Int := orI (compareN a.1 b.1) (verCmp a.2 b.2)
theorem modCmp_cmp : Cmp modCmp := Cmp.or (compareN_cmp.on (fun a : ModB => a.1)) (verCmp_cmp.on (fun a : ModB => a.2))
def reqC (a b : ReqB) : Int := compareN a.1.1 b.1.1
def repC (a b : RepB) : Int := modCmp a.1 b.1
def retC0 (a b : RetB) : Int := orI (scmp a.2.1.data.toList b.2.1.data.toList) (scmp a.1.data.toList b.1.data.toList)
def retC (a b : RetB) : Int := retC0 b a
theorem Cmp.flip {α : Type} {f : α → α → Int} (h : Cmp f) : Cmp (fun a b => f b a) where
  range a b := h.range _ _
  neg a b := h.neg _ _
  trans a b c := by
    intro h1 h2
    obtain ⟨k1, k2⟩ := h.trans c b a h2 h1
    exact ⟨k1, fun e => ⟨(k2 e).2, (k2 e).1⟩⟩
def reqO' : Ordr ReqB := ⟨reqC, compareN_cmp.on (fun a : ReqB => a.1.1)⟩
def repO' : Ordr RepB := ⟨repC, modCmp_cmp.on (fun a : RepB => a.1)⟩
def excO' : Ordr ModB := ⟨modCmp, modCmp_cmp⟩
def retO' : Ordr RetB := ⟨retC, (Cmp.or (scmp_cmp.on (fun a : RetB => a.2.1.data.toList)) (scmp_cmp.on (fun a : RetB => a.1.data.toList))).flip⟩
def okQ (x : ReqB) : Prop := x.1.1.size ≤ 20400
def okM (x : ModB) : Prop := x.1.size ≤ 20400 ∧ x.2.size ≤ 20400
def okP (x : RepB) : Prop := okM x.1
def okT (x : RetB) : Prop := x.1.size ≤ 20400 ∧ x.2.1.size ≤ 20400

theorem GBlkJ (w : World) (t : TypeId) (cs : Array Value) (i : Nat) : (w.alloc (.cells cs t)).cell? ⟨w.heap.size, i, none⟩ = cs[i]? := cell_newR w cs t i

set_option maxRecDepth 100000 in
set_option maxHeartbeats 1000000 in
theorem reqCmp_any : CmpOKQ reqO' okQ := by
  intro x1 x2 x3 z1 z2 z3 w hx hz
  dsimp only [okQ] at hx hz
  have HE := Lib.hid (show compareN x1 z1 = reqO'.c ((x1, x2), x3) ((z1, z2), z3) from rfl)
  have hb0 := ((Below.refl w.heap.size w).alloc (Nat.le_refl _) (.cells #[.string x1, .string x2, .bool x3] 50)).alloc (by simp) (.cells #[.string z1, .string z2, .bool z3] 50)
  have HB0 := Lib.hid hb0
  go_enter Tryz.func22, Tryz.ntmps22
  go_wp2_with (go_at_call 23; refine (compare_any _ _ hx hz _).mono ?_; rintro e w1 ⟨rfl, hb1⟩)
  go_ret
  exact ⟨ret_int HE.out, HB0.out.trans (hb1.mono HB0.out.size)⟩

set_option maxRecDepth 100000 in
set_option maxHeartbeats 2000000 in
theorem excCmp_any : CmpOKX excO' okM := by
  intro p v q u w hx hz
  obtain ⟨hp, hv⟩ := hx
  obtain ⟨hq, hu⟩ := hz
  dsimp only at hp hv hq hu
  have HE := Lib.hid (show orL [compareN p q, scmp v.data.toList u.data.toList, tcmp v.data.toList u.data.toList] = excO'.c (p, v) (q, u) by simp only [orL, orI_nought]; rfl)
  have hb0 := ((Below.refl w.heap.size w).alloc (Nat.le_refl _) (.cells #[.string p, .string v] 41)).alloc (by simp) (.cells #[.string q, .string u] 41)
  have g1 := (GBlk.new w 41 #[.string p, .string v]).alloc (.cells #[.string q, .string u] 41)
  have g2 := GBlk.new (w.alloc (.cells #[.string p, .string v] 41)) 41 #[.string q, .string u]
  have hs : (w.alloc (.cells #[.string p, .string v] 41)).heap.size = w.heap.size + 1 := by simp
  rw [hs] at g2
  go_enter Tryz.func26, Tryz.ntmps26
  go_wp2
  generalize (w.alloc (.cells #[.string p, .string v] 41)).alloc (.cells #[.string q, .string u] 41) = W at *
  have HB0 := Lib.hid hb0
  have L0 := Lib.hid (show ∀ w', Below W.heap.size W w' → w'.cell? ⟨w.heap.size, 0, none⟩ = some (.string p) ∧ w'.cell? ⟨w.heap.size, 1, none⟩ = some (.string v) ∧ w'.cell? ⟨w.heap.size + 1, 0, none⟩ = some (.string q) ∧ w'.cell? ⟨w.heap.size + 1, 1, none⟩ = some (.string u) from fun w' h => ⟨(g1.below h).cell 0, (g1.below h).cell 1, (g2.below h).cell 0, (g2.below h).cell 1⟩)
  have K0 := Lib.hid (L0.out W.drew (below_drewN (Below.refl _ _) 1))
  clear g1 g2 hb0 hs
  go_region_held3 (fun w' => w'.cell? ⟨w.heap.size, 0, none⟩ = some (.string p) ∧ w'.cell? ⟨w.heap.size, 1, none⟩ = some (.string v) ∧ w'.cell? ⟨w.heap.size + 1, 0, none⟩ = some (.string q) ∧ w'.cell? ⟨w.heap.size + 1, 1, none⟩ = some (.string u))
    (first | with_reducible exact K6.out | with_reducible exact K5.out | with_reducible exact K4.out | with_reducible exact K0.out | go_keep)
    (first
      | (go_at_call 23; refine (compare_any _ _ hp hq _).mono ?_; rintro e w4 ⟨rfl, hb4'⟩; have b4 := below_drewN' (n := 1) hb4'; have K4 := Lib.hid (L0.out _ b4))
      | (go_at_call 31; refine (compare_any' _ _ hv hu _).mono ?_; rintro e w5 ⟨rfl, hb5'⟩; have b5 := b4.trans (hb5'.mono b4.size); have K5 := Lib.hid (L0.out _ b5))
      | (go_at_call 68; refine (scmpt_any _ _ _).mono ?_; rintro e w6 ⟨rfl, rfl⟩)
      | (go_at_call 30; refine (cor_any _ _ [compareN p q, scmp v.data.toList u.data.toList, tcmp v.data.toList u.data.toList] (by simp) _ (ints_cells _ _ _ _ (by rfl))).mono ?_; rintro e w' ⟨rfl, rfl⟩))
  have hB5 := HB0.out.trans (b5.mono HB0.out.size)
  go_wp2
  go_ret
  exact ⟨ret_int HE.out, hB5.alloc hB5.size _⟩

set_option maxRecDepth 100000 in
set_option maxHeartbeats 1000000 in
theorem repCmp_any : CmpOKP repO' okP := by
  intro x1 x2 x3 x4 z1 z2 z3 z4 w hx hz
  have HE := Lib.hid (show excO'.c (x1, x2) (z1, z2) = repO'.c ((x1, x2), (x3, x4)) ((z1, z2), (z3, z4)) from rfl)
  have hb0 := ((Below.refl w.heap.size w).alloc (Nat.le_refl _) (.cells #[.string x1, .string x2, .string x3, .string x4] 56)).alloc (by simp) (.cells #[.string z1, .string z2, .string z3, .string z4] 56)
  have HB0 := Lib.hid hb0
  have HX := Lib.hid (fun w => excCmp_any x1 x2 z1 z2 w hx hz)
  clear hx hz
  go_enter Tryz.func25, Tryz.ntmps25
  go_wp2_with (go_at_call 26; refine (HX.out _).mono ?_; rintro e w1 ⟨rfl, hb1⟩)
  go_ret
  exact ⟨ret_int HE.out, HB0.out.trans (hb1.mono HB0.out.size)⟩

set_option maxRecDepth 100000 in
set_option maxHeartbeats 2000000 in
theorem retCmp_any : CmpOKT retO' okT := by
  intro p v y q u z w hx hz
  obtain ⟨hp, hv⟩ := hx
  obtain ⟨hq, hu⟩ := hz
  dsimp only at hp hv hq hu
  have HE := Lib.hid (show orL [scmp u.data.toList v.data.toList, scmp q.data.toList p.data.toList] = retO'.c (p, v, y) (q, u, z) by rw [orL_two]; rfl)
  have hb0 := ((Below.refl w.heap.size w).alloc (Nat.le_refl _) (.cells #[.string p, .string v, .string y] 58)).alloc (by simp) (.cells #[.string q, .string u, .string z] 58)
  have g1 := (GBlk.new w 58 #[.string p, .string v, .string y]).alloc (.cells #[.string q, .string u, .string z] 58)
  have g2 := GBlk.new (w.alloc (.cells #[.string p, .string v, .string y] 58)) 58 #[.string q, .string u, .string z]
  have hs : (w.alloc (.cells #[.string p, .string v, .string y] 58)).heap.size = w.heap.size + 1 := by simp
  rw [hs] at g2
  go_enter Tryz.func29, Tryz.ntmps29
  go_wp2
  generalize (w.alloc (.cells #[.string p, .string v, .string y] 58)).alloc (.cells #[.string q, .string u, .string z] 58) = W at *
  have HB0 := Lib.hid hb0
  have L0 := Lib.hid (show ∀ w', Below W.heap.size W w' → w'.cell? ⟨w.heap.size, 0, none⟩ = some (.string p) ∧ w'.cell? ⟨w.heap.size, 1, none⟩ = some (.string v) ∧ w'.cell? ⟨w.heap.size + 1, 0, none⟩ = some (.string q) ∧ w'.cell? ⟨w.heap.size + 1, 1, none⟩ = some (.string u) from fun w' h => ⟨(g1.below h).cell 0, (g1.below h).cell 1, (g2.below h).cell 0, (g2.below h).cell 1⟩)
  have K0 := Lib.hid (L0.out W.drew (below_drewN (Below.refl _ _) 1))
  have R1 := fun w => compare_any' u v hu hv w
  have R2 := fun w => compare_any' q p hq hp w
  clear g1 g2 hb0 hs
  go_region_held3 (fun w' => w'.cell? ⟨w.heap.size, 0, none⟩ = some (.string p) ∧ w'.cell? ⟨w.heap.size, 1, none⟩ = some (.string v) ∧ w'.cell? ⟨w.heap.size + 1, 0, none⟩ = some (.string q) ∧ w'.cell? ⟨w.heap.size + 1, 1, none⟩ = some (.string u))
    (first | with_reducible exact K5.out | with_reducible exact K4.out | with_reducible exact K0.out | go_keep)
    (first
      | (go_at_call 31; have hz := b4; refine (R2 _).mono ?_; rintro e w5 ⟨rfl, hb5'⟩; have b5 := b4.trans (hb5'.mono b4.size); have K5 := Lib.hid (L0.out _ b5); clear hz)
      | (go_at_call 31; refine (R1 _).mono ?_; rintro e w4 ⟨rfl, hb4'⟩; have b4 := below_drewN' (n := 1) hb4'; have K4 := Lib.hid (L0.out _ b4))
      | (go_at_call 30; refine (cor_any _ _ [scmp u.data.toList v.data.toList, scmp q.data.toList p.data.toList] (by simp) _ (ints_cells _ _ _ _ (by rfl))).mono ?_; rintro e w' ⟨rfl, rfl⟩))
  have hB5 := HB0.out.trans (b5.mono HB0.out.size)
  go_wp2
  go_ret
  exact ⟨ret_int HE.out, hB5.alloc hB5.size _⟩
end Go.Proofs.YtmdlmjcejeejfaaGreatDoor

/-
  show.Sort: a file with its lists in order.
-/
set_option linter.unusedVariables false
namespace Go.Proofs.YtmdlmjcejeejfaaGreatDoor
open Go.RowKit Go.Shelf

/-- A file with its lists sorted. -/
def sortG (f : FileG) : FileG := ⟨f.mo, f.go, sortC reqC f.reqs, sortC repC f.reps, sortC modCmp f.excs, sortC retC f.rets⟩
def Tidy (f : FileG) : Prop := Each okQ f.reqs ∧ Each okP f.reps ∧ Each okM f.excs ∧ Each okT f.rets

section
variable {α β : Type} {R : Rec α} {Q : Rec β} {et et' : TypeId} {w0 w w' : World} {V u : Value} {xs : List α} {ys : List β}
theorem ROwn.sameJ {base : Nat} (h : ROwn R et w base V xs) (hb : ∀ k, k < w.heap.size → V.ownBlock = some k → w'.heap[k]? = w.heap[k]?) : ROwn R et w' base V xs := by
  obtain ⟨hl, ⟨rfl, h0⟩ | ⟨g, cap, cur, rfl, hg, hh, hr⟩⟩ := h
  · exact ⟨hl, .inl ⟨rfl, h0⟩⟩
  · exact ⟨hl, .inr ⟨g, cap, cur, rfl, hg, (hb g (Array.getElem?_eq_some_iff.1 hh).1 rfl).trans hh, hr⟩⟩
theorem ROwn.apartJ {b b' : Nat} (h : ROwn R et w b V xs) (k : ROwn Q et' w b' u ys) (hne : et ≠ et') : V.ownBlock = none ∨ V.ownBlock ≠ u.ownBlock := by
  obtain ⟨_, ⟨rfl, _⟩ | ⟨g, cap, cur, rfl, _, hh, _⟩⟩ := h
  · exact .inl rfl
  · refine .inr fun e => ?_
    obtain ⟨_, ⟨rfl, _⟩ | ⟨g', cap', cur', rfl, _, hh', _⟩⟩ := k
    · cases e
    · simp only [Value.ownBlock, Option.some.injEq] at e
      subst e
      rw [hh] at hh'
      simp only [Option.some.injEq, Obj.cells.injEq] at hh'
      exact hne hh'.2.1
theorem ROwn.lowerJ {base base' : Nat} (h : ROwn R et w base V xs) (hb : base' ≤ base) : ROwn R et w base' V xs := by
  obtain ⟨hl, h0 | ⟨g, cap, cur, rfl, hg, hh⟩⟩ := h
  · exact ⟨hl, .inl h0⟩
  · exact ⟨hl, .inr ⟨g, cap, cur, rfl, Nat.le_trans hb hg, hh⟩⟩
/-- Another list is written: this one stays. -/
theorem RAcc.beside (h : RAcc Q et' w0 w u ys) (k : RAcc R et w0 w V xs) (hne : et ≠ et') (hg : w.grownBy w' V.ownBlock) : RAcc Q et' w0 w' u ys := by
  refine ⟨h.own.sameJ fun b hb e => hg.block b hb fun e2 => ?_, h.below.grown hg h.below.size fun b e => k.own.block b e⟩
  rcases k.own.apartJ h.own hne with h1 | h1
  · rw [h1] at e2; cases e2
  · exact h1 (by rw [e, e2])
theorem GBlk.beside {B : Nat} {t : TypeId} {cs : Array Value} (h : GBlk w B t cs) (k : RAcc R et w0 w V xs) (hne : et ≠ t) (hg : w.grownBy w' V.ownBlock) : GBlk w' B t cs := by
  refine (hg.block B h.lt fun e => ?_).trans h
  obtain ⟨_, ⟨rfl, _⟩ | ⟨g, cap, cur, rfl, _, hh, _⟩⟩ := k.own
  · cases e
  · simp only [Value.ownBlock, Option.some.injEq] at e
    subst e
    unfold GBlk at h
    rw [hh] at h
    simp only [Option.some.injEq, Obj.cells.injEq] at h
    exact hne h.2.1
theorem below_beside {B0 : World} (h : Below B0.heap.size B0 w) (k : RAcc R et w0 w V xs) (hz : B0.heap.size ≤ w0.heap.size) (hg : w.grownBy w' V.ownBlock) : Below B0.heap.size B0 w' :=
  h.grown hg h.size fun b e => Nat.le_trans hz (k.own.block b e)
end

/-- What the sort of a list of its own leaves. -/
def SortedJ {α : Type} (R : Rec α) (et : TypeId) (c : α → α → Int) (V : Value) (xs : List α) (w0 w : World) (e : Ending) (w' : World) : Prop := e = .returned (.tuple #[]) ∧ RAcc R et w0 w' V (sortC c xs) ∧ w.grownBy w' V.ownBlock
theorem sortQ_any (V : Value) (xs : List ReqB) (w0 w : World) (h : RAcc reqR 50 w0 w V xs) (hE : Each okQ xs) (hl : xs.length ≤ 1000) : Calls Tryz.prog 21 #[V, cmpVQ] w (SortedJ reqR 50 reqC V xs w0 w) := by
  have h0 := h
  obtain ⟨ho, hb⟩ := h
  rcases ho with ⟨hf, ⟨rfl, hz⟩ | ⟨g, cap, cur, rfl, hg, hh, hr⟩⟩
  · have hn := List.length_eq_zero_iff.1 hz
    subst hn
    refine (stableF_noneQ 0 w).mono ?_
    rintro e w' ⟨rfl, rfl⟩
    exact ⟨rfl, h0, World.grownBy.refl _ _⟩
  · have hW : Work reqR 50 w g cap xs.length w xs := ⟨rfl, h0.own.lowerJ (Nat.zero_le _), World.grownBy.refl _ _⟩
    refine (stableF_anyQ reqO' okQ reqCmp_any w g cap xs.length w xs hW hE hl).mono ?_
    rintro e w' ⟨rfl, ys, r1, r2, hw⟩
    have hys := sort_is r1 r2
    have hln := hw.len
    refine ⟨rfl, ⟨?_, hb.grown hw.far hb.size (fun k e => by cases e; exact hg)⟩, hw.far⟩
    obtain ⟨cur', b1, b2, b3, b4, b5, b6⟩ := hw.block
    have hys' : ys = sortC reqC xs := hys
    rw [← hys']
    refine ⟨by rw [Rec.flat_len], .inr ⟨g, cap, cur', by rw [hln], hg, b1, by rw [hln]; exact b3, b4, b5, by rw [hln]; exact b6⟩⟩
theorem sortP_any (V : Value) (xs : List RepB) (w0 w : World) (h : RAcc repR 56 w0 w V xs) (hE : Each okP xs) (hl : xs.length ≤ 1000) : Calls Tryz.prog 24 #[V, cmpVP] w (SortedJ repR 56 repC V xs w0 w) := by
  have h0 := h
  obtain ⟨ho, hb⟩ := h
  rcases ho with ⟨hf, ⟨rfl, hz⟩ | ⟨g, cap, cur, rfl, hg, hh, hr⟩⟩
  · have hn := List.length_eq_zero_iff.1 hz
    subst hn
    refine (stableF_noneP 0 w).mono ?_
    rintro e w' ⟨rfl, rfl⟩
    exact ⟨rfl, h0, World.grownBy.refl _ _⟩
  · have hW : Work repR 56 w g cap xs.length w xs := ⟨rfl, h0.own.lowerJ (Nat.zero_le _), World.grownBy.refl _ _⟩
    refine (stableF_anyP repO' okP repCmp_any w g cap xs.length w xs hW hE hl).mono ?_
    rintro e w' ⟨rfl, ys, r1, r2, hw⟩
    have hys := sort_is r1 r2
    have hln := hw.len
    refine ⟨rfl, ⟨?_, hb.grown hw.far hb.size (fun k e => by cases e; exact hg)⟩, hw.far⟩
    obtain ⟨cur', b1, b2, b3, b4, b5, b6⟩ := hw.block
    have hys' : ys = sortC repC xs := hys
    rw [← hys']
    refine ⟨by rw [Rec.flat_len], .inr ⟨g, cap, cur', by rw [hln], hg, b1, by rw [hln]; exact b3, b4, b5, by rw [hln]; exact b6⟩⟩
theorem sortX_any (V : Value) (xs : List ModB) (w0 w : World) (h : RAcc modR 41 w0 w V xs) (hE : Each okM xs) (hl : xs.length ≤ 1000) : Calls Tryz.prog 27 #[V, cmpVX] w (SortedJ modR 41 modCmp V xs w0 w) := by
  have h0 := h
  obtain ⟨ho, hb⟩ := h
  rcases ho with ⟨hf, ⟨rfl, hz⟩ | ⟨g, cap, cur, rfl, hg, hh, hr⟩⟩
  · have hn := List.length_eq_zero_iff.1 hz
    subst hn
    refine (stableF_noneX 0 w).mono ?_
    rintro e w' ⟨rfl, rfl⟩
    exact ⟨rfl, h0, World.grownBy.refl _ _⟩
  · have hW : Work modR 41 w g cap xs.length w xs := ⟨rfl, h0.own.lowerJ (Nat.zero_le _), World.grownBy.refl _ _⟩
    refine (stableF_anyX excO' okM excCmp_any w g cap xs.length w xs hW hE hl).mono ?_
    rintro e w' ⟨rfl, ys, r1, r2, hw⟩
    have hys := sort_is r1 r2
    have hln := hw.len
    refine ⟨rfl, ⟨?_, hb.grown hw.far hb.size (fun k e => by cases e; exact hg)⟩, hw.far⟩
    obtain ⟨cur', b1, b2, b3, b4, b5, b6⟩ := hw.block
    have hys' : ys = sortC modCmp xs := hys
    rw [← hys']
    refine ⟨by rw [Rec.flat_len], .inr ⟨g, cap, cur', by rw [hln], hg, b1, by rw [hln]; exact b3, b4, b5, by rw [hln]; exact b6⟩⟩
theorem sortT_any (V : Value) (xs : List RetB) (w0 w : World) (h : RAcc retR 58 w0 w V xs) (hE : Each okT xs) (hl : xs.length ≤ 1000) : Calls Tryz.prog 28 #[V, cmpVT] w (SortedJ retR 58 retC V xs w0 w) := by
  have h0 := h
  obtain ⟨ho, hb⟩ := h
  rcases ho with ⟨hf, ⟨rfl, hz⟩ | ⟨g, cap, cur, rfl, hg, hh, hr⟩⟩
  · have hn := List.length_eq_zero_iff.1 hz
    subst hn
    refine (stableF_noneT 0 w).mono ?_
    rintro e w' ⟨rfl, rfl⟩
    exact ⟨rfl, h0, World.grownBy.refl _ _⟩
  · have hW : Work retR 58 w g cap xs.length w xs := ⟨rfl, h0.own.lowerJ (Nat.zero_le _), World.grownBy.refl _ _⟩
    refine (stableF_anyT retO' okT retCmp_any w g cap xs.length w xs hW hE hl).mono ?_
    rintro e w' ⟨rfl, ys, r1, r2, hw⟩
    have hys := sort_is r1 r2
    have hln := hw.len
    refine ⟨rfl, ⟨?_, hb.grown hw.far hb.size (fun k e => by cases e; exact hg)⟩, hw.far⟩
    obtain ⟨cur', b1, b2, b3, b4, b5, b6⟩ := hw.block
    have hys' : ys = sortC retC xs := hys
    rw [← hys']
    refine ⟨by rw [Rec.flat_len], .inr ⟨g, cap, cur', by rw [hln], hg, b1, by rw [hln]; exact b3, b4, b5, by rw [hln]; exact b6⟩⟩

set_option maxRecDepth 100000 in
set_option maxHeartbeats 4000000 in
theorem ssort_any (f : FileG) (n1 : f.reqs.length ≤ 1000) (n2 : f.reps.length ≤ 1000) (n3 : f.excs.length ≤ 1000) (n4 : f.rets.length ≤ 1000) (hT : Tidy f) (a b c d : Value) (w : World) (hF : FileAt w a b c d f) :
    Calls Tryz.prog 10 #[.agg #[.string f.mo, .string f.go, a, b, c, d]] w (CopyOut (sortG f) w) := by
  obtain ⟨mo, go, reqs, reps, excs, rets⟩ := f
  dsimp only at n1 n2 n3 n4 ⊢
  have HC := Lib.hid (fun w' (h : FileAt w' a b c d ⟨mo, go, reqs, reps, excs, rets⟩) => copied_file ⟨mo, go, reqs, reps, excs, rets⟩ n1 n2 n3 n4 a b c d w' h)
  dsimp only at HC
  have HF := Lib.hid hF
  obtain ⟨hr, hp, hx, ht⟩ := hF
  obtain ⟨A1, C1, rfl⟩ := hr.form
  obtain ⟨A2, C2, rfl⟩ := hp.form
  obtain ⟨A3, C3, rfl⟩ := hx.form
  obtain ⟨A4, C4, rfl⟩ := ht.form
  clear hr hp hx ht
  obtain ⟨t1, t2, t3, t4⟩ := hT
  dsimp only at t1 t2 t3 t4
  have hA := (GBlk.new w 27 #[.string mo, .string go, .slice A1 reqs.length C1, .slice A2 reps.length C2, .slice A3 excs.length C3, .slice A4 rets.length C4]).alloc (.cells #[.string ⟨#[]⟩, .string ⟨#[]⟩, .slice none 0 0, .slice none 0 0, .slice none 0 0, .slice none 0 0] 27)
  have hZ := GBlk.new (w.alloc (.cells #[.string mo, .string go, .slice A1 reqs.length C1, .slice A2 reps.length C2, .slice A3 excs.length C3, .slice A4 rets.length C4] 27)) 27 #[.string ⟨#[]⟩, .string ⟨#[]⟩, .slice none 0 0, .slice none 0 0, .slice none 0 0, .slice none 0 0]
  rw [World.size_alloc] at hZ
  have hB := ((Below.refl w.heap.size w).alloc (Nat.le_refl _) (.cells #[.string mo, .string go, .slice A1 reqs.length C1, .slice A2 reps.length C2, .slice A3 excs.length C3, .slice A4 rets.length C4] 27)).alloc (by simp) (.cells #[.string ⟨#[]⟩, .string ⟨#[]⟩, .slice none 0 0, .slice none 0 0, .slice none 0 0, .slice none 0 0] 27)
  have HT1 := Lib.hid t1
  have HT2 := Lib.hid t2
  have HT3 := Lib.hid t3
  have HT4 := Lib.hid t4
  clear t1 t2 t3 t4
  go_enter Tryz.func10, Tryz.ntmps10
  go_wp2_with fail
  generalize (w.alloc (.cells #[.string mo, .string go, .slice A1 reqs.length C1, .slice A2 reps.length C2, .slice A3 excs.length C3, .slice A4 rets.length C4] 27)).alloc (.cells #[.string ⟨#[]⟩, .string ⟨#[]⟩, .slice none 0 0, .slice none 0 0, .slice none 0 0, .slice none 0 0] 27) = W at *
  refine (HC.out W (HF.out.below hB)).mono ?_
  rintro _ w1 ⟨a', b', c', d', rfl, k1, k2, k3, k4⟩
  obtain ⟨B0, c0, rfl⟩ := k1.own.row.form
  obtain ⟨B1, c1, rfl⟩ := k2.own.row.form
  obtain ⟨B2, c2, rfl⟩ := k3.own.row.form
  obtain ⟨B3, c3, rfl⟩ := k4.own.row.form
  dsimp only at k1 k2 k3 k4 ⊢
  have hA1 := hA.below k1.below
  have hZ1 := hZ.below k1.below
  have hB1 := hB.trans (k1.below.mono hB.size)
  have r1 := (k1.since hB).six hA1 (by decide) (Nat.le_refl _) (.string mo) (.string go) (.slice B0 reqs.length c0) (.slice B1 reps.length c1) (.slice B2 excs.length c2) (.slice B3 rets.length c3)
  have r2 := (k2.since hB).six hA1 (by decide) (Nat.le_refl _) (.string mo) (.string go) (.slice B0 reqs.length c0) (.slice B1 reps.length c1) (.slice B2 excs.length c2) (.slice B3 rets.length c3)
  have r3 := (k3.since hB).six hA1 (by decide) (Nat.le_refl _) (.string mo) (.string go) (.slice B0 reqs.length c0) (.slice B1 reps.length c1) (.slice B2 excs.length c2) (.slice B3 rets.length c3)
  have r4 := (k4.since hB).six hA1 (by decide) (Nat.le_refl _) (.string mo) (.string go) (.slice B0 reqs.length c0) (.slice B1 reps.length c1) (.slice B2 excs.length c2) (.slice B3 rets.length c3)
  have sA := hA1.six (.string mo) (.string go) (.slice B0 reqs.length c0) (.slice B1 reps.length c1) (.slice B2 excs.length c2) (.slice B3 rets.length c3)
  have sZ := hZ1.sixO (B' := w.heap.size) (by omega) (.string mo) (.string go) (.slice B0 reqs.length c0) (.slice B1 reps.length c1) (.slice B2 excs.length c2) (.slice B3 rets.length c3)
  have sB := below_six hB1 (Nat.le_refl _) (.string mo) (.string go) (.slice B0 reqs.length c0) (.slice B1 reps.length c1) (.slice B2 excs.length c2) (.slice B3 rets.length c3)
  have f0 := hA1.frozen 0
  have f1 := hA1.frozen 1
  have f2 := hA1.frozen 2
  have f3 := hA1.frozen 3
  have f4 := hA1.frozen 4
  have f5 := hA1.frozen 5
  have e0 : w1.cell? ⟨w.heap.size, 0, none⟩ = some (.string mo) := hA1.cell 0
  have e1 : w1.cell? ⟨w.heap.size, 1, none⟩ = some (.string go) := hA1.cell 1
  have e2 : w1.cell? ⟨w.heap.size, 2, none⟩ = some (.slice A1 reqs.length C1) := hA1.cell 2
  have e3 : w1.cell? ⟨w.heap.size, 3, none⟩ = some (.slice A2 reps.length C2) := hA1.cell 3
  have e4 : w1.cell? ⟨w.heap.size, 4, none⟩ = some (.slice A3 excs.length C3) := hA1.cell 4
  have e5 : w1.cell? ⟨w.heap.size, 5, none⟩ = some (.slice A4 rets.length C4) := hA1.cell 5
  have kn : ((((((w1.setCell ⟨w.heap.size, 0, none⟩ (.string mo)).setCell ⟨w.heap.size, 1, none⟩ (.string go)).setCell ⟨w.heap.size, 2, none⟩ (.slice B0 reqs.length c0)).setCell ⟨w.heap.size, 3, none⟩ (.slice B1 reps.length c1)).setCell ⟨w.heap.size, 4, none⟩ (.slice B2 excs.length c2)).setCell ⟨w.heap.size, 5, none⟩ (.slice B3 rets.length c3)).cell? ⟨w.heap.size, 2, none⟩ = some (.slice B0 reqs.length c0) := sA.cell 2
  clear hA hZ hB hA1 hZ1 hB1 k1 k2 k3 k4
  have R1 := Lib.hid r1
  have R2 := Lib.hid r2
  have R3 := Lib.hid r3
  have R4 := Lib.hid r4
  have SA := Lib.hid sA
  have SZ := Lib.hid sZ
  have SB := Lib.hid sB
  clear r1 r2 r3 r4 sA sZ sB
  go_wp2_with fail
  generalize ((((((w1.setCell ⟨w.heap.size, 0, none⟩ (.string mo)).setCell ⟨w.heap.size, 1, none⟩ (.string go)).setCell ⟨w.heap.size, 2, none⟩ (.slice B0 reqs.length c0)).setCell ⟨w.heap.size, 3, none⟩ (.slice B1 reps.length c1)).setCell ⟨w.heap.size, 4, none⟩ (.slice B2 excs.length c2)).setCell ⟨w.heap.size, 5, none⟩ (.slice B3 rets.length c3)) = x1 at *
  clear f0 f1 f2 f3 f4 f5 e0 e1 e2 e3 e4 e5
  have r1 := R1.out
  have r2 := R2.out
  have r3 := R3.out
  have r4 := R4.out
  have sA := SA.out
  have sZ := SZ.out
  have sB := SB.out
  clear R1 R2 R3 R4 SA SZ SB
  clear kn
  refine (sortQ_any _ reqs w x1 r1 HT1.out n1).mono ?_
  rintro _ x2 ⟨rfl, s2, g2⟩
  have r2' := r2.beside r1 (by decide) g2
  have r3' := r3.beside r1 (by decide) g2
  have r4' := r4.beside r1 (by decide) g2
  have sA' := sA.beside r1 (by decide) g2
  have sZ' := sZ.beside r1 (by decide) g2
  have sB' := below_beside sB r1 (Nat.le_refl _) g2
  clear r1 r2 r3 r4 sA sZ sB g2
  have r1 := s2
  have r2 := r2'
  have r3 := r3'
  have r4 := r4'
  have sA := sA'
  have sZ := sZ'
  have sB := sB'
  clear sA' sZ' sB' s2 r2' r3' r4'
  have kn : x2.cell? ⟨w.heap.size, 3, none⟩ = some (.slice B1 reps.length c1) := sA.cell 3
  go_wp2_with fail
  clear kn
  refine (sortP_any _ reps w x2 r2 HT2.out n2).mono ?_
  rintro _ x3 ⟨rfl, s3, g3⟩
  have r1' := r1.beside r2 (by decide) g3
  have r3' := r3.beside r2 (by decide) g3
  have r4' := r4.beside r2 (by decide) g3
  have sA' := sA.beside r2 (by decide) g3
  have sZ' := sZ.beside r2 (by decide) g3
  have sB' := below_beside sB r2 (Nat.le_refl _) g3
  clear r1 r2 r3 r4 sA sZ sB g3
  have r1 := r1'
  have r2 := s3
  have r3 := r3'
  have r4 := r4'
  have sA := sA'
  have sZ := sZ'
  have sB := sB'
  clear sA' sZ' sB' s3 r1' r3' r4'
  have kn : x3.cell? ⟨w.heap.size, 4, none⟩ = some (.slice B2 excs.length c2) := sA.cell 4
  go_wp2_with fail
  clear kn
  refine (sortX_any _ excs w x3 r3 HT3.out n3).mono ?_
  rintro _ x4 ⟨rfl, s4, g4⟩
  have r1' := r1.beside r3 (by decide) g4
  have r2' := r2.beside r3 (by decide) g4
  have r4' := r4.beside r3 (by decide) g4
  have sA' := sA.beside r3 (by decide) g4
  have sZ' := sZ.beside r3 (by decide) g4
  have sB' := below_beside sB r3 (Nat.le_refl _) g4
  clear r1 r2 r3 r4 sA sZ sB g4
  have r1 := r1'
  have r2 := r2'
  have r3 := s4
  have r4 := r4'
  have sA := sA'
  have sZ := sZ'
  have sB := sB'
  clear sA' sZ' sB' s4 r1' r2' r4'
  have kn : x4.cell? ⟨w.heap.size, 5, none⟩ = some (.slice B3 rets.length c3) := sA.cell 5
  go_wp2_with fail
  clear kn
  refine (sortT_any _ rets w x4 r4 HT4.out n4).mono ?_
  rintro _ x5 ⟨rfl, s5, g5⟩
  have r1' := r1.beside r4 (by decide) g5
  have r2' := r2.beside r4 (by decide) g5
  have r3' := r3.beside r4 (by decide) g5
  have sA' := sA.beside r4 (by decide) g5
  have sZ' := sZ.beside r4 (by decide) g5
  have sB' := below_beside sB r4 (Nat.le_refl _) g5
  clear r1 r2 r3 r4 sA sZ sB g5
  have r1 := r1'
  have r2 := r2'
  have r3 := r3'
  have r4 := s5
  have sA := sA'
  have sZ := sZ'
  have sB := sB'
  clear sA' sZ' sB' s5 r1' r2' r3'
  have g0 : x5.cell? ⟨w.heap.size, 0, none⟩ = some (.string mo) := sA.cell 0
  have g1 : x5.cell? ⟨w.heap.size, 1, none⟩ = some (.string go) := sA.cell 1
  have g2 : x5.cell? ⟨w.heap.size, 2, none⟩ = some (.slice B0 reqs.length c0) := sA.cell 2
  have g3 : x5.cell? ⟨w.heap.size, 3, none⟩ = some (.slice B1 reps.length c1) := sA.cell 3
  have g4 : x5.cell? ⟨w.heap.size, 4, none⟩ = some (.slice B2 excs.length c2) := sA.cell 4
  have g5 : x5.cell? ⟨w.heap.size, 5, none⟩ = some (.slice B3 rets.length c3) := sA.cell 5
  have z0 : x5.cell? ⟨w.heap.size + 1, 0, none⟩ = some (.string ⟨#[]⟩) := sZ.cell 0
  have z1 : x5.cell? ⟨w.heap.size + 1, 1, none⟩ = some (.string ⟨#[]⟩) := sZ.cell 1
  have z2 : x5.cell? ⟨w.heap.size + 1, 2, none⟩ = some (.slice none 0 0) := sZ.cell 2
  have z3 : x5.cell? ⟨w.heap.size + 1, 3, none⟩ = some (.slice none 0 0) := sZ.cell 3
  have z4 : x5.cell? ⟨w.heap.size + 1, 4, none⟩ = some (.slice none 0 0) := sZ.cell 4
  have z5 : x5.cell? ⟨w.heap.size + 1, 5, none⟩ = some (.slice none 0 0) := sZ.cell 5
  have f0 := sZ.frozen 0
  have f1 := sZ.frozen 1
  have f2 := sZ.frozen 2
  have f3 := sZ.frozen 3
  have f4 := sZ.frozen 4
  have f5 := sZ.frozen 5
  have HRR := Lib.hid (show CopyOut (sortG ⟨mo, go, reqs, reps, excs, rets⟩) w (.returned (.agg #[.string mo, .string go, .slice B0 reqs.length c0, .slice B1 reps.length c1, .slice B2 excs.length c2, .slice B3 rets.length c3])) ((((((x5.setCell ⟨w.heap.size + 1, 0, none⟩ (.string mo)).setCell ⟨w.heap.size + 1, 1, none⟩ (.string go)).setCell ⟨w.heap.size + 1, 2, none⟩ (.slice B0 reqs.length c0)).setCell ⟨w.heap.size + 1, 3, none⟩ (.slice B1 reps.length c1)).setCell ⟨w.heap.size + 1, 4, none⟩ (.slice B2 excs.length c2)).setCell ⟨w.heap.size + 1, 5, none⟩ (.slice B3 rets.length c3)) from ⟨_, _, _, _, rfl, r1.six sZ (by decide) (by omega) (.string mo) (.string go) (.slice B0 reqs.length c0) (.slice B1 reps.length c1) (.slice B2 excs.length c2) (.slice B3 rets.length c3), r2.six sZ (by decide) (by omega) (.string mo) (.string go) (.slice B0 reqs.length c0) (.slice B1 reps.length c1) (.slice B2 excs.length c2) (.slice B3 rets.length c3), r3.six sZ (by decide) (by omega) (.string mo) (.string go) (.slice B0 reqs.length c0) (.slice B1 reps.length c1) (.slice B2 excs.length c2) (.slice B3 rets.length c3), r4.six sZ (by decide) (by omega) (.string mo) (.string go) (.slice B0 reqs.length c0) (.slice B1 reps.length c1) (.slice B2 excs.length c2) (.slice B3 rets.length c3)⟩)
  have HS6 := Lib.hid (sZ.six (.string mo) (.string go) (.slice B0 reqs.length c0) (.slice B1 reps.length c1) (.slice B2 excs.length c2) (.slice B3 rets.length c3))
  clear r1 r2 r3 r4 sA sZ sB
  go_wp2
  have y0 := HS6.out.cell 0
  have y1 := HS6.out.cell 1
  have y2 := HS6.out.cell 2
  have y3 := HS6.out.cell 3
  have y4 := HS6.out.cell 4
  have y5 := HS6.out.cell 5
  refine bodyPost_ret (v := .agg #[.string mo, .string go, .slice B0 reqs.length c0, .slice B1 reps.length c1, .slice B2 excs.length c2, .slice B3 rets.length c3]) (by simp [results, Tryz.results10, go_sem, y0, y1, y2, y3, y4, y5]) rfl HRR.out
end Go.Proofs.YtmdlmjcejeejfaaGreatDoor

/-
  The law's own ours: the ref's file as the program's.
-/
set_option linter.unusedVariables false
namespace Go.Proofs.YtmdlmjcejeejfaaGreatDoor
open Go.RowKit Go.Shelf

set_option maxRecDepth 100000 in
set_option maxHeartbeats 8000000 in
theorem ours_file (f : FileG) (n1 : f.reqs.length ≤ 1000) (n2 : f.reps.length ≤ 1000) (n3 : f.excs.length ≤ 1000) (n4 : f.rets.length ≤ 1000) (a b c d : Value) (w : World) (hF : FileAt w a b c d f) :
    Calls Tryz.prog 8 #[.agg #[.string f.mo, .string f.go, a, b, c, d]] w (FileOut f a b c d w) := by
  obtain ⟨mo, go, reqs, reps, excs, rets⟩ := f
  obtain ⟨hr, hp, hx, ht⟩ := hF
  dsimp only at *
  obtain ⟨ra, rc, rfl⟩ := hr.form
  obtain ⟨pa, pc, rfl⟩ := hp.form
  obtain ⟨xa, xc, rfl⟩ := hx.form
  obtain ⟨ta, tc, rfl⟩ := ht.form
  have hb0 := (Below.refl w.heap.size w).alloc (Nat.le_refl _) (.cells #[.string mo, .string go, .slice ra reqs.length rc, .slice pa reps.length pc, .slice xa excs.length xc, .slice ta rets.length tc] 35)
  have HR := Lib.hid (hr.below hb0)
  have HP := Lib.hid (hp.below hb0)
  have HX := Lib.hid hx
  have HT := Lib.hid (ht.below hb0)
  have HA := Lib.hid (GBlk.new w 35 #[.string mo, .string go, .slice ra reqs.length rc, .slice pa reps.length pc, .slice xa excs.length xc, .slice ta rets.length tc])
  clear hr hp hx ht
  have hz1 : (w.alloc (.cells #[.string mo, .string go, .slice ra reqs.length rc, .slice pa reps.length pc, .slice xa excs.length xc, .slice ta rets.length tc] 35)).heap.size = w.heap.size + 1 := by simp
  go_enter Tryz.func8, Tryz.ntmps8
  go_wp2
  generalize w.alloc (.cells #[.string mo, .string go, .slice ra reqs.length rc, .slice pa reps.length pc, .slice xa excs.length xc, .slice ta rets.length tc] 35) = W at *
  have HS := Lib.hid hz1
  have HS1 := Lib.hid (show W.heap.size ≤ w.heap.size + 1 + 1 by omega)
  have hG0 : GBlk ((W.alloc (.cells #[.string ⟨#[]⟩, .string ⟨#[]⟩, .slice none 0 0, .slice none 0 0, .slice none 0 0, .slice none 0 0] 27)).alloc (.cells #[.string mo, .string go, .slice none 0 0, .slice none 0 0, .slice xa excs.length xc, .slice none 0 0] 27)) (w.heap.size + 1) 27 #[.string ⟨#[]⟩, .string ⟨#[]⟩, .slice none 0 0, .slice none 0 0, .slice none 0 0, .slice none 0 0] := by
    have := (GBlk.new W 27 #[.string ⟨#[]⟩, .string ⟨#[]⟩, .slice none 0 0, .slice none 0 0, .slice none 0 0, .slice none 0 0]).alloc (.cells #[.string mo, .string go, .slice none 0 0, .slice none 0 0, .slice xa excs.length xc, .slice none 0 0] 27)
    rwa [hz1] at this
  have hG1 : GBlk ((W.alloc (.cells #[.string ⟨#[]⟩, .string ⟨#[]⟩, .slice none 0 0, .slice none 0 0, .slice none 0 0, .slice none 0 0] 27)).alloc (.cells #[.string mo, .string go, .slice none 0 0, .slice none 0 0, .slice xa excs.length xc, .slice none 0 0] 27)) (w.heap.size + 1 + 1) 27 #[.string mo, .string go, .slice none 0 0, .slice none 0 0, .slice xa excs.length xc, .slice none 0 0] := by
    have := GBlk.new (W.alloc (.cells #[.string ⟨#[]⟩, .string ⟨#[]⟩, .slice none 0 0, .slice none 0 0, .slice none 0 0, .slice none 0 0] 27)) 27 #[.string mo, .string go, .slice none 0 0, .slice none 0 0, .slice xa excs.length xc, .slice none 0 0]
    rwa [World.size_alloc, hz1] at this
  have hBw : Below W.heap.size W ((W.alloc (.cells #[.string ⟨#[]⟩, .string ⟨#[]⟩, .slice none 0 0, .slice none 0 0, .slice none 0 0, .slice none 0 0] 27)).alloc (.cells #[.string mo, .string go, .slice none 0 0, .slice none 0 0, .slice xa excs.length xc, .slice none 0 0] 27)) := ((Below.refl _ _).alloc (Nat.le_refl _) _).alloc (by simp) _
  generalize ((W.alloc (.cells #[.string ⟨#[]⟩, .string ⟨#[]⟩, .slice none 0 0, .slice none 0 0, .slice none 0 0, .slice none 0 0] 27)).alloc (.cells #[.string mo, .string go, .slice none 0 0, .slice none 0 0, .slice xa excs.length xc, .slice none 0 0] 27)) = w2 at *
  clear hz1
  go_loopw [4] (fun i wr => ∃ (k : Nat) (acc : List ReqB) (A : Option Addr) (c : Nat), k ≤ reqs.length ∧ i = .int .i64 k ∧ acc = reqs.take k ∧ GBlk wr (w.heap.size + 1) 27 #[.string ⟨#[]⟩, .string ⟨#[]⟩, .slice none 0 0, .slice none 0 0, .slice none 0 0, .slice none 0 0] ∧ GBlk wr (w.heap.size + 1 + 1) 27 #[.string mo, .string go, .slice A acc.length c, .slice none 0 0, .slice xa excs.length xc, .slice none 0 0] ∧ RAcc reqR 50 W wr (.slice A acc.length c) acc) (fun i _ => reqs.length - (intOf i).toNat)
  case atStart => exact ⟨0, [], none, 0, Nat.zero_le _, rfl, rfl, hG0, hG1, ROwn.nil _ _, hBw⟩
  case round =>
    clear hG0 hG1 hBw
    obtain ⟨k, acc, A, c, hk, rfl, hL, hG0, hG1, hacc⟩ := hrel
    have HL := Lib.hid hL
    have hal : acc.length ≤ k := by rw [hL, List.length_take]; omega
    clear hL
    have u0 : wr.cell? ⟨w.heap.size, 2, none⟩ = some (.slice ra reqs.length rc) := (HA.out.below hacc.below).cell 2
    by_cases hlt : k < reqs.length
    · obtain ⟨-, hcap, hsp⟩ := (HR.out.below hacc.below).spot
      obtain ⟨g, o, rfl, hg, hat⟩ := hsp (ne_of_lt hlt)
      obtain ⟨q1, q2, q3⟩ := req_at hat k hlt
      have HN := Lib.hid (show acc ++ [reqs[k]] = reqs.take (k + 1) by rw [HL.out, List.take_succ_eq_append_getElem hlt])
      clear hat hsp
      generalize reqs[k] = x at *
      obtain ⟨⟨p, v⟩, bb⟩ := x
      dsimp only at q1 q2 q3
      have i0 : (0 : Int) ≤ (k : Int) := by omega
      have i1 : (k : Int) < (reqs.length : Int) := by omega
      have g2 : wr.cell? ⟨w.heap.size + 1 + 1, 2, none⟩ = some (.slice A acc.length c) := hG1.cell 2
      have ma : ∀ o, (wr.alloc o).cell? ⟨w.heap.size + 1 + 1, 2, none⟩ = some (.slice A acc.length c) := fun o => (hG1.alloc o).cell 2
      go_wp2
      go_region_law (refine step_racc preqT rfl _ _ rfl (hacc.alloc _).drew rfl (RRow.oneE _ ((p, v), bb) _ _ (by simp) rfl) rfl (by simp; omega) ?_; intro A4 c4 acc4 w4 hgr; have hG04 := (hG0.alloc _).drew.grew (hacc.alloc _).drew.own hgr (by decide); have hG14 := (hG1.alloc _).drew.grew (hacc.alloc _).drew.own hgr (by decide); have kc : w4.cell? ⟨w.heap.size + 1 + 1, 2, none⟩ = some (.slice A acc.length c) := hG14.cell 2; have kf := hG14.frozen 2; have hacc4 := hgr.acc; have HL4 := Lib.hid hgr.list; clear hgr)
      all_goals
        go_wp2
        go_roundw
        case rel => exact ⟨k + 1, acc4, A4, c4, by omega, by go_num, HL4.out.trans HN.out, hG04.setOther (by omega), hG14.set 2 _, hacc4.set hG14 (by decide) HS1.out⟩
        case measure => simp [intOf]; omega
    · obtain rfl : k = reqs.length := by omega
      have hacq : reqs = acc := by rw [HL.out, List.take_length]
      subst hacq
      clear HL
      go_wp2
      clear u0
      obtain ⟨v0, hv0⟩ : ∃ v, v = wr := ⟨_, rfl⟩
      subst hv0
      have hacc0 := hacc
      clear hacc
      go_loopw [5] (fun i wr => ∃ (k : Nat) (acc : List RepB) (A2 : Option Addr) (c2 : Nat), k ≤ reps.length ∧ i = .int .i64 k ∧ acc = reps.take k ∧ GBlk wr (w.heap.size + 1) 27 #[.string ⟨#[]⟩, .string ⟨#[]⟩, .slice none 0 0, .slice none 0 0, .slice none 0 0, .slice none 0 0] ∧ GBlk wr (w.heap.size + 1 + 1) 27 #[.string mo, .string go, .slice A reqs.length c, .slice A2 acc.length c2, .slice xa excs.length xc, .slice none 0 0] ∧ RAcc reqR 50 W wr (.slice A reqs.length c) reqs ∧ RAcc repR 56 W wr (.slice A2 acc.length c2) acc) (fun i _ => reps.length - (intOf i).toNat)
      case atStart => exact ⟨0, [], none, 0, Nat.zero_le _, rfl, rfl, hG0, hG1, hacc0, ROwn.nil _ _, hacc0.below⟩
      case round =>
        clear hG0 hG1 hacc0
        obtain ⟨k, acc, A2, c2, hk, rfl, hL, hG0, hG1, hacc0, hacc⟩ := hrel
        have HL := Lib.hid hL
        have hal : acc.length ≤ k := by rw [hL, List.length_take]; omega
        clear hL
        have u0 : wr.cell? ⟨w.heap.size, 3, none⟩ = some (.slice pa reps.length pc) := (HA.out.below hacc.below).cell 3
        by_cases hlt : k < reps.length
        · obtain ⟨-, hcap, hsp⟩ := (HP.out.below hacc.below).spot
          obtain ⟨g, o, rfl, hg, hat⟩ := hsp (ne_of_lt hlt)
          obtain ⟨q1, q2, q3, q4⟩ := rep_at hat k hlt
          have HN := Lib.hid (show acc ++ [reps[k]] = reps.take (k + 1) by rw [HL.out, List.take_succ_eq_append_getElem hlt])
          clear hat hsp
          generalize reps[k] = x at *
          obtain ⟨⟨p, v⟩, p2, v2⟩ := x
          dsimp only at q1 q2 q3 q4
          have i0 : (0 : Int) ≤ (k : Int) := by omega
          have i1 : (k : Int) < (reps.length : Int) := by omega
          have g2 : wr.cell? ⟨w.heap.size + 1 + 1, 3, none⟩ = some (.slice A2 acc.length c2) := hG1.cell 3
          have ma : ∀ o, (wr.alloc o).cell? ⟨w.heap.size + 1 + 1, 3, none⟩ = some (.slice A2 acc.length c2) := fun o => (hG1.alloc o).cell 3
          go_wp2
          go_region_law (refine step_racc prepT rfl _ _ rfl (hacc.alloc _).drew rfl (RRow.oneE _ ((p, v), p2, v2) _ _ (by simp) rfl) rfl (by simp; omega) ?_; intro A4 c4 acc4 w4 hgr; have hG04 := (hG0.alloc _).drew.grew (hacc.alloc _).drew.own hgr (by decide); have hG14 := (hG1.alloc _).drew.grew (hacc.alloc _).drew.own hgr (by decide); have hacc04 := (hacc0.alloc _).drew.other (hacc.alloc _).drew.own hgr (by decide); have kc : w4.cell? ⟨w.heap.size + 1 + 1, 3, none⟩ = some (.slice A2 acc.length c2) := hG14.cell 3; have kf := hG14.frozen 3; have hacc4 := hgr.acc; have HL4 := Lib.hid hgr.list; clear hgr)
          all_goals
            go_wp2
            go_roundw
            case rel => exact ⟨k + 1, acc4, A4, c4, by omega, by go_num, HL4.out.trans HN.out, hG04.setOther (by omega), hG14.set 3 _, hacc04.set hG14 (by decide) HS1.out, hacc4.set hG14 (by decide) HS1.out⟩
            case measure => simp [intOf]; omega
        · obtain rfl : k = reps.length := by omega
          have hacq : reps = acc := by rw [HL.out, List.take_length]
          subst hacq
          clear HL
          go_wp2
          clear u0
          obtain ⟨v1, hv1⟩ : ∃ v, v = wr := ⟨_, rfl⟩
          subst hv1
          have hacc1 := hacc
          clear hacc
          go_loopw [6] (fun i wr => ∃ (k : Nat) (acc : List RetB) (A3 : Option Addr) (c3 : Nat), k ≤ rets.length ∧ i = .int .i64 k ∧ acc = rets.take k ∧ GBlk wr (w.heap.size + 1) 27 #[.string ⟨#[]⟩, .string ⟨#[]⟩, .slice none 0 0, .slice none 0 0, .slice none 0 0, .slice none 0 0] ∧ GBlk wr (w.heap.size + 1 + 1) 27 #[.string mo, .string go, .slice A reqs.length c, .slice A2 reps.length c2, .slice xa excs.length xc, .slice A3 acc.length c3] ∧ RAcc reqR 50 W wr (.slice A reqs.length c) reqs ∧ RAcc repR 56 W wr (.slice A2 reps.length c2) reps ∧ RAcc retR 58 W wr (.slice A3 acc.length c3) acc) (fun i _ => rets.length - (intOf i).toNat)
          case atStart => exact ⟨0, [], none, 0, Nat.zero_le _, rfl, rfl, hG0, hG1, hacc0, hacc1, ROwn.nil _ _, hacc0.below⟩
          case round =>
            clear hG0 hG1 hacc0 hacc1
            obtain ⟨k, acc, A3, c3, hk, rfl, hL, hG0, hG1, hacc0, hacc1, hacc⟩ := hrel
            have HL := Lib.hid hL
            have hal : acc.length ≤ k := by rw [hL, List.length_take]; omega
            clear hL
            have u0 : wr.cell? ⟨w.heap.size, 5, none⟩ = some (.slice ta rets.length tc) := (HA.out.below hacc.below).cell 5
            by_cases hlt : k < rets.length
            · obtain ⟨-, hcap, hsp⟩ := (HT.out.below hacc.below).spot
              obtain ⟨g, o, rfl, hg, hat⟩ := hsp (ne_of_lt hlt)
              obtain ⟨q1, q2, q3⟩ := ret_at hat k hlt
              have HN := Lib.hid (show acc ++ [rets[k]] = rets.take (k + 1) by rw [HL.out, List.take_succ_eq_append_getElem hlt])
              clear hat hsp
              generalize rets[k] = x at *
              obtain ⟨p, v, y⟩ := x
              dsimp only at q1 q2 q3
              have i0 : (0 : Int) ≤ (k : Int) := by omega
              have i1 : (k : Int) < (rets.length : Int) := by omega
              have g2 : wr.cell? ⟨w.heap.size + 1 + 1, 5, none⟩ = some (.slice A3 acc.length c3) := hG1.cell 5
              have ma : ∀ o, (wr.alloc o).cell? ⟨w.heap.size + 1 + 1, 5, none⟩ = some (.slice A3 acc.length c3) := fun o => (hG1.alloc o).cell 5
              go_wp2
              go_region_law (refine step_racc pretT rfl _ _ rfl (hacc.alloc _).drew rfl (RRow.oneE _ (p, v, y) _ _ (by simp) rfl) rfl (by simp; omega) ?_; intro A4 c4 acc4 w4 hgr; have hG04 := (hG0.alloc _).drew.grew (hacc.alloc _).drew.own hgr (by decide); have hG14 := (hG1.alloc _).drew.grew (hacc.alloc _).drew.own hgr (by decide); have hacc04 := (hacc0.alloc _).drew.other (hacc.alloc _).drew.own hgr (by decide); have hacc14 := (hacc1.alloc _).drew.other (hacc.alloc _).drew.own hgr (by decide); have kc : w4.cell? ⟨w.heap.size + 1 + 1, 5, none⟩ = some (.slice A3 acc.length c3) := hG14.cell 5; have kf := hG14.frozen 5; have hacc4 := hgr.acc; have HL4 := Lib.hid hgr.list; clear hgr)
              all_goals
                go_wp2
                go_roundw
                case rel => exact ⟨k + 1, acc4, A4, c4, by omega, by go_num, HL4.out.trans HN.out, hG04.setOther (by omega), hG14.set 5 _, hacc04.set hG14 (by decide) HS1.out, hacc14.set hG14 (by decide) HS1.out, hacc4.set hG14 (by decide) HS1.out⟩
                case measure => simp [intOf]; omega
            · obtain rfl : k = rets.length := by omega
              have hacq : rets = acc := by rw [HL.out, List.take_length]
              subst hacq
              clear HL
              have g0 : wr.cell? ⟨w.heap.size + 1 + 1, 0, none⟩ = some (.string mo) := hG1.cell 0
              have g1 : wr.cell? ⟨w.heap.size + 1 + 1, 1, none⟩ = some (.string go) := hG1.cell 1
              have g2 : wr.cell? ⟨w.heap.size + 1 + 1, 2, none⟩ = some (.slice A reqs.length c) := hG1.cell 2
              have g3 : wr.cell? ⟨w.heap.size + 1 + 1, 3, none⟩ = some (.slice A2 reps.length c2) := hG1.cell 3
              have g4 : wr.cell? ⟨w.heap.size + 1 + 1, 4, none⟩ = some (.slice xa excs.length xc) := hG1.cell 4
              have g5 : wr.cell? ⟨w.heap.size + 1 + 1, 5, none⟩ = some (.slice A3 rets.length c3) := hG1.cell 5
              have z0 : wr.cell? ⟨w.heap.size + 1, 0, none⟩ = some (.string ⟨#[]⟩) := hG0.cell 0
              have z1 : wr.cell? ⟨w.heap.size + 1, 1, none⟩ = some (.string ⟨#[]⟩) := hG0.cell 1
              have z2 : wr.cell? ⟨w.heap.size + 1, 2, none⟩ = some (.slice none 0 0) := hG0.cell 2
              have z3 : wr.cell? ⟨w.heap.size + 1, 3, none⟩ = some (.slice none 0 0) := hG0.cell 3
              have z4 : wr.cell? ⟨w.heap.size + 1, 4, none⟩ = some (.slice none 0 0) := hG0.cell 4
              have z5 : wr.cell? ⟨w.heap.size + 1, 5, none⟩ = some (.slice none 0 0) := hG0.cell 5
              have f0 := hG0.frozen 0
              have f1 := hG0.frozen 1
              have f2 := hG0.frozen 2
              have f3 := hG0.frozen 3
              have f4 := hG0.frozen 4
              have f5 := hG0.frozen 5
              have hS6 := hG0.six (.string mo) (.string go) (.slice A reqs.length c) (.slice A2 reps.length c2) (.slice xa excs.length xc) (.slice A3 rets.length c3)
              have r0 := hacc0.six hG0 (by decide) (Nat.le_of_eq HS.out) (.string mo) (.string go) (.slice A reqs.length c) (.slice A2 reps.length c2) (.slice xa excs.length xc) (.slice A3 rets.length c3)
              have r1 := hacc1.six hG0 (by decide) (Nat.le_of_eq HS.out) (.string mo) (.string go) (.slice A reqs.length c) (.slice A2 reps.length c2) (.slice xa excs.length xc) (.slice A3 rets.length c3)
              have r3 := hacc.six hG0 (by decide) (Nat.le_of_eq HS.out) (.string mo) (.string go) (.slice A reqs.length c) (.slice A2 reps.length c2) (.slice xa excs.length xc) (.slice A3 rets.length c3)
              go_wp2
              have y0 := hS6.cell 0
              have y1 := hS6.cell 1
              have y2 := hS6.cell 2
              have y3 := hS6.cell 3
              have y4 := hS6.cell 4
              have y5 := hS6.cell 5
              have hBe := hb0.trans (r0.below.mono hb0.size)
              refine bodyPost_ret (v := .agg #[.string mo, .string go, .slice A reqs.length c, .slice A2 reps.length c2, .slice xa excs.length xc, .slice A3 rets.length c3]) (by simp [results, Tryz.results8, go_sem, y0, y1, y2, y3, y4, y5]) rfl ⟨_, _, _, _, rfl, ⟨r0.own.row, r1.own.row, HX.out.below hBe, r3.own.row⟩, hBe, fun B hB ho => ⟨r0.own.off (by have := HS.out; omega), r1.own.off (by have := HS.out; omega), ho.excs, r3.own.off (by have := HS.out; omega)⟩⟩
end Go.Proofs.YtmdlmjcejeejfaaGreatDoor

/-
  The document's own order of modules.
-/
set_option linter.unusedVariables false
namespace Go.Proofs.YtmdlmjcejeejfaaGreatDoor
open Go.RowKit Go.Shelf

set_option maxRecDepth 100000 in
set_option maxHeartbeats 1000000 in
theorem rversionsO_any (v u : ByteArray) (hv : v.size ≤ 20400) (hu : u.size ≤ 20400) (w : World) :
    Calls Tryz.prog 173 #[.string v, .string u] w (IntOut (verCmp v u) w) := by
  have HR := Lib.hid (fun n (h : scmp v.data.toList u.data.toList = n) w => show Calls Tryz.prog 17 #[.string v, .string u] w (IntOut n w) by rw [← h]; exact rcompare_any v u hv hu w)
  by_cases h1 : scmp v.data.toList u.data.toList = 0
  · have HJ := Lib.hid (show verCmp v u = tcmp v.data.toList u.data.toList by simp [verCmp, orI, h1])
    cases h2 : (v.toList == u.toList)
    · cases h3 : Op.bytesLess v.toList u.toList
      · have HK := Lib.hid (HJ.out.trans (tcmp_3 h3 h2))
        go_enter Tryz.func173, Tryz.ntmps173
        go_wp2_with (go_at_call 17; refine (HR.out 0 h1 _).mono ?_; rintro e w1 ⟨rfl, hb⟩)
        go_ret
        exact ⟨ret_int HK.out.symm, hb⟩
      · have HK := Lib.hid (HJ.out.trans (tcmp_1 h3))
        go_enter Tryz.func173, Tryz.ntmps173
        go_wp2_with (go_at_call 17; refine (HR.out 0 h1 _).mono ?_; rintro e w1 ⟨rfl, hb⟩)
        go_ret
        exact ⟨ret_int HK.out.symm, hb⟩
    · have HK := Lib.hid (show verCmp v u = 0 by rw [HJ.out]; exact tcmp_zero.2 (by have := eq_of_beq h2; rw [← Lib.toList_data, ← Lib.toList_data]; exact this))
      go_enter Tryz.func173, Tryz.ntmps173
      go_wp2_with (go_at_call 17; refine (HR.out 0 h1 _).mono ?_; rintro e w1 ⟨rfl, hb⟩)
      go_ret
      exact ⟨ret_int HK.out.symm, hb⟩
  · have HK := Lib.hid (show verCmp v u = scmp v.data.toList u.data.toList by simp [verCmp, orI, h1])
    have h1' : (scmp v.data.toList u.data.toList == 0) = false := by simp [h1]
    have h1'' : (scmp v.data.toList u.data.toList != 0) = true := by simp [h1]
    clear h1
    generalize hn : scmp v.data.toList u.data.toList = n at *
    go_enter Tryz.func173, Tryz.ntmps173
    go_wp2_with (go_at_call 17; refine (HR.out n rfl _).mono ?_; rintro e w1 ⟨rfl, hb⟩)
    go_ret
    exact ⟨ret_int HK.out.symm, hb⟩

set_option maxRecDepth 100000 in
set_option maxHeartbeats 1000000 in
theorem rmodsO_any (p v q u : ByteArray) (hp : p.size ≤ 20400) (hv : v.size ≤ 20400) (hq : q.size ≤ 20400) (hu : u.size ≤ 20400) (w : World) :
    Calls Tryz.prog 126 #[.agg #[.string p, .string v], .agg #[.string q, .string u]] w (IntOut (modCmp (p, v) (q, u)) w) := by
  have hb0 := ((Below.refl w.heap.size w).alloc (Nat.le_refl _) (.cells #[.string p, .string v] 41)).alloc (by simp) (.cells #[.string q, .string u] 41)
  have g1 := (GBlk.new w 41 #[.string p, .string v]).alloc (.cells #[.string q, .string u] 41)
  have g2 := GBlk.new (w.alloc (.cells #[.string p, .string v] 41)) 41 #[.string q, .string u]
  have hs : (w.alloc (.cells #[.string p, .string v] 41)).heap.size = w.heap.size + 1 := by simp
  rw [hs] at g2
  have HB0 := Lib.hid hb0
  have HG1 := Lib.hid g1
  have HG2 := Lib.hid g2
  clear hb0 g1 g2 hs
  have HC := Lib.hid (fun n (h : compareN p q = n) w => show Calls Tryz.prog 125 #[.string p, .string q] w (IntOut n w) by rw [← h]; exact prcompare_any p q hp hq w)
  by_cases h1 : compareN p q = 0
  · have HK := Lib.hid (show modCmp (p, v) (q, u) = verCmp v u by simp [modCmp, orI, h1])
    have HC0 := Lib.hid (HC.out 0 h1)
    clear h1 HC
    go_enter Tryz.func126, Tryz.ntmps126
    go_wp2_with (first
      | (go_at_call 125; refine (HC0.out _).mono ?_; rintro e w1 ⟨rfl, hb1⟩; have d0 : w1.cell? ⟨w.heap.size, 1, none⟩ = some (.string v) := (HG1.out.below hb1).cell 1; have d1 : w1.cell? ⟨w.heap.size + 1, 1, none⟩ = some (.string u) := (HG2.out.below hb1).cell 1; have HB1 := Lib.hid (HB0.out.trans (hb1.mono HB0.out.size)); clear hb1)
      | (go_at_call 173; refine (rversionsO_any v u hv hu _).mono ?_; rintro e w2 ⟨rfl, hb2⟩; have HB2 := Lib.hid (HB1.out.trans (hb2.mono HB1.out.size)); clear hb2))
    go_ret
    exact ⟨ret_int HK.out.symm, HB2.out⟩
  · have HK := Lib.hid (show modCmp (p, v) (q, u) = compareN p q by simp [modCmp, orI, h1])
    obtain ⟨n, hn⟩ : ∃ n, compareN p q = n := ⟨_, rfl⟩
    have HC0 := Lib.hid (HC.out n hn)
    rw [hn] at h1 HK
    have h1' : (n == 0) = false := by simp [h1]
    have h1'' : (n != 0) = true := by simp [h1]
    clear h1 HC hn
    go_enter Tryz.func126, Tryz.ntmps126
    go_wp2_with (go_at_call 125; refine (HC0.out _).mono ?_; rintro e w1 ⟨rfl, hb1⟩; have HB1 := Lib.hid (HB0.out.trans (hb1.mono HB0.out.size)); clear hb1)
    go_ret
    exact ⟨ret_int HK.out.symm, HB1.out⟩
end Go.Proofs.YtmdlmjcejeejfaaGreatDoor

/-
  The document's own kinds of orders.
-/
set_option linter.unusedVariables false
namespace Go.Proofs.YtmdlmjcejeejfaaGreatDoor
open Go.RowKit Go.Shelf

theorem req_cells {w : World} {g o : Nat} {xs : List ReqB} (h : RAt reqR w g o xs) (i : Nat) (hi : i < xs.length) : w.cell? ⟨g, o + i * 3, none⟩ = some (.string xs[i].1.1) ∧ w.cell? ⟨g, o + i * 3 + 1, none⟩ = some (.string xs[i].1.2) := ⟨h i hi 0 _ rfl, h i hi 1 _ rfl⟩
theorem rep_cells {w : World} {g o : Nat} {xs : List RepB} (h : RAt repR w g o xs) (i : Nat) (hi : i < xs.length) : w.cell? ⟨g, o + i * 4, none⟩ = some (.string xs[i].1.1) ∧ w.cell? ⟨g, o + i * 4 + 1, none⟩ = some (.string xs[i].1.2) := ⟨h i hi 0 _ rfl, h i hi 1 _ rfl⟩
theorem exc_cells {w : World} {g o : Nat} {xs : List ModB} (h : RAt modR w g o xs) (i : Nat) (hi : i < xs.length) : w.cell? ⟨g, o + i * 2, none⟩ = some (.string xs[i].1) ∧ w.cell? ⟨g, o + i * 2 + 1, none⟩ = some (.string xs[i].2) := ⟨h i hi 0 _ rfl, h i hi 1 _ rfl⟩
theorem ret_cells {w : World} {g o : Nat} {xs : List RetB} (h : RAt retR w g o xs) (i : Nat) (hi : i < xs.length) : w.cell? ⟨g, o + i * 3, none⟩ = some (.string xs[i].1) ∧ w.cell? ⟨g, o + i * 3 + 1, none⟩ = some (.string xs[i].2.1) ∧ w.cell? ⟨g, o + i * 3 + 2, none⟩ = some (.string xs[i].2.2) := ⟨h i hi 0 _ rfl, h i hi 1 _ rfl, h i hi 2 _ rfl⟩
theorem ne_nilJ {α : Type} {xs : List α} {k : Nat} (h : k < xs.length) : xs ≠ [] := by intro e; rw [e] at h; simp at h

set_option maxRecDepth 100000 in
set_option maxHeartbeats 2000000 in
theorem ahead0_any (mo go : ByteArray) (V : Value) (xs : List ReqB) (Q1 : Option Addr) (n1 D1 : Nat) (Q2 : Option Addr) (n2 D2 : Nat) (Q3 : Option Addr) (n3 D3 : Nat) (i k : Nat) (w : World) (hr : RRow reqR w V xs) (hi : i < xs.length) (hk : k < xs.length) (hs : Each okQ xs) (hl : xs.length ≤ 1000) :
    Calls Tryz.prog 75 #[.agg #[.string mo, .string go, V, .slice Q1 n1 D1, .slice Q2 n2 D2, .slice Q3 n3 D3, .int .i64 0], .int .i64 i, .int .i64 k] w fun e w' => e = .returned (.bool (decide (reqC xs[i] xs[k] < 0))) ∧ Below w.heap.size w w' := by
  obtain ⟨A, C1, e, hlc, hcell⟩ := hr
  subst e
  obtain ⟨g, o, rfl, hg, hat⟩ := hcell (ne_nilJ hi)
  have hb0 := (Below.refl w.heap.size w).alloc (Nat.le_refl _) (.cells #[.string mo, .string go, .slice (some ⟨g, o, none⟩) xs.length C1, .slice Q1 n1 D1, .slice Q2 n2 D2, .slice Q3 n3 D3, .int .i64 0] 76)
  have HG := Lib.hid (GBlk.new w 76 #[.string mo, .string go, .slice (some ⟨g, o, none⟩) xs.length C1, .slice Q1 n1 D1, .slice Q2 n2 D2, .slice Q3 n3 D3, .int .i64 0])
  have si := hs _ (List.getElem_mem hi)
  have sk := hs _ (List.getElem_mem hk)
  obtain ⟨q0, q1⟩ := req_cells ((hat.of_block (hb0.block g hg))) i hi
  obtain ⟨r0, r1⟩ := req_cells ((hat.of_block (hb0.block g hg))) k hk
  have hg1 := Nat.lt_of_lt_of_le hg hb0.size
  have HB0 := Lib.hid hb0
  have ix : (i : Int) < (xs.length : Int) := by omega
  have kx : (k : Int) < (xs.length : Int) := by omega
  clear hcell hat hs hb0
  generalize xs[i] = x at *
  generalize xs[k] = y at *
  obtain ⟨⟨x0, x1⟩, x2⟩ := x
  obtain ⟨⟨y0, y1⟩, y2⟩ := y
  dsimp only [okQ] at si sk q0 q1 r0 r1
  clear q1 r1
  go_enter Tryz.func75, Tryz.ntmps75
  go_wp2
  generalize w.alloc (.cells #[.string mo, .string go, .slice (some ⟨g, o, none⟩) xs.length C1, .slice Q1 n1 D1, .slice Q2 n2 D2, .slice Q3 n3 D3, .int .i64 0] 76) = W at *
  have L0 := Lib.hid (show ∀ w', Below W.heap.size W w' → w'.cell? ⟨w.heap.size, 2, none⟩ = some (.slice (some ⟨g, o, none⟩) xs.length C1) ∧ w'.cell? ⟨g, o + i * 3, none⟩ = some (.string x0) ∧ w'.cell? ⟨g, o + k * 3, none⟩ = some (.string y0) from fun w' h => ⟨(HG.out.below h).cell 2, (h.cell (p := ⟨g, _, none⟩) hg1).trans q0, (h.cell (p := ⟨g, _, none⟩) hg1).trans r0⟩)
  have K0 := Lib.hid (L0.out W.drew (below_drewN (Below.refl _ _) 1))
  go_region_held3 (fun w' => w'.cell? ⟨w.heap.size, 2, none⟩ = some (.slice (some ⟨g, o, none⟩) xs.length C1) ∧ w'.cell? ⟨g, o + i * 3, none⟩ = some (.string x0) ∧ w'.cell? ⟨g, o + k * 3, none⟩ = some (.string y0))
    (first | with_reducible exact K4.out | with_reducible exact K0.out | go_keep)
    (first | (go_at_call 125; refine (prcompare_any _ _ si sk _).mono ?_; rintro e w4 ⟨rfl, hb4'⟩; have b4 := below_drewN' (n := 1) hb4'; have K4 := Lib.hid (L0.out _ b4)))
  go_wp2
  go_ret
  exact ⟨rfl, HB0.out.trans (b4.mono HB0.out.size)⟩

set_option maxRecDepth 100000 in
set_option maxHeartbeats 2000000 in
theorem ahead1_any (mo go : ByteArray) (V : Value) (xs : List RepB) (Q0 : Option Addr) (n0 D0 : Nat) (Q2 : Option Addr) (n2 D2 : Nat) (Q3 : Option Addr) (n3 D3 : Nat) (i k : Nat) (w : World) (hr : RRow repR w V xs) (hi : i < xs.length) (hk : k < xs.length) (hs : Each okP xs) (hl : xs.length ≤ 1000) :
    Calls Tryz.prog 75 #[.agg #[.string mo, .string go, .slice Q0 n0 D0, V, .slice Q2 n2 D2, .slice Q3 n3 D3, .int .i64 1], .int .i64 i, .int .i64 k] w fun e w' => e = .returned (.bool (decide (repC xs[i] xs[k] < 0))) ∧ Below w.heap.size w w' := by
  obtain ⟨A, C1, e, hlc, hcell⟩ := hr
  subst e
  obtain ⟨g, o, rfl, hg, hat⟩ := hcell (ne_nilJ hi)
  have hb0 := (Below.refl w.heap.size w).alloc (Nat.le_refl _) (.cells #[.string mo, .string go, .slice Q0 n0 D0, .slice (some ⟨g, o, none⟩) xs.length C1, .slice Q2 n2 D2, .slice Q3 n3 D3, .int .i64 1] 76)
  have HG := Lib.hid (GBlk.new w 76 #[.string mo, .string go, .slice Q0 n0 D0, .slice (some ⟨g, o, none⟩) xs.length C1, .slice Q2 n2 D2, .slice Q3 n3 D3, .int .i64 1])
  have si := hs _ (List.getElem_mem hi)
  have sk := hs _ (List.getElem_mem hk)
  obtain ⟨q0, q1⟩ := rep_cells ((hat.of_block (hb0.block g hg))) i hi
  obtain ⟨r0, r1⟩ := rep_cells ((hat.of_block (hb0.block g hg))) k hk
  have hg1 := Nat.lt_of_lt_of_le hg hb0.size
  have HB0 := Lib.hid hb0
  have ix : (i : Int) < (xs.length : Int) := by omega
  have kx : (k : Int) < (xs.length : Int) := by omega
  clear hcell hat hs hb0
  generalize xs[i] = x at *
  generalize xs[k] = y at *
  obtain ⟨⟨x0, x1⟩, x2⟩ := x
  obtain ⟨⟨y0, y1⟩, y2⟩ := y
  obtain ⟨s1, s2⟩ := si
  obtain ⟨s3, s4⟩ := sk
  dsimp only at s1 s2 s3 s4 q0 q1 r0 r1
  go_enter Tryz.func75, Tryz.ntmps75
  go_wp2
  generalize w.alloc (.cells #[.string mo, .string go, .slice Q0 n0 D0, .slice (some ⟨g, o, none⟩) xs.length C1, .slice Q2 n2 D2, .slice Q3 n3 D3, .int .i64 1] 76) = W at *
  have L0 := Lib.hid (show ∀ w', Below W.heap.size W w' → w'.cell? ⟨w.heap.size, 3, none⟩ = some (.slice (some ⟨g, o, none⟩) xs.length C1) ∧ w'.cell? ⟨g, o + i * 4, none⟩ = some (.string x0) ∧ w'.cell? ⟨g, o + i * 4 + 1, none⟩ = some (.string x1) ∧ w'.cell? ⟨g, o + k * 4, none⟩ = some (.string y0) ∧ w'.cell? ⟨g, o + k * 4 + 1, none⟩ = some (.string y1) from fun w' h => ⟨(HG.out.below h).cell 3, (h.cell (p := ⟨g, _, none⟩) hg1).trans q0, (h.cell (p := ⟨g, _, none⟩) hg1).trans q1, (h.cell (p := ⟨g, _, none⟩) hg1).trans r0, (h.cell (p := ⟨g, _, none⟩) hg1).trans r1⟩)
  have K0 := Lib.hid (L0.out W.drew (below_drewN (Below.refl _ _) 1))
  go_region_held3 (fun w' => w'.cell? ⟨w.heap.size, 3, none⟩ = some (.slice (some ⟨g, o, none⟩) xs.length C1) ∧ w'.cell? ⟨g, o + i * 4, none⟩ = some (.string x0) ∧ w'.cell? ⟨g, o + i * 4 + 1, none⟩ = some (.string x1) ∧ w'.cell? ⟨g, o + k * 4, none⟩ = some (.string y0) ∧ w'.cell? ⟨g, o + k * 4 + 1, none⟩ = some (.string y1))
    (first | with_reducible exact K4.out | with_reducible exact K0.out | go_keep)
    (first | (go_at_call 126; refine (rmodsO_any _ _ _ _ s1 s2 s3 s4 _).mono ?_; rintro e w4 ⟨rfl, hb4'⟩; have b4 := below_drewN' (n := 1) hb4'; have K4 := Lib.hid (L0.out _ b4)))
  go_wp2
  go_ret
  exact ⟨rfl, HB0.out.trans (b4.mono HB0.out.size)⟩

set_option maxRecDepth 100000 in
set_option maxHeartbeats 2000000 in
theorem ahead2_any (mo go : ByteArray) (V : Value) (xs : List ModB) (Q0 : Option Addr) (n0 D0 : Nat) (Q1 : Option Addr) (n1 D1 : Nat) (Q3 : Option Addr) (n3 D3 : Nat) (i k : Nat) (w : World) (hr : RRow modR w V xs) (hi : i < xs.length) (hk : k < xs.length) (hs : Each okM xs) (hl : xs.length ≤ 1000) :
    Calls Tryz.prog 75 #[.agg #[.string mo, .string go, .slice Q0 n0 D0, .slice Q1 n1 D1, V, .slice Q3 n3 D3, .int .i64 2], .int .i64 i, .int .i64 k] w fun e w' => e = .returned (.bool (decide (modCmp xs[i] xs[k] < 0))) ∧ Below w.heap.size w w' := by
  obtain ⟨A, C1, e, hlc, hcell⟩ := hr
  subst e
  obtain ⟨g, o, rfl, hg, hat⟩ := hcell (ne_nilJ hi)
  have hb0 := (Below.refl w.heap.size w).alloc (Nat.le_refl _) (.cells #[.string mo, .string go, .slice Q0 n0 D0, .slice Q1 n1 D1, .slice (some ⟨g, o, none⟩) xs.length C1, .slice Q3 n3 D3, .int .i64 2] 76)
  have HG := Lib.hid (GBlk.new w 76 #[.string mo, .string go, .slice Q0 n0 D0, .slice Q1 n1 D1, .slice (some ⟨g, o, none⟩) xs.length C1, .slice Q3 n3 D3, .int .i64 2])
  have si := hs _ (List.getElem_mem hi)
  have sk := hs _ (List.getElem_mem hk)
  obtain ⟨q0, q1⟩ := exc_cells ((hat.of_block (hb0.block g hg))) i hi
  obtain ⟨r0, r1⟩ := exc_cells ((hat.of_block (hb0.block g hg))) k hk
  have hg1 := Nat.lt_of_lt_of_le hg hb0.size
  have HB0 := Lib.hid hb0
  have ix : (i : Int) < (xs.length : Int) := by omega
  have kx : (k : Int) < (xs.length : Int) := by omega
  clear hcell hat hs hb0
  generalize xs[i] = x at *
  generalize xs[k] = y at *
  obtain ⟨x0, x1⟩ := x
  obtain ⟨y0, y1⟩ := y
  obtain ⟨s1, s2⟩ := si
  obtain ⟨s3, s4⟩ := sk
  dsimp only at s1 s2 s3 s4 q0 q1 r0 r1
  go_enter Tryz.func75, Tryz.ntmps75
  go_wp2
  generalize w.alloc (.cells #[.string mo, .string go, .slice Q0 n0 D0, .slice Q1 n1 D1, .slice (some ⟨g, o, none⟩) xs.length C1, .slice Q3 n3 D3, .int .i64 2] 76) = W at *
  have L0 := Lib.hid (show ∀ w', Below W.heap.size W w' → w'.cell? ⟨w.heap.size, 4, none⟩ = some (.slice (some ⟨g, o, none⟩) xs.length C1) ∧ w'.cell? ⟨g, o + i * 2, none⟩ = some (.string x0) ∧ w'.cell? ⟨g, o + i * 2 + 1, none⟩ = some (.string x1) ∧ w'.cell? ⟨g, o + k * 2, none⟩ = some (.string y0) ∧ w'.cell? ⟨g, o + k * 2 + 1, none⟩ = some (.string y1) from fun w' h => ⟨(HG.out.below h).cell 4, (h.cell (p := ⟨g, _, none⟩) hg1).trans q0, (h.cell (p := ⟨g, _, none⟩) hg1).trans q1, (h.cell (p := ⟨g, _, none⟩) hg1).trans r0, (h.cell (p := ⟨g, _, none⟩) hg1).trans r1⟩)
  have K0 := Lib.hid (L0.out W.drew (below_drewN (Below.refl _ _) 1))
  go_region_held3 (fun w' => w'.cell? ⟨w.heap.size, 4, none⟩ = some (.slice (some ⟨g, o, none⟩) xs.length C1) ∧ w'.cell? ⟨g, o + i * 2, none⟩ = some (.string x0) ∧ w'.cell? ⟨g, o + i * 2 + 1, none⟩ = some (.string x1) ∧ w'.cell? ⟨g, o + k * 2, none⟩ = some (.string y0) ∧ w'.cell? ⟨g, o + k * 2 + 1, none⟩ = some (.string y1))
    (first | with_reducible exact K4.out | with_reducible exact K0.out | go_keep)
    (first | (go_at_call 126; refine (rmodsO_any _ _ _ _ s1 s2 s3 s4 _).mono ?_; rintro e w4 ⟨rfl, hb4'⟩; have b4 := below_drewN' (n := 1) hb4'; have K4 := Lib.hid (L0.out _ b4)))
  go_wp2
  go_ret
  exact ⟨rfl, HB0.out.trans (b4.mono HB0.out.size)⟩

set_option maxRecDepth 100000 in
set_option maxHeartbeats 2000000 in
theorem ahead3_any (mo go : ByteArray) (V : Value) (xs : List RetB) (Q0 : Option Addr) (n0 D0 : Nat) (Q1 : Option Addr) (n1 D1 : Nat) (Q2 : Option Addr) (n2 D2 : Nat) (i k : Nat) (w : World) (hr : RRow retR w V xs) (hi : i < xs.length) (hk : k < xs.length) (hs : Each okT xs) (hl : xs.length ≤ 1000) :
    Calls Tryz.prog 75 #[.agg #[.string mo, .string go, .slice Q0 n0 D0, .slice Q1 n1 D1, .slice Q2 n2 D2, V, .int .i64 3], .int .i64 i, .int .i64 k] w fun e w' => e = .returned (.bool (decide (retC xs[i] xs[k] < 0))) ∧ Below w.heap.size w w' := by
  obtain ⟨A, C1, e, hlc, hcell⟩ := hr
  subst e
  obtain ⟨g, o, rfl, hg, hat⟩ := hcell (ne_nilJ hi)
  have hb0 := (Below.refl w.heap.size w).alloc (Nat.le_refl _) (.cells #[.string mo, .string go, .slice Q0 n0 D0, .slice Q1 n1 D1, .slice Q2 n2 D2, .slice (some ⟨g, o, none⟩) xs.length C1, .int .i64 3] 76)
  have HG := Lib.hid (GBlk.new w 76 #[.string mo, .string go, .slice Q0 n0 D0, .slice Q1 n1 D1, .slice Q2 n2 D2, .slice (some ⟨g, o, none⟩) xs.length C1, .int .i64 3])
  have si := hs _ (List.getElem_mem hi)
  have sk := hs _ (List.getElem_mem hk)
  obtain ⟨q0, q1, q2⟩ := ret_cells ((hat.of_block (hb0.block g hg))) i hi
  obtain ⟨r0, r1, r2⟩ := ret_cells ((hat.of_block (hb0.block g hg))) k hk
  have hg1 := Nat.lt_of_lt_of_le hg hb0.size
  have HB0 := Lib.hid hb0
  have ix : (i : Int) < (xs.length : Int) := by omega
  have kx : (k : Int) < (xs.length : Int) := by omega
  clear hcell hat hs hb0
  generalize xs[i] = x at *
  generalize xs[k] = y at *
  obtain ⟨x0, x1, x2⟩ := x
  obtain ⟨y0, y1, y2⟩ := y
  obtain ⟨s1, s2⟩ := si
  obtain ⟨s3, s4⟩ := sk
  dsimp only at s1 s2 s3 s4 q0 q1 q2 r0 r1 r2
  have c5 := HG.out.cell 5
  have hz1 : (w.alloc (.cells #[.string mo, .string go, .slice Q0 n0 D0, .slice Q1 n1 D1, .slice Q2 n2 D2, .slice (some ⟨g, o, none⟩) xs.length C1, .int .i64 3] 76)).heap.size = w.heap.size + 1 := by simp
  have GX := (GBlk.new (w.alloc (.cells #[.string mo, .string go, .slice Q0 n0 D0, .slice Q1 n1 D1, .slice Q2 n2 D2, .slice (some ⟨g, o, none⟩) xs.length C1, .int .i64 3] 76)) 63 #[.string x0, .string x1, .string x2]).alloc (.cells #[.string y0, .string y1, .string y2] 63)
  have GY := GBlk.new ((w.alloc (.cells #[.string mo, .string go, .slice Q0 n0 D0, .slice Q1 n1 D1, .slice Q2 n2 D2, .slice (some ⟨g, o, none⟩) xs.length C1, .int .i64 3] 76)).alloc (.cells #[.string x0, .string x1, .string x2] 63)) 63 #[.string y0, .string y1, .string y2]
  have HB2 := Lib.hid ((HB0.out.alloc HB0.out.size (.cells #[.string x0, .string x1, .string x2] 63)).alloc ((HB0.out.alloc HB0.out.size (.cells #[.string x0, .string x1, .string x2] 63)).size) (.cells #[.string y0, .string y1, .string y2] 63))
  have HGX := Lib.hid GX
  have HGY := Lib.hid GY
  have HC1 := Lib.hid (fun n (h : scmp x1.data.toList y1.data.toList = n) w => show Calls Tryz.prog 17 #[.string x1, .string y1] w (IntOut n w) by rw [← h]; exact rcompare_any x1 y1 s2 s4 w)
  have HC0 := Lib.hid (fun w => rcompare_any x0 y0 s1 s3 w)
  have hneg1 := scmp_cmp.neg x1.data.toList y1.data.toList
  have hneg0 := scmp_cmp.neg x0.data.toList y0.data.toList
  have e5 : ∀ o', ((w.alloc (.cells #[.string mo, .string go, .slice Q0 n0 D0, .slice Q1 n1 D1, .slice Q2 n2 D2, .slice (some ⟨g, o, none⟩) xs.length C1, .int .i64 3] 76)).alloc o').cell? ⟨w.heap.size, 5, none⟩ = some (.slice (some ⟨g, o, none⟩) xs.length C1) := fun o' => (HG.out.alloc o').cell 5
  have p0 : ((w.alloc (.cells #[.string mo, .string go, .slice Q0 n0 D0, .slice Q1 n1 D1, .slice Q2 n2 D2, .slice (some ⟨g, o, none⟩) xs.length C1, .int .i64 3] 76)).alloc (.cells #[.string x0, .string x1, .string x2] 63)).cell? ⟨g, o + k * 3, none⟩ = some (.string y0) := (((Below.refl _ (w.alloc (.cells #[.string mo, .string go, .slice Q0 n0 D0, .slice Q1 n1 D1, .slice Q2 n2 D2, .slice (some ⟨g, o, none⟩) xs.length C1, .int .i64 3] 76))).alloc (Nat.le_refl _) (.cells #[.string x0, .string x1, .string x2] 63)).cell (p := ⟨g, _, none⟩) hg1).trans r0
  have p1 : ((w.alloc (.cells #[.string mo, .string go, .slice Q0 n0 D0, .slice Q1 n1 D1, .slice Q2 n2 D2, .slice (some ⟨g, o, none⟩) xs.length C1, .int .i64 3] 76)).alloc (.cells #[.string x0, .string x1, .string x2] 63)).cell? ⟨g, o + k * 3 + 1, none⟩ = some (.string y1) := (((Below.refl _ (w.alloc (.cells #[.string mo, .string go, .slice Q0 n0 D0, .slice Q1 n1 D1, .slice Q2 n2 D2, .slice (some ⟨g, o, none⟩) xs.length C1, .int .i64 3] 76))).alloc (Nat.le_refl _) (.cells #[.string x0, .string x1, .string x2] 63)).cell (p := ⟨g, _, none⟩) hg1).trans r1
  have p2 : ((w.alloc (.cells #[.string mo, .string go, .slice Q0 n0 D0, .slice Q1 n1 D1, .slice Q2 n2 D2, .slice (some ⟨g, o, none⟩) xs.length C1, .int .i64 3] 76)).alloc (.cells #[.string x0, .string x1, .string x2] 63)).cell? ⟨g, o + k * 3 + 2, none⟩ = some (.string y2) := (((Below.refl _ (w.alloc (.cells #[.string mo, .string go, .slice Q0 n0 D0, .slice Q1 n1 D1, .slice Q2 n2 D2, .slice (some ⟨g, o, none⟩) xs.length C1, .int .i64 3] 76))).alloc (Nat.le_refl _) (.cells #[.string x0, .string x1, .string x2] 63)).cell (p := ⟨g, _, none⟩) hg1).trans r2
  obtain ⟨n, hn⟩ : ∃ n, scmp x1.data.toList y1.data.toList = n := ⟨_, rfl⟩
  have HN := Lib.hid (HC1.out n hn)
  rw [hn] at hneg1
  have hrc : retC (x0, x1, x2) (y0, y1, y2) = orI (-n) (scmp y0.data.toList x0.data.toList) := by show orI (scmp y1.data.toList x1.data.toList) _ = _; rw [hneg1]
  clear GX GY HC1 r0 r1 r2
  by_cases h1 : 0 < n
  · have HK := Lib.hid (show decide (retC (x0, x1, x2) (y0, y1, y2) < 0) = true by rw [hrc]; unfold orI; rw [if_neg (by omega)]; exact decide_eq_true (by omega))
    clear hrc hneg1 hneg0 hn
    go_enter Tryz.func75, Tryz.ntmps75
    go_wp2_with (go_at_call 17; refine (HN.out _).mono ?_; rintro e w1 ⟨rfl, hb1⟩; have HB3 := Lib.hid (HB2.out.trans (hb1.mono HB2.out.size)); clear hb1)
    go_ret
    exact ⟨ret_bool HK.out.symm, HB3.out⟩
  · by_cases h0 : n = 0
    · subst h0
      have HK := Lib.hid (show decide (retC (x0, x1, x2) (y0, y1, y2) < 0) = decide (0 < scmp x0.data.toList y0.data.toList) by rw [hrc]; unfold orI; rw [if_pos (by omega), hneg0]; exact decide_eq_decide.2 (by omega))
      clear hrc hneg1 hneg0 hn
      go_enter Tryz.func75, Tryz.ntmps75
      go_wp2_with (first
        | (go_at_call 17; have hz := HB3.out; refine (HC0.out _).mono ?_; rintro e w2 ⟨rfl, hb2⟩; have HB4 := Lib.hid (HB3.out.trans (hb2.mono HB3.out.size)); clear hb2 hz)
        | (go_at_call 17; refine (HN.out _).mono ?_; rintro e w1 ⟨rfl, hb1⟩; have HB3 := Lib.hid (HB2.out.trans (hb1.mono HB2.out.size)); have v0 : w1.cell? ⟨(w.alloc (.cells #[.string mo, .string go, .slice Q0 n0 D0, .slice Q1 n1 D1, .slice Q2 n2 D2, .slice (some ⟨g, o, none⟩) xs.length C1, .int .i64 3] 76)).heap.size, 0, none⟩ = some (.string x0) := (HGX.out.below hb1).cell 0; have v1 : w1.cell? ⟨((w.alloc (.cells #[.string mo, .string go, .slice Q0 n0 D0, .slice Q1 n1 D1, .slice Q2 n2 D2, .slice (some ⟨g, o, none⟩) xs.length C1, .int .i64 3] 76)).alloc (.cells #[.string x0, .string x1, .string x2] 63)).heap.size, 0, none⟩ = some (.string y0) := (HGY.out.below hb1).cell 0; simp only [World.size_alloc] at v0 v1; clear hb1))
      go_ret
      exact ⟨ret_bool HK.out.symm, HB4.out⟩
    · have HK := Lib.hid (show decide (retC (x0, x1, x2) (y0, y1, y2) < 0) = false by rw [hrc]; unfold orI; rw [if_neg (by omega)]; exact decide_eq_false (by omega))
      have h0' : (n == 0) = false := by simp [h0]
      clear hrc hneg1 hneg0 hn h0
      go_enter Tryz.func75, Tryz.ntmps75
      go_wp2_with (go_at_call 17; refine (HN.out _).mono ?_; rintro e w1 ⟨rfl, hb1⟩; have HB3 := Lib.hid (HB2.out.trans (hb1.mono HB2.out.size)); clear hb1)
      go_ret
      exact ⟨ret_bool (by rw [HK.out]; exact decide_eq_false (by omega)), HB3.out⟩
end Go.Proofs.YtmdlmjcejeejfaaGreatDoor

/-
  The document's own order of things: their places, as they should stand.
-/
set_option linter.unusedVariables false
namespace Go.Proofs.YtmdlmjcejeejfaaGreatDoor
open Go.RowKit Go.Shelf

def intR : Rec Nat := ⟨1, fun x => [.int .i64 (x : Int)], fun _ => rfl, fun x u hu => by simp at hu; subst hu; rfl, by decide⟩
set_option maxRecDepth 100000 in
theorem intT : RTy Tryz.prog intR 73 3 (.int .i64 0) 8 := ⟨Tryz.underlying73, by kernel_rfl, rfl, by decide⟩
theorem int_at {w : World} {g o : Nat} {zs : List Nat} (h : RAt intR w g o zs) (i : Nat) (hi : i < zs.length) : w.cell? ⟨g, o + i, none⟩ = some (.int .i64 (zs[i] : Int)) := by
  have := h i hi 0 _ rfl
  simpa [intR] using this

theorem RRow.oneBJ {α : Type} {R : Rec α} {w : World} (t : TypeId) (x : α) (cs : Array Value) (h : cs = (R.cells x).toArray) : RRow R (w.alloc (.cells cs t)) (.slice (some ⟨w.heap.size, 0, none⟩) 1 1) [x] := by
  subst h; exact RRow.one w x t
theorem below_zeroNJ (w : World) (n : Nat) : Below w.heap.size w (w.drewN n) := ⟨rfl, rfl, rfl, Nat.le_refl _, fun _ _ => rfl⟩

set_option maxRecDepth 100000 in
set_option maxHeartbeats 4000000 in
theorem order_any (n : Nat) (hn : n ≤ 1000) (c : Nat → Nat → Int) (mo go : ByteArray) (Q0 Q1 Q2 Q3 : Option Addr) (n0 D0 n1 D1 n2 D2 n3 D3 K : Nat) (w : World)
    (hA : ∀ i k (w' : World), i < n → k < n → Below w.heap.size w w' → Calls Tryz.prog 75 #[.agg #[.string mo, .string go, .slice Q0 n0 D0, .slice Q1 n1 D1, .slice Q2 n2 D2, .slice Q3 n3 D3, .int .i64 K], .int .i64 i, .int .i64 k] w' fun e w2 => e = .returned (.bool (decide (c i k < 0))) ∧ Below w'.heap.size w' w2) :
    Calls Tryz.prog 32 #[.int .i64 n, .agg #[.string mo, .string go, .slice Q0 n0 D0, .slice Q1 n1 D1, .slice Q2 n2 D2, .slice Q3 n3 D3, .int .i64 K]] w fun e w' => ∃ A cp, e = .returned (.slice A (sortC c (List.range n)).length cp) ∧ ROwn intR 3 w' w.heap.size (.slice A (sortC c (List.range n)).length cp) (sortC c (List.range n)) ∧ Below w.heap.size w w' := by
  have HA := Lib.hid hA
  have HG := Lib.hid (GBlk.new w 76 #[.string mo, .string go, .slice Q0 n0 D0, .slice Q1 n1 D1, .slice Q2 n2 D2, .slice Q3 n3 D3, .int .i64 K])
  have HB0 := Lib.hid ((Below.refl w.heap.size w).alloc (Nat.le_refl _) (.cells #[.string mo, .string go, .slice Q0 n0 D0, .slice Q1 n1 D1, .slice Q2 n2 D2, .slice Q3 n3 D3, .int .i64 K] 76))
  have HR0 := Lib.hid ((RAcc.start (R := intR) (et := 3) (w.alloc (.cells #[.string mo, .string go, .slice Q0 n0 D0, .slice Q1 n1 D1, .slice Q2 n2 D2, .slice Q3 n3 D3, .int .i64 K] 76))).since HB0.out)
  have HG0 := Lib.hid ((GBlk.new w 76 #[.string mo, .string go, .slice Q0 n0 D0, .slice Q1 n1 D1, .slice Q2 n2 D2, .slice Q3 n3 D3, .int .i64 K]).alloc (.cells #[] 3))
  have hz0 : (w.alloc (.cells #[.string mo, .string go, .slice Q0 n0 D0, .slice Q1 n1 D1, .slice Q2 n2 D2, .slice Q3 n3 D3, .int .i64 K] 76)).heap.size = w.heap.size + 1 := by simp
  rw [hz0] at HR0
  clear hA
  go_enter Tryz.func32, Tryz.ntmps32
  go_wp2
  go_loopw [5, 6] (fun ov iv wr => ∃ (i : Nat) (out : List Nat) (A : Option Addr) (c' : Nat), i ≤ n ∧ iv = .int .i64 i ∧ ov = .slice A out.length c' ∧ out = sortC c ((List.range n).take i) ∧ RAcc intR 3 w wr (.slice A out.length c') out ∧ GBlk wr w.heap.size 76 #[.string mo, .string go, .slice Q0 n0 D0, .slice Q1 n1 D1, .slice Q2 n2 D2, .slice Q3 n3 D3, .int .i64 K])
    (fun _ iv _ => n - (intOf iv).toNat)
  case atStart => exact ⟨0, [], _, 0, Nat.zero_le _, rfl, rfl, rfl, HR0.out, HG0.out⟩
  case round =>
    obtain ⟨i, out, A, c', hin, rfl, rfl, hL, hacO, hgk⟩ := hrel
    obtain ⟨wo, hwo⟩ : ∃ wo, wo = wr := ⟨_, rfl⟩
    subst hwo
    have hol : out.length ≤ 1000 := by rw [hL, (sortC_perm (c := c) (List.range n) i (by simpa using hin)).length_eq]; simp; omega
    have hso : ∀ x ∈ out, x < n := fun x hx => by
      have := (sortC_perm (c := c) (List.range n) i (by simpa using hin)).mem_iff.1 (by rw [← hL]; exact hx)
      exact List.mem_range.1 (List.mem_of_mem_take this)
    have HL := Lib.hid hL
    have HR := Lib.hid hacO.own.row
    have HRo := Lib.hid hacO
    have HSo := Lib.hid hso
    have HGk := Lib.hid hgk
    have HB := Lib.hid hacO.below
    clear hL hacO hso hgk
    by_cases hi : i < n
    · have HN := Lib.hid (show sortC c ((List.range n).take (i + 1)) = insC c i (sortC c ((List.range n).take i)) by have := sortC_snoc (c := c) (l := List.range n) (k := i) (by simpa using hi); rwa [List.getElem_range] at this)
      have ix : (i : Int) < (n : Int) := by omega
      go_wp2
      go_loopw [7, 8, 9] (fun nv dn jv wi => ∃ (k : Nat) (b : Bool) (acc : List Nat) (A' : Option Addr) (c1 : Nat), k ≤ out.length ∧ jv = .int .i64 k ∧ dn = .bool b ∧ nv = .slice A' acc.length c1 ∧ IC c out i k b acc ∧ RAcc intR 3 wo wi (.slice A' acc.length c1) acc)
        (fun _ _ jv _ => out.length - (intOf jv).toNat)
      case atStart => exact ⟨0, false, [], _, 0, Nat.zero_le _, rfl, rfl, rfl, IC.start _ _, RAcc.start wo⟩
      case round =>
        obtain ⟨k, b, acc, A', c1, hk, rfl, rfl, rfl, hib, hacc⟩ := hrel
        have hal := hib.len
        have HI := Lib.hid hib
        clear hib
        have hbw := HB.out.trans (hacc.below.mono HB.out.size)
        have hgk := HGk.out.below hacc.below
        by_cases hkl : k < out.length
        · obtain ⟨a2, c2, e2, hl2, hcl2⟩ := HR.out
          cases e2
          obtain ⟨g2, o2, rfl, hg2, hcell2⟩ := hcl2 (ne_nilJ hkl)
          have e1 := int_at hcell2 k hkl
          have hx := HSo.out _ (List.getElem_mem hkl)
          have HQ2 := Lib.hid (fun w' (h : Below wo.heap.size wo w') => (h.cell (p := ⟨g2, _, none⟩) hg2).trans e1)
          have q1 := HQ2.out _ hacc.below
          have ik0 : (0 : Int) ≤ (k : Int) := by omega
          have ik1 : (k : Int) < (out.length : Int) := by omega
          have hg2i := Nat.lt_of_lt_of_le hg2 hacc.below.size
          clear hcell2 hcl2 e1
          cases b
          · by_cases hcm : c i out[k] < 0
            · have HO := Lib.hid (HI.out.hit hkl hcm)
              have hdc : decide (c i out[k] < 0) = true := decide_eq_true hcm
              have HDc := Lib.hid hdc
              clear hcm hdc
              generalize out[k] = x at *
              have L0 := Lib.hid (show ∀ w', Below wr.heap.size wr w' → w'.cell? ⟨w.heap.size, 0, none⟩ = some (.string mo) ∧ w'.cell? ⟨w.heap.size, 1, none⟩ = some (.string go) ∧ w'.cell? ⟨w.heap.size, 2, none⟩ = some (.slice Q0 n0 D0) ∧ w'.cell? ⟨w.heap.size, 3, none⟩ = some (.slice Q1 n1 D1) ∧ w'.cell? ⟨w.heap.size, 4, none⟩ = some (.slice Q2 n2 D2) ∧ w'.cell? ⟨w.heap.size, 5, none⟩ = some (.slice Q3 n3 D3) ∧ w'.cell? ⟨w.heap.size, 6, none⟩ = some (.int .i64 K) ∧ w'.cell? ⟨g2, o2 + k, none⟩ = some (.int .i64 (x : Int)) from fun w' h => ⟨(hgk.below h).cell 0, (hgk.below h).cell 1, (hgk.below h).cell 2, (hgk.below h).cell 3, (hgk.below h).cell 4, (hgk.below h).cell 5, (hgk.below h).cell 6, (h.cell (p := ⟨g2, _, none⟩) hg2i).trans q1⟩)
              have K0 := Lib.hid (L0.out wr.drew (below_drewN (Below.refl _ _) 1))
              have HA75 := Lib.hid (fun w' (h : Below w.heap.size w w') => (show Calls Tryz.prog 75 #[.agg #[.string mo, .string go, .slice Q0 n0 D0, .slice Q1 n1 D1, .slice Q2 n2 D2, .slice Q3 n3 D3, .int .i64 K], .int .i64 i, .int .i64 x] w' fun e w2 => e = .returned (.bool true) ∧ Below w'.heap.size w' w2 by rw [← HDc.out]; exact HA.out i x w' hi hx h))
              clear q1 hgk
              go_wp2
              go_region_held3 (fun w' => w'.cell? ⟨w.heap.size, 0, none⟩ = some (.string mo) ∧ w'.cell? ⟨w.heap.size, 1, none⟩ = some (.string go) ∧ w'.cell? ⟨w.heap.size, 2, none⟩ = some (.slice Q0 n0 D0) ∧ w'.cell? ⟨w.heap.size, 3, none⟩ = some (.slice Q1 n1 D1) ∧ w'.cell? ⟨w.heap.size, 4, none⟩ = some (.slice Q2 n2 D2) ∧ w'.cell? ⟨w.heap.size, 5, none⟩ = some (.slice Q3 n3 D3) ∧ w'.cell? ⟨w.heap.size, 6, none⟩ = some (.int .i64 K) ∧ w'.cell? ⟨g2, o2 + k, none⟩ = some (.int .i64 (x : Int)))
                (first | with_reducible exact K2.out | with_reducible exact K0.out | go_keep)
                (first | (go_at_call 75; refine (HA75.out _ (below_drewN hbw 1)).mono ?_; rintro e w2 ⟨rfl, hb2'⟩; have hb2 := below_drewN' (n := 1) hb2'; have K2 := Lib.hid (L0.out _ hb2)))
              rename_i hheld
              clear hheld K2 hb2'
              have hacc2 := hacc.call hb2
              have s1 := HQ2.out _ hacc2.below
              clear hb2
              go_wp2_with (first | (at_builtin; refine wpList_racc intT rfl _ _ rfl (hacc3.alloc _) rfl (RRow.oneBJ (R := intR) 3 x #[.int .i64 (x : Nat)] rfl) rfl (by simp; omega) ?_; intro A4 c4 acc4 w4 hgr; have hlen4 := hgr.len; (simp only [List.length_cons, List.length_nil] at hlen4); have hacc4 := hgr.acc; have HL4 := Lib.hid hgr.list; clear hgr) | (at_builtin; refine wpList_racc intT rfl _ _ rfl (hacc2.alloc _) rfl (RRow.oneBJ (R := intR) 3 i #[.int .i64 (i : Nat)] rfl) rfl (by simp; omega) ?_; intro A3 c3 acc3 w3 hgr; have hlen3 := hgr.len; (simp only [List.length_cons, List.length_nil] at hlen3); have hacc3 := hgr.acc; have HL3 := Lib.hid hgr.list; clear hgr; have s1 := HQ2.out _ hacc3.below))
              go_roundw
              case rel => exact ⟨k + 1, true, acc4, A4, c4, by omega, by go_num, rfl, rfl, by rw [HL4.out, HL3.out]; exact HO.out, hacc4⟩
              case measure => simp [intOf]; omega
            · have HO := Lib.hid (HI.out.pass hkl hcm)
              have HDc := Lib.hid (show decide (c i out[k] < 0) = false from decide_eq_false hcm)
              clear hcm
              generalize out[k] = x at *
              have L0 := Lib.hid (show ∀ w', Below wr.heap.size wr w' → w'.cell? ⟨w.heap.size, 0, none⟩ = some (.string mo) ∧ w'.cell? ⟨w.heap.size, 1, none⟩ = some (.string go) ∧ w'.cell? ⟨w.heap.size, 2, none⟩ = some (.slice Q0 n0 D0) ∧ w'.cell? ⟨w.heap.size, 3, none⟩ = some (.slice Q1 n1 D1) ∧ w'.cell? ⟨w.heap.size, 4, none⟩ = some (.slice Q2 n2 D2) ∧ w'.cell? ⟨w.heap.size, 5, none⟩ = some (.slice Q3 n3 D3) ∧ w'.cell? ⟨w.heap.size, 6, none⟩ = some (.int .i64 K) ∧ w'.cell? ⟨g2, o2 + k, none⟩ = some (.int .i64 (x : Int)) from fun w' h => ⟨(hgk.below h).cell 0, (hgk.below h).cell 1, (hgk.below h).cell 2, (hgk.below h).cell 3, (hgk.below h).cell 4, (hgk.below h).cell 5, (hgk.below h).cell 6, (h.cell (p := ⟨g2, _, none⟩) hg2i).trans q1⟩)
              have K0 := Lib.hid (L0.out wr.drew (below_drewN (Below.refl _ _) 1))
              have HA75 := Lib.hid (fun w' (h : Below w.heap.size w w') => (show Calls Tryz.prog 75 #[.agg #[.string mo, .string go, .slice Q0 n0 D0, .slice Q1 n1 D1, .slice Q2 n2 D2, .slice Q3 n3 D3, .int .i64 K], .int .i64 i, .int .i64 x] w' fun e w2 => e = .returned (.bool false) ∧ Below w'.heap.size w' w2 by rw [← HDc.out]; exact HA.out i x w' hi hx h))
              clear q1 hgk
              go_wp2
              go_region_held3 (fun w' => w'.cell? ⟨w.heap.size, 0, none⟩ = some (.string mo) ∧ w'.cell? ⟨w.heap.size, 1, none⟩ = some (.string go) ∧ w'.cell? ⟨w.heap.size, 2, none⟩ = some (.slice Q0 n0 D0) ∧ w'.cell? ⟨w.heap.size, 3, none⟩ = some (.slice Q1 n1 D1) ∧ w'.cell? ⟨w.heap.size, 4, none⟩ = some (.slice Q2 n2 D2) ∧ w'.cell? ⟨w.heap.size, 5, none⟩ = some (.slice Q3 n3 D3) ∧ w'.cell? ⟨w.heap.size, 6, none⟩ = some (.int .i64 K) ∧ w'.cell? ⟨g2, o2 + k, none⟩ = some (.int .i64 (x : Int)))
                (first | with_reducible exact K2.out | with_reducible exact K0.out | go_keep)
                (first | (go_at_call 75; refine (HA75.out _ (below_drewN hbw 1)).mono ?_; rintro e w2 ⟨rfl, hb2'⟩; have hb2 := below_drewN' (n := 1) hb2'; have K2 := Lib.hid (L0.out _ hb2)))
              rename_i hheld
              clear hheld K2 hb2'
              have hacc2 := hacc.call hb2
              have s1 := HQ2.out _ hacc2.below
              clear hb2
              go_wp2_with (at_builtin; refine wpList_racc intT rfl _ _ rfl (hacc2.alloc _) rfl (RRow.oneBJ (R := intR) 3 x #[.int .i64 (x : Nat)] rfl) rfl (by simp; omega) ?_; intro A3 c3 acc3 w3 hgr; have hlen3 := hgr.len; (simp only [List.length_cons, List.length_nil] at hlen3); have hacc3 := hgr.acc; have HL3 := Lib.hid hgr.list; clear hgr)
              go_roundw
              case rel => exact ⟨k + 1, false, acc3, A3, c3, by omega, by go_num, rfl, rfl, by rw [HL3.out]; exact HO.out, hacc3⟩
              case measure => simp [intOf]; omega
          · have HO := Lib.hid (HI.out.on hkl)
            clear hgk
            generalize out[k] = x at *
            go_wp2
            go_quiet (fail)
            go_wp2_with (at_builtin; refine wpList_racc intT rfl _ _ rfl ((hacc.call (below_zeroNJ _ _)).alloc _) rfl (RRow.oneBJ (R := intR) 3 x #[.int .i64 (x : Nat)] rfl) rfl (by simp; omega) ?_; intro A3 c3 acc3 w3 hgr; have hlen3 := hgr.len; (simp only [List.length_cons, List.length_nil] at hlen3); have hacc3 := hgr.acc; have HL3 := Lib.hid hgr.list; clear hgr)
            go_roundw
            case rel => exact ⟨k + 1, true, acc3, A3, c3, by omega, by go_num, rfl, rfl, by rw [HL3.out]; exact HO.out, hacc3⟩
            case measure => simp [intOf]; omega
        · have hke : out.length ≤ k := by omega
          cases b
          · have HD := Lib.hid (HI.out.last hke)
            go_wp2_with (at_builtin; refine wpList_racc intT rfl _ _ rfl (hacc.alloc _) rfl (RRow.oneBJ (R := intR) 3 i #[.int .i64 (i : Nat)] rfl) rfl (by simp; omega) ?_; intro A3 c3 acc3 w3 hgr; have hlen3 := hgr.len; (simp only [List.length_cons, List.length_nil] at hlen3); have hacc3 := hgr.acc; have HL3 := Lib.hid hgr.list; clear hgr)
            go_roundw
            case rel => exact ⟨i + 1, acc3, A3, c3, by omega, by go_num, rfl, by rw [HL3.out, HD.out, HN.out, HL.out], hacc3.since HB.out, HGk.out.below hacc3.below⟩
            case measure => simp [intOf]; omega
          · have HD := Lib.hid (HI.out.done hke)
            go_wp2
            go_roundw
            case rel => exact ⟨i + 1, acc, A', c1, by omega, by go_num, rfl, by rw [HD.out, HN.out, HL.out], hacc.since HB.out, HGk.out.below hacc.below⟩
            case measure => simp [intOf]; omega
    · have HE := Lib.hid (show out = sortC c (List.range n) by rw [HL.out, List.take_of_length_le (by simp; omega)])
      go_wp2
      go_ret
      rw [← HE.out]
      exact ⟨A, c', rfl, HRo.out.own, HB.out⟩
end Go.Proofs.YtmdlmjcejeejfaaGreatDoor

/-
  The document's own Sort of a file.
-/
set_option linter.unusedVariables false
namespace Go.Proofs.YtmdlmjcejeejfaaGreatDoor
open Go.RowKit Go.Shelf

section
variable {α β : Type} {c : β → β → Int} (f : α → β)
theorem insC_map (x : α) : ∀ l : List α, (insC (fun i j => c (f i) (f j)) x l).map f = insC c (f x) (l.map f)
  | [] => rfl
  | y :: r => by
    unfold insC
    rw [List.map_cons]
    show _ = if c (f x) (f y) < 0 then f x :: f y :: r.map f else f y :: insC c (f x) (r.map f)
    split
    · rfl
    · rw [List.map_cons, insC_map x r]
theorem sortC_map (l : List α) : (sortC (fun i j => c (f i) (f j)) l).map f = sortC c (l.map f) := by
  unfold sortC
  have key : ∀ (l a : List α), (l.foldl (fun acc x => insC (fun i j => c (f i) (f j)) x acc) a).map f = (l.map f).foldl (fun acc x => insC c x acc) (a.map f) := by
    intro l
    induction l with
    | nil => intro a; rfl
    | cons x l ih => intro a; rw [List.foldl_cons, ih, insC_map, List.map_cons, List.foldl_cons]
  exact key l []
end
/-- The places of a list, as its things should stand. -/
def places {α : Type} [Inhabited α] (c : α → α → Int) (xs : List α) : List Nat := sortC (fun i j => c (xs.getD i default) (xs.getD j default)) (List.range xs.length)
theorem places_map {α : Type} [Inhabited α] (c : α → α → Int) (xs : List α) : (places c xs).map (fun i => xs.getD i default) = sortC c xs := by
  unfold places
  rw [sortC_map (fun i => xs.getD i default)]
  congr 1
  refine List.ext_getElem (by simp) fun i h1 h2 => ?_
  simp at h1
  simp [List.getD_eq_getElem?_getD, h2]
theorem places_len {α : Type} [Inhabited α] (c : α → α → Int) (xs : List α) : (places c xs).length = xs.length := by
  have := congrArg List.length (places_map c xs)
  rw [List.length_map] at this
  rw [this]
  have := (sortC_perm (c := c) xs xs.length (Nat.le_refl _)).length_eq
  rwa [List.take_length] at this
theorem places_lt {α : Type} [Inhabited α] (c : α → α → Int) (xs : List α) (i : Nat) (h : i ∈ places c xs) : i < xs.length := by
  unfold places at h
  have := (sortC_perm (c := fun i j => c (xs.getD i default) (xs.getD j default)) (List.range xs.length) (List.range xs.length).length (Nat.le_refl _)).mem_iff.1 (by rw [List.take_length]; exact h)
  rw [List.take_length] at this
  exact List.mem_range.1 this
theorem getD_at {α : Type} [Inhabited α] {xs : List α} {i : Nat} (h : i < xs.length) : xs.getD i default = xs[i] := by simp [List.getD_eq_getElem?_getD, h]
/-- How far the things have been put in order. -/
def PutTo {α : Type} [Inhabited α] (xs : List α) (L : List Nat) (k : Nat) (acc : List α) : Prop := acc = (L.take k).map (fun i => xs.getD i default)
theorem PutTo.next {α : Type} [Inhabited α] {xs : List α} {L : List Nat} {k : Nat} {acc : List α} (h : PutTo xs L k acc) (hk : k < L.length) (hx : L[k] < xs.length) : PutTo xs L (k + 1) (acc ++ [xs[L[k]]]) := by
  unfold PutTo at h ⊢
  rw [h, List.take_succ_eq_append_getElem hk, List.map_append, List.map_cons, List.map_nil, getD_at hx]
theorem PutTo.len {α : Type} [Inhabited α] {xs : List α} {L : List Nat} {k : Nat} {acc : List α} (h : PutTo xs L k acc) : acc.length ≤ k := by
  rw [h, List.length_map, List.length_take]; omega

set_option maxRecDepth 100000 in
set_option maxHeartbeats 16000000 in
theorem rsort_any (f : FileG) (n1 : f.reqs.length ≤ 1000) (n2 : f.reps.length ≤ 1000) (n3 : f.excs.length ≤ 1000) (n4 : f.rets.length ≤ 1000) (hT : Tidy f) (a b c d : Value) (w : World) (hF : FileAt w a b c d f) :
    Calls Tryz.prog 12 #[.agg #[.string f.mo, .string f.go, a, b, c, d]] w (FileOut (sortG f) a b c d w) := by
  obtain ⟨mo, go, reqs, reps, excs, rets⟩ := f
  obtain ⟨hr, hp, hx, ht⟩ := hF
  obtain ⟨t1, t2, t3, t4⟩ := hT
  dsimp only at *
  obtain ⟨ra, rc, rfl⟩ := hr.form
  obtain ⟨pa, pc, rfl⟩ := hp.form
  obtain ⟨xa, xc, rfl⟩ := hx.form
  obtain ⟨ta, tc, rfl⟩ := ht.form
  have hb0 := (Below.refl w.heap.size w).alloc (Nat.le_refl _) (.cells #[.string mo, .string go, .slice ra reqs.length rc, .slice pa reps.length pc, .slice xa excs.length xc, .slice ta rets.length tc] 35)
  have HR := Lib.hid (hr.below hb0)
  have HP := Lib.hid (hp.below hb0)
  have HX := Lib.hid (hx.below hb0)
  have HT := Lib.hid (ht.below hb0)
  have HT1 := Lib.hid t1
  have HT2 := Lib.hid t2
  have HT3 := Lib.hid t3
  have HT4 := Lib.hid t4
  have HA := Lib.hid (GBlk.new w 35 #[.string mo, .string go, .slice ra reqs.length rc, .slice pa reps.length pc, .slice xa excs.length xc, .slice ta rets.length tc])
  have HP1 := Lib.hid (places_map reqC reqs)
  have HP2 := Lib.hid (places_map repC reps)
  have HP3 := Lib.hid (places_map modCmp excs)
  have HP4 := Lib.hid (places_map retC rets)
  clear hr hp hx ht t1 t2 t3 t4
  have hz1 : (w.alloc (.cells #[.string mo, .string go, .slice ra reqs.length rc, .slice pa reps.length pc, .slice xa excs.length xc, .slice ta rets.length tc] 35)).heap.size = w.heap.size + 1 := by simp
  go_enter Tryz.func12, Tryz.ntmps12
  go_wp2_with fail
  generalize w.alloc (.cells #[.string mo, .string go, .slice ra reqs.length rc, .slice pa reps.length pc, .slice xa excs.length xc, .slice ta rets.length tc] 35) = W at *
  have HS := Lib.hid hz1
  have HS1 := Lib.hid (show W.heap.size ≤ w.heap.size + 1 + 1 by omega)
  have hG0 : GBlk ((W.alloc (.cells #[.string ⟨#[]⟩, .string ⟨#[]⟩, .slice none 0 0, .slice none 0 0, .slice none 0 0, .slice none 0 0] 35)).alloc (.cells #[.string mo, .string go, .slice none 0 0, .slice none 0 0, .slice none 0 0, .slice none 0 0] 35)) (w.heap.size + 1) 35 #[.string ⟨#[]⟩, .string ⟨#[]⟩, .slice none 0 0, .slice none 0 0, .slice none 0 0, .slice none 0 0] := by
    have := (GBlk.new W 35 #[.string ⟨#[]⟩, .string ⟨#[]⟩, .slice none 0 0, .slice none 0 0, .slice none 0 0, .slice none 0 0]).alloc (.cells #[.string mo, .string go, .slice none 0 0, .slice none 0 0, .slice none 0 0, .slice none 0 0] 35)
    rwa [hz1] at this
  have hG1 : GBlk ((W.alloc (.cells #[.string ⟨#[]⟩, .string ⟨#[]⟩, .slice none 0 0, .slice none 0 0, .slice none 0 0, .slice none 0 0] 35)).alloc (.cells #[.string mo, .string go, .slice none 0 0, .slice none 0 0, .slice none 0 0, .slice none 0 0] 35)) (w.heap.size + 1 + 1) 35 #[.string mo, .string go, .slice none 0 0, .slice none 0 0, .slice none 0 0, .slice none 0 0] := by
    have := GBlk.new (W.alloc (.cells #[.string ⟨#[]⟩, .string ⟨#[]⟩, .slice none 0 0, .slice none 0 0, .slice none 0 0, .slice none 0 0] 35)) 35 #[.string mo, .string go, .slice none 0 0, .slice none 0 0, .slice none 0 0, .slice none 0 0]
    rwa [World.size_alloc, hz1] at this
  have hBw : Below W.heap.size W ((W.alloc (.cells #[.string ⟨#[]⟩, .string ⟨#[]⟩, .slice none 0 0, .slice none 0 0, .slice none 0 0, .slice none 0 0] 35)).alloc (.cells #[.string mo, .string go, .slice none 0 0, .slice none 0 0, .slice none 0 0, .slice none 0 0] 35)) := ((Below.refl _ _).alloc (Nat.le_refl _) _).alloc (by simp) _
  generalize ((W.alloc (.cells #[.string ⟨#[]⟩, .string ⟨#[]⟩, .slice none 0 0, .slice none 0 0, .slice none 0 0, .slice none 0 0] 35)).alloc (.cells #[.string mo, .string go, .slice none 0 0, .slice none 0 0, .slice none 0 0, .slice none 0 0] 35)) = w2 at *
  clear hz1
  have HA1 := Lib.hid (fun (i k : Nat) w' (hi : i < reqs.length) (hk : k < reqs.length) (h : Below W.heap.size W w') => ahead0_any mo go (.slice ra reqs.length rc) reqs pa reps.length pc xa excs.length xc ta rets.length tc i k w' (HR.out.below h) hi hk HT1.out n1)
  refine (order_any reqs.length n1 (fun i j => reqC (reqs.getD i default) (reqs.getD j default)) mo go ra pa xa ta _ _ _ _ _ _ _ _ 0 w2 (fun i k w' hi hk h => by have := HA1.out i k w' hi hk (hBw.trans (h.mono hBw.size)); rw [← getD_at hi, ← getD_at hk] at this; exact this)).mono ?_
  rintro _ w3 ⟨LA0, lc0, rfl, hLo, hb3⟩
  have hLp : places reqC reqs = sortC (fun i j => reqC (reqs.getD i default) (reqs.getD j default)) (List.range reqs.length) := rfl
  generalize hgl : sortC (fun i j => reqC (reqs.getD i default) (reqs.getD j default)) (List.range reqs.length) = L0 at *
  clear hgl
  have HLp0 := Lib.hid hLp
  have HLt0 := Lib.hid (fun i (h : i ∈ L0) => places_lt reqC reqs i (by rw [hLp]; exact h))
  have HLl0 := Lib.hid (show L0.length ≤ 1000 by rw [← hLp, places_len]; exact n1)
  replace hG0 := hG0.below hb3
  replace hG1 := hG1.below hb3
  have hBw3 := hBw.trans (hb3.mono hBw.size)
  have haL : RAcc intR 3 W w3 (.slice LA0 L0.length lc0) L0 := ⟨hLo.lowerJ hBw.size, hBw3⟩
  clear hb3 hLo hLp hBw
  go_wp2
  go_loopw [5] (fun i wr => ∃ (k : Nat) (acc : List ReqB) (B0 : Option Addr) (e0 : Nat), k ≤ L0.length ∧ i = .int .i64 k ∧ PutTo reqs L0 k acc ∧ GBlk wr (w.heap.size + 1) 35 #[.string ⟨#[]⟩, .string ⟨#[]⟩, .slice none 0 0, .slice none 0 0, .slice none 0 0, .slice none 0 0] ∧ GBlk wr (w.heap.size + 1 + 1) 35 #[.string mo, .string go, .slice B0 acc.length e0, .slice none 0 0, .slice none 0 0, .slice none 0 0] ∧ RAcc reqR 61 W wr (.slice B0 acc.length e0) acc ∧ RAcc intR 3 W wr (.slice LA0 L0.length lc0) L0) (fun i _ => L0.length - (intOf i).toNat)
  case atStart => exact ⟨0, [], none, 0, Nat.zero_le _, rfl, rfl, hG0, hG1, ⟨ROwn.nil _ _, hBw3⟩, haL⟩
  case round =>
    clear hG0 hG1 hBw3 haL 
    obtain ⟨k, acc, B0, e0, hk, rfl, hL, hG0, hG1, hacc, haL⟩ := hrel
    have HL := Lib.hid hL
    have hal := hL.len
    have hll := HLl0.out
    clear hL
    have u0 : wr.cell? ⟨w.heap.size, 2, none⟩ = some (.slice ra reqs.length rc) := (HA.out.below hacc.below).cell 2
    by_cases hlt : k < L0.length
    · have hmx := HLt0.out _ (List.getElem_mem hlt)
      have HN := Lib.hid (HL.out.next hlt hmx)
      obtain ⟨-, hcapL, hspL⟩ := haL.own.row.spot
      obtain ⟨gl, ol, rfl, hgl, hatL⟩ := hspL (ne_of_lt hlt)
      have ql := int_at hatL k hlt
      obtain ⟨-, hcap, hsp⟩ := (HR.out.below hacc.below).spot
      obtain ⟨g, o, rfl, hg, hat⟩ := hsp (ne_of_lt hmx)
      obtain ⟨q1, q2, q3⟩ := req_at hat _ hmx
      clear hat hsp hatL hspL
      generalize hxx : reqs[L0[k]] = x at *
      clear hxx
      generalize L0[k] = m at *
      obtain ⟨⟨p, v⟩, bb⟩ := x
      dsimp only at q1 q2 q3
      have i0 : (0 : Int) ≤ (k : Int) := by omega
      have i1 : (k : Int) < (L0.length : Int) := by omega
      have j0 : (0 : Int) ≤ (m : Int) := by omega
      have j1 : (m : Int) < (reqs.length : Int) := by omega
      have g2 : wr.cell? ⟨w.heap.size + 1 + 1, 2, none⟩ = some (.slice B0 acc.length e0) := hG1.cell 2
      have ma : ∀ o, (wr.alloc o).cell? ⟨w.heap.size + 1 + 1, 2, none⟩ = some (.slice B0 acc.length e0) := fun o => (hG1.alloc o).cell 2
      go_wp2
      go_region_law (refine step_racc reqT rfl _ _ rfl (hacc.alloc _).drew rfl (RRow.oneE _ ((p, v), bb) _ _ (by simp) rfl) rfl (by simp; omega) ?_; intro A4 c4 acc4 w4 hgr; have hG04 := (hG0.alloc _).drew.grew (hacc.alloc _).drew.own hgr (by decide); have hG14 := (hG1.alloc _).drew.grew (hacc.alloc _).drew.own hgr (by decide); have hqL := (haL.alloc _).drew.other (hacc.alloc _).drew.own hgr (by decide); have kc : w4.cell? ⟨w.heap.size + 1 + 1, 2, none⟩ = some (.slice B0 acc.length e0) := hG14.cell 2; have kf := hG14.frozen 2; have hacc4 := hgr.acc; have HL4 := Lib.hid hgr.list; clear hgr)
      all_goals
        go_wp2
        go_roundw
        case rel => exact ⟨k + 1, acc4, A4, c4, by omega, by go_num, (by rw [HL4.out]; exact HN.out), hG04.setOther (by omega), hG14.set 2 _, hacc4.set hG14 (by decide) HS1.out, hqL.set hG14 (by decide) HS1.out⟩
        case measure => simp [intOf]; omega
    · obtain rfl : k = L0.length := by omega
      have hacq : acc = sortC reqC reqs := by
        have h := HL.out
        unfold PutTo at h
        rw [h, List.take_length, ← HLp0.out, HP1.out]
      subst hacq
      clear HL hal u0 haL hll hlt hk
      have hacc0 := hacc
      clear hacc
      have u0 : wr.cell? ⟨w.heap.size, 0, none⟩ = some (.string mo) := (HA.out.below hacc0.below).cell 0
      have u1 : wr.cell? ⟨w.heap.size, 1, none⟩ = some (.string go) := (HA.out.below hacc0.below).cell 1
      have u2 : wr.cell? ⟨w.heap.size, 2, none⟩ = some (.slice ra reqs.length rc) := (HA.out.below hacc0.below).cell 2
      have u3 : wr.cell? ⟨w.heap.size, 3, none⟩ = some (.slice pa reps.length pc) := (HA.out.below hacc0.below).cell 3
      have u4 : wr.cell? ⟨w.heap.size, 4, none⟩ = some (.slice xa excs.length xc) := (HA.out.below hacc0.below).cell 4
      have u5 : wr.cell? ⟨w.heap.size, 5, none⟩ = some (.slice ta rets.length tc) := (HA.out.below hacc0.below).cell 5
      have hBw := hacc0.below
      go_wp2_with fail
      clear u0 u1 u2 u3 u4 u5
      obtain ⟨z0, hz0⟩ : ∃ v, v = wr := ⟨_, rfl⟩
      subst hz0
      have HA2 := Lib.hid (fun (i k : Nat) w' (hi : i < reps.length) (hk : k < reps.length) (h : Below W.heap.size W w') => ahead1_any mo go (.slice pa reps.length pc) reps ra reqs.length rc xa excs.length xc ta rets.length tc i k w' (HP.out.below h) hi hk HT2.out n2)
      refine (order_any reps.length n2 (fun i j => repC (reps.getD i default) (reps.getD j default)) mo go ra pa xa ta _ _ _ _ _ _ _ _ 1 z0 (fun i k w' hi hk h => by have := HA2.out i k w' hi hk (hBw.trans (h.mono hBw.size)); rw [← getD_at hi, ← getD_at hk] at this; exact this)).mono ?_
      rintro _ w4 ⟨LA1, lc1, rfl, hLo, hb3⟩
      have hLp : places repC reps = sortC (fun i j => repC (reps.getD i default) (reps.getD j default)) (List.range reps.length) := rfl
      generalize hgl : sortC (fun i j => repC (reps.getD i default) (reps.getD j default)) (List.range reps.length) = L1 at *
      clear hgl
      have HLp1 := Lib.hid hLp
      have HLt1 := Lib.hid (fun i (h : i ∈ L1) => places_lt repC reps i (by rw [hLp]; exact h))
      have HLl1 := Lib.hid (show L1.length ≤ 1000 by rw [← hLp, places_len]; exact n2)
      replace hG0 := hG0.below hb3
      replace hG1 := hG1.below hb3
      have hBw3 := hBw.trans (hb3.mono hBw.size)
      replace hacc0 := hacc0.call hb3
      have haL : RAcc intR 3 W w4 (.slice LA1 L1.length lc1) L1 := ⟨hLo.lowerJ hBw.size, hBw3⟩
      clear hb3 hLo hLp hBw
      go_wp2
      go_loopw [6] (fun i wr => ∃ (k : Nat) (acc : List RepB) (B1 : Option Addr) (e1 : Nat), k ≤ L1.length ∧ i = .int .i64 k ∧ PutTo reps L1 k acc ∧ GBlk wr (w.heap.size + 1) 35 #[.string ⟨#[]⟩, .string ⟨#[]⟩, .slice none 0 0, .slice none 0 0, .slice none 0 0, .slice none 0 0] ∧ GBlk wr (w.heap.size + 1 + 1) 35 #[.string mo, .string go, .slice B0 (sortC reqC reqs).length e0, .slice B1 acc.length e1, .slice none 0 0, .slice none 0 0] ∧ RAcc reqR 61 W wr (.slice B0 (sortC reqC reqs).length e0) (sortC reqC reqs) ∧ RAcc repR 62 W wr (.slice B1 acc.length e1) acc ∧ RAcc intR 3 W wr (.slice LA1 L1.length lc1) L1) (fun i _ => L1.length - (intOf i).toNat)
      case atStart => exact ⟨0, [], none, 0, Nat.zero_le _, rfl, rfl, hG0, hG1, hacc0, ⟨ROwn.nil _ _, hBw3⟩, haL⟩
      case round =>
        clear hG0 hG1 hBw3 haL hacc0
        obtain ⟨k, acc, B1, e1, hk, rfl, hL, hG0, hG1, hacc0, hacc, haL⟩ := hrel
        have HL := Lib.hid hL
        have hal := hL.len
        have hll := HLl1.out
        clear hL
        have u0 : wr.cell? ⟨w.heap.size, 3, none⟩ = some (.slice pa reps.length pc) := (HA.out.below hacc.below).cell 3
        by_cases hlt : k < L1.length
        · have hmx := HLt1.out _ (List.getElem_mem hlt)
          have HN := Lib.hid (HL.out.next hlt hmx)
          obtain ⟨-, hcapL, hspL⟩ := haL.own.row.spot
          obtain ⟨gl, ol, rfl, hgl, hatL⟩ := hspL (ne_of_lt hlt)
          have ql := int_at hatL k hlt
          obtain ⟨-, hcap, hsp⟩ := (HP.out.below hacc.below).spot
          obtain ⟨g, o, rfl, hg, hat⟩ := hsp (ne_of_lt hmx)
          obtain ⟨q1, q2, q3, q4⟩ := rep_at hat _ hmx
          clear hat hsp hatL hspL
          generalize hxx : reps[L1[k]] = x at *
          clear hxx
          generalize L1[k] = m at *
          obtain ⟨⟨p, v⟩, p2, v2⟩ := x
          dsimp only at q1 q2 q3 q4
          have i0 : (0 : Int) ≤ (k : Int) := by omega
          have i1 : (k : Int) < (L1.length : Int) := by omega
          have j0 : (0 : Int) ≤ (m : Int) := by omega
          have j1 : (m : Int) < (reps.length : Int) := by omega
          have g2 : wr.cell? ⟨w.heap.size + 1 + 1, 3, none⟩ = some (.slice B1 acc.length e1) := hG1.cell 3
          have ma : ∀ o, (wr.alloc o).cell? ⟨w.heap.size + 1 + 1, 3, none⟩ = some (.slice B1 acc.length e1) := fun o => (hG1.alloc o).cell 3
          go_wp2
          go_region_law (refine step_racc repT rfl _ _ rfl (hacc.alloc _).drew rfl (RRow.oneE _ ((p, v), p2, v2) _ _ (by simp) rfl) rfl (by simp; omega) ?_; intro A4 c4 acc4 w4 hgr; have hG04 := (hG0.alloc _).drew.grew (hacc.alloc _).drew.own hgr (by decide); have hG14 := (hG1.alloc _).drew.grew (hacc.alloc _).drew.own hgr (by decide); have hq0 := (hacc0.alloc _).drew.other (hacc.alloc _).drew.own hgr (by decide); have hqL := (haL.alloc _).drew.other (hacc.alloc _).drew.own hgr (by decide); have kc : w4.cell? ⟨w.heap.size + 1 + 1, 3, none⟩ = some (.slice B1 acc.length e1) := hG14.cell 3; have kf := hG14.frozen 3; have hacc4 := hgr.acc; have HL4 := Lib.hid hgr.list; clear hgr)
          all_goals
            go_wp2
            go_roundw
            case rel => exact ⟨k + 1, acc4, A4, c4, by omega, by go_num, (by rw [HL4.out]; exact HN.out), hG04.setOther (by omega), hG14.set 3 _, hq0.set hG14 (by decide) HS1.out, hacc4.set hG14 (by decide) HS1.out, hqL.set hG14 (by decide) HS1.out⟩
            case measure => simp [intOf]; omega
        · obtain rfl : k = L1.length := by omega
          have hacq : acc = sortC repC reps := by
            have h := HL.out
            unfold PutTo at h
            rw [h, List.take_length, ← HLp1.out, HP2.out]
          subst hacq
          clear HL hal u0 haL hll hlt hk
          have hacc1 := hacc
          clear hacc
          have u0 : wr.cell? ⟨w.heap.size, 0, none⟩ = some (.string mo) := (HA.out.below hacc1.below).cell 0
          have u1 : wr.cell? ⟨w.heap.size, 1, none⟩ = some (.string go) := (HA.out.below hacc1.below).cell 1
          have u2 : wr.cell? ⟨w.heap.size, 2, none⟩ = some (.slice ra reqs.length rc) := (HA.out.below hacc1.below).cell 2
          have u3 : wr.cell? ⟨w.heap.size, 3, none⟩ = some (.slice pa reps.length pc) := (HA.out.below hacc1.below).cell 3
          have u4 : wr.cell? ⟨w.heap.size, 4, none⟩ = some (.slice xa excs.length xc) := (HA.out.below hacc1.below).cell 4
          have u5 : wr.cell? ⟨w.heap.size, 5, none⟩ = some (.slice ta rets.length tc) := (HA.out.below hacc1.below).cell 5
          have hBw := hacc1.below
          go_wp2_with fail
          clear u0 u1 u2 u3 u4 u5
          obtain ⟨z1, hz1⟩ : ∃ v, v = wr := ⟨_, rfl⟩
          subst hz1
          have HA3 := Lib.hid (fun (i k : Nat) w' (hi : i < excs.length) (hk : k < excs.length) (h : Below W.heap.size W w') => ahead2_any mo go (.slice xa excs.length xc) excs ra reqs.length rc pa reps.length pc ta rets.length tc i k w' (HX.out.below h) hi hk HT3.out n3)
          refine (order_any excs.length n3 (fun i j => modCmp (excs.getD i default) (excs.getD j default)) mo go ra pa xa ta _ _ _ _ _ _ _ _ 2 z1 (fun i k w' hi hk h => by have := HA3.out i k w' hi hk (hBw.trans (h.mono hBw.size)); rw [← getD_at hi, ← getD_at hk] at this; exact this)).mono ?_
          rintro _ w5 ⟨LA2, lc2, rfl, hLo, hb3⟩
          have hLp : places modCmp excs = sortC (fun i j => modCmp (excs.getD i default) (excs.getD j default)) (List.range excs.length) := rfl
          generalize hgl : sortC (fun i j => modCmp (excs.getD i default) (excs.getD j default)) (List.range excs.length) = L2 at *
          clear hgl
          have HLp2 := Lib.hid hLp
          have HLt2 := Lib.hid (fun i (h : i ∈ L2) => places_lt modCmp excs i (by rw [hLp]; exact h))
          have HLl2 := Lib.hid (show L2.length ≤ 1000 by rw [← hLp, places_len]; exact n3)
          replace hG0 := hG0.below hb3
          replace hG1 := hG1.below hb3
          have hBw3 := hBw.trans (hb3.mono hBw.size)
          replace hacc0 := hacc0.call hb3
          replace hacc1 := hacc1.call hb3
          have haL : RAcc intR 3 W w5 (.slice LA2 L2.length lc2) L2 := ⟨hLo.lowerJ hBw.size, hBw3⟩
          clear hb3 hLo hLp hBw
          go_wp2
          go_loopw [7] (fun i wr => ∃ (k : Nat) (acc : List ModB) (B2 : Option Addr) (e2 : Nat), k ≤ L2.length ∧ i = .int .i64 k ∧ PutTo excs L2 k acc ∧ GBlk wr (w.heap.size + 1) 35 #[.string ⟨#[]⟩, .string ⟨#[]⟩, .slice none 0 0, .slice none 0 0, .slice none 0 0, .slice none 0 0] ∧ GBlk wr (w.heap.size + 1 + 1) 35 #[.string mo, .string go, .slice B0 (sortC reqC reqs).length e0, .slice B1 (sortC repC reps).length e1, .slice B2 acc.length e2, .slice none 0 0] ∧ RAcc reqR 61 W wr (.slice B0 (sortC reqC reqs).length e0) (sortC reqC reqs) ∧ RAcc repR 62 W wr (.slice B1 (sortC repC reps).length e1) (sortC repC reps) ∧ RAcc modR 41 W wr (.slice B2 acc.length e2) acc ∧ RAcc intR 3 W wr (.slice LA2 L2.length lc2) L2) (fun i _ => L2.length - (intOf i).toNat)
          case atStart => exact ⟨0, [], none, 0, Nat.zero_le _, rfl, rfl, hG0, hG1, hacc0, hacc1, ⟨ROwn.nil _ _, hBw3⟩, haL⟩
          case round =>
            clear hG0 hG1 hBw3 haL hacc0 hacc1
            obtain ⟨k, acc, B2, e2, hk, rfl, hL, hG0, hG1, hacc0, hacc1, hacc, haL⟩ := hrel
            have HL := Lib.hid hL
            have hal := hL.len
            have hll := HLl2.out
            clear hL
            have u0 : wr.cell? ⟨w.heap.size, 4, none⟩ = some (.slice xa excs.length xc) := (HA.out.below hacc.below).cell 4
            by_cases hlt : k < L2.length
            · have hmx := HLt2.out _ (List.getElem_mem hlt)
              have HN := Lib.hid (HL.out.next hlt hmx)
              obtain ⟨-, hcapL, hspL⟩ := haL.own.row.spot
              obtain ⟨gl, ol, rfl, hgl, hatL⟩ := hspL (ne_of_lt hlt)
              have ql := int_at hatL k hlt
              obtain ⟨-, hcap, hsp⟩ := (HX.out.below hacc.below).spot
              obtain ⟨g, o, rfl, hg, hat⟩ := hsp (ne_of_lt hmx)
              obtain ⟨q1, q2⟩ := mod_at hat _ hmx
              clear hat hsp hatL hspL
              generalize hxx : excs[L2[k]] = x at *
              clear hxx
              generalize L2[k] = m at *
              obtain ⟨p, v⟩ := x
              dsimp only at q1 q2
              have i0 : (0 : Int) ≤ (k : Int) := by omega
              have i1 : (k : Int) < (L2.length : Int) := by omega
              have j0 : (0 : Int) ≤ (m : Int) := by omega
              have j1 : (m : Int) < (excs.length : Int) := by omega
              have g2 : wr.cell? ⟨w.heap.size + 1 + 1, 4, none⟩ = some (.slice B2 acc.length e2) := hG1.cell 4
              have ma : ∀ o, (wr.alloc o).cell? ⟨w.heap.size + 1 + 1, 4, none⟩ = some (.slice B2 acc.length e2) := fun o => (hG1.alloc o).cell 4
              go_wp2
              go_region_law (refine step_racc modT rfl _ _ rfl (hacc.alloc _).drew rfl (RRow.oneE _ (p, v) _ _ (by simp) rfl) rfl (by simp; omega) ?_; intro A4 c4 acc4 w4 hgr; have hG04 := (hG0.alloc _).drew.grew (hacc.alloc _).drew.own hgr (by decide); have hG14 := (hG1.alloc _).drew.grew (hacc.alloc _).drew.own hgr (by decide); have hq0 := (hacc0.alloc _).drew.other (hacc.alloc _).drew.own hgr (by decide); have hq1 := (hacc1.alloc _).drew.other (hacc.alloc _).drew.own hgr (by decide); have hqL := (haL.alloc _).drew.other (hacc.alloc _).drew.own hgr (by decide); have kc : w4.cell? ⟨w.heap.size + 1 + 1, 4, none⟩ = some (.slice B2 acc.length e2) := hG14.cell 4; have kf := hG14.frozen 4; have hacc4 := hgr.acc; have HL4 := Lib.hid hgr.list; clear hgr)
              all_goals
                go_wp2
                go_roundw
                case rel => exact ⟨k + 1, acc4, A4, c4, by omega, by go_num, (by rw [HL4.out]; exact HN.out), hG04.setOther (by omega), hG14.set 4 _, hq0.set hG14 (by decide) HS1.out, hq1.set hG14 (by decide) HS1.out, hacc4.set hG14 (by decide) HS1.out, hqL.set hG14 (by decide) HS1.out⟩
                case measure => simp [intOf]; omega
            · obtain rfl : k = L2.length := by omega
              have hacq : acc = sortC modCmp excs := by
                have h := HL.out
                unfold PutTo at h
                rw [h, List.take_length, ← HLp2.out, HP3.out]
              subst hacq
              clear HL hal u0 haL hll hlt hk
              have hacc2 := hacc
              clear hacc
              have u0 : wr.cell? ⟨w.heap.size, 0, none⟩ = some (.string mo) := (HA.out.below hacc2.below).cell 0
              have u1 : wr.cell? ⟨w.heap.size, 1, none⟩ = some (.string go) := (HA.out.below hacc2.below).cell 1
              have u2 : wr.cell? ⟨w.heap.size, 2, none⟩ = some (.slice ra reqs.length rc) := (HA.out.below hacc2.below).cell 2
              have u3 : wr.cell? ⟨w.heap.size, 3, none⟩ = some (.slice pa reps.length pc) := (HA.out.below hacc2.below).cell 3
              have u4 : wr.cell? ⟨w.heap.size, 4, none⟩ = some (.slice xa excs.length xc) := (HA.out.below hacc2.below).cell 4
              have u5 : wr.cell? ⟨w.heap.size, 5, none⟩ = some (.slice ta rets.length tc) := (HA.out.below hacc2.below).cell 5
              have hBw := hacc2.below
              go_wp2_with fail
              clear u0 u1 u2 u3 u4 u5
              obtain ⟨z2, hz2⟩ : ∃ v, v = wr := ⟨_, rfl⟩
              subst hz2
              have HA4 := Lib.hid (fun (i k : Nat) w' (hi : i < rets.length) (hk : k < rets.length) (h : Below W.heap.size W w') => ahead3_any mo go (.slice ta rets.length tc) rets ra reqs.length rc pa reps.length pc xa excs.length xc i k w' (HT.out.below h) hi hk HT4.out n4)
              refine (order_any rets.length n4 (fun i j => retC (rets.getD i default) (rets.getD j default)) mo go ra pa xa ta _ _ _ _ _ _ _ _ 3 z2 (fun i k w' hi hk h => by have := HA4.out i k w' hi hk (hBw.trans (h.mono hBw.size)); rw [← getD_at hi, ← getD_at hk] at this; exact this)).mono ?_
              rintro _ w6 ⟨LA3, lc3, rfl, hLo, hb3⟩
              have hLp : places retC rets = sortC (fun i j => retC (rets.getD i default) (rets.getD j default)) (List.range rets.length) := rfl
              generalize hgl : sortC (fun i j => retC (rets.getD i default) (rets.getD j default)) (List.range rets.length) = L3 at *
              clear hgl
              have HLp3 := Lib.hid hLp
              have HLt3 := Lib.hid (fun i (h : i ∈ L3) => places_lt retC rets i (by rw [hLp]; exact h))
              have HLl3 := Lib.hid (show L3.length ≤ 1000 by rw [← hLp, places_len]; exact n4)
              replace hG0 := hG0.below hb3
              replace hG1 := hG1.below hb3
              have hBw3 := hBw.trans (hb3.mono hBw.size)
              replace hacc0 := hacc0.call hb3
              replace hacc1 := hacc1.call hb3
              replace hacc2 := hacc2.call hb3
              have haL : RAcc intR 3 W w6 (.slice LA3 L3.length lc3) L3 := ⟨hLo.lowerJ hBw.size, hBw3⟩
              clear hb3 hLo hLp hBw
              go_wp2
              go_loopw [8] (fun i wr => ∃ (k : Nat) (acc : List RetB) (B3 : Option Addr) (e3 : Nat), k ≤ L3.length ∧ i = .int .i64 k ∧ PutTo rets L3 k acc ∧ GBlk wr (w.heap.size + 1) 35 #[.string ⟨#[]⟩, .string ⟨#[]⟩, .slice none 0 0, .slice none 0 0, .slice none 0 0, .slice none 0 0] ∧ GBlk wr (w.heap.size + 1 + 1) 35 #[.string mo, .string go, .slice B0 (sortC reqC reqs).length e0, .slice B1 (sortC repC reps).length e1, .slice B2 (sortC modCmp excs).length e2, .slice B3 acc.length e3] ∧ RAcc reqR 61 W wr (.slice B0 (sortC reqC reqs).length e0) (sortC reqC reqs) ∧ RAcc repR 62 W wr (.slice B1 (sortC repC reps).length e1) (sortC repC reps) ∧ RAcc modR 41 W wr (.slice B2 (sortC modCmp excs).length e2) (sortC modCmp excs) ∧ RAcc retR 63 W wr (.slice B3 acc.length e3) acc ∧ RAcc intR 3 W wr (.slice LA3 L3.length lc3) L3) (fun i _ => L3.length - (intOf i).toNat)
              case atStart => exact ⟨0, [], none, 0, Nat.zero_le _, rfl, rfl, hG0, hG1, hacc0, hacc1, hacc2, ⟨ROwn.nil _ _, hBw3⟩, haL⟩
              case round =>
                clear hG0 hG1 hBw3 haL hacc0 hacc1 hacc2
                obtain ⟨k, acc, B3, e3, hk, rfl, hL, hG0, hG1, hacc0, hacc1, hacc2, hacc, haL⟩ := hrel
                have HL := Lib.hid hL
                have hal := hL.len
                have hll := HLl3.out
                clear hL
                have u0 : wr.cell? ⟨w.heap.size, 5, none⟩ = some (.slice ta rets.length tc) := (HA.out.below hacc.below).cell 5
                by_cases hlt : k < L3.length
                · have hmx := HLt3.out _ (List.getElem_mem hlt)
                  have HN := Lib.hid (HL.out.next hlt hmx)
                  obtain ⟨-, hcapL, hspL⟩ := haL.own.row.spot
                  obtain ⟨gl, ol, rfl, hgl, hatL⟩ := hspL (ne_of_lt hlt)
                  have ql := int_at hatL k hlt
                  obtain ⟨-, hcap, hsp⟩ := (HT.out.below hacc.below).spot
                  obtain ⟨g, o, rfl, hg, hat⟩ := hsp (ne_of_lt hmx)
                  obtain ⟨q1, q2, q3⟩ := ret_at hat _ hmx
                  clear hat hsp hatL hspL
                  generalize hxx : rets[L3[k]] = x at *
                  clear hxx
                  generalize L3[k] = m at *
                  obtain ⟨p, v, y⟩ := x
                  dsimp only at q1 q2 q3
                  have i0 : (0 : Int) ≤ (k : Int) := by omega
                  have i1 : (k : Int) < (L3.length : Int) := by omega
                  have j0 : (0 : Int) ≤ (m : Int) := by omega
                  have j1 : (m : Int) < (rets.length : Int) := by omega
                  have g2 : wr.cell? ⟨w.heap.size + 1 + 1, 5, none⟩ = some (.slice B3 acc.length e3) := hG1.cell 5
                  have ma : ∀ o, (wr.alloc o).cell? ⟨w.heap.size + 1 + 1, 5, none⟩ = some (.slice B3 acc.length e3) := fun o => (hG1.alloc o).cell 5
                  go_wp2
                  go_region_law (refine step_racc retT rfl _ _ rfl (hacc.alloc _).drew rfl (RRow.oneE _ (p, v, y) _ _ (by simp) rfl) rfl (by simp; omega) ?_; intro A4 c4 acc4 w4 hgr; have hG04 := (hG0.alloc _).drew.grew (hacc.alloc _).drew.own hgr (by decide); have hG14 := (hG1.alloc _).drew.grew (hacc.alloc _).drew.own hgr (by decide); have hq0 := (hacc0.alloc _).drew.other (hacc.alloc _).drew.own hgr (by decide); have hq1 := (hacc1.alloc _).drew.other (hacc.alloc _).drew.own hgr (by decide); have hq2 := (hacc2.alloc _).drew.other (hacc.alloc _).drew.own hgr (by decide); have hqL := (haL.alloc _).drew.other (hacc.alloc _).drew.own hgr (by decide); have kc : w4.cell? ⟨w.heap.size + 1 + 1, 5, none⟩ = some (.slice B3 acc.length e3) := hG14.cell 5; have kf := hG14.frozen 5; have hacc4 := hgr.acc; have HL4 := Lib.hid hgr.list; clear hgr)
                  all_goals
                    go_wp2
                    go_roundw
                    case rel => exact ⟨k + 1, acc4, A4, c4, by omega, by go_num, (by rw [HL4.out]; exact HN.out), hG04.setOther (by omega), hG14.set 5 _, hq0.set hG14 (by decide) HS1.out, hq1.set hG14 (by decide) HS1.out, hq2.set hG14 (by decide) HS1.out, hacc4.set hG14 (by decide) HS1.out, hqL.set hG14 (by decide) HS1.out⟩
                    case measure => simp [intOf]; omega
                · obtain rfl : k = L3.length := by omega
                  have hacq : acc = sortC retC rets := by
                    have h := HL.out
                    unfold PutTo at h
                    rw [h, List.take_length, ← HLp3.out, HP4.out]
                  subst hacq
                  clear HL hal u0 haL hll hlt hk
                  have hacc3 := hacc
                  clear hacc
                  have g0 : wr.cell? ⟨w.heap.size + 1 + 1, 0, none⟩ = some (.string mo) := hG1.cell 0
                  have g1 : wr.cell? ⟨w.heap.size + 1 + 1, 1, none⟩ = some (.string go) := hG1.cell 1
                  have g2 : wr.cell? ⟨w.heap.size + 1 + 1, 2, none⟩ = some (.slice B0 (sortC reqC reqs).length e0) := hG1.cell 2
                  have g3 : wr.cell? ⟨w.heap.size + 1 + 1, 3, none⟩ = some (.slice B1 (sortC repC reps).length e1) := hG1.cell 3
                  have g4 : wr.cell? ⟨w.heap.size + 1 + 1, 4, none⟩ = some (.slice B2 (sortC modCmp excs).length e2) := hG1.cell 4
                  have g5 : wr.cell? ⟨w.heap.size + 1 + 1, 5, none⟩ = some (.slice B3 (sortC retC rets).length e3) := hG1.cell 5
                  have z0' : wr.cell? ⟨w.heap.size + 1, 0, none⟩ = some (.string ⟨#[]⟩) := hG0.cell 0
                  have z1' : wr.cell? ⟨w.heap.size + 1, 1, none⟩ = some (.string ⟨#[]⟩) := hG0.cell 1
                  have z2' : wr.cell? ⟨w.heap.size + 1, 2, none⟩ = some (.slice none 0 0) := hG0.cell 2
                  have z3' : wr.cell? ⟨w.heap.size + 1, 3, none⟩ = some (.slice none 0 0) := hG0.cell 3
                  have z4' : wr.cell? ⟨w.heap.size + 1, 4, none⟩ = some (.slice none 0 0) := hG0.cell 4
                  have z5' : wr.cell? ⟨w.heap.size + 1, 5, none⟩ = some (.slice none 0 0) := hG0.cell 5
                  have f0 := hG0.frozen 0
                  have f1 := hG0.frozen 1
                  have f2 := hG0.frozen 2
                  have f3 := hG0.frozen 3
                  have f4 := hG0.frozen 4
                  have f5 := hG0.frozen 5
                  have HS6 := Lib.hid (hG0.six (.string mo) (.string go) (.slice B0 (sortC reqC reqs).length e0) (.slice B1 (sortC repC reps).length e1) (.slice B2 (sortC modCmp excs).length e2) (.slice B3 (sortC retC rets).length e3))
                  have R0 := Lib.hid (hacc0.six hG0 (by decide) (Nat.le_of_eq HS.out) (.string mo) (.string go) (.slice B0 (sortC reqC reqs).length e0) (.slice B1 (sortC repC reps).length e1) (.slice B2 (sortC modCmp excs).length e2) (.slice B3 (sortC retC rets).length e3))
                  have R1 := Lib.hid (hacc1.six hG0 (by decide) (Nat.le_of_eq HS.out) (.string mo) (.string go) (.slice B0 (sortC reqC reqs).length e0) (.slice B1 (sortC repC reps).length e1) (.slice B2 (sortC modCmp excs).length e2) (.slice B3 (sortC retC rets).length e3))
                  have R2 := Lib.hid (hacc2.six hG0 (by decide) (Nat.le_of_eq HS.out) (.string mo) (.string go) (.slice B0 (sortC reqC reqs).length e0) (.slice B1 (sortC repC reps).length e1) (.slice B2 (sortC modCmp excs).length e2) (.slice B3 (sortC retC rets).length e3))
                  have R3 := Lib.hid (hacc3.six hG0 (by decide) (Nat.le_of_eq HS.out) (.string mo) (.string go) (.slice B0 (sortC reqC reqs).length e0) (.slice B1 (sortC repC reps).length e1) (.slice B2 (sortC modCmp excs).length e2) (.slice B3 (sortC retC rets).length e3))
                  clear hacc0 hacc1 hacc2 hacc3 hG0 hG1
                  go_wp2
                  have y0 := HS6.out.cell 0
                  have y1 := HS6.out.cell 1
                  have y2 := HS6.out.cell 2
                  have y3 := HS6.out.cell 3
                  have y4 := HS6.out.cell 4
                  have y5 := HS6.out.cell 5
                  have hBe := hb0.trans (R0.out.below.mono hb0.size)
                  refine bodyPost_ret (v := .agg #[.string mo, .string go, .slice B0 (sortC reqC reqs).length e0, .slice B1 (sortC repC reps).length e1, .slice B2 (sortC modCmp excs).length e2, .slice B3 (sortC retC rets).length e3]) (by simp [results, Tryz.results12, go_sem, y0, y1, y2, y3, y4, y5]) rfl ⟨_, _, _, _, rfl, ⟨R0.out.own.row, R1.out.own.row, R2.out.own.row, R3.out.own.row⟩, hBe, fun B hB ho => ⟨R0.out.own.off (by have := HS.out; omega), R1.out.own.off (by have := HS.out; omega), R2.out.own.off (by have := HS.out; omega), R3.out.own.off (by have := HS.out; omega)⟩⟩
end Go.Proofs.YtmdlmjcejeejfaaGreatDoor

/-
  The walk of ShowSorts.
-/
set_option linter.unusedVariables false
namespace Go.Proofs.YtmdlmjcejeejfaaGreatDoor
open Go.RowKit Go.Shelf

theorem sortC_in {α : Type} {c : α → α → Int} {xs : List α} {x : α} : x ∈ sortC c xs ↔ x ∈ xs := by
  have := (sortC_perm (c := c) xs xs.length (Nat.le_refl _)).mem_iff (a := x)
  rwa [List.take_length] at this
theorem sortC_idem {α : Type} (O : Ordr α) (xs : List α) : sortC O.c (sortC O.c xs) = sortC O.c xs := by
  have h := (sort_kept_take (O := O) xs xs.length (Nat.le_refl _)).1
  rw [List.take_length] at h
  exact (sort_is (O := O) h (Kept.refl _)).symm
theorem sortG_idem (f : FileG) : sortG (sortG f) = sortG f := by
  unfold sortG
  congr 1
  · exact sortC_idem reqO' f.reqs
  · exact sortC_idem repO' f.reps
  · exact sortC_idem excO' f.excs
  · exact sortC_idem retO' f.rets
theorem tidy_of {f : FileG} (h : Sized f) : Tidy f := ⟨fun x hx => by have := (h.reqs x hx).1; show _ ≤ _; omega, fun x hx => ⟨by have := (h.reps x hx).1; omega, by have := (h.reps x hx).2.1; omega⟩, fun x hx => ⟨by have := (h.excs x hx).1; omega, by have := (h.excs x hx).2; omega⟩, fun x hx => ⟨by have := (h.rets x hx).1; omega, by have := (h.rets x hx).2.1; omega⟩⟩
theorem tidy_sort {f : FileG} (h : Tidy f) : Tidy (sortG f) := ⟨fun x hx => h.1 x (sortC_in.1 hx), fun x hx => h.2.1 x (sortC_in.1 hx), fun x hx => h.2.2.1 x (sortC_in.1 hx), fun x hx => h.2.2.2 x (sortC_in.1 hx)⟩
theorem FileOut.forms {f : FileG} {a b c d : Value} {w : World} {e : Ending} {w' : World} (h : FileOut f a b c d w e w') : ∃ A0 c0 A1 c1 A2 c2 A3 c3, e = .returned (.agg #[.string f.mo, .string f.go, .slice A0 f.reqs.length c0, .slice A1 f.reps.length c1, .slice A2 f.excs.length c2, .slice A3 f.rets.length c3]) ∧
    FileAt w' (.slice A0 f.reqs.length c0) (.slice A1 f.reps.length c1) (.slice A2 f.excs.length c2) (.slice A3 f.rets.length c3) f ∧ Below w.heap.size w w' := by
  obtain ⟨a, b, c, d, rfl, hF, hb, -⟩ := h
  obtain ⟨A0, c0, rfl⟩ := hF.reqs.form
  obtain ⟨A1, c1, rfl⟩ := hF.reps.form
  obtain ⟨A2, c2, rfl⟩ := hF.excs.form
  obtain ⟨A3, c3, rfl⟩ := hF.rets.form
  exact ⟨A0, c0, A1, c1, A2, c2, A3, c3, rfl, hF, hb⟩
theorem CopyOut.forms {f : FileG} {w : World} {e : Ending} {w' : World} (h : CopyOut f w e w') : ∃ A0 c0 A1 c1 A2 c2 A3 c3, e = .returned (.agg #[.string f.mo, .string f.go, .slice A0 f.reqs.length c0, .slice A1 f.reps.length c1, .slice A2 f.excs.length c2, .slice A3 f.rets.length c3]) ∧
    FileAt w' (.slice A0 f.reqs.length c0) (.slice A1 f.reps.length c1) (.slice A2 f.excs.length c2) (.slice A3 f.rets.length c3) f ∧ Below w.heap.size w w' := by
  obtain ⟨a, b, c, d, rfl, h1, h2, h3, h4⟩ := h
  obtain ⟨A0, c0, rfl⟩ := h1.own.row.form
  obtain ⟨A1, c1, rfl⟩ := h2.own.row.form
  obtain ⟨A2, c2, rfl⟩ := h3.own.row.form
  obtain ⟨A3, c3, rfl⟩ := h4.own.row.form
  exact ⟨A0, c0, A1, c1, A2, c2, A3, c3, rfl, ⟨h1.own.row, h2.own.row, h3.own.row, h4.own.row⟩, h1.below⟩
theorem len_sort {α : Type} {c : α → α → Int} {xs : List α} (h : xs.length ≤ 1000) : (sortC c xs).length ≤ 1000 := by rw [sortC_len]; exact h

set_option maxRecDepth 100000 in
set_option maxHeartbeats 16000000 in
theorem showSorts_walk (f : FileG) (a b c d : Value) (w : World) (hF : FileAt w a b c d f) :
    Calls Tryz.prog 3 #[.agg #[.string f.mo, .string f.go, a, b, c, d]] w fun e w' => e = .returned (.bool true) ∧ Below w.heap.size w w' := by
  obtain ⟨mo, go, reqs, reps, excs, rets⟩ := f
  have HF0 := Lib.hid hF
  obtain ⟨hr, hp, hx, ht⟩ := hF
  dsimp only at *
  obtain ⟨ra, rc, rfl⟩ := hr.form
  obtain ⟨pa, pc, rfl⟩ := hp.form
  obtain ⟨xa, xc, rfl⟩ := hx.form
  obtain ⟨ta, tc, rfl⟩ := ht.form
  clear hr hp hx ht
  have hB := (Below.refl w.heap.size w).alloc (Nat.le_refl _) (.cells #[.string mo, .string go, .slice ra reqs.length rc, .slice pa reps.length pc, .slice xa excs.length xc, .slice ta rets.length tc] 27)
  have gF := GBlk.new w 27 #[.string mo, .string go, .slice ra reqs.length rc, .slice pa reps.length pc, .slice xa excs.length xc, .slice ta rets.length tc]
  go_enter Tryz.func3, Tryz.ntmps3
  go_wp2_with fail
  generalize w.alloc (.cells #[.string mo, .string go, .slice ra reqs.length rc, .slice pa reps.length pc, .slice xa excs.length xc, .slice ta rets.length tc] 27) = W at *
  refine (large_file ⟨mo, go, reqs, reps, excs, rets⟩ _ _ _ _ _ (HF0.out.below hB)).mono ?_
  rintro _ w1 ⟨bl, rfl, hsm, hb1⟩
  replace hB := hB.trans (hb1.mono hB.size)
  replace gF := gF.below hb1
  clear hb1 W
  cases bl
  case true =>
    go_wp2_with (go_at_call 7; refine (shown_any _).mono ?_; rintro e w9 ⟨rfl, hb9⟩)
    go_ret
    exact ⟨rfl, hB.trans (hb9.mono hB.size)⟩
  have HS := Lib.hid (hsm rfl).sized
  clear hsm
  go_wp2_with fail
  refine (shown_any _).mono ?_
  rintro _ w2 ⟨rfl, hb2⟩
  replace hB := hB.trans (hb2.mono hB.size)
  replace gF := gF.below hb2
  clear hb2
  have f0 : w2.cell? ⟨w.heap.size, 0, none⟩ = some (.string mo) := gF.cell 0
  have f1 : w2.cell? ⟨w.heap.size, 1, none⟩ = some (.string go) := gF.cell 1
  have f2 : w2.cell? ⟨w.heap.size, 2, none⟩ = some (.slice ra reqs.length rc) := gF.cell 2
  have f3 : w2.cell? ⟨w.heap.size, 3, none⟩ = some (.slice pa reps.length pc) := gF.cell 3
  have f4 : w2.cell? ⟨w.heap.size, 4, none⟩ = some (.slice xa excs.length xc) := gF.cell 4
  have f5 : w2.cell? ⟨w.heap.size, 5, none⟩ = some (.slice ta rets.length tc) := gF.cell 5
  go_wp2_with fail
  refine (theirs_file ⟨mo, go, reqs, reps, excs, rets⟩ HS.out.nreqs HS.out.nreps HS.out.nexcs HS.out.nrets _ _ _ _ _ (HF0.out.below hB)).mono ?_
  intro e w3 hfe
  obtain ⟨T0, s0, T1, s1, T2, s2, T3, s3, rfl, hF3, hb3⟩ := hfe.forms
  dsimp only at hF3 ⊢
  clear hfe f0 f1 f2 f3 f4 f5
  have hB3 := hB.trans (hb3.mono hB.size)
  have gF3 := gF.below hb3
  clear hB gF hb3
  go_wp2_with fail
  refine (ours_file ⟨mo, go, reqs, reps, excs, rets⟩ HS.out.nreqs HS.out.nreps HS.out.nexcs HS.out.nrets _ _ _ _ _ hF3).mono ?_
  intro e w4 hfe
  obtain ⟨A0, c0, A1, c1, A2, c2, A3, c3, rfl, hF4, hb4⟩ := hfe.forms
  dsimp only at hF4 ⊢
  clear hfe
  have hB4 := (hB3.trans (hb4.mono hB3.size)).alloc (hB3.trans (hb4.mono hB3.size)).size (.cells #[.string mo, .string go, .slice A0 reqs.length c0, .slice A1 reps.length c1, .slice A2 excs.length c2, .slice A3 rets.length c3] 27)
  have gF4 := (gF3.below hb4).alloc (.cells #[.string mo, .string go, .slice A0 reqs.length c0, .slice A1 reps.length c1, .slice A2 excs.length c2, .slice A3 rets.length c3] 27)
  have gW4 := GBlk.new w4 27 #[.string mo, .string go, .slice A0 reqs.length c0, .slice A1 reps.length c1, .slice A2 excs.length c2, .slice A3 rets.length c3]
  have hW4 := hF4.alloc (.cells #[.string mo, .string go, .slice A0 reqs.length c0, .slice A1 reps.length c1, .slice A2 excs.length c2, .slice A3 rets.length c3] 27)
  clear hB3 gF3 hb4 hF4 hF3
  have f0 : (w4.alloc (.cells #[.string mo, .string go, .slice A0 reqs.length c0, .slice A1 reps.length c1, .slice A2 excs.length c2, .slice A3 rets.length c3] 27)).cell? ⟨w.heap.size, 0, none⟩ = some (.string mo) := gF4.cell 0
  have f1 : (w4.alloc (.cells #[.string mo, .string go, .slice A0 reqs.length c0, .slice A1 reps.length c1, .slice A2 excs.length c2, .slice A3 rets.length c3] 27)).cell? ⟨w.heap.size, 1, none⟩ = some (.string go) := gF4.cell 1
  have f2 : (w4.alloc (.cells #[.string mo, .string go, .slice A0 reqs.length c0, .slice A1 reps.length c1, .slice A2 excs.length c2, .slice A3 rets.length c3] 27)).cell? ⟨w.heap.size, 2, none⟩ = some (.slice ra reqs.length rc) := gF4.cell 2
  have f3 : (w4.alloc (.cells #[.string mo, .string go, .slice A0 reqs.length c0, .slice A1 reps.length c1, .slice A2 excs.length c2, .slice A3 rets.length c3] 27)).cell? ⟨w.heap.size, 3, none⟩ = some (.slice pa reps.length pc) := gF4.cell 3
  have f4 : (w4.alloc (.cells #[.string mo, .string go, .slice A0 reqs.length c0, .slice A1 reps.length c1, .slice A2 excs.length c2, .slice A3 rets.length c3] 27)).cell? ⟨w.heap.size, 4, none⟩ = some (.slice xa excs.length xc) := gF4.cell 4
  have f5 : (w4.alloc (.cells #[.string mo, .string go, .slice A0 reqs.length c0, .slice A1 reps.length c1, .slice A2 excs.length c2, .slice A3 rets.length c3] 27)).cell? ⟨w.heap.size, 5, none⟩ = some (.slice ta rets.length tc) := gF4.cell 5
  go_wp2_with fail
  generalize w4.alloc (.cells #[.string mo, .string go, .slice A0 reqs.length c0, .slice A1 reps.length c1, .slice A2 excs.length c2, .slice A3 rets.length c3] 27) = W4 at *
  clear f0 f1 f2 f3 f4 f5
  refine (ssort_any ⟨mo, go, reqs, reps, excs, rets⟩ HS.out.nreqs HS.out.nreps HS.out.nexcs HS.out.nrets (tidy_of HS.out) _ _ _ _ _ (HF0.out.below hB4)).mono ?_
  intro e w5 hfe
  obtain ⟨B0, d0, B1, d1, B2, d2, B3, d3, rfl, hF5, hb5⟩ := hfe.forms
  dsimp only [sortG] at hF5 ⊢
  clear hfe
  have HB6 := Lib.hid ((hB4.trans (hb5.mono hB4.size)).alloc (hB4.trans (hb5.mono hB4.size)).size (.cells #[.string mo, .string go, .slice B0 (sortC reqC reqs).length d0, .slice B1 (sortC repC reps).length d1, .slice B2 (sortC modCmp excs).length d2, .slice B3 (sortC retC rets).length d3] 27))
  have GF := Lib.hid ((gF4.below hb5).alloc (.cells #[.string mo, .string go, .slice B0 (sortC reqC reqs).length d0, .slice B1 (sortC repC reps).length d1, .slice B2 (sortC modCmp excs).length d2, .slice B3 (sortC retC rets).length d3] 27))
  have GW := Lib.hid ((gW4.below hb5).alloc (.cells #[.string mo, .string go, .slice B0 (sortC reqC reqs).length d0, .slice B1 (sortC repC reps).length d1, .slice B2 (sortC modCmp excs).length d2, .slice B3 (sortC retC rets).length d3] 27))
  have GS := Lib.hid (GBlk.new w5 27 #[.string mo, .string go, .slice B0 (sortC reqC reqs).length d0, .slice B1 (sortC repC reps).length d1, .slice B2 (sortC modCmp excs).length d2, .slice B3 (sortC retC rets).length d3])
  have FW := Lib.hid ((hW4.below hb5).alloc (.cells #[.string mo, .string go, .slice B0 (sortC reqC reqs).length d0, .slice B1 (sortC repC reps).length d1, .slice B2 (sortC modCmp excs).length d2, .slice B3 (sortC retC rets).length d3] 27))
  have FS := Lib.hid (hF5.alloc (.cells #[.string mo, .string go, .slice B0 (sortC reqC reqs).length d0, .slice B1 (sortC repC reps).length d1, .slice B2 (sortC modCmp excs).length d2, .slice B3 (sortC retC rets).length d3] 27))
  have NS := Lib.hid (show (sortC reqC reqs).length ≤ 1000 ∧ (sortC repC reps).length ≤ 1000 ∧ (sortC modCmp excs).length ≤ 1000 ∧ (sortC retC rets).length ≤ 1000 from ⟨len_sort HS.out.nreqs, len_sort HS.out.nreps, len_sort HS.out.nexcs, len_sort HS.out.nrets⟩)
  have HI := Lib.hid (show sortG ⟨mo, go, sortC reqC reqs, sortC repC reps, sortC modCmp excs, sortC retC rets⟩ = ⟨mo, go, sortC reqC reqs, sortC repC reps, sortC modCmp excs, sortC retC rets⟩ from sortG_idem ⟨mo, go, reqs, reps, excs, rets⟩)
  have TD := Lib.hid (show Tidy ⟨mo, go, sortC reqC reqs, sortC repC reps, sortC modCmp excs, sortC retC rets⟩ from tidy_sort (tidy_of HS.out))
  clear hB4 gF4 gW4 hW4 hF5 hb5
  go_wp2
  generalize w5.alloc (.cells #[.string mo, .string go, .slice B0 (sortC reqC reqs).length d0, .slice B1 (sortC repC reps).length d1, .slice B2 (sortC modCmp excs).length d2, .slice B3 (sortC retC rets).length d3] 27) = W6 at *
  have L0 := Lib.hid (show ∀ w', Below W6.heap.size W6 w' → w'.cell? ⟨w.heap.size, 0, none⟩ = some (.string mo) ∧ w'.cell? ⟨w.heap.size, 1, none⟩ = some (.string go) ∧ w'.cell? ⟨w.heap.size, 2, none⟩ = some (.slice ra reqs.length rc) ∧ w'.cell? ⟨w.heap.size, 3, none⟩ = some (.slice pa reps.length pc) ∧ w'.cell? ⟨w.heap.size, 4, none⟩ = some (.slice xa excs.length xc) ∧ w'.cell? ⟨w.heap.size, 5, none⟩ = some (.slice ta rets.length tc) ∧ w'.cell? ⟨w4.heap.size, 0, none⟩ = some (.string mo) ∧ w'.cell? ⟨w4.heap.size, 1, none⟩ = some (.string go) ∧ w'.cell? ⟨w4.heap.size, 2, none⟩ = some (.slice A0 reqs.length c0) ∧ w'.cell? ⟨w4.heap.size, 3, none⟩ = some (.slice A1 reps.length c1) ∧ w'.cell? ⟨w4.heap.size, 4, none⟩ = some (.slice A2 excs.length c2) ∧ w'.cell? ⟨w4.heap.size, 5, none⟩ = some (.slice A3 rets.length c3) ∧ w'.cell? ⟨w5.heap.size, 0, none⟩ = some (.string mo) ∧ w'.cell? ⟨w5.heap.size, 1, none⟩ = some (.string go) ∧ w'.cell? ⟨w5.heap.size, 2, none⟩ = some (.slice B0 (sortC reqC reqs).length d0) ∧ w'.cell? ⟨w5.heap.size, 3, none⟩ = some (.slice B1 (sortC repC reps).length d1) ∧ w'.cell? ⟨w5.heap.size, 4, none⟩ = some (.slice B2 (sortC modCmp excs).length d2) ∧ w'.cell? ⟨w5.heap.size, 5, none⟩ = some (.slice B3 (sortC retC rets).length d3) from fun w' h => ⟨(GF.out.below h).cell 0, (GF.out.below h).cell 1, (GF.out.below h).cell 2, (GF.out.below h).cell 3, (GF.out.below h).cell 4, (GF.out.below h).cell 5, (GW.out.below h).cell 0, (GW.out.below h).cell 1, (GW.out.below h).cell 2, (GW.out.below h).cell 3, (GW.out.below h).cell 4, (GW.out.below h).cell 5, (GS.out.below h).cell 0, (GS.out.below h).cell 1, (GS.out.below h).cell 2, (GS.out.below h).cell 3, (GS.out.below h).cell 4, (GS.out.below h).cell 5⟩)
  have K0 := Lib.hid (L0.out W6.drew (below_drewN (Below.refl _ _) 1))
  have XF := Lib.hid (fun w' (h : Below W6.heap.size W6 w') => HF0.out.below (HB6.out.trans (h.mono HB6.out.size)))
  go_region_held3 (fun w' => w'.cell? ⟨w.heap.size, 0, none⟩ = some (.string mo) ∧ w'.cell? ⟨w.heap.size, 1, none⟩ = some (.string go) ∧ w'.cell? ⟨w.heap.size, 2, none⟩ = some (.slice ra reqs.length rc) ∧ w'.cell? ⟨w.heap.size, 3, none⟩ = some (.slice pa reps.length pc) ∧ w'.cell? ⟨w.heap.size, 4, none⟩ = some (.slice xa excs.length xc) ∧ w'.cell? ⟨w.heap.size, 5, none⟩ = some (.slice ta rets.length tc) ∧ w'.cell? ⟨w4.heap.size, 0, none⟩ = some (.string mo) ∧ w'.cell? ⟨w4.heap.size, 1, none⟩ = some (.string go) ∧ w'.cell? ⟨w4.heap.size, 2, none⟩ = some (.slice A0 reqs.length c0) ∧ w'.cell? ⟨w4.heap.size, 3, none⟩ = some (.slice A1 reps.length c1) ∧ w'.cell? ⟨w4.heap.size, 4, none⟩ = some (.slice A2 excs.length c2) ∧ w'.cell? ⟨w4.heap.size, 5, none⟩ = some (.slice A3 rets.length c3) ∧ w'.cell? ⟨w5.heap.size, 0, none⟩ = some (.string mo) ∧ w'.cell? ⟨w5.heap.size, 1, none⟩ = some (.string go) ∧ w'.cell? ⟨w5.heap.size, 2, none⟩ = some (.slice B0 (sortC reqC reqs).length d0) ∧ w'.cell? ⟨w5.heap.size, 3, none⟩ = some (.slice B1 (sortC repC reps).length d1) ∧ w'.cell? ⟨w5.heap.size, 4, none⟩ = some (.slice B2 (sortC modCmp excs).length d2) ∧ w'.cell? ⟨w5.heap.size, 5, none⟩ = some (.slice B3 (sortC retC rets).length d3))
    (first | with_reducible exact K17.out | with_reducible exact K16.out | with_reducible exact K15.out | with_reducible exact K14.out | with_reducible exact K13.out | with_reducible exact K12.out | with_reducible exact K11.out | with_reducible exact K10.out | with_reducible exact K9.out | with_reducible exact K8.out | with_reducible exact K7.out | with_reducible exact K0.out | go_keep)
    (first
      | (go_at_call 11; have hz := M14.out; refine (same_file ⟨mo, go, reqs, reps, excs, rets⟩ HS.out.nreqs HS.out.nreps HS.out.nexcs HS.out.nrets _ _ _ _ _ _ _ _ _ F15b.out F16.out).mono ?_; rintro e w17 ⟨rfl, hb17'⟩; have b17 := b16.trans (hb17'.mono b16.size); have K17 := Lib.hid (L0.out _ b17))
      | (go_at_call 9; have hz := F15.out; refine (theirs_file ⟨mo, go, reqs, reps, excs, rets⟩ HS.out.nreqs HS.out.nreps HS.out.nexcs HS.out.nrets _ _ _ _ _ (FW.out.below b15)).mono ?_; rintro e w16 ⟨x16, y16, z16, v16, rfl, hf16, hb16', -⟩; have b16 := b15.trans (hb16'.mono b15.size); have K16 := Lib.hid (L0.out _ b16); have F16 := Lib.hid hf16; have F15b := Lib.hid (F15.out.below hb16'); clear hf16)
      | (go_at_call 9; have hz := M14.out; refine (theirs_file ⟨mo, go, reqs, reps, excs, rets⟩ HS.out.nreqs HS.out.nreps HS.out.nexcs HS.out.nrets _ _ _ _ _ (XF.out _ b14)).mono ?_; rintro e w15 ⟨x15, y15, z15, v15, rfl, hf15, hb15', -⟩; have b15 := b14.trans (hb15'.mono b14.size); have K15 := Lib.hid (L0.out _ b15); have F15 := Lib.hid hf15; clear hf15)
      | (go_at_call 11; have hz := M10.out; refine (same_file ⟨mo, go, sortC reqC reqs, sortC repC reps, sortC modCmp excs, sortC retC rets⟩ NS.out.1 NS.out.2.1 NS.out.2.2.1 NS.out.2.2.2 _ _ _ _ _ _ _ _ _ F12b.out F13.out).mono ?_; rintro e w14 ⟨rfl, hb14'⟩; have b14 := b13.trans (hb14'.mono b13.size); have K14 := Lib.hid (L0.out _ b14); have M14 := Lib.hid b14)
      | (go_at_call 9; have hz := F12.out; refine (theirs_file ⟨mo, go, sortC reqC reqs, sortC repC reps, sortC modCmp excs, sortC retC rets⟩ NS.out.1 NS.out.2.1 NS.out.2.2.1 NS.out.2.2.2 _ _ _ _ _ (FS.out.below b12)).mono ?_; rintro e w13 ⟨x13, y13, z13, v13, rfl, hf13, hb13', -⟩; have b13 := b12.trans (hb13'.mono b12.size); have K13 := Lib.hid (L0.out _ b13); have F13 := Lib.hid hf13; have F12b := Lib.hid (F12.out.below hb13'); clear hf13)
      | (go_at_call 9; have hz := F11.out; refine (theirs_file ⟨mo, go, sortC reqC reqs, sortC repC reps, sortC modCmp excs, sortC retC rets⟩ NS.out.1 NS.out.2.1 NS.out.2.2.1 NS.out.2.2.2 _ _ _ _ _ F11.out).mono ?_; rintro e w12 ⟨x12, y12, z12, v12, rfl, hf12, hb12', -⟩; have b12 := b11.trans (hb12'.mono b11.size); have K12 := Lib.hid (L0.out _ b12); have F12 := Lib.hid hf12; clear hf12)
      | (go_at_call 10; refine (ssort_any ⟨mo, go, sortC reqC reqs, sortC repC reps, sortC modCmp excs, sortC retC rets⟩ NS.out.1 NS.out.2.1 NS.out.2.2.1 NS.out.2.2.2 TD.out _ _ _ _ _ (FS.out.below b10)).mono ?_; rintro e w11 ⟨x11, y11, z11, v11, rfl, h1, h2, h3, h4⟩; have hb11' := h1.below; have b11 := b10.trans (hb11'.mono b10.size); have K11 := Lib.hid (L0.out _ b11); have F11 := Lib.hid (show FileAt w11 x11 y11 z11 v11 (sortG ⟨mo, go, sortC reqC reqs, sortC repC reps, sortC modCmp excs, sortC retC rets⟩) from ⟨h1.own.row, h2.own.row, h3.own.row, h4.own.row⟩); rw [HI.out] at F11; clear h1 h2 h3 h4)
      | (go_at_call 11; refine (same_file ⟨mo, go, sortC reqC reqs, sortC repC reps, sortC modCmp excs, sortC retC rets⟩ NS.out.1 NS.out.2.1 NS.out.2.2.1 NS.out.2.2.2 _ _ _ _ _ _ _ _ _ F7c.out F9.out).mono ?_; rintro e w10 ⟨rfl, hb10'⟩; have b10 := b9.trans (hb10'.mono b9.size); have K10 := Lib.hid (L0.out _ b10); have M10 := Lib.hid b10)
      | (go_at_call 12; refine (rsort_any ⟨mo, go, reqs, reps, excs, rets⟩ HS.out.nreqs HS.out.nreps HS.out.nexcs HS.out.nrets (tidy_of HS.out) _ _ _ _ _ F8.out).mono ?_; rintro e w9 ⟨x9, y9, z9, v9, rfl, hf9, hb9', -⟩; have b9 := b8.trans (hb9'.mono b8.size); have K9 := Lib.hid (L0.out _ b9); have F9 := Lib.hid hf9; have F7c := Lib.hid (F7b.out.below hb9'); clear hf9)
      | (go_at_call 9; have hz := F7.out; refine (theirs_file ⟨mo, go, reqs, reps, excs, rets⟩ HS.out.nreqs HS.out.nreps HS.out.nexcs HS.out.nrets _ _ _ _ _ (XF.out _ b7)).mono ?_; rintro e w8 ⟨x8, y8, z8, v8, rfl, hf8, hb8', -⟩; have b8 := b7.trans (hb8'.mono b7.size); have K8 := Lib.hid (L0.out _ b8); have F8 := Lib.hid hf8; have F7b := Lib.hid (F7.out.below hb8'); clear hf8)
      | (go_at_call 9; refine (theirs_file ⟨mo, go, sortC reqC reqs, sortC repC reps, sortC modCmp excs, sortC retC rets⟩ NS.out.1 NS.out.2.1 NS.out.2.2.1 NS.out.2.2.2 _ _ _ _ _ (FS.out.below (below_drewN (Below.refl _ _) 1))).mono ?_; rintro e w7 ⟨x7, y7, z7, v7, rfl, hf7, hb7', -⟩; have b7 := below_drewN' (n := 1) hb7'; have K7 := Lib.hid (L0.out _ b7); have F7 := Lib.hid hf7; clear hf7))
  have hBw := HB6.out.trans (b17.mono HB6.out.size)
  go_wp2
  go_ret
  exact ⟨rfl, hBw⟩
end Go.Proofs.YtmdlmjcejeejfaaGreatDoor
namespace Go.Proofs.YtmdlmjcejeejfaaGreatDoor.showSorts
open Go.ChangeShapes Go.WideShapes Go.ChangeAt Go.RowKit Go.Shelf
open Go.ChangeMaps (open_string shut_string)
set_option linter.unusedVariables false

set_option maxRecDepth 100000 in
theorem lifted (os : Os) (started : os.Started) (H : Type) (enc : TypeId × Value → H) :
    ReturnsInHanded {} Tryz.checked os 3 .any (fun w args => (Rows.showSortsSpec.pre enc Tryz.prog Tryz.f3 Rows.showSortsRow.domain false w args ∧ laidMetH Tryz.prog laid0 w) ∧ sizedMet enc Tryz.prog Tryz.f3 (OpenSpec.ofChange Rows.showSortsSpec) false w args)
      (Rows.showSortsSpec.post enc Tryz.prog Tryz.f3 false true false false) := by
  refine returnsInHanded_of_change_and (C := Tryz.checked) (X := fun w _ => laidMetH Tryz.prog laid0 w) (fun _ _ _ hh h => h.of_heap hh) own started (by kernel_rfl) Tryz.func3
    (ChangeSpec.witness_shaped (enc := enc) (C := Tryz.checked) (os := os) (X := fun w _ => laidMetH Tryz.prog laid0 w) false (World.laidAll Tryz.prog os laid0) #[.agg #[.string ByteArray.empty, .string ByteArray.empty, .slice none 0 0, .slice none 0 0, .slice none 0 0, .slice none 0 0]] 8 (World.laidAll_os _ _ _) (World.shaped_of_ZipB (by kernel_rfl) (by kernel_rfl)) (by kernel_rfl) (by kernel_rfl) (by kernel_rfl) (door_met os _)) ?_
  intro W base args ds gs before hval0 hW _ _ hL _
  have hval : ∀ (j : Nat) t v, Tryz.f3.params[j]? = some t → args[j]? = some v → Value.okWide Tryz.prog W .any base t v := hval0
  have hW' := hW
  obtain ⟨p, q, hA0, hV, rfl, hfz, hnd⟩ := hW
  have hA : DataW.TrodAll enc Tryz.prog W 0 (fun _ => true) true Tryz.f3.params.toList args.toList ds p := hA0
  rw [Tryz.params3] at hA hval
  obtain ⟨v0, vs0, d0, ds0, p0, q0, hargs, rfl, rfl, h0, r0⟩ := trodAll_cons hA
  obtain ⟨rfl, rfl, rfl⟩ := trodAll_nil r0
  obtain rfl : args = #[v0] := by cases args; simp_all
  obtain ⟨rfl, rfl⟩ := trodVars_none hV
  obtain ⟨a0, x0, y0, z0, t0, rfl, g0, u0⟩ := open_fileG (hval 0 27 v0 rfl rfl) h0
  clear hA0 hval0
  simp only [List.append_nil] at hW'
  refine (showSorts_walk a0 x0 y0 z0 t0 W g0).mono fun e W' ⟨he, bel⟩ => ?_
  subst he
  exact ⟨_, rfl, _, _, _, [], _, [], hW', trodAll_mk1 (shut_bool Tryz.underlying4 _), (trodAll_cons_mk (u0 _ bel) trodAll_mk0), rfl, bel.frame _, fun h => by cases h⟩

theorem over : Rows.showSortsRow.holds Tryz.pinned (OpenSpec.ofChange Rows.showSortsSpec) :=
  OpenClaim.holds_of_wide 3 Tryz.f3 rfl rfl rfl rfl rfl rfl rfl ⟨rfl, rfl, rfl, rfl, rfl⟩ rfl rfl rfl rfl rfl (by kernel_rfl) Tryz.func3 (by kernel_rfl)
    (of_decide_eq_true (by kernel_rfl)) (by unfold Func.isWrapper; first | (rw [if_pos (by decide +kernel)]; kernel_rfl) | (rw [if_neg (by decide +kernel)]; exact ⟨rfl, rfl⟩))
    (fun os started H enc _ => lifted os started H enc)

theorem proved : Rows.ShowSortsCardSaid :=
  Claim7.holds_tied_plain_at .later [] [.data, .data, .data, .data, .sentinel, .sentinel, .pinned] true (true, "18edadb77f3bfa3fa8f8b8205b4f9fafaf4999d92868bab0b2078fb470906d9f") true
    over (fun _ h => by cases h) (by kernel_rfl) (fun _ h => by cases h) showSorts_row_tie rfl ⟨rfl, rfl⟩ (by kernel_rfl) rfl
    (fun f fn hf hfn => by
      obtain rfl : f = 3 := Option.some.inj ((show Tryz.prog.funcNamed "graftbed/graftbedlaw06.ShowSorts" = some 3 by kernel_rfl).symm.trans hf) |>.symm
      obtain rfl : fn = Tryz.f3 := (Option.some.inj (Tryz.func3.symm.trans hfn)).symm
      exact ⟨by kernel_rfl, fun j t ht => by
        rw [Tryz.params3] at ht
        have hm : t ∈ [27] := by simpa using Array.mem_of_getElem? ht
        have hall : ([27].all fun u => !Tryz.prog.wantsStandIn u) = true := by kernel_rfl
        exact (show Tryz.prog.wantsStandIn t = false by simpa using List.all_eq_true.1 hall t hm)⟩)
    (by kernel_rfl)
#print axioms proved
end Go.Proofs.YtmdlmjcejeejfaaGreatDoor.showSorts
