/-
  ShowDrops holds of every file and any two modules: a require that is added, where there was none of that path, and dropped, leaves what was; in whichever order two are asked for of unlike paths, the same is required. No condition.
-/
import Derived.Test.YtmdlmjcejeejfaaGreatDoorH1
import Derived.Test.YtmdlmjcejeejfaaGreatDoorYA
import Derived.Test.YtmdlmjcejeejfaaGreatDoorYB
import Derived.Test.YtmdlmjcejeejfaaGreatDoorRows
import Derived.Test.YtmdlmjcejeejfaaGreatDoorCards
import Derived.Test.YtmdlmjcejeejfaaGreatDoorTie
import Derived.Test.YtmdlmjcejeejfaaGreatDoorL1
import Derived.Deep.DeepCutAuto
import Derived.SevenTiedAt

/-
  The comparisons of a file's lists.
-/
set_option linter.unusedVariables false
namespace Go.Proofs.YtmdlmjcejeejfaaGreatDoor
open Go.RowKit Go.Shelf

theorem compareN_cmp : Cmp compareN where
  range a b := cmpE_range _ _
  neg a b := cmpE_neg _ _
  trans a b c := by
    intro h1 h2
    refine ⟨cmpE_trans _ _ _ h1 h2, fun e => ?_⟩
    have := compareN_eq e
    subst this
    have h3 : compareN b a = - compareN a b := cmpE_neg _ _
    omega
def verCmp (a b : ByteArray) : Int := orI (scmp a.data.toList b.data.toList) (tcmp a.data.toList b.data.toList)
theorem verCmp_cmp : Cmp verCmp := (Cmp.or scmp_cmp tcmp_cmp).on (fun a : ByteArray => a.data.toList)
def modCmp (a b : ModB) : Int := orI (compareN a.1 b.1) (verCmp a.2 b.2)
theorem modCmp_cmp : Cmp modCmp := Cmp.or (compareN_cmp.on (fun a : ModB => a.1)) (verCmp_cmp.on (fun a : ModB => a.2))
def reqC (a b : ReqB) : Int := compareN a.1.1 b.1.1
def repC (a b : RepB) : Int := modCmp a.1 b.1
def retC0 (a b : RetB) : Int := orI (scmp a.2.1.data.toList b.2.1.data.toList) (scmp a.1.data.toList b.1.data.toList)
def retC (a b : RetB) : Int := retC0 b a
theorem Cmp.flip {α : Type} {f : α → α → Int} (h : Cmp f) : Cmp (fun a b => f b a) where
  range a b := h.range _ _
  neg a b := h.neg _ _
  trans a b c := by
    intro h1 h2
    obtain ⟨k1, k2⟩ := h.trans c b a h2 h1
    exact ⟨k1, fun e => ⟨(k2 e).2, (k2 e).1⟩⟩
def reqO' : Ordr ReqB := ⟨reqC, compareN_cmp.on (fun a : ReqB => a.1.1)⟩
def repO' : Ordr RepB := ⟨repC, modCmp_cmp.on (fun a : RepB => a.1)⟩
def excO' : Ordr ModB := ⟨modCmp, modCmp_cmp⟩
def retO' : Ordr RetB := ⟨retC, (Cmp.or (scmp_cmp.on (fun a : RetB => a.2.1.data.toList)) (scmp_cmp.on (fun a : RetB => a.1.data.toList))).flip⟩
def okQ (x : ReqB) : Prop := x.1.1.size ≤ 20400
def okM (x : ModB) : Prop := x.1.size ≤ 20400 ∧ x.2.size ≤ 20400
def okP (x : RepB) : Prop := okM x.1
def okT (x : RetB) : Prop := x.1.size ≤ 20400 ∧ x.2.1.size ≤ 20400

theorem GBlkJ (w : World) (t : TypeId) (cs : Array Value) (i : Nat) : (w.alloc (.cells cs t)).cell? ⟨w.heap.size, i, none⟩ = cs[i]? := cell_newR w cs t i

set_option maxRecDepth 100000 in
set_option maxHeartbeats 1000000 in
theorem reqCmp_any : CmpOKQ reqO' okQ := by
  intro x1 x2 x3 z1 z2 z3 w hx hz
  dsimp only [okQ] at hx hz
  have HE := Lib.hid (show compareN x1 z1 = reqO'.c ((x1, x2), x3) ((z1, z2), z3) from rfl)
  have hb0 := ((Below.refl w.heap.size w).alloc (Nat.le_refl _) (.cells #[.string x1, .string x2, .bool x3] 50)).alloc (by simp) (.cells #[.string z1, .string z2, .bool z3] 50)
  have HB0 := Lib.hid hb0
  go_enter Tryz.func22, Tryz.ntmps22
  go_wp2_with (go_at_call 23; refine (compare_any _ _ hx hz _).mono ?_; rintro e w1 ⟨rfl, hb1⟩)
  go_ret
  exact ⟨ret_int HE.out, HB0.out.trans (hb1.mono HB0.out.size)⟩

set_option maxRecDepth 100000 in
set_option maxHeartbeats 2000000 in
theorem excCmp_any : CmpOKX excO' okM := by
  intro p v q u w hx hz
  obtain ⟨hp, hv⟩ := hx
  obtain ⟨hq, hu⟩ := hz
  dsimp only at hp hv hq hu
  have HE := Lib.hid (show orL [compareN p q, scmp v.data.toList u.data.toList, tcmp v.data.toList u.data.toList] = excO'.c (p, v) (q, u) by simp only [orL, orI_nought]; rfl)
  have hb0 := ((Below.refl w.heap.size w).alloc (Nat.le_refl _) (.cells #[.string p, .string v] 41)).alloc (by simp) (.cells #[.string q, .string u] 41)
  have g1 := (GBlk.new w 41 #[.string p, .string v]).alloc (.cells #[.string q, .string u] 41)
  have g2 := GBlk.new (w.alloc (.cells #[.string p, .string v] 41)) 41 #[.string q, .string u]
  have hs : (w.alloc (.cells #[.string p, .string v] 41)).heap.size = w.heap.size + 1 := by simp
  rw [hs] at g2
  go_enter Tryz.func26, Tryz.ntmps26
  go_wp2
  generalize (w.alloc (.cells #[.string p, .string v] 41)).alloc (.cells #[.string q, .string u] 41) = W at *
  have HB0 := Lib.hid hb0
  have L0 := Lib.hid (show ∀ w', Below W.heap.size W w' → w'.cell? ⟨w.heap.size, 0, none⟩ = some (.string p) ∧ w'.cell? ⟨w.heap.size, 1, none⟩ = some (.string v) ∧ w'.cell? ⟨w.heap.size + 1, 0, none⟩ = some (.string q) ∧ w'.cell? ⟨w.heap.size + 1, 1, none⟩ = some (.string u) from fun w' h => ⟨(g1.below h).cell 0, (g1.below h).cell 1, (g2.below h).cell 0, (g2.below h).cell 1⟩)
  have K0 := Lib.hid (L0.out W.drew (below_drewN (Below.refl _ _) 1))
  clear g1 g2 hb0 hs
  go_region_held3 (fun w' => w'.cell? ⟨w.heap.size, 0, none⟩ = some (.string p) ∧ w'.cell? ⟨w.heap.size, 1, none⟩ = some (.string v) ∧ w'.cell? ⟨w.heap.size + 1, 0, none⟩ = some (.string q) ∧ w'.cell? ⟨w.heap.size + 1, 1, none⟩ = some (.string u))
    (first | with_reducible exact K6.out | with_reducible exact K5.out | with_reducible exact K4.out | with_reducible exact K0.out | go_keep)
    (first
      | (go_at_call 23; refine (compare_any _ _ hp hq _).mono ?_; rintro e w4 ⟨rfl, hb4'⟩; have b4 := below_drewN' (n := 1) hb4'; have K4 := Lib.hid (L0.out _ b4))
      | (go_at_call 31; refine (compare_any' _ _ hv hu _).mono ?_; rintro e w5 ⟨rfl, hb5'⟩; have b5 := b4.trans (hb5'.mono b4.size); have K5 := Lib.hid (L0.out _ b5))
      | (go_at_call 68; refine (scmpt_any _ _ _).mono ?_; rintro e w6 ⟨rfl, rfl⟩)
      | (go_at_call 30; refine (cor_any _ _ [compareN p q, scmp v.data.toList u.data.toList, tcmp v.data.toList u.data.toList] (by simp) _ (ints_cells _ _ _ _ (by rfl))).mono ?_; rintro e w' ⟨rfl, rfl⟩))
  have hB5 := HB0.out.trans (b5.mono HB0.out.size)
  go_wp2
  go_ret
  exact ⟨ret_int HE.out, hB5.alloc hB5.size _⟩

set_option maxRecDepth 100000 in
set_option maxHeartbeats 1000000 in
theorem repCmp_any : CmpOKP repO' okP := by
  intro x1 x2 x3 x4 z1 z2 z3 z4 w hx hz
  have HE := Lib.hid (show excO'.c (x1, x2) (z1, z2) = repO'.c ((x1, x2), (x3, x4)) ((z1, z2), (z3, z4)) from rfl)
  have hb0 := ((Below.refl w.heap.size w).alloc (Nat.le_refl _) (.cells #[.string x1, .string x2, .string x3, .string x4] 56)).alloc (by simp) (.cells #[.string z1, .string z2, .string z3, .string z4] 56)
  have HB0 := Lib.hid hb0
  have HX := Lib.hid (fun w => excCmp_any x1 x2 z1 z2 w hx hz)
  clear hx hz
  go_enter Tryz.func25, Tryz.ntmps25
  go_wp2_with (go_at_call 26; refine (HX.out _).mono ?_; rintro e w1 ⟨rfl, hb1⟩)
  go_ret
  exact ⟨ret_int HE.out, HB0.out.trans (hb1.mono HB0.out.size)⟩

set_option maxRecDepth 100000 in
set_option maxHeartbeats 2000000 in
theorem retCmp_any : CmpOKT retO' okT := by
  intro p v y q u z w hx hz
  obtain ⟨hp, hv⟩ := hx
  obtain ⟨hq, hu⟩ := hz
  dsimp only at hp hv hq hu
  have HE := Lib.hid (show orL [scmp u.data.toList v.data.toList, scmp q.data.toList p.data.toList] = retO'.c (p, v, y) (q, u, z) by rw [orL_two]; rfl)
  have hb0 := ((Below.refl w.heap.size w).alloc (Nat.le_refl _) (.cells #[.string p, .string v, .string y] 58)).alloc (by simp) (.cells #[.string q, .string u, .string z] 58)
  have g1 := (GBlk.new w 58 #[.string p, .string v, .string y]).alloc (.cells #[.string q, .string u, .string z] 58)
  have g2 := GBlk.new (w.alloc (.cells #[.string p, .string v, .string y] 58)) 58 #[.string q, .string u, .string z]
  have hs : (w.alloc (.cells #[.string p, .string v, .string y] 58)).heap.size = w.heap.size + 1 := by simp
  rw [hs] at g2
  go_enter Tryz.func29, Tryz.ntmps29
  go_wp2
  generalize (w.alloc (.cells #[.string p, .string v, .string y] 58)).alloc (.cells #[.string q, .string u, .string z] 58) = W at *
  have HB0 := Lib.hid hb0
  have L0 := Lib.hid (show ∀ w', Below W.heap.size W w' → w'.cell? ⟨w.heap.size, 0, none⟩ = some (.string p) ∧ w'.cell? ⟨w.heap.size, 1, none⟩ = some (.string v) ∧ w'.cell? ⟨w.heap.size + 1, 0, none⟩ = some (.string q) ∧ w'.cell? ⟨w.heap.size + 1, 1, none⟩ = some (.string u) from fun w' h => ⟨(g1.below h).cell 0, (g1.below h).cell 1, (g2.below h).cell 0, (g2.below h).cell 1⟩)
  have K0 := Lib.hid (L0.out W.drew (below_drewN (Below.refl _ _) 1))
  have R1 := fun w => compare_any' u v hu hv w
  have R2 := fun w => compare_any' q p hq hp w
  clear g1 g2 hb0 hs
  go_region_held3 (fun w' => w'.cell? ⟨w.heap.size, 0, none⟩ = some (.string p) ∧ w'.cell? ⟨w.heap.size, 1, none⟩ = some (.string v) ∧ w'.cell? ⟨w.heap.size + 1, 0, none⟩ = some (.string q) ∧ w'.cell? ⟨w.heap.size + 1, 1, none⟩ = some (.string u))
    (first | with_reducible exact K5.out | with_reducible exact K4.out | with_reducible exact K0.out | go_keep)
    (first
      | (go_at_call 31; have hz := b4; refine (R2 _).mono ?_; rintro e w5 ⟨rfl, hb5'⟩; have b5 := b4.trans (hb5'.mono b4.size); have K5 := Lib.hid (L0.out _ b5); clear hz)
      | (go_at_call 31; refine (R1 _).mono ?_; rintro e w4 ⟨rfl, hb4'⟩; have b4 := below_drewN' (n := 1) hb4'; have K4 := Lib.hid (L0.out _ b4))
      | (go_at_call 30; refine (cor_any _ _ [scmp u.data.toList v.data.toList, scmp q.data.toList p.data.toList] (by simp) _ (ints_cells _ _ _ _ (by rfl))).mono ?_; rintro e w' ⟨rfl, rfl⟩))
  have hB5 := HB0.out.trans (b5.mono HB0.out.size)
  go_wp2
  go_ret
  exact ⟨ret_int HE.out, hB5.alloc hB5.size _⟩
end Go.Proofs.YtmdlmjcejeejfaaGreatDoor

/-
  show.Sort: a file with its lists in order.
-/
set_option linter.unusedVariables false
namespace Go.Proofs.YtmdlmjcejeejfaaGreatDoor
open Go.RowKit Go.Shelf

/-- A file with its lists sorted. -/
def sortG (f : FileG) : FileG := ⟨f.mo, f.go, sortC reqC f.reqs, sortC repC f.reps, sortC modCmp f.excs, sortC retC f.rets⟩
def Tidy (f : FileG) : Prop := Each okQ f.reqs ∧ Each okP f.reps ∧ Each okM f.excs ∧ Each okT f.rets

section
variable {α β : Type} {R : Rec α} {Q : Rec β} {et et' : TypeId} {w0 w w' : World} {V u : Value} {xs : List α} {ys : List β}
theorem ROwn.sameJ {base : Nat} (h : ROwn R et w base V xs) (hb : ∀ k, k < w.heap.size → V.ownBlock = some k → w'.heap[k]? = w.heap[k]?) : ROwn R et w' base V xs := by
  obtain ⟨hl, ⟨rfl, h0⟩ | ⟨g, cap, cur, rfl, hg, hh, hr⟩⟩ := h
  · exact ⟨hl, .inl ⟨rfl, h0⟩⟩
  · exact ⟨hl, .inr ⟨g, cap, cur, rfl, hg, (hb g (Array.getElem?_eq_some_iff.1 hh).1 rfl).trans hh, hr⟩⟩
theorem ROwn.apartJ {b b' : Nat} (h : ROwn R et w b V xs) (k : ROwn Q et' w b' u ys) (hne : et ≠ et') : V.ownBlock = none ∨ V.ownBlock ≠ u.ownBlock := by
  obtain ⟨_, ⟨rfl, _⟩ | ⟨g, cap, cur, rfl, _, hh, _⟩⟩ := h
  · exact .inl rfl
  · refine .inr fun e => ?_
    obtain ⟨_, ⟨rfl, _⟩ | ⟨g', cap', cur', rfl, _, hh', _⟩⟩ := k
    · cases e
    · simp only [Value.ownBlock, Option.some.injEq] at e
      subst e
      rw [hh] at hh'
      simp only [Option.some.injEq, Obj.cells.injEq] at hh'
      exact hne hh'.2.1
theorem ROwn.lowerJ {base base' : Nat} (h : ROwn R et w base V xs) (hb : base' ≤ base) : ROwn R et w base' V xs := by
  obtain ⟨hl, h0 | ⟨g, cap, cur, rfl, hg, hh⟩⟩ := h
  · exact ⟨hl, .inl h0⟩
  · exact ⟨hl, .inr ⟨g, cap, cur, rfl, Nat.le_trans hb hg, hh⟩⟩
/-- Another list is written: this one stays. -/
theorem RAcc.beside (h : RAcc Q et' w0 w u ys) (k : RAcc R et w0 w V xs) (hne : et ≠ et') (hg : w.grownBy w' V.ownBlock) : RAcc Q et' w0 w' u ys := by
  refine ⟨h.own.sameJ fun b hb e => hg.block b hb fun e2 => ?_, h.below.grown hg h.below.size fun b e => k.own.block b e⟩
  rcases k.own.apartJ h.own hne with h1 | h1
  · rw [h1] at e2; cases e2
  · exact h1 (by rw [e, e2])
theorem GBlk.beside {B : Nat} {t : TypeId} {cs : Array Value} (h : GBlk w B t cs) (k : RAcc R et w0 w V xs) (hne : et ≠ t) (hg : w.grownBy w' V.ownBlock) : GBlk w' B t cs := by
  refine (hg.block B h.lt fun e => ?_).trans h
  obtain ⟨_, ⟨rfl, _⟩ | ⟨g, cap, cur, rfl, _, hh, _⟩⟩ := k.own
  · cases e
  · simp only [Value.ownBlock, Option.some.injEq] at e
    subst e
    unfold GBlk at h
    rw [hh] at h
    simp only [Option.some.injEq, Obj.cells.injEq] at h
    exact hne h.2.1
theorem below_beside {B0 : World} (h : Below B0.heap.size B0 w) (k : RAcc R et w0 w V xs) (hz : B0.heap.size ≤ w0.heap.size) (hg : w.grownBy w' V.ownBlock) : Below B0.heap.size B0 w' :=
  h.grown hg h.size fun b e => Nat.le_trans hz (k.own.block b e)
end

/-- What the sort of a list of its own leaves. -/
def SortedJ {α : Type} (R : Rec α) (et : TypeId) (c : α → α → Int) (V : Value) (xs : List α) (w0 w : World) (e : Ending) (w' : World) : Prop := e = .returned (.tuple #[]) ∧ RAcc R et w0 w' V (sortC c xs) ∧ w.grownBy w' V.ownBlock
theorem sortQ_any (V : Value) (xs : List ReqB) (w0 w : World) (h : RAcc reqR 50 w0 w V xs) (hE : Each okQ xs) (hl : xs.length ≤ 1000) : Calls Tryz.prog 21 #[V, cmpVQ] w (SortedJ reqR 50 reqC V xs w0 w) := by
  have h0 := h
  obtain ⟨ho, hb⟩ := h
  rcases ho with ⟨hf, ⟨rfl, hz⟩ | ⟨g, cap, cur, rfl, hg, hh, hr⟩⟩
  · have hn := List.length_eq_zero_iff.1 hz
    subst hn
    refine (stableF_noneQ 0 w).mono ?_
    rintro e w' ⟨rfl, rfl⟩
    exact ⟨rfl, h0, World.grownBy.refl _ _⟩
  · have hW : Work reqR 50 w g cap xs.length w xs := ⟨rfl, h0.own.lowerJ (Nat.zero_le _), World.grownBy.refl _ _⟩
    refine (stableF_anyQ reqO' okQ reqCmp_any w g cap xs.length w xs hW hE hl).mono ?_
    rintro e w' ⟨rfl, ys, r1, r2, hw⟩
    have hys := sort_is r1 r2
    have hln := hw.len
    refine ⟨rfl, ⟨?_, hb.grown hw.far hb.size (fun k e => by cases e; exact hg)⟩, hw.far⟩
    obtain ⟨cur', b1, b2, b3, b4, b5, b6⟩ := hw.block
    have hys' : ys = sortC reqC xs := hys
    rw [← hys']
    refine ⟨by rw [Rec.flat_len], .inr ⟨g, cap, cur', by rw [hln], hg, b1, by rw [hln]; exact b3, b4, b5, by rw [hln]; exact b6⟩⟩
theorem sortP_any (V : Value) (xs : List RepB) (w0 w : World) (h : RAcc repR 56 w0 w V xs) (hE : Each okP xs) (hl : xs.length ≤ 1000) : Calls Tryz.prog 24 #[V, cmpVP] w (SortedJ repR 56 repC V xs w0 w) := by
  have h0 := h
  obtain ⟨ho, hb⟩ := h
  rcases ho with ⟨hf, ⟨rfl, hz⟩ | ⟨g, cap, cur, rfl, hg, hh, hr⟩⟩
  · have hn := List.length_eq_zero_iff.1 hz
    subst hn
    refine (stableF_noneP 0 w).mono ?_
    rintro e w' ⟨rfl, rfl⟩
    exact ⟨rfl, h0, World.grownBy.refl _ _⟩
  · have hW : Work repR 56 w g cap xs.length w xs := ⟨rfl, h0.own.lowerJ (Nat.zero_le _), World.grownBy.refl _ _⟩
    refine (stableF_anyP repO' okP repCmp_any w g cap xs.length w xs hW hE hl).mono ?_
    rintro e w' ⟨rfl, ys, r1, r2, hw⟩
    have hys := sort_is r1 r2
    have hln := hw.len
    refine ⟨rfl, ⟨?_, hb.grown hw.far hb.size (fun k e => by cases e; exact hg)⟩, hw.far⟩
    obtain ⟨cur', b1, b2, b3, b4, b5, b6⟩ := hw.block
    have hys' : ys = sortC repC xs := hys
    rw [← hys']
    refine ⟨by rw [Rec.flat_len], .inr ⟨g, cap, cur', by rw [hln], hg, b1, by rw [hln]; exact b3, b4, b5, by rw [hln]; exact b6⟩⟩
theorem sortX_any (V : Value) (xs : List ModB) (w0 w : World) (h : RAcc modR 41 w0 w V xs) (hE : Each okM xs) (hl : xs.length ≤ 1000) : Calls Tryz.prog 27 #[V, cmpVX] w (SortedJ modR 41 modCmp V xs w0 w) := by
  have h0 := h
  obtain ⟨ho, hb⟩ := h
  rcases ho with ⟨hf, ⟨rfl, hz⟩ | ⟨g, cap, cur, rfl, hg, hh, hr⟩⟩
  · have hn := List.length_eq_zero_iff.1 hz
    subst hn
    refine (stableF_noneX 0 w).mono ?_
    rintro e w' ⟨rfl, rfl⟩
    exact ⟨rfl, h0, World.grownBy.refl _ _⟩
  · have hW : Work modR 41 w g cap xs.length w xs := ⟨rfl, h0.own.lowerJ (Nat.zero_le _), World.grownBy.refl _ _⟩
    refine (stableF_anyX excO' okM excCmp_any w g cap xs.length w xs hW hE hl).mono ?_
    rintro e w' ⟨rfl, ys, r1, r2, hw⟩
    have hys := sort_is r1 r2
    have hln := hw.len
    refine ⟨rfl, ⟨?_, hb.grown hw.far hb.size (fun k e => by cases e; exact hg)⟩, hw.far⟩
    obtain ⟨cur', b1, b2, b3, b4, b5, b6⟩ := hw.block
    have hys' : ys = sortC modCmp xs := hys
    rw [← hys']
    refine ⟨by rw [Rec.flat_len], .inr ⟨g, cap, cur', by rw [hln], hg, b1, by rw [hln]; exact b3, b4, b5, by rw [hln]; exact b6⟩⟩
theorem sortT_any (V : Value) (xs : List RetB) (w0 w : World) (h : RAcc retR 58 w0 w V xs) (hE : Each okT xs) (hl : xs.length ≤ 1000) : Calls Tryz.prog 28 #[V, cmpVT] w (SortedJ retR 58 retC V xs w0 w) := by
  have h0 := h
  obtain ⟨ho, hb⟩ := h
  rcases ho with ⟨hf, ⟨rfl, hz⟩ | ⟨g, cap, cur, rfl, hg, hh, hr⟩⟩
  · have hn := List.length_eq_zero_iff.1 hz
    subst hn
    refine (stableF_noneT 0 w).mono ?_
    rintro e w' ⟨rfl, rfl⟩
    exact ⟨rfl, h0, World.grownBy.refl _ _⟩
  · have hW : Work retR 58 w g cap xs.length w xs := ⟨rfl, h0.own.lowerJ (Nat.zero_le _), World.grownBy.refl _ _⟩
    refine (stableF_anyT retO' okT retCmp_any w g cap xs.length w xs hW hE hl).mono ?_
    rintro e w' ⟨rfl, ys, r1, r2, hw⟩
    have hys := sort_is r1 r2
    have hln := hw.len
    refine ⟨rfl, ⟨?_, hb.grown hw.far hb.size (fun k e => by cases e; exact hg)⟩, hw.far⟩
    obtain ⟨cur', b1, b2, b3, b4, b5, b6⟩ := hw.block
    have hys' : ys = sortC retC xs := hys
    rw [← hys']
    refine ⟨by rw [Rec.flat_len], .inr ⟨g, cap, cur', by rw [hln], hg, b1, by rw [hln]; exact b3, b4, b5, by rw [hln]; exact b6⟩⟩

set_option maxRecDepth 100000 in
set_option maxHeartbeats 4000000 in
theorem ssort_any (f : FileG) (n1 : f.reqs.length ≤ 1000) (n2 : f.reps.length ≤ 1000) (n3 : f.excs.length ≤ 1000) (n4 : f.rets.length ≤ 1000) (hT : Tidy f) (a b c d : Value) (w : World) (hF : FileAt w a b c d f) :
    Calls Tryz.prog 10 #[.agg #[.string f.mo, .string f.go, a, b, c, d]] w (CopyOut (sortG f) w) := by
  obtain ⟨mo, go, reqs, reps, excs, rets⟩ := f
  dsimp only at n1 n2 n3 n4 ⊢
  have HC := Lib.hid (fun w' (h : FileAt w' a b c d ⟨mo, go, reqs, reps, excs, rets⟩) => copied_file ⟨mo, go, reqs, reps, excs, rets⟩ n1 n2 n3 n4 a b c d w' h)
  dsimp only at HC
  have HF := Lib.hid hF
  obtain ⟨hr, hp, hx, ht⟩ := hF
  obtain ⟨A1, C1, rfl⟩ := hr.form
  obtain ⟨A2, C2, rfl⟩ := hp.form
  obtain ⟨A3, C3, rfl⟩ := hx.form
  obtain ⟨A4, C4, rfl⟩ := ht.form
  clear hr hp hx ht
  obtain ⟨t1, t2, t3, t4⟩ := hT
  dsimp only at t1 t2 t3 t4
  have hA := (GBlk.new w 27 #[.string mo, .string go, .slice A1 reqs.length C1, .slice A2 reps.length C2, .slice A3 excs.length C3, .slice A4 rets.length C4]).alloc (.cells #[.string ⟨#[]⟩, .string ⟨#[]⟩, .slice none 0 0, .slice none 0 0, .slice none 0 0, .slice none 0 0] 27)
  have hZ := GBlk.new (w.alloc (.cells #[.string mo, .string go, .slice A1 reqs.length C1, .slice A2 reps.length C2, .slice A3 excs.length C3, .slice A4 rets.length C4] 27)) 27 #[.string ⟨#[]⟩, .string ⟨#[]⟩, .slice none 0 0, .slice none 0 0, .slice none 0 0, .slice none 0 0]
  rw [World.size_alloc] at hZ
  have hB := ((Below.refl w.heap.size w).alloc (Nat.le_refl _) (.cells #[.string mo, .string go, .slice A1 reqs.length C1, .slice A2 reps.length C2, .slice A3 excs.length C3, .slice A4 rets.length C4] 27)).alloc (by simp) (.cells #[.string ⟨#[]⟩, .string ⟨#[]⟩, .slice none 0 0, .slice none 0 0, .slice none 0 0, .slice none 0 0] 27)
  have HT1 := Lib.hid t1
  have HT2 := Lib.hid t2
  have HT3 := Lib.hid t3
  have HT4 := Lib.hid t4
  clear t1 t2 t3 t4
  go_enter Tryz.func10, Tryz.ntmps10
  go_wp2_with fail
  generalize (w.alloc (.cells #[.string mo, .string go, .slice A1 reqs.length C1, .slice A2 reps.length C2, .slice A3 excs.length C3, .slice A4 rets.length C4] 27)).alloc (.cells #[.string ⟨#[]⟩, .string ⟨#[]⟩, .slice none 0 0, .slice none 0 0, .slice none 0 0, .slice none 0 0] 27) = W at *
  refine (HC.out W (HF.out.below hB)).mono ?_
  rintro _ w1 ⟨a', b', c', d', rfl, k1, k2, k3, k4⟩
  obtain ⟨B0, c0, rfl⟩ := k1.own.row.form
  obtain ⟨B1, c1, rfl⟩ := k2.own.row.form
  obtain ⟨B2, c2, rfl⟩ := k3.own.row.form
  obtain ⟨B3, c3, rfl⟩ := k4.own.row.form
  dsimp only at k1 k2 k3 k4 ⊢
  have hA1 := hA.below k1.below
  have hZ1 := hZ.below k1.below
  have hB1 := hB.trans (k1.below.mono hB.size)
  have r1 := (k1.since hB).six hA1 (by decide) (Nat.le_refl _) (.string mo) (.string go) (.slice B0 reqs.length c0) (.slice B1 reps.length c1) (.slice B2 excs.length c2) (.slice B3 rets.length c3)
  have r2 := (k2.since hB).six hA1 (by decide) (Nat.le_refl _) (.string mo) (.string go) (.slice B0 reqs.length c0) (.slice B1 reps.length c1) (.slice B2 excs.length c2) (.slice B3 rets.length c3)
  have r3 := (k3.since hB).six hA1 (by decide) (Nat.le_refl _) (.string mo) (.string go) (.slice B0 reqs.length c0) (.slice B1 reps.length c1) (.slice B2 excs.length c2) (.slice B3 rets.length c3)
  have r4 := (k4.since hB).six hA1 (by decide) (Nat.le_refl _) (.string mo) (.string go) (.slice B0 reqs.length c0) (.slice B1 reps.length c1) (.slice B2 excs.length c2) (.slice B3 rets.length c3)
  have sA := hA1.six (.string mo) (.string go) (.slice B0 reqs.length c0) (.slice B1 reps.length c1) (.slice B2 excs.length c2) (.slice B3 rets.length c3)
  have sZ := hZ1.sixO (B' := w.heap.size) (by omega) (.string mo) (.string go) (.slice B0 reqs.length c0) (.slice B1 reps.length c1) (.slice B2 excs.length c2) (.slice B3 rets.length c3)
  have sB := below_six hB1 (Nat.le_refl _) (.string mo) (.string go) (.slice B0 reqs.length c0) (.slice B1 reps.length c1) (.slice B2 excs.length c2) (.slice B3 rets.length c3)
  have f0 := hA1.frozen 0
  have f1 := hA1.frozen 1
  have f2 := hA1.frozen 2
  have f3 := hA1.frozen 3
  have f4 := hA1.frozen 4
  have f5 := hA1.frozen 5
  have e0 : w1.cell? ⟨w.heap.size, 0, none⟩ = some (.string mo) := hA1.cell 0
  have e1 : w1.cell? ⟨w.heap.size, 1, none⟩ = some (.string go) := hA1.cell 1
  have e2 : w1.cell? ⟨w.heap.size, 2, none⟩ = some (.slice A1 reqs.length C1) := hA1.cell 2
  have e3 : w1.cell? ⟨w.heap.size, 3, none⟩ = some (.slice A2 reps.length C2) := hA1.cell 3
  have e4 : w1.cell? ⟨w.heap.size, 4, none⟩ = some (.slice A3 excs.length C3) := hA1.cell 4
  have e5 : w1.cell? ⟨w.heap.size, 5, none⟩ = some (.slice A4 rets.length C4) := hA1.cell 5
  have kn : ((((((w1.setCell ⟨w.heap.size, 0, none⟩ (.string mo)).setCell ⟨w.heap.size, 1, none⟩ (.string go)).setCell ⟨w.heap.size, 2, none⟩ (.slice B0 reqs.length c0)).setCell ⟨w.heap.size, 3, none⟩ (.slice B1 reps.length c1)).setCell ⟨w.heap.size, 4, none⟩ (.slice B2 excs.length c2)).setCell ⟨w.heap.size, 5, none⟩ (.slice B3 rets.length c3)).cell? ⟨w.heap.size, 2, none⟩ = some (.slice B0 reqs.length c0) := sA.cell 2
  clear hA hZ hB hA1 hZ1 hB1 k1 k2 k3 k4
  have R1 := Lib.hid r1
  have R2 := Lib.hid r2
  have R3 := Lib.hid r3
  have R4 := Lib.hid r4
  have SA := Lib.hid sA
  have SZ := Lib.hid sZ
  have SB := Lib.hid sB
  clear r1 r2 r3 r4 sA sZ sB
  go_wp2_with fail
  generalize ((((((w1.setCell ⟨w.heap.size, 0, none⟩ (.string mo)).setCell ⟨w.heap.size, 1, none⟩ (.string go)).setCell ⟨w.heap.size, 2, none⟩ (.slice B0 reqs.length c0)).setCell ⟨w.heap.size, 3, none⟩ (.slice B1 reps.length c1)).setCell ⟨w.heap.size, 4, none⟩ (.slice B2 excs.length c2)).setCell ⟨w.heap.size, 5, none⟩ (.slice B3 rets.length c3)) = x1 at *
  clear f0 f1 f2 f3 f4 f5 e0 e1 e2 e3 e4 e5
  have r1 := R1.out
  have r2 := R2.out
  have r3 := R3.out
  have r4 := R4.out
  have sA := SA.out
  have sZ := SZ.out
  have sB := SB.out
  clear R1 R2 R3 R4 SA SZ SB
  clear kn
  refine (sortQ_any _ reqs w x1 r1 HT1.out n1).mono ?_
  rintro _ x2 ⟨rfl, s2, g2⟩
  have r2' := r2.beside r1 (by decide) g2
  have r3' := r3.beside r1 (by decide) g2
  have r4' := r4.beside r1 (by decide) g2
  have sA' := sA.beside r1 (by decide) g2
  have sZ' := sZ.beside r1 (by decide) g2
  have sB' := below_beside sB r1 (Nat.le_refl _) g2
  clear r1 r2 r3 r4 sA sZ sB g2
  have r1 := s2
  have r2 := r2'
  have r3 := r3'
  have r4 := r4'
  have sA := sA'
  have sZ := sZ'
  have sB := sB'
  clear sA' sZ' sB' s2 r2' r3' r4'
  have kn : x2.cell? ⟨w.heap.size, 3, none⟩ = some (.slice B1 reps.length c1) := sA.cell 3
  go_wp2_with fail
  clear kn
  refine (sortP_any _ reps w x2 r2 HT2.out n2).mono ?_
  rintro _ x3 ⟨rfl, s3, g3⟩
  have r1' := r1.beside r2 (by decide) g3
  have r3' := r3.beside r2 (by decide) g3
  have r4' := r4.beside r2 (by decide) g3
  have sA' := sA.beside r2 (by decide) g3
  have sZ' := sZ.beside r2 (by decide) g3
  have sB' := below_beside sB r2 (Nat.le_refl _) g3
  clear r1 r2 r3 r4 sA sZ sB g3
  have r1 := r1'
  have r2 := s3
  have r3 := r3'
  have r4 := r4'
  have sA := sA'
  have sZ := sZ'
  have sB := sB'
  clear sA' sZ' sB' s3 r1' r3' r4'
  have kn : x3.cell? ⟨w.heap.size, 4, none⟩ = some (.slice B2 excs.length c2) := sA.cell 4
  go_wp2_with fail
  clear kn
  refine (sortX_any _ excs w x3 r3 HT3.out n3).mono ?_
  rintro _ x4 ⟨rfl, s4, g4⟩
  have r1' := r1.beside r3 (by decide) g4
  have r2' := r2.beside r3 (by decide) g4
  have r4' := r4.beside r3 (by decide) g4
  have sA' := sA.beside r3 (by decide) g4
  have sZ' := sZ.beside r3 (by decide) g4
  have sB' := below_beside sB r3 (Nat.le_refl _) g4
  clear r1 r2 r3 r4 sA sZ sB g4
  have r1 := r1'
  have r2 := r2'
  have r3 := s4
  have r4 := r4'
  have sA := sA'
  have sZ := sZ'
  have sB := sB'
  clear sA' sZ' sB' s4 r1' r2' r4'
  have kn : x4.cell? ⟨w.heap.size, 5, none⟩ = some (.slice B3 rets.length c3) := sA.cell 5
  go_wp2_with fail
  clear kn
  refine (sortT_any _ rets w x4 r4 HT4.out n4).mono ?_
  rintro _ x5 ⟨rfl, s5, g5⟩
  have r1' := r1.beside r4 (by decide) g5
  have r2' := r2.beside r4 (by decide) g5
  have r3' := r3.beside r4 (by decide) g5
  have sA' := sA.beside r4 (by decide) g5
  have sZ' := sZ.beside r4 (by decide) g5
  have sB' := below_beside sB r4 (Nat.le_refl _) g5
  clear r1 r2 r3 r4 sA sZ sB g5
  have r1 := r1'
  have r2 := r2'
  have r3 := r3'
  have r4 := s5
  have sA := sA'
  have sZ := sZ'
  have sB := sB'
  clear sA' sZ' sB' s5 r1' r2' r3'
  have g0 : x5.cell? ⟨w.heap.size, 0, none⟩ = some (.string mo) := sA.cell 0
  have g1 : x5.cell? ⟨w.heap.size, 1, none⟩ = some (.string go) := sA.cell 1
  have g2 : x5.cell? ⟨w.heap.size, 2, none⟩ = some (.slice B0 reqs.length c0) := sA.cell 2
  have g3 : x5.cell? ⟨w.heap.size, 3, none⟩ = some (.slice B1 reps.length c1) := sA.cell 3
  have g4 : x5.cell? ⟨w.heap.size, 4, none⟩ = some (.slice B2 excs.length c2) := sA.cell 4
  have g5 : x5.cell? ⟨w.heap.size, 5, none⟩ = some (.slice B3 rets.length c3) := sA.cell 5
  have z0 : x5.cell? ⟨w.heap.size + 1, 0, none⟩ = some (.string ⟨#[]⟩) := sZ.cell 0
  have z1 : x5.cell? ⟨w.heap.size + 1, 1, none⟩ = some (.string ⟨#[]⟩) := sZ.cell 1
  have z2 : x5.cell? ⟨w.heap.size + 1, 2, none⟩ = some (.slice none 0 0) := sZ.cell 2
  have z3 : x5.cell? ⟨w.heap.size + 1, 3, none⟩ = some (.slice none 0 0) := sZ.cell 3
  have z4 : x5.cell? ⟨w.heap.size + 1, 4, none⟩ = some (.slice none 0 0) := sZ.cell 4
  have z5 : x5.cell? ⟨w.heap.size + 1, 5, none⟩ = some (.slice none 0 0) := sZ.cell 5
  have f0 := sZ.frozen 0
  have f1 := sZ.frozen 1
  have f2 := sZ.frozen 2
  have f3 := sZ.frozen 3
  have f4 := sZ.frozen 4
  have f5 := sZ.frozen 5
  have HRR := Lib.hid (show CopyOut (sortG ⟨mo, go, reqs, reps, excs, rets⟩) w (.returned (.agg #[.string mo, .string go, .slice B0 reqs.length c0, .slice B1 reps.length c1, .slice B2 excs.length c2, .slice B3 rets.length c3])) ((((((x5.setCell ⟨w.heap.size + 1, 0, none⟩ (.string mo)).setCell ⟨w.heap.size + 1, 1, none⟩ (.string go)).setCell ⟨w.heap.size + 1, 2, none⟩ (.slice B0 reqs.length c0)).setCell ⟨w.heap.size + 1, 3, none⟩ (.slice B1 reps.length c1)).setCell ⟨w.heap.size + 1, 4, none⟩ (.slice B2 excs.length c2)).setCell ⟨w.heap.size + 1, 5, none⟩ (.slice B3 rets.length c3)) from ⟨_, _, _, _, rfl, r1.six sZ (by decide) (by omega) (.string mo) (.string go) (.slice B0 reqs.length c0) (.slice B1 reps.length c1) (.slice B2 excs.length c2) (.slice B3 rets.length c3), r2.six sZ (by decide) (by omega) (.string mo) (.string go) (.slice B0 reqs.length c0) (.slice B1 reps.length c1) (.slice B2 excs.length c2) (.slice B3 rets.length c3), r3.six sZ (by decide) (by omega) (.string mo) (.string go) (.slice B0 reqs.length c0) (.slice B1 reps.length c1) (.slice B2 excs.length c2) (.slice B3 rets.length c3), r4.six sZ (by decide) (by omega) (.string mo) (.string go) (.slice B0 reqs.length c0) (.slice B1 reps.length c1) (.slice B2 excs.length c2) (.slice B3 rets.length c3)⟩)
  have HS6 := Lib.hid (sZ.six (.string mo) (.string go) (.slice B0 reqs.length c0) (.slice B1 reps.length c1) (.slice B2 excs.length c2) (.slice B3 rets.length c3))
  clear r1 r2 r3 r4 sA sZ sB
  go_wp2
  have y0 := HS6.out.cell 0
  have y1 := HS6.out.cell 1
  have y2 := HS6.out.cell 2
  have y3 := HS6.out.cell 3
  have y4 := HS6.out.cell 4
  have y5 := HS6.out.cell 5
  refine bodyPost_ret (v := .agg #[.string mo, .string go, .slice B0 reqs.length c0, .slice B1 reps.length c1, .slice B2 excs.length c2, .slice B3 rets.length c3]) (by simp [results, Tryz.results10, go_sem, y0, y1, y2, y3, y4, y5]) rfl HRR.out
end Go.Proofs.YtmdlmjcejeejfaaGreatDoor

/-
  Plain facts of ShowDrops: what is required, and dropped, of a file that had none of the paths.
-/
set_option linter.unusedVariables false
namespace Go.Proofs.YtmdlmjcejeejfaaGreatDoor
open Go.RowKit Go.Shelf

theorem sortC_in {α : Type} {c : α → α → Int} {xs : List α} {x : α} : x ∈ sortC c xs ↔ x ∈ xs := by
  have := (sortC_perm (c := c) xs xs.length (Nat.le_refl _)).mem_iff (a := x)
  rwa [List.take_length] at this
theorem sortC_idem {α : Type} (O : Ordr α) (xs : List α) : sortC O.c (sortC O.c xs) = sortC O.c xs := by
  have h := (sort_kept_take (O := O) xs xs.length (Nat.le_refl _)).1
  rw [List.take_length] at h
  exact (sort_is (O := O) h (Kept.refl _)).symm
theorem sortG_idem (f : FileG) : sortG (sortG f) = sortG f := by
  unfold sortG
  congr 1
  · exact sortC_idem reqO' f.reqs
  · exact sortC_idem repO' f.reps
  · exact sortC_idem excO' f.excs
  · exact sortC_idem retO' f.rets
theorem tidy_of {f : FileG} (h : Sized f) : Tidy f := ⟨fun x hx => by have := (h.reqs x hx).1; show _ ≤ _; omega, fun x hx => ⟨by have := (h.reps x hx).1; omega, by have := (h.reps x hx).2.1; omega⟩, fun x hx => ⟨by have := (h.excs x hx).1; omega, by have := (h.excs x hx).2; omega⟩, fun x hx => ⟨by have := (h.rets x hx).1; omega, by have := (h.rets x hx).2.1; omega⟩⟩
theorem tidy_sort {f : FileG} (h : Tidy f) : Tidy (sortG f) := ⟨fun x hx => h.1 x (sortC_in.1 hx), fun x hx => h.2.1 x (sortC_in.1 hx), fun x hx => h.2.2.1 x (sortC_in.1 hx), fun x hx => h.2.2.2 x (sortC_in.1 hx)⟩
theorem FileOut.forms {f : FileG} {a b c d : Value} {w : World} {e : Ending} {w' : World} (h : FileOut f a b c d w e w') : ∃ A0 c0 A1 c1 A2 c2 A3 c3, e = .returned (.agg #[.string f.mo, .string f.go, .slice A0 f.reqs.length c0, .slice A1 f.reps.length c1, .slice A2 f.excs.length c2, .slice A3 f.rets.length c3]) ∧
    FileAt w' (.slice A0 f.reqs.length c0) (.slice A1 f.reps.length c1) (.slice A2 f.excs.length c2) (.slice A3 f.rets.length c3) f ∧ Below w.heap.size w w' := by
  obtain ⟨a, b, c, d, rfl, hF, hb, -⟩ := h
  obtain ⟨A0, c0, rfl⟩ := hF.reqs.form
  obtain ⟨A1, c1, rfl⟩ := hF.reps.form
  obtain ⟨A2, c2, rfl⟩ := hF.excs.form
  obtain ⟨A3, c3, rfl⟩ := hF.rets.form
  exact ⟨A0, c0, A1, c1, A2, c2, A3, c3, rfl, hF, hb⟩
theorem CopyOut.forms {f : FileG} {w : World} {e : Ending} {w' : World} (h : CopyOut f w e w') : ∃ A0 c0 A1 c1 A2 c2 A3 c3, e = .returned (.agg #[.string f.mo, .string f.go, .slice A0 f.reqs.length c0, .slice A1 f.reps.length c1, .slice A2 f.excs.length c2, .slice A3 f.rets.length c3]) ∧
    FileAt w' (.slice A0 f.reqs.length c0) (.slice A1 f.reps.length c1) (.slice A2 f.excs.length c2) (.slice A3 f.rets.length c3) f ∧ Below w.heap.size w w' := by
  obtain ⟨a, b, c, d, rfl, h1, h2, h3, h4⟩ := h
  obtain ⟨A0, c0, rfl⟩ := h1.own.row.form
  obtain ⟨A1, c1, rfl⟩ := h2.own.row.form
  obtain ⟨A2, c2, rfl⟩ := h3.own.row.form
  obtain ⟨A3, c3, rfl⟩ := h4.own.row.form
  exact ⟨A0, c0, A1, c1, A2, c2, A3, c3, rfl, ⟨h1.own.row, h2.own.row, h3.own.row, h4.own.row⟩, h1.below⟩
theorem len_sort {α : Type} {c : α → α → Int} {xs : List α} (h : xs.length ≤ 1000) : (sortC c xs).length ≤ 1000 := by rw [sortC_len]; exact h

theorem cmp_zero {α : Type} {O : Ordr α} {a b q : α} (h : O.c a q = 0) (k : O.c b q = 0) : O.c a b = 0 := by
  have n1 := cmp_neg (O := O) b q
  have l1 := cmp_le (O := O) (a := a) (b := q) (c := b) (by omega) (by omega)
  have n2 := cmp_neg (O := O) a q
  have l2 := cmp_le (O := O) (a := b) (b := q) (c := a) (by omega) (by omega)
  have n3 := cmp_neg (O := O) a b
  omega
theorem sortC_two {α : Type} {O : Ordr α} {xs : List α} {a b : α} (h : O.c a b ≠ 0) : sortC O.c (xs ++ [a] ++ [b]) = sortC O.c (xs ++ [b] ++ [a]) := by
  have h1 := sort_kept_take (O := O) (xs ++ [a] ++ [b]) _ (Nat.le_refl _)
  rw [List.take_length] at h1
  refine sort_is (O := O) h1.1 (Kept.trans (ys := xs ++ [a] ++ [b]) (fun q => ?_) h1.2)
  rw [List.append_assoc, List.append_assoc, List.filter_append, List.filter_append]
  congr 1
  rw [List.filter_append, List.filter_append]
  by_cases ha : O.c a q = 0
  · by_cases hb : O.c b q = 0
    · exact absurd (cmp_zero ha hb) h
    · simp [hb]
  · simp [ha]
theorem reqC_ne {a b : ReqB} (h : (a.1.1.toList == b.1.1.toList) = false) : reqO'.c a b ≠ 0 := by
  intro e
  have := compareN_eq (show compareN a.1.1 b.1.1 = 0 from e)
  rw [this] at h
  simp at h
theorem none_any {α : Type} {p : α → Bool} {xs : List α} (h : NoneTo p xs xs.length) : xs.any p = false := by
  rw [List.any_eq_false]
  intro x hx
  obtain ⟨k, hk, rfl⟩ := List.mem_iff_getElem.1 hx
  have := h k hk hk
  simp [this]
theorem req_new {f a : FileG} {m : ModB} (h : reqO f m = (a, 0)) (hn : f.reqs.any (fun r => sameP r m.1) = false) : a = f.with (f.reqs ++ [(m, false)]) := by
  have := (req_ok h).2.2
  rw [this, raiseL, hn]; rfl
theorem req_new2 {f a : FileG} {m n : ModB} (h1 : reqO f m = (a, 0)) (h2 : chkE (f.with [(n, false)]) = 0) (hm : f.reqs.any (fun r => sameP r m.1) = false) (hn : f.reqs.any (fun r => sameP r n.1) = false) (hne : (m.1.toList == n.1.toList) = false) :
    reqO a n = (f.with (f.reqs ++ [(m, false)] ++ [(n, false)]), 0) := by
  have hK := (req_all h1).2.2.2
  have e := req_new h1 hm
  subst e
  rw [reqO_3 hK (show chkE ((f.with (f.reqs ++ [(m, false)])).with [(n, false)]) = 0 from h2)]
  have : (f.reqs ++ [(m, false)]).any (fun r => sameP r n.1) = false := by
    rw [List.any_append, hn]
    simp [sameP, hne]
  show ((f.with _).with (raiseL (f.reqs ++ [(m, false)]) n), (0 : Int)) = _
  rw [raiseL, this]; rfl
theorem drop_back {f a : FileG} {m : ModB} (h : reqO f m = (a, 0)) (hm : f.reqs.any (fun r => sameP r m.1) = false) : dropO a m.1 = (f, 0) := by
  have e := req_new h hm
  subst e
  have hd : dropL (f.reqs ++ [(m, false)]) m.1 = f.reqs := by
    rw [dropL, List.filter_append]
    have h1 : f.reqs.filter (fun r => !sameP r m.1) = f.reqs := by
      rw [List.filter_eq_self]
      intro r hr
      have := List.any_eq_false.1 hm r hr
      simpa using this
    rw [h1]
    simp [sameP]
  rw [dropO_2 (by show ¬ (dropL (f.reqs ++ [(m, false)]) m.1).length = _; rw [hd]; simp [FileG.with])]
  show ((f.with _).with (dropL (f.reqs ++ [(m, false)]) m.1), (0 : Int)) = _
  rw [hd]; rfl

theorem with_sized {f : FileG} {l : List ReqB} (h : Sized f) (hn : l.length ≤ 1000) (hl : ∀ x ∈ l, x.1.1.size ≤ 20000 ∧ x.1.2.size ≤ 20000) : Sized (f.with l) :=
  ⟨h.mo, h.go, hn, h.nreps, h.nexcs, h.nrets, hl, h.reps, h.excs, h.rets⟩
theorem two_sized {f : FileG} {m n : ModB} (h : Sized f) (hn : f.reqs.length ≤ 900) (s1 : m.1.size ≤ 20000) (s2 : m.2.size ≤ 20000) (t1 : n.1.size ≤ 20000) (t2 : n.2.size ≤ 20000) : Sized (f.with (f.reqs ++ [(m, false)] ++ [(n, false)])) := by
  refine with_sized h (by simp; omega) fun x hx => ?_
  rcases List.mem_append.1 hx with hx | hx
  · rcases List.mem_append.1 hx with hx | hx
    · exact h.reqs x hx
    · rw [List.mem_singleton.1 hx]; exact ⟨s1, s2⟩
  · rw [List.mem_singleton.1 hx]; exact ⟨t1, t2⟩
theorem drops_plain {f a b : FileG} {m n : ModB} (h : Sized f) (hl : f.reqs.length ≤ 900) (s1 : m.1.size ≤ 20000) (s2 : m.2.size ≤ 20000) (t1 : n.1.size ≤ 20000) (t2 : n.2.size ≤ 20000)
    (h1 : reqO f m = (a, 0)) (h2 : reqO f n = (b, 0)) (hN : NoneTo (fun r => sameP r m.1 || sameP r n.1) f.reqs f.reqs.length) (hne : (m.1.toList == n.1.toList) = false) :
    dropO a m.1 = (f, 0) ∧ ∃ x y g, reqO a n = (x, 0) ∧ reqO b m = (y, 0) ∧ sortG x = g ∧ sortG y = g ∧ Sized x ∧ Sized y ∧ g.reqs.length ≤ 1000 ∧ g.reps.length ≤ 1000 ∧ g.excs.length ≤ 1000 ∧ g.rets.length ≤ 1000 := by
  have hm : f.reqs.any (fun r => sameP r m.1) = false := none_any fun j hj h => by
    have := hN j hj h; simp at this; exact this.1
  have hn : f.reqs.any (fun r => sameP r n.1) = false := none_any fun j hj h => by
    have := hN j hj h; simp at this; exact this.2
  have hne' : (n.1.toList == m.1.toList) = false := by rw [Bool.eq_false_iff] at hne ⊢; intro h; exact hne (by rw [beq_iff_eq] at h ⊢; exact h.symm)
  refine ⟨drop_back h1 hm, _, _, _, req_new2 h1 (req_ok h2).2.1 hm hn hne, req_new2 h2 (req_ok h1).2.1 hn hm hne', rfl, ?_, two_sized h hl s1 s2 t1 t2, two_sized h hl t1 t2 s1 s2, ?_, ?_, ?_, ?_⟩
  · unfold sortG FileG.with
    congr 1
    exact (sortC_two (O := reqO') (reqC_ne hne)).symm
  · rw [show (sortG _).reqs = sortC reqC _ from rfl, sortC_len]; exact (two_sized h hl s1 s2 t1 t2).nreqs
  · rw [show (sortG _).reps = sortC repC _ from rfl, sortC_len]; exact h.nreps
  · rw [show (sortG _).excs = sortC modCmp _ from rfl, sortC_len]; exact h.nexcs
  · rw [show (sortG _).rets = sortC retC _ from rfl, sortC_len]; exact h.nrets
end Go.Proofs.YtmdlmjcejeejfaaGreatDoor

/-
  The walk of ShowDrops.
-/
set_option linter.unusedVariables false
namespace Go.Proofs.YtmdlmjcejeejfaaGreatDoor
open Go.RowKit Go.Shelf

set_option maxRecDepth 100000 in
set_option maxHeartbeats 16000000 in
theorem showDrops_walk (f : FileG) (a b c d : Value) (m1 m2 q1 q2 : ByteArray) (w : World) (hF : FileAt w a b c d f) :
    Calls Tryz.prog 5 #[.agg #[.string f.mo, .string f.go, a, b, c, d], .agg #[.string m1, .string m2], .agg #[.string q1, .string q2]] w fun e w' => e = .returned (.bool true) ∧ Below w.heap.size w w' := by
  obtain ⟨mo, go, reqs, reps, excs, rets⟩ := f
  have HF0 := Lib.hid hF
  obtain ⟨hr, hp, hx, ht⟩ := hF
  dsimp only at *
  obtain ⟨ra, rc, rfl⟩ := hr.form
  obtain ⟨pa, pc, rfl⟩ := hp.form
  obtain ⟨xa, xc, rfl⟩ := hx.form
  obtain ⟨ta, tc, rfl⟩ := ht.form
  clear hr hp hx ht
  have hB := ((((Below.refl w.heap.size w).alloc (Nat.le_refl _) (.cells #[.string mo, .string go, .slice ra reqs.length rc, .slice pa reps.length pc, .slice xa excs.length xc, .slice ta rets.length tc] 27)).alloc (by simp) (.cells #[.string m1, .string m2] 41))).alloc (by simp; omega) (.cells #[.string q1, .string q2] 41)
  have gF := ((GBlk.new w 27 #[.string mo, .string go, .slice ra reqs.length rc, .slice pa reps.length pc, .slice xa excs.length xc, .slice ta rets.length tc]).alloc (.cells #[.string m1, .string m2] 41)).alloc (.cells #[.string q1, .string q2] 41)
  have gM := (GBlk.new (w.alloc (.cells #[.string mo, .string go, .slice ra reqs.length rc, .slice pa reps.length pc, .slice xa excs.length xc, .slice ta rets.length tc] 27)) 41 #[.string m1, .string m2]).alloc (.cells #[.string q1, .string q2] 41)
  have gN := GBlk.new ((w.alloc (.cells #[.string mo, .string go, .slice ra reqs.length rc, .slice pa reps.length pc, .slice xa excs.length xc, .slice ta rets.length tc] 27)).alloc (.cells #[.string m1, .string m2] 41)) 41 #[.string q1, .string q2]
  simp only [World.size_alloc] at gM gN
  go_enter Tryz.func5, Tryz.ntmps5
  go_wp2_with fail
  generalize (((w.alloc (.cells #[.string mo, .string go, .slice ra reqs.length rc, .slice pa reps.length pc, .slice xa excs.length xc, .slice ta rets.length tc] 27)).alloc (.cells #[.string m1, .string m2] 41)).alloc (.cells #[.string q1, .string q2] 41)) = W at *
  refine (large_file ⟨mo, go, reqs, reps, excs, rets⟩ _ _ _ _ _ (HF0.out.below hB)).mono ?_
  rintro _ w1 ⟨bl, rfl, hsm, hb1⟩
  replace hB := hB.trans (hb1.mono hB.size)
  replace gF := gF.below hb1
  replace gM := gM.below hb1
  replace gN := gN.below hb1
  clear hb1 W
  have e0 : w1.cell? ⟨w.heap.size + 1, 0, none⟩ = some (.string m1) := gM.cell 0
  have e1 : w1.cell? ⟨w.heap.size + 1, 1, none⟩ = some (.string m2) := gM.cell 1
  have e2 : w1.cell? ⟨w.heap.size + 1 + 1, 0, none⟩ = some (.string q1) := gN.cell 0
  have e3 : w1.cell? ⟨w.heap.size + 1 + 1, 1, none⟩ = some (.string q2) := gN.cell 1
  cases bl
  case true =>
    go_wp2_with (go_at_call 7; refine (shown_any _).mono ?_; rintro e w9 ⟨rfl, hb9⟩)
    go_ret
    exact ⟨rfl, hB.trans (hb9.mono hB.size)⟩
  have HSm := Lib.hid (hsm rfl)
  have HS := Lib.hid (hsm rfl).sized
  clear hsm
  by_cases tm1 : 200 < m1.size
  case pos =>
    have t0' : (200 : Int) < (m1.size : Int) := by omega
    go_wp2_with (go_at_call 7; refine (shown_any _).mono ?_; rintro e w9 ⟨rfl, hb9⟩)
    go_ret
    exact ⟨rfl, hB.trans (hb9.mono hB.size)⟩
  have sm1 : ¬ (200 : Int) < (m1.size : Int) := by omega
  by_cases tm2 : 200 < m2.size
  case pos =>
    have t0' : (200 : Int) < (m2.size : Int) := by omega
    go_wp2_with (go_at_call 7; refine (shown_any _).mono ?_; rintro e w9 ⟨rfl, hb9⟩)
    go_ret
    exact ⟨rfl, hB.trans (hb9.mono hB.size)⟩
  have sm2 : ¬ (200 : Int) < (m2.size : Int) := by omega
  by_cases tq1 : 200 < q1.size
  case pos =>
    have t0' : (200 : Int) < (q1.size : Int) := by omega
    go_wp2_with (go_at_call 7; refine (shown_any _).mono ?_; rintro e w9 ⟨rfl, hb9⟩)
    go_ret
    exact ⟨rfl, hB.trans (hb9.mono hB.size)⟩
  have sq1 : ¬ (200 : Int) < (q1.size : Int) := by omega
  by_cases tq2 : 200 < q2.size
  case pos =>
    have t0' : (200 : Int) < (q2.size : Int) := by omega
    go_wp2_with (go_at_call 7; refine (shown_any _).mono ?_; rintro e w9 ⟨rfl, hb9⟩)
    go_ret
    exact ⟨rfl, hB.trans (hb9.mono hB.size)⟩
  have sq2 : ¬ (200 : Int) < (q2.size : Int) := by omega
  go_wp2_with fail
  refine (shown_any _).mono ?_
  rintro _ w2 ⟨rfl, hb2⟩
  replace hB := hB.trans (hb2.mono hB.size)
  replace gF := gF.below hb2
  replace gM := gM.below hb2
  replace gN := gN.below hb2
  clear hb2 e0 e1 e2 e3
  have f2 : w2.cell? ⟨w.heap.size, 2, none⟩ = some (.slice ra reqs.length rc) := gF.cell 2
  have HF2 := Lib.hid (HF0.out.below hB)
  have h1000 := HS.out.nreqs
  dsimp only at h1000
  have HB := Lib.hid hB
  have GF := Lib.hid gF
  have GM := Lib.hid gM
  have GN := Lib.hid gN
  have TM := Lib.hid (And.intro sm1 (And.intro sm2 (And.intro sq1 sq2)))
  clear hB gF gM gN f2
  go_wp2
  simp only [decide_eq_false (show ¬ (200 : Int) < (m1.size : Int) by omega), decide_eq_false (show ¬ (200 : Int) < (m2.size : Int) by omega), decide_eq_false (show ¬ (200 : Int) < (q1.size : Int) by omega), decide_eq_false (show ¬ (200 : Int) < (q2.size : Int) by omega)]
  clear tm1 tm2 tq1 tq2 sm1 sm2 sq1 sq2
  go_loopw [7] (fun i wr => ∃ k : Nat, k ≤ reqs.length ∧ i = .int .i64 k ∧ NoneTo (fun r => sameP r m1 || sameP r q1) reqs k ∧ Below w2.heap.size w2 wr) (fun i _ => reqs.length - (intOf i).toNat)
  case atStart => exact ⟨0, Nat.zero_le _, rfl, (fun j hj h => absurd h (Nat.not_lt_zero _)), Below.refl _ _⟩
  case round =>
    obtain ⟨k, hk, rfl, hN, hBw⟩ := hrel
    have HN := Lib.hid hN
    clear hN
    have u0 : wr.cell? ⟨w.heap.size, 2, none⟩ = some (.slice ra reqs.length rc) := (GF.out.below hBw).cell 2
    have u1 : wr.cell? ⟨w.heap.size + 1, 0, none⟩ = some (.string m1) := (GM.out.below hBw).cell 0
    have u2 : wr.cell? ⟨w.heap.size + 1 + 1, 0, none⟩ = some (.string q1) := (GN.out.below hBw).cell 0
    by_cases hlt : k < reqs.length
    · obtain ⟨-, hcap, hsp⟩ := (HF2.out.below hBw).reqs.spot
      obtain ⟨g, o, rfl, hg, hat⟩ := hsp (ne_of_lt hlt)
      obtain ⟨z1, z2, z3⟩ := req_at hat k hlt
      have HX := Lib.hid (fun (h : (sameP reqs[k] m1 || sameP reqs[k] q1) = false) => show NoneTo (fun r => sameP r m1 || sameP r q1) reqs (k + 1) from fun j hj hjk => by
        by_cases e : j = k
        · subst e; exact h
        · exact HN.out j hj (by omega))
      clear hat hsp
      generalize reqs[k] = x at *
      obtain ⟨⟨p, v⟩, bb⟩ := x
      dsimp only [sameP] at z1 z2 z3 HX
      have HSh := Lib.hid (fun n w9 (h : Below (wr.drewN n).heap.size (wr.drewN n) w9) => show Below w.heap.size w w9 from (HB.out.trans (hBw.mono HB.out.size)).trans ((below_drewN' h).mono (HB.out.trans (hBw.mono HB.out.size)).size))
      cases h1 : (p.toList == m1.toList)
      · cases h2 : (p.toList == q1.toList)
        · have HY := Lib.hid (HX.out (by rw [h1, h2]; rfl))
          clear HX HSh
          go_wp2
          go_quiet (fail)
          go_wp2
          refine ⟨⟨_, _, _, _, _, _, _, _, _, _, _, _, _, _, _, _, _, _, _, _, _, _, _, _, _, _, _, _, _, _, _, _, ⟨k + 1, ?_, ?_, HY.out, below_drewN hBw _⟩, rfl⟩, ?_⟩
          · omega
          · go_num
          · simp [intOf]; omega
        · clear HX
          go_wp2
          go_quiet (fail)
          go_wp2_with (go_at_call 7; refine (shown_any _).mono ?_; rintro e w9 ⟨rfl, hb9⟩)
          go_ret
          exact ⟨rfl, HSh.out _ _ hb9⟩
      · clear HX
        go_wp2
        go_quiet (fail)
        go_wp2_with (go_at_call 7; refine (shown_any _).mono ?_; rintro e w9 ⟨rfl, hb9⟩)
        go_ret
        exact ⟨rfl, HSh.out _ _ hb9⟩
    · obtain rfl : k = reqs.length := by omega
      have hB2 : Below w.heap.size w wr := HB.out.trans (hBw.mono HB.out.size)
      have gF2 := GF.out.below hBw
      have gM2 := GM.out.below hBw
      have gN2 := GN.out.below hBw
      clear HB GF GM GN u0 u1 u2
      generalize wr = w3 at *
      have f0 : w3.cell? ⟨w.heap.size, 0, none⟩ = some (.string mo) := gF2.cell 0
      have f1 : w3.cell? ⟨w.heap.size, 1, none⟩ = some (.string go) := gF2.cell 1
      have f2 : w3.cell? ⟨w.heap.size, 2, none⟩ = some (.slice ra reqs.length rc) := gF2.cell 2
      have f3 : w3.cell? ⟨w.heap.size, 3, none⟩ = some (.slice pa reps.length pc) := gF2.cell 3
      have f4 : w3.cell? ⟨w.heap.size, 4, none⟩ = some (.slice xa excs.length xc) := gF2.cell 4
      have f5 : w3.cell? ⟨w.heap.size, 5, none⟩ = some (.slice ta rets.length tc) := gF2.cell 5
      have e0 : w3.cell? ⟨w.heap.size + 1, 0, none⟩ = some (.string m1) := gM2.cell 0
      have e1 : w3.cell? ⟨w.heap.size + 1, 1, none⟩ = some (.string m2) := gM2.cell 1
      go_wp2_with fail
      have sm1 : m1.size ≤ 20000 := by have := TM.out.1; omega
      have sm2 : m2.size ≤ 20000 := by have := TM.out.2.1; omega
      have sq1 : q1.size ≤ 20000 := by have := TM.out.2.2.1; omega
      have sq2 : q2.size ≤ 20000 := by have := TM.out.2.2.2; omega
      refine (require_file ⟨mo, go, reqs, reps, excs, rets⟩ HS.out m1 m2 sm1 sm2 _ _ _ _ _ (HF0.out.below hB2)).mono ?_
      intro e wa hfe
      obtain ⟨A0, c0, A1, c1, A2, c2, A3, c3, rfl, hFa, hb3⟩ := hfe.forms
      clear hfe
      have HZ := Lib.hid (reqO_sized (m := (m1, m2)) HS.out (show reqs.length ≤ 900 by have := HSm.out.nreqs; simp only at this; omega) sm1 sm2)
      generalize hR : reqO ⟨mo, go, reqs, reps, excs, rets⟩ (m1, m2) = R at *
      have HQ := Lib.hid hR
      clear hR
      obtain ⟨⟨pmo, pgo, preqs, preps, pexcs, prets⟩, er⟩ := R
      dsimp only at hFa HZ ⊢
      have hB3 := hB2.trans (hb3.mono hB2.size)
      have gF3 := (gF2.below hb3).alloc (.cells #[.string pmo, .string pgo, .slice A0 preqs.length c0, .slice A1 preps.length c1, .slice A2 pexcs.length c2, .slice A3 prets.length c3] 27)
      have gM3 := (gM2.below hb3).alloc (.cells #[.string pmo, .string pgo, .slice A0 preqs.length c0, .slice A1 preps.length c1, .slice A2 pexcs.length c2, .slice A3 prets.length c3] 27)
      have gN3 := (gN2.below hb3).alloc (.cells #[.string pmo, .string pgo, .slice A0 preqs.length c0, .slice A1 preps.length c1, .slice A2 pexcs.length c2, .slice A3 prets.length c3] 27)
      have gA := GBlk.new wa 27 #[.string pmo, .string pgo, .slice A0 preqs.length c0, .slice A1 preps.length c1, .slice A2 pexcs.length c2, .slice A3 prets.length c3]
      have hB4 := hB3.alloc hB3.size (.cells #[.string pmo, .string pgo, .slice A0 preqs.length c0, .slice A1 preps.length c1, .slice A2 pexcs.length c2, .slice A3 prets.length c3] 27)
      have hFa3 := hFa.below ((Below.refl _ _).alloc (Nat.le_refl _) (.cells #[.string pmo, .string pgo, .slice A0 preqs.length c0, .slice A1 preps.length c1, .slice A2 pexcs.length c2, .slice A3 prets.length c3] 27))
      clear f0 f1 f2 f3 f4 f5 e0 e1 hb3 hFa hB2 hB3 gF2 gM2 gN2
      have f0 : (wa.alloc (.cells #[.string pmo, .string pgo, .slice A0 preqs.length c0, .slice A1 preps.length c1, .slice A2 pexcs.length c2, .slice A3 prets.length c3] 27)).cell? ⟨w.heap.size, 0, none⟩ = some (.string mo) := gF3.cell 0
      have f1 : (wa.alloc (.cells #[.string pmo, .string pgo, .slice A0 preqs.length c0, .slice A1 preps.length c1, .slice A2 pexcs.length c2, .slice A3 prets.length c3] 27)).cell? ⟨w.heap.size, 1, none⟩ = some (.string go) := gF3.cell 1
      have f2 : (wa.alloc (.cells #[.string pmo, .string pgo, .slice A0 preqs.length c0, .slice A1 preps.length c1, .slice A2 pexcs.length c2, .slice A3 prets.length c3] 27)).cell? ⟨w.heap.size, 2, none⟩ = some (.slice ra reqs.length rc) := gF3.cell 2
      have f3 : (wa.alloc (.cells #[.string pmo, .string pgo, .slice A0 preqs.length c0, .slice A1 preps.length c1, .slice A2 pexcs.length c2, .slice A3 prets.length c3] 27)).cell? ⟨w.heap.size, 3, none⟩ = some (.slice pa reps.length pc) := gF3.cell 3
      have f4 : (wa.alloc (.cells #[.string pmo, .string pgo, .slice A0 preqs.length c0, .slice A1 preps.length c1, .slice A2 pexcs.length c2, .slice A3 prets.length c3] 27)).cell? ⟨w.heap.size, 4, none⟩ = some (.slice xa excs.length xc) := gF3.cell 4
      have f5 : (wa.alloc (.cells #[.string pmo, .string pgo, .slice A0 preqs.length c0, .slice A1 preps.length c1, .slice A2 pexcs.length c2, .slice A3 prets.length c3] 27)).cell? ⟨w.heap.size, 5, none⟩ = some (.slice ta rets.length tc) := gF3.cell 5
      have n0 : (wa.alloc (.cells #[.string pmo, .string pgo, .slice A0 preqs.length c0, .slice A1 preps.length c1, .slice A2 pexcs.length c2, .slice A3 prets.length c3] 27)).cell? ⟨w.heap.size + 1 + 1, 0, none⟩ = some (.string q1) := gN3.cell 0
      have n1 : (wa.alloc (.cells #[.string pmo, .string pgo, .slice A0 preqs.length c0, .slice A1 preps.length c1, .slice A2 pexcs.length c2, .slice A3 prets.length c3] 27)).cell? ⟨w.heap.size + 1 + 1, 1, none⟩ = some (.string q2) := gN3.cell 1
      go_wp2_with fail
      generalize wa.alloc (.cells #[.string pmo, .string pgo, .slice A0 preqs.length c0, .slice A1 preps.length c1, .slice A2 pexcs.length c2, .slice A3 prets.length c3] 27) = w4 at *
      refine (require_file ⟨mo, go, reqs, reps, excs, rets⟩ HS.out q1 q2 sq1 sq2 _ _ _ _ _ (HF0.out.below hB4)).mono ?_
      intro e wb hfe
      obtain ⟨B0, d0, B1, d1, B2, d2, B3, d3, rfl, hFb, hb5⟩ := hfe.forms
      clear hfe
      have HZb := Lib.hid (reqO_sized (m := (q1, q2)) HS.out (show reqs.length ≤ 900 by have := HSm.out.nreqs; simp only at this; omega) sq1 sq2)
      generalize hR : reqO ⟨mo, go, reqs, reps, excs, rets⟩ (q1, q2) = R at *
      have HQb := Lib.hid hR
      clear hR
      obtain ⟨⟨bmo, bgo, breqs, breps, bexcs, brets⟩, eb⟩ := R
      dsimp only at hFb HZb ⊢
      have hB5 := hB4.trans (hb5.mono hB4.size)
      have gF5 := (gF3.below hb5).alloc (.cells #[.string bmo, .string bgo, .slice B0 breqs.length d0, .slice B1 breps.length d1, .slice B2 bexcs.length d2, .slice B3 brets.length d3] 27)
      have gM5 := (gM3.below hb5).alloc (.cells #[.string bmo, .string bgo, .slice B0 breqs.length d0, .slice B1 breps.length d1, .slice B2 bexcs.length d2, .slice B3 brets.length d3] 27)
      have gN5 := (gN3.below hb5).alloc (.cells #[.string bmo, .string bgo, .slice B0 breqs.length d0, .slice B1 breps.length d1, .slice B2 bexcs.length d2, .slice B3 brets.length d3] 27)
      have gA5 := (gA.below hb5).alloc (.cells #[.string bmo, .string bgo, .slice B0 breqs.length d0, .slice B1 breps.length d1, .slice B2 bexcs.length d2, .slice B3 brets.length d3] 27)
      have gB5 := GBlk.new wb 27 #[.string bmo, .string bgo, .slice B0 breqs.length d0, .slice B1 breps.length d1, .slice B2 bexcs.length d2, .slice B3 brets.length d3]
      have hB6 := hB5.alloc hB5.size (.cells #[.string bmo, .string bgo, .slice B0 breqs.length d0, .slice B1 breps.length d1, .slice B2 bexcs.length d2, .slice B3 brets.length d3] 27)
      have hFb5 := hFb.below ((Below.refl _ _).alloc (Nat.le_refl _) (.cells #[.string bmo, .string bgo, .slice B0 breqs.length d0, .slice B1 breps.length d1, .slice B2 bexcs.length d2, .slice B3 brets.length d3] 27))
      have hFa5 := hFa3.below (hb5.alloc hb5.size (.cells #[.string bmo, .string bgo, .slice B0 breqs.length d0, .slice B1 breps.length d1, .slice B2 bexcs.length d2, .slice B3 brets.length d3] 27))
      clear f0 f1 f2 f3 f4 f5 n0 n1 hb5 hFb hFa3 hB4 hB5 gF3 gM3 gN3 gA
      have f0 : (wb.alloc (.cells #[.string bmo, .string bgo, .slice B0 breqs.length d0, .slice B1 breps.length d1, .slice B2 bexcs.length d2, .slice B3 brets.length d3] 27)).cell? ⟨w.heap.size, 0, none⟩ = some (.string mo) := gF5.cell 0
      have f1 : (wb.alloc (.cells #[.string bmo, .string bgo, .slice B0 breqs.length d0, .slice B1 breps.length d1, .slice B2 bexcs.length d2, .slice B3 brets.length d3] 27)).cell? ⟨w.heap.size, 1, none⟩ = some (.string go) := gF5.cell 1
      have f2 : (wb.alloc (.cells #[.string bmo, .string bgo, .slice B0 breqs.length d0, .slice B1 breps.length d1, .slice B2 bexcs.length d2, .slice B3 brets.length d3] 27)).cell? ⟨w.heap.size, 2, none⟩ = some (.slice ra reqs.length rc) := gF5.cell 2
      have f3 : (wb.alloc (.cells #[.string bmo, .string bgo, .slice B0 breqs.length d0, .slice B1 breps.length d1, .slice B2 bexcs.length d2, .slice B3 brets.length d3] 27)).cell? ⟨w.heap.size, 3, none⟩ = some (.slice pa reps.length pc) := gF5.cell 3
      have f4 : (wb.alloc (.cells #[.string bmo, .string bgo, .slice B0 breqs.length d0, .slice B1 breps.length d1, .slice B2 bexcs.length d2, .slice B3 brets.length d3] 27)).cell? ⟨w.heap.size, 4, none⟩ = some (.slice xa excs.length xc) := gF5.cell 4
      have f5 : (wb.alloc (.cells #[.string bmo, .string bgo, .slice B0 breqs.length d0, .slice B1 breps.length d1, .slice B2 bexcs.length d2, .slice B3 brets.length d3] 27)).cell? ⟨w.heap.size, 5, none⟩ = some (.slice ta rets.length tc) := gF5.cell 5
      have e0 : (wb.alloc (.cells #[.string bmo, .string bgo, .slice B0 breqs.length d0, .slice B1 breps.length d1, .slice B2 bexcs.length d2, .slice B3 brets.length d3] 27)).cell? ⟨w.heap.size + 1, 0, none⟩ = some (.string m1) := gM5.cell 0
      have e1 : (wb.alloc (.cells #[.string bmo, .string bgo, .slice B0 breqs.length d0, .slice B1 breps.length d1, .slice B2 bexcs.length d2, .slice B3 brets.length d3] 27)).cell? ⟨w.heap.size + 1, 1, none⟩ = some (.string m2) := gM5.cell 1
      go_upto_region 4 with fail
      generalize wb.alloc (.cells #[.string bmo, .string bgo, .slice B0 breqs.length d0, .slice B1 breps.length d1, .slice B2 bexcs.length d2, .slice B3 brets.length d3] 27) = w6 at *
      clear f0 f1 f2 f3 f4 f5 e0 e1
      have f0 : w6.cell? ⟨w.heap.size, 0, none⟩ = some (.string mo) := gF5.cell 0
      have f1 : w6.cell? ⟨w.heap.size, 1, none⟩ = some (.string go) := gF5.cell 1
      have f2 : w6.cell? ⟨w.heap.size, 2, none⟩ = some (.slice ra reqs.length rc) := gF5.cell 2
      have f3 : w6.cell? ⟨w.heap.size, 3, none⟩ = some (.slice pa reps.length pc) := gF5.cell 3
      have f4 : w6.cell? ⟨w.heap.size, 4, none⟩ = some (.slice xa excs.length xc) := gF5.cell 4
      have f5 : w6.cell? ⟨w.heap.size, 5, none⟩ = some (.slice ta rets.length tc) := gF5.cell 5
      have e0 : w6.cell? ⟨w.heap.size + 1, 0, none⟩ = some (.string m1) := gM5.cell 0
      have e1 : w6.cell? ⟨w.heap.size + 1, 1, none⟩ = some (.string m2) := gM5.cell 1
      have HgF := Lib.hid gF5
      have HgM := Lib.hid gM5
      have HgN := Lib.hid gN5
      have HgA := Lib.hid gA5
      have HgB := Lib.hid gB5
      have HFa := Lib.hid hFa5
      have HFb := Lib.hid hFb5
      have HB6 := Lib.hid hB6
      clear hFa5 hFb5 gF5 gM5 gN5 gA5 gB5 hB6
      go_cut [12, 13] (fun s9 s10 wx => ∃ Bz, s9 = .pointer (some ⟨Bz, 0, none⟩) ∧ s10 = .int .i64 er ∧ Below w6.heap.size w6 wx)
      case first =>
        go_region_held3 (fun w' => (w'.cell? ⟨w.heap.size, 0, none⟩ = some (.string mo) ∧ w'.cell? ⟨w.heap.size, 1, none⟩ = some (.string go) ∧ w'.cell? ⟨w.heap.size, 2, none⟩ = some (.slice ra reqs.length rc) ∧ w'.cell? ⟨w.heap.size, 3, none⟩ = some (.slice pa reps.length pc) ∧ w'.cell? ⟨w.heap.size, 4, none⟩ = some (.slice xa excs.length xc) ∧ w'.cell? ⟨w.heap.size, 5, none⟩ = some (.slice ta rets.length tc)) ∧ (w'.cell? ⟨w.heap.size + 1, 0, none⟩ = some (.string m1) ∧ w'.cell? ⟨w.heap.size + 1, 1, none⟩ = some (.string m2)))
          (first | go_keep | with_reducible exact ⟨(HgF8.out.alloc _).cells6, (HgM8.out.alloc _).cells2⟩ | with_reducible exact ⟨(HgF8.out.sixO (Nat.ne_of_lt (HgF.out.below hb7).lt) _ _ _ _ _ _).cells6, (HgM8.out.sixO (Nat.ne_of_lt (HgM.out.below hb7).lt) _ _ _ _ _ _).cells2⟩ | with_reducible exact ⟨(HgF8.out.sixO (Nat.ne_of_lt HgF.out.lt) _ _ _ _ _ _).cells6, (HgM8.out.sixO (Nat.ne_of_lt HgM.out.lt) _ _ _ _ _ _).cells2⟩ | with_reducible exact K8.out | with_reducible exact K7.out)
          (first
            | (go_at_call 14; refine (rrequire_file ⟨mo, go, reqs, reps, excs, rets⟩ HS.out m1 m2 sm1 sm2 _ _ _ _ _ (by first | with_reducible exact hT | with_reducible exact hT.alloc _)).mono ?_; rw [HQ.out]; intro e w8 hfe; obtain ⟨E0, s0, E1, s1, E2, s2, E3, s3, rfl, hFe, hb8', hO8⟩ := hfe.forms; have hb8 : Below w7.heap.size w7 w8 := (by first | with_reducible exact hb8' | with_reducible exact below_zero2 hb8'); have HgF8 := Lib.hid ((HgF.out.below hb7).below hb8); have HgM8 := Lib.hid ((HgM.out.below hb7).below hb8); have K8 := Lib.hid (show (w8.cell? ⟨w.heap.size, 0, none⟩ = some (.string mo) ∧ w8.cell? ⟨w.heap.size, 1, none⟩ = some (.string go) ∧ w8.cell? ⟨w.heap.size, 2, none⟩ = some (.slice ra reqs.length rc) ∧ w8.cell? ⟨w.heap.size, 3, none⟩ = some (.slice pa reps.length pc) ∧ w8.cell? ⟨w.heap.size, 4, none⟩ = some (.slice xa excs.length xc) ∧ w8.cell? ⟨w.heap.size, 5, none⟩ = some (.slice ta rets.length tc)) ∧ (w8.cell? ⟨w.heap.size + 1, 0, none⟩ = some (.string m1) ∧ w8.cell? ⟨w.heap.size + 1, 1, none⟩ = some (.string m2)) from ⟨((HgF.out.below hb7).below hb8).cells6, ((HgM.out.below hb7).below hb8).cell 0, ((HgM.out.below hb7).below hb8).cell 1⟩); clear hfe; first | (have gZ8 : GBlk w8 w7.heap.size 35 #[.string ⟨#[]⟩, .string ⟨#[]⟩, .slice none 0 0, .slice none 0 0, .slice none 0 0, .slice none 0 0] := (by with_reducible exact gblk_zero2 hb8'); have y0 := gZ8.frozen 0; have y1 := gZ8.frozen 1; have y2 := gZ8.frozen 2; have y3 := gZ8.frozen 3; have y4 := gZ8.frozen 4; have y5 := gZ8.frozen 5; have z0 : w8.cell? ⟨w7.heap.size, 0, none⟩ = some (.string ⟨#[]⟩) := gZ8.cell 0; have z1 : w8.cell? ⟨w7.heap.size, 1, none⟩ = some (.string ⟨#[]⟩) := gZ8.cell 1; have z2 : w8.cell? ⟨w7.heap.size, 2, none⟩ = some (.slice none 0 0) := gZ8.cell 2; have z3 : w8.cell? ⟨w7.heap.size, 3, none⟩ = some (.slice none 0 0) := gZ8.cell 3; have z4 : w8.cell? ⟨w7.heap.size, 4, none⟩ = some (.slice none 0 0) := gZ8.cell 4; have z5 : w8.cell? ⟨w7.heap.size, 5, none⟩ = some (.slice none 0 0) := gZ8.cell 5) | (have gZ8 : GBlk w8 w6.heap.size 35 #[.string ⟨#[]⟩, .string ⟨#[]⟩, .slice none 0 0, .slice none 0 0, .slice none 0 0, .slice none 0 0] := gZ7.below hb8'; have y0 := gZ8.frozen 0; have y1 := gZ8.frozen 1; have y2 := gZ8.frozen 2; have y3 := gZ8.frozen 3; have y4 := gZ8.frozen 4; have y5 := gZ8.frozen 5; have z0 : w8.cell? ⟨w6.heap.size, 0, none⟩ = some (.string ⟨#[]⟩) := gZ8.cell 0; have z1 : w8.cell? ⟨w6.heap.size, 1, none⟩ = some (.string ⟨#[]⟩) := gZ8.cell 1; have z2 : w8.cell? ⟨w6.heap.size, 2, none⟩ = some (.slice none 0 0) := gZ8.cell 2; have z3 : w8.cell? ⟨w6.heap.size, 3, none⟩ = some (.slice none 0 0) := gZ8.cell 3; have z4 : w8.cell? ⟨w6.heap.size, 4, none⟩ = some (.slice none 0 0) := gZ8.cell 4; have z5 : w8.cell? ⟨w6.heap.size, 5, none⟩ = some (.slice none 0 0) := gZ8.cell 5) | skip)
            | (go_at_call 9; refine (theirs_file ⟨mo, go, reqs, reps, excs, rets⟩ HS.out.nreqs HS.out.nreps HS.out.nexcs HS.out.nrets _ _ _ _ _ (by first | with_reducible exact (HF0.out.below HB6.out).drew | with_reducible exact ((HF0.out.below HB6.out).alloc _).drew)).mono ?_; rintro e w7 ⟨va, vb, vc, vd, rfl, hT, hb7', hO7⟩; have hb7 : Below w6.heap.size w6 w7 := (by first | with_reducible exact below_drew1 hb7' | with_reducible exact below_zero hb7'); have K7 := Lib.hid (show (w7.cell? ⟨w.heap.size, 0, none⟩ = some (.string mo) ∧ w7.cell? ⟨w.heap.size, 1, none⟩ = some (.string go) ∧ w7.cell? ⟨w.heap.size, 2, none⟩ = some (.slice ra reqs.length rc) ∧ w7.cell? ⟨w.heap.size, 3, none⟩ = some (.slice pa reps.length pc) ∧ w7.cell? ⟨w.heap.size, 4, none⟩ = some (.slice xa excs.length xc) ∧ w7.cell? ⟨w.heap.size, 5, none⟩ = some (.slice ta rets.length tc)) ∧ (w7.cell? ⟨w.heap.size + 1, 0, none⟩ = some (.string m1) ∧ w7.cell? ⟨w.heap.size + 1, 1, none⟩ = some (.string m2)) from ⟨(HgF.out.below hb7).cells6, (HgM.out.below hb7).cell 0, (HgM.out.below hb7).cell 1⟩); first | (have gZ7 : GBlk w7 w6.heap.size 35 #[.string ⟨#[]⟩, .string ⟨#[]⟩, .slice none 0 0, .slice none 0 0, .slice none 0 0, .slice none 0 0] := (by with_reducible exact gblk_zero hb7')) | skip))
        all_goals
          go_wp2_with fail
          go_meet
          have hb78 := hb7.trans (hb8.mono hb7.size)
          first
            | with_reducible exact ⟨_, rfl, rfl, hb78.alloc hb78.size _⟩
            | with_reducible exact ⟨_, rfl, rfl, below_six hb78 hb7.size _ _ _ _ _ _⟩
            | with_reducible exact ⟨_, rfl, rfl, below_six hb78 (Nat.le_refl _) _ _ _ _ _ _⟩
      case rest =>
        obtain ⟨wx, hwx⟩ : ∃ v, v = wc := ⟨_, rfl⟩
        subst hwx
        obtain ⟨Bz, rfl, rfl, hbx⟩ := hcut
        have gF := HgF.out.below hbx
        have gM := HgM.out.below hbx
        have gN := HgN.out.below hbx
        have gA := HgA.out.below hbx
        have gB := HgB.out.below hbx
        have Fa := HFa.out.below hbx
        have Fb := HFb.out.below hbx
        have hB := HB6.out.trans (hbx.mono HB6.out.size)
        clear HgF HgM HgN HgA HgB HFa HFb HB6 hbx f0 f1 f2 f3 f4 f5 e0 e1
        by_cases he : er = 0
        case neg =>
          have he1 : (er != 0) = true := by simp [he]
          have he2 : (er == 0) = false := by simp [he]
          clear he
          go_wp2_with (go_at_call 7; refine (shown_any _).mono ?_; rintro e w9 ⟨rfl, hb9⟩)
          go_ret
          exact ⟨rfl, hB.trans (hb9.mono hB.size)⟩
        subst he
        by_cases hg : eb = 0
        case neg =>
          have he1 : (eb != 0) = true := by simp [hg]
          have he2 : (eb == 0) = false := by simp [hg]
          clear hg
          go_wp2_with (go_at_call 7; refine (shown_any _).mono ?_; rintro e w9 ⟨rfl, hb9⟩)
          go_ret
          exact ⟨rfl, hB.trans (hb9.mono hB.size)⟩
        subst hg
        have e0 : wx.cell? ⟨w.heap.size + 1, 0, none⟩ = some (.string m1) := gM.cell 0
        have e1 : wx.cell? ⟨w.heap.size + 1, 1, none⟩ = some (.string m2) := gM.cell 1
        have n0 : wx.cell? ⟨w.heap.size + 1 + 1, 0, none⟩ = some (.string q1) := gN.cell 0
        have n1 : wx.cell? ⟨w.heap.size + 1 + 1, 1, none⟩ = some (.string q2) := gN.cell 1
        cases hne : (m1.toList == q1.toList)
        case true =>
          go_wp2_with (go_at_call 7; refine (shown_any _).mono ?_; rintro e w9 ⟨rfl, hb9⟩)
          go_ret
          exact ⟨rfl, hB.trans (hb9.mono hB.size)⟩
        obtain ⟨hD, X, Y, G, hX, hY, hGx, hGy, sX, sY, hg⟩ := drops_plain (m := (m1, m2)) (n := (q1, q2)) HS.out (show reqs.length ≤ 900 by have := HSm.out.nreqs; simp only at this; omega) sm1 sm2 sq1 sq2 HQ.out HQb.out HN.out hne
        obtain ⟨xmo, xgo, xreqs, xreps, xexcs, xrets⟩ := X
        obtain ⟨ymo, ygo, yreqs, yreps, yexcs, yrets⟩ := Y
        have HhD := Lib.hid hD
        have HhX := Lib.hid hX
        have HhY := Lib.hid hY
        have HhGx := Lib.hid hGx
        have HhGy := Lib.hid hGy
        have HsX := Lib.hid sX
        have HsY := Lib.hid sY
        have Hhg := Lib.hid hg
        clear hD hX hY hGx hGy sX sY hg
        clear HQ HQb HN
        have HSM := Lib.hid (And.intro sm1 (And.intro sm2 (And.intro sq1 sq2)))
        clear sm1 sm2 sq1 sq2
        have x0 : wx.cell? ⟨wa.heap.size, 0, none⟩ = some (.string pmo) := gA.cell 0
        have x1 : wx.cell? ⟨wa.heap.size, 1, none⟩ = some (.string pgo) := gA.cell 1
        have x2 : wx.cell? ⟨wa.heap.size, 2, none⟩ = some (.slice A0 preqs.length c0) := gA.cell 2
        have x3 : wx.cell? ⟨wa.heap.size, 3, none⟩ = some (.slice A1 preps.length c1) := gA.cell 3
        have x4 : wx.cell? ⟨wa.heap.size, 4, none⟩ = some (.slice A2 pexcs.length c2) := gA.cell 4
        have x5 : wx.cell? ⟨wa.heap.size, 5, none⟩ = some (.slice A3 prets.length c3) := gA.cell 5
        go_wp2_with fail
        clear e0 e1 n0 n1 x0 x1 x2 x3 x4 x5
        refine (drop_file ⟨pmo, pgo, preqs, preps, pexcs, prets⟩ HZ.out.nreqs HZ.out.nreps HZ.out.nexcs HZ.out.nrets m1 _ _ _ _ _ Fa).mono ?_
        rw [HhD.out]
        intro e wc1 hfe
        obtain ⟨C0, k0, C1, k1, C2, k2, C3, k3, rfl, Fc, hb9⟩ := hfe.forms
        clear hfe
        dsimp only at Fc ⊢
        replace hB := hB.trans (hb9.mono hB.size)
        replace gF := (gF.below hb9).alloc (.cells #[.string mo, .string go, .slice C0 reqs.length k0, .slice C1 reps.length k1, .slice C2 excs.length k2, .slice C3 rets.length k3] 27)
        replace gM := (gM.below hb9).alloc (.cells #[.string mo, .string go, .slice C0 reqs.length k0, .slice C1 reps.length k1, .slice C2 excs.length k2, .slice C3 rets.length k3] 27)
        replace gN := (gN.below hb9).alloc (.cells #[.string mo, .string go, .slice C0 reqs.length k0, .slice C1 reps.length k1, .slice C2 excs.length k2, .slice C3 rets.length k3] 27)
        replace gA := (gA.below hb9).alloc (.cells #[.string mo, .string go, .slice C0 reqs.length k0, .slice C1 reps.length k1, .slice C2 excs.length k2, .slice C3 rets.length k3] 27)
        replace gB := (gB.below hb9).alloc (.cells #[.string mo, .string go, .slice C0 reqs.length k0, .slice C1 reps.length k1, .slice C2 excs.length k2, .slice C3 rets.length k3] 27)
        replace Fa := (Fa.below hb9).alloc (.cells #[.string mo, .string go, .slice C0 reqs.length k0, .slice C1 reps.length k1, .slice C2 excs.length k2, .slice C3 rets.length k3] 27)
        replace Fb := (Fb.below hb9).alloc (.cells #[.string mo, .string go, .slice C0 reqs.length k0, .slice C1 reps.length k1, .slice C2 excs.length k2, .slice C3 rets.length k3] 27)
        have gC := GBlk.new wc1 27 #[.string mo, .string go, .slice C0 reqs.length k0, .slice C1 reps.length k1, .slice C2 excs.length k2, .slice C3 rets.length k3]
        replace Fc := Fc.alloc (.cells #[.string mo, .string go, .slice C0 reqs.length k0, .slice C1 reps.length k1, .slice C2 excs.length k2, .slice C3 rets.length k3] 27)
        replace hB := hB.alloc hB.size (.cells #[.string mo, .string go, .slice C0 reqs.length k0, .slice C1 reps.length k1, .slice C2 excs.length k2, .slice C3 rets.length k3] 27)
        clear hb9
        have x0 : (wc1.alloc (.cells #[.string mo, .string go, .slice C0 reqs.length k0, .slice C1 reps.length k1, .slice C2 excs.length k2, .slice C3 rets.length k3] 27)).cell? ⟨wa.heap.size, 0, none⟩ = some (.string pmo) := gA.cell 0
        have x1 : (wc1.alloc (.cells #[.string mo, .string go, .slice C0 reqs.length k0, .slice C1 reps.length k1, .slice C2 excs.length k2, .slice C3 rets.length k3] 27)).cell? ⟨wa.heap.size, 1, none⟩ = some (.string pgo) := gA.cell 1
        have x2 : (wc1.alloc (.cells #[.string mo, .string go, .slice C0 reqs.length k0, .slice C1 reps.length k1, .slice C2 excs.length k2, .slice C3 rets.length k3] 27)).cell? ⟨wa.heap.size, 2, none⟩ = some (.slice A0 preqs.length c0) := gA.cell 2
        have x3 : (wc1.alloc (.cells #[.string mo, .string go, .slice C0 reqs.length k0, .slice C1 reps.length k1, .slice C2 excs.length k2, .slice C3 rets.length k3] 27)).cell? ⟨wa.heap.size, 3, none⟩ = some (.slice A1 preps.length c1) := gA.cell 3
        have x4 : (wc1.alloc (.cells #[.string mo, .string go, .slice C0 reqs.length k0, .slice C1 reps.length k1, .slice C2 excs.length k2, .slice C3 rets.length k3] 27)).cell? ⟨wa.heap.size, 4, none⟩ = some (.slice A2 pexcs.length c2) := gA.cell 4
        have x5 : (wc1.alloc (.cells #[.string mo, .string go, .slice C0 reqs.length k0, .slice C1 reps.length k1, .slice C2 excs.length k2, .slice C3 rets.length k3] 27)).cell? ⟨wa.heap.size, 5, none⟩ = some (.slice A3 prets.length c3) := gA.cell 5
        have n0 : (wc1.alloc (.cells #[.string mo, .string go, .slice C0 reqs.length k0, .slice C1 reps.length k1, .slice C2 excs.length k2, .slice C3 rets.length k3] 27)).cell? ⟨w.heap.size + 1 + 1, 0, none⟩ = some (.string q1) := gN.cell 0
        have n1 : (wc1.alloc (.cells #[.string mo, .string go, .slice C0 reqs.length k0, .slice C1 reps.length k1, .slice C2 excs.length k2, .slice C3 rets.length k3] 27)).cell? ⟨w.heap.size + 1 + 1, 1, none⟩ = some (.string q2) := gN.cell 1
        go_wp2_with fail
        generalize (wc1.alloc (.cells #[.string mo, .string go, .slice C0 reqs.length k0, .slice C1 reps.length k1, .slice C2 excs.length k2, .slice C3 rets.length k3] 27)) = w8 at *
        clear n0 n1 x0 x1 x2 x3 x4 x5
        refine (require_file ⟨pmo, pgo, preqs, preps, pexcs, prets⟩ HZ.out q1 q2 HSM.out.2.2.1 HSM.out.2.2.2 _ _ _ _ _ Fa).mono ?_
        rw [HhX.out]
        intro e wx1 hfe
        obtain ⟨X0, i0, X1, i1, X2, i2, X3, i3, rfl, Fx, hb9⟩ := hfe.forms
        clear hfe
        dsimp only at Fx ⊢
        replace hB := hB.trans (hb9.mono hB.size)
        replace gF := (gF.below hb9).alloc (.cells #[.string xmo, .string xgo, .slice X0 xreqs.length i0, .slice X1 xreps.length i1, .slice X2 xexcs.length i2, .slice X3 xrets.length i3] 27)
        replace gM := (gM.below hb9).alloc (.cells #[.string xmo, .string xgo, .slice X0 xreqs.length i0, .slice X1 xreps.length i1, .slice X2 xexcs.length i2, .slice X3 xrets.length i3] 27)
        replace gB := (gB.below hb9).alloc (.cells #[.string xmo, .string xgo, .slice X0 xreqs.length i0, .slice X1 xreps.length i1, .slice X2 xexcs.length i2, .slice X3 xrets.length i3] 27)
        replace gC := (gC.below hb9).alloc (.cells #[.string xmo, .string xgo, .slice X0 xreqs.length i0, .slice X1 xreps.length i1, .slice X2 xexcs.length i2, .slice X3 xrets.length i3] 27)
        replace Fb := (Fb.below hb9).alloc (.cells #[.string xmo, .string xgo, .slice X0 xreqs.length i0, .slice X1 xreps.length i1, .slice X2 xexcs.length i2, .slice X3 xrets.length i3] 27)
        replace Fc := (Fc.below hb9).alloc (.cells #[.string xmo, .string xgo, .slice X0 xreqs.length i0, .slice X1 xreps.length i1, .slice X2 xexcs.length i2, .slice X3 xrets.length i3] 27)
        have gX := GBlk.new wx1 27 #[.string xmo, .string xgo, .slice X0 xreqs.length i0, .slice X1 xreps.length i1, .slice X2 xexcs.length i2, .slice X3 xrets.length i3]
        replace Fx := Fx.alloc (.cells #[.string xmo, .string xgo, .slice X0 xreqs.length i0, .slice X1 xreps.length i1, .slice X2 xexcs.length i2, .slice X3 xrets.length i3] 27)
        replace hB := hB.alloc hB.size (.cells #[.string xmo, .string xgo, .slice X0 xreqs.length i0, .slice X1 xreps.length i1, .slice X2 xexcs.length i2, .slice X3 xrets.length i3] 27)
        clear hb9 gN gA Fa
        have x0 : (wx1.alloc (.cells #[.string xmo, .string xgo, .slice X0 xreqs.length i0, .slice X1 xreps.length i1, .slice X2 xexcs.length i2, .slice X3 xrets.length i3] 27)).cell? ⟨wb.heap.size, 0, none⟩ = some (.string bmo) := gB.cell 0
        have x1 : (wx1.alloc (.cells #[.string xmo, .string xgo, .slice X0 xreqs.length i0, .slice X1 xreps.length i1, .slice X2 xexcs.length i2, .slice X3 xrets.length i3] 27)).cell? ⟨wb.heap.size, 1, none⟩ = some (.string bgo) := gB.cell 1
        have x2 : (wx1.alloc (.cells #[.string xmo, .string xgo, .slice X0 xreqs.length i0, .slice X1 xreps.length i1, .slice X2 xexcs.length i2, .slice X3 xrets.length i3] 27)).cell? ⟨wb.heap.size, 2, none⟩ = some (.slice B0 breqs.length d0) := gB.cell 2
        have x3 : (wx1.alloc (.cells #[.string xmo, .string xgo, .slice X0 xreqs.length i0, .slice X1 xreps.length i1, .slice X2 xexcs.length i2, .slice X3 xrets.length i3] 27)).cell? ⟨wb.heap.size, 3, none⟩ = some (.slice B1 breps.length d1) := gB.cell 3
        have x4 : (wx1.alloc (.cells #[.string xmo, .string xgo, .slice X0 xreqs.length i0, .slice X1 xreps.length i1, .slice X2 xexcs.length i2, .slice X3 xrets.length i3] 27)).cell? ⟨wb.heap.size, 4, none⟩ = some (.slice B2 bexcs.length d2) := gB.cell 4
        have x5 : (wx1.alloc (.cells #[.string xmo, .string xgo, .slice X0 xreqs.length i0, .slice X1 xreps.length i1, .slice X2 xexcs.length i2, .slice X3 xrets.length i3] 27)).cell? ⟨wb.heap.size, 5, none⟩ = some (.slice B3 brets.length d3) := gB.cell 5
        have n0 : (wx1.alloc (.cells #[.string xmo, .string xgo, .slice X0 xreqs.length i0, .slice X1 xreps.length i1, .slice X2 xexcs.length i2, .slice X3 xrets.length i3] 27)).cell? ⟨w.heap.size + 1, 0, none⟩ = some (.string m1) := gM.cell 0
        have n1 : (wx1.alloc (.cells #[.string xmo, .string xgo, .slice X0 xreqs.length i0, .slice X1 xreps.length i1, .slice X2 xexcs.length i2, .slice X3 xrets.length i3] 27)).cell? ⟨w.heap.size + 1, 1, none⟩ = some (.string m2) := gM.cell 1
        go_wp2_with fail
        generalize (wx1.alloc (.cells #[.string xmo, .string xgo, .slice X0 xreqs.length i0, .slice X1 xreps.length i1, .slice X2 xexcs.length i2, .slice X3 xrets.length i3] 27)) = w9 at *
        clear n0 n1 x0 x1 x2 x3 x4 x5
        refine (require_file ⟨bmo, bgo, breqs, breps, bexcs, brets⟩ HZb.out m1 m2 HSM.out.1 HSM.out.2.1 _ _ _ _ _ Fb).mono ?_
        rw [HhY.out]
        intro e wy1 hfe
        obtain ⟨Y0, j0, Y1, j1, Y2, j2, Y3, j3, rfl, Fy, hb9⟩ := hfe.forms
        clear hfe
        dsimp only at Fy ⊢
        replace hB := hB.trans (hb9.mono hB.size)
        replace gF := (gF.below hb9).alloc (.cells #[.string ymo, .string ygo, .slice Y0 yreqs.length j0, .slice Y1 yreps.length j1, .slice Y2 yexcs.length j2, .slice Y3 yrets.length j3] 27)
        replace gC := (gC.below hb9).alloc (.cells #[.string ymo, .string ygo, .slice Y0 yreqs.length j0, .slice Y1 yreps.length j1, .slice Y2 yexcs.length j2, .slice Y3 yrets.length j3] 27)
        replace gX := (gX.below hb9).alloc (.cells #[.string ymo, .string ygo, .slice Y0 yreqs.length j0, .slice Y1 yreps.length j1, .slice Y2 yexcs.length j2, .slice Y3 yrets.length j3] 27)
        replace Fc := (Fc.below hb9).alloc (.cells #[.string ymo, .string ygo, .slice Y0 yreqs.length j0, .slice Y1 yreps.length j1, .slice Y2 yexcs.length j2, .slice Y3 yrets.length j3] 27)
        replace Fx := (Fx.below hb9).alloc (.cells #[.string ymo, .string ygo, .slice Y0 yreqs.length j0, .slice Y1 yreps.length j1, .slice Y2 yexcs.length j2, .slice Y3 yrets.length j3] 27)
        have gY := GBlk.new wy1 27 #[.string ymo, .string ygo, .slice Y0 yreqs.length j0, .slice Y1 yreps.length j1, .slice Y2 yexcs.length j2, .slice Y3 yrets.length j3]
        replace Fy := Fy.alloc (.cells #[.string ymo, .string ygo, .slice Y0 yreqs.length j0, .slice Y1 yreps.length j1, .slice Y2 yexcs.length j2, .slice Y3 yrets.length j3] 27)
        replace hB := hB.alloc hB.size (.cells #[.string ymo, .string ygo, .slice Y0 yreqs.length j0, .slice Y1 yreps.length j1, .slice Y2 yexcs.length j2, .slice Y3 yrets.length j3] 27)
        clear hb9 gM gB Fb
        obtain ⟨gmo, ggo, greqs, greps, gexcs, grets⟩ := G
        dsimp only at Hhg
        go_upto_region 20 with fail
        generalize (wy1.alloc (.cells #[.string ymo, .string ygo, .slice Y0 yreqs.length j0, .slice Y1 yreps.length j1, .slice Y2 yexcs.length j2, .slice Y3 yrets.length j3] 27)) = w20 at *
        have HgF := Lib.hid gF
        have HgC := Lib.hid gC
        have HgX := Lib.hid gX
        have HgY := Lib.hid gY
        have HFc := Lib.hid Fc
        have HFx := Lib.hid Fx
        have HFy := Lib.hid Fy
        have HhB := Lib.hid hB
        clear gF gC gX gY Fc Fx Fy hB
        have L0 := Lib.hid (show ∀ w', Below w20.heap.size w20 w' → (w'.cell? ⟨w.heap.size, 0, none⟩ = some (.string mo) ∧ w'.cell? ⟨w.heap.size, 1, none⟩ = some (.string go) ∧ w'.cell? ⟨w.heap.size, 2, none⟩ = some (.slice ra reqs.length rc) ∧ w'.cell? ⟨w.heap.size, 3, none⟩ = some (.slice pa reps.length pc) ∧ w'.cell? ⟨w.heap.size, 4, none⟩ = some (.slice xa excs.length xc) ∧ w'.cell? ⟨w.heap.size, 5, none⟩ = some (.slice ta rets.length tc)) ∧ (w'.cell? ⟨wc1.heap.size, 0, none⟩ = some (.string mo) ∧ w'.cell? ⟨wc1.heap.size, 1, none⟩ = some (.string go) ∧ w'.cell? ⟨wc1.heap.size, 2, none⟩ = some (.slice C0 reqs.length k0) ∧ w'.cell? ⟨wc1.heap.size, 3, none⟩ = some (.slice C1 reps.length k1) ∧ w'.cell? ⟨wc1.heap.size, 4, none⟩ = some (.slice C2 excs.length k2) ∧ w'.cell? ⟨wc1.heap.size, 5, none⟩ = some (.slice C3 rets.length k3)) ∧ (w'.cell? ⟨wx1.heap.size, 0, none⟩ = some (.string xmo) ∧ w'.cell? ⟨wx1.heap.size, 1, none⟩ = some (.string xgo) ∧ w'.cell? ⟨wx1.heap.size, 2, none⟩ = some (.slice X0 xreqs.length i0) ∧ w'.cell? ⟨wx1.heap.size, 3, none⟩ = some (.slice X1 xreps.length i1) ∧ w'.cell? ⟨wx1.heap.size, 4, none⟩ = some (.slice X2 xexcs.length i2) ∧ w'.cell? ⟨wx1.heap.size, 5, none⟩ = some (.slice X3 xrets.length i3)) ∧ (w'.cell? ⟨wy1.heap.size, 0, none⟩ = some (.string ymo) ∧ w'.cell? ⟨wy1.heap.size, 1, none⟩ = some (.string ygo) ∧ w'.cell? ⟨wy1.heap.size, 2, none⟩ = some (.slice Y0 yreqs.length j0) ∧ w'.cell? ⟨wy1.heap.size, 3, none⟩ = some (.slice Y1 yreps.length j1) ∧ w'.cell? ⟨wy1.heap.size, 4, none⟩ = some (.slice Y2 yexcs.length j2) ∧ w'.cell? ⟨wy1.heap.size, 5, none⟩ = some (.slice Y3 yrets.length j3)) from fun w' h => ⟨⟨(HgF.out.below h).cell 0, (HgF.out.below h).cell 1, (HgF.out.below h).cell 2, (HgF.out.below h).cell 3, (HgF.out.below h).cell 4, (HgF.out.below h).cell 5⟩, ⟨(HgC.out.below h).cell 0, (HgC.out.below h).cell 1, (HgC.out.below h).cell 2, (HgC.out.below h).cell 3, (HgC.out.below h).cell 4, (HgC.out.below h).cell 5⟩, ⟨(HgX.out.below h).cell 0, (HgX.out.below h).cell 1, (HgX.out.below h).cell 2, (HgX.out.below h).cell 3, (HgX.out.below h).cell 4, (HgX.out.below h).cell 5⟩, ⟨(HgY.out.below h).cell 0, (HgY.out.below h).cell 1, (HgY.out.below h).cell 2, (HgY.out.below h).cell 3, (HgY.out.below h).cell 4, (HgY.out.below h).cell 5⟩⟩)
        have K0 := Lib.hid (L0.out w20.drew (below_drewN (Below.refl _ _) 1))
        have XF := Lib.hid (fun w' (h : Below w20.heap.size w20 w') => HF0.out.below (HhB.out.trans (h.mono HhB.out.size)))
        go_region_held3 (fun w' => (w'.cell? ⟨w.heap.size, 0, none⟩ = some (.string mo) ∧ w'.cell? ⟨w.heap.size, 1, none⟩ = some (.string go) ∧ w'.cell? ⟨w.heap.size, 2, none⟩ = some (.slice ra reqs.length rc) ∧ w'.cell? ⟨w.heap.size, 3, none⟩ = some (.slice pa reps.length pc) ∧ w'.cell? ⟨w.heap.size, 4, none⟩ = some (.slice xa excs.length xc) ∧ w'.cell? ⟨w.heap.size, 5, none⟩ = some (.slice ta rets.length tc)) ∧ (w'.cell? ⟨wc1.heap.size, 0, none⟩ = some (.string mo) ∧ w'.cell? ⟨wc1.heap.size, 1, none⟩ = some (.string go) ∧ w'.cell? ⟨wc1.heap.size, 2, none⟩ = some (.slice C0 reqs.length k0) ∧ w'.cell? ⟨wc1.heap.size, 3, none⟩ = some (.slice C1 reps.length k1) ∧ w'.cell? ⟨wc1.heap.size, 4, none⟩ = some (.slice C2 excs.length k2) ∧ w'.cell? ⟨wc1.heap.size, 5, none⟩ = some (.slice C3 rets.length k3)) ∧ (w'.cell? ⟨wx1.heap.size, 0, none⟩ = some (.string xmo) ∧ w'.cell? ⟨wx1.heap.size, 1, none⟩ = some (.string xgo) ∧ w'.cell? ⟨wx1.heap.size, 2, none⟩ = some (.slice X0 xreqs.length i0) ∧ w'.cell? ⟨wx1.heap.size, 3, none⟩ = some (.slice X1 xreps.length i1) ∧ w'.cell? ⟨wx1.heap.size, 4, none⟩ = some (.slice X2 xexcs.length i2) ∧ w'.cell? ⟨wx1.heap.size, 5, none⟩ = some (.slice X3 xrets.length i3)) ∧ (w'.cell? ⟨wy1.heap.size, 0, none⟩ = some (.string ymo) ∧ w'.cell? ⟨wy1.heap.size, 1, none⟩ = some (.string ygo) ∧ w'.cell? ⟨wy1.heap.size, 2, none⟩ = some (.slice Y0 yreqs.length j0) ∧ w'.cell? ⟨wy1.heap.size, 3, none⟩ = some (.slice Y1 yreps.length j1) ∧ w'.cell? ⟨wy1.heap.size, 4, none⟩ = some (.slice Y2 yexcs.length j2) ∧ w'.cell? ⟨wy1.heap.size, 5, none⟩ = some (.slice Y3 yrets.length j3)))
          (first | with_reducible exact K34.out | with_reducible exact K33.out | with_reducible exact K32.out | with_reducible exact K31.out | with_reducible exact K30.out | with_reducible exact K29.out | with_reducible exact K28.out | with_reducible exact K27.out | with_reducible exact K0.out | go_keep)
          (first
            | (go_at_call 11; have hz := F33.out; refine (same_file ⟨gmo, ggo, greqs, greps, gexcs, grets⟩ Hhg.out.1 Hhg.out.2.1 Hhg.out.2.2.1 Hhg.out.2.2.2 _ _ _ _ _ _ _ _ _ F31c.out F33.out).mono ?_; rintro e w34 ⟨rfl, hb34'⟩; have b34 := b33.trans (hb34'.mono b33.size); have K34 := Lib.hid (L0.out _ b34))
            | (go_at_call 9; have hz := F32.out; refine (theirs_file ⟨gmo, ggo, greqs, greps, gexcs, grets⟩ Hhg.out.1 Hhg.out.2.1 Hhg.out.2.2.1 Hhg.out.2.2.2 _ _ _ _ _ F32.out).mono ?_; rintro e w33 ⟨x33, y33, z33, v33, rfl, hf33, hb33', -⟩; have b33 := b32.trans (hb33'.mono b32.size); have K33 := Lib.hid (L0.out _ b33); have F33 := Lib.hid hf33; have F31c := Lib.hid (F31b.out.below hb33'); clear hf33)
            | (go_at_call 10; have hz := F31.out; refine (ssort_any ⟨ymo, ygo, yreqs, yreps, yexcs, yrets⟩ HsY.out.nreqs HsY.out.nreps HsY.out.nexcs HsY.out.nrets (tidy_of HsY.out) _ _ _ _ _ (HFy.out.below b31)).mono ?_; rw [HhGy.out]; rintro e w32 ⟨x32, y32, z32, v32, rfl, h1, h2, h3, h4⟩; have hb32' := h1.below; have b32 := b31.trans (hb32'.mono b31.size); have K32 := Lib.hid (L0.out _ b32); have F32 := Lib.hid (show FileAt w32 x32 y32 z32 v32 ⟨gmo, ggo, greqs, greps, gexcs, grets⟩ from ⟨h1.own.row, h2.own.row, h3.own.row, h4.own.row⟩); have F31b := Lib.hid (F31.out.below hb32'); clear h1 h2 h3 h4)
            | (go_at_call 9; have hz := F30.out; refine (theirs_file ⟨gmo, ggo, greqs, greps, gexcs, grets⟩ Hhg.out.1 Hhg.out.2.1 Hhg.out.2.2.1 Hhg.out.2.2.2 _ _ _ _ _ F30.out).mono ?_; rintro e w31 ⟨x31, y31, z31, v31, rfl, hf31, hb31', -⟩; have b31 := b30.trans (hb31'.mono b30.size); have K31 := Lib.hid (L0.out _ b31); have F31 := Lib.hid hf31; clear hf31)
            | (go_at_call 10; have hz := M29.out; refine (ssort_any ⟨xmo, xgo, xreqs, xreps, xexcs, xrets⟩ HsX.out.nreqs HsX.out.nreps HsX.out.nexcs HsX.out.nrets (tidy_of HsX.out) _ _ _ _ _ (HFx.out.below b29)).mono ?_; rw [HhGx.out]; rintro e w30 ⟨x30, y30, z30, v30, rfl, h1, h2, h3, h4⟩; have hb30' := h1.below; have b30 := b29.trans (hb30'.mono b29.size); have K30 := Lib.hid (L0.out _ b30); have F30 := Lib.hid (show FileAt w30 x30 y30 z30 v30 ⟨gmo, ggo, greqs, greps, gexcs, grets⟩ from ⟨h1.own.row, h2.own.row, h3.own.row, h4.own.row⟩); clear h1 h2 h3 h4)
            | (go_at_call 11; have hz := F28.out; refine (same_file ⟨mo, go, reqs, reps, excs, rets⟩ HS.out.nreqs HS.out.nreps HS.out.nexcs HS.out.nrets _ _ _ _ _ _ _ _ _ F27b.out F28.out).mono ?_; rintro e w29 ⟨rfl, hb29'⟩; have b29 := b28.trans (hb29'.mono b28.size); have K29 := Lib.hid (L0.out _ b29); have M29 := Lib.hid b29)
            | (go_at_call 9; have hz := F27.out; refine (theirs_file ⟨mo, go, reqs, reps, excs, rets⟩ HS.out.nreqs HS.out.nreps HS.out.nexcs HS.out.nrets _ _ _ _ _ (XF.out _ b27)).mono ?_; rintro e w28 ⟨x28, y28, z28, v28, rfl, hf28, hb28', -⟩; have b28 := b27.trans (hb28'.mono b27.size); have K28 := Lib.hid (L0.out _ b28); have F28 := Lib.hid hf28; have F27b := Lib.hid (F27.out.below hb28'); clear hf28)
            | (go_at_call 9; refine (theirs_file ⟨mo, go, reqs, reps, excs, rets⟩ HS.out.nreqs HS.out.nreps HS.out.nexcs HS.out.nrets _ _ _ _ _ (HFc.out.below (below_drewN (Below.refl _ _) 1))).mono ?_; rintro e w27 ⟨x27, y27, z27, v27, rfl, hf27, hb27', -⟩; have b27 := below_drewN' (n := 1) hb27'; have K27 := Lib.hid (L0.out _ b27); have F27 := Lib.hid hf27; clear hf27))
        have hBw := HhB.out.trans (b34.mono HhB.out.size)
        go_wp2
        go_ret
        exact ⟨rfl, hBw⟩
end Go.Proofs.YtmdlmjcejeejfaaGreatDoor
namespace Go.Proofs.YtmdlmjcejeejfaaGreatDoor.showDrops
open Go.ChangeShapes Go.WideShapes Go.ChangeAt Go.RowKit Go.Shelf
open Go.ChangeMaps (open_string shut_string)
set_option linter.unusedVariables false

set_option maxRecDepth 100000 in
theorem lifted (os : Os) (started : os.Started) (H : Type) (enc : TypeId × Value → H) :
    ReturnsInHanded {} Tryz.checked os 5 .any (fun w args => (Rows.showDropsSpec.pre enc Tryz.prog Tryz.f5 Rows.showDropsRow.domain false w args ∧ laidMetH Tryz.prog laid0 w) ∧ sizedMet enc Tryz.prog Tryz.f5 (OpenSpec.ofChange Rows.showDropsSpec) false w args)
      (Rows.showDropsSpec.post enc Tryz.prog Tryz.f5 false true false false) := by
  refine returnsInHanded_of_change_and (C := Tryz.checked) (X := fun w _ => laidMetH Tryz.prog laid0 w) (fun _ _ _ hh h => h.of_heap hh) own started (by kernel_rfl) Tryz.func5
    (ChangeSpec.witness_shaped (enc := enc) (C := Tryz.checked) (os := os) (X := fun w _ => laidMetH Tryz.prog laid0 w) false (World.laidAll Tryz.prog os laid0) #[.agg #[.string ByteArray.empty, .string ByteArray.empty, .slice none 0 0, .slice none 0 0, .slice none 0 0, .slice none 0 0], .agg #[.string ByteArray.empty, .string ByteArray.empty], .agg #[.string ByteArray.empty, .string ByteArray.empty]] 8 (World.laidAll_os _ _ _) (World.shaped_of_ZipB (by kernel_rfl) (by kernel_rfl)) (by kernel_rfl) (by kernel_rfl) (by kernel_rfl) (door_met os _)) ?_
  intro W base args ds gs before hval0 hW _ _ hL _
  have hval : ∀ (j : Nat) t v, Tryz.f5.params[j]? = some t → args[j]? = some v → Value.okWide Tryz.prog W .any base t v := hval0
  have hW' := hW
  obtain ⟨p, q, hA0, hV, rfl, hfz, hnd⟩ := hW
  have hA : DataW.TrodAll enc Tryz.prog W 0 (fun _ => true) true Tryz.f5.params.toList args.toList ds p := hA0
  rw [Tryz.params5] at hA hval
  obtain ⟨v0, vs0, d0, ds0, p0, q0, hargs, rfl, rfl, h0, r0⟩ := trodAll_cons hA
  obtain ⟨v1, vs1, d1, ds1, p1, q1, rfl, rfl, rfl, h1, r1⟩ := trodAll_cons r0
  obtain ⟨v2, vs2, d2, ds2, p2, q2, rfl, rfl, rfl, h2, r2⟩ := trodAll_cons r1
  obtain ⟨rfl, rfl, rfl⟩ := trodAll_nil r2
  obtain rfl : args = #[v0, v1, v2] := by cases args; simp_all
  obtain ⟨rfl, rfl⟩ := trodVars_none hV
  obtain ⟨a0, x0, y0, z0, t0, rfl, g0, u0⟩ := open_fileG (hval 0 27 v0 rfl rfl) h0
  obtain ⟨a1, rfl, w1, u1⟩ := open_mod (hval 1 41 v1 rfl rfl) h1
  obtain ⟨a2, rfl, w2, u2⟩ := open_mod (hval 2 41 v2 rfl rfl) h2
  clear hA0 hval0
  simp only [List.append_nil] at hW'
  refine (showDrops_walk a0 x0 y0 z0 t0 a1.1 a1.2 a2.1 a2.2 W g0).mono fun e W' ⟨he, bel⟩ => ?_
  subst he
  exact ⟨_, rfl, _, _, _, [], _, [], hW', trodAll_mk1 (shut_bool Tryz.underlying4 _), (trodAll_cons_mk (u0 _ bel) (trodAll_cons_mk (u1 _ _) (trodAll_cons_mk (u2 _ _) trodAll_mk0))), rfl, bel.frame _, fun h => by cases h⟩

theorem over : Rows.showDropsRow.holds Tryz.pinned (OpenSpec.ofChange Rows.showDropsSpec) :=
  OpenClaim.holds_of_wide 5 Tryz.f5 rfl rfl rfl rfl rfl rfl rfl ⟨rfl, rfl, rfl, rfl, rfl⟩ rfl rfl rfl rfl rfl (by kernel_rfl) Tryz.func5 (by kernel_rfl)
    (of_decide_eq_true (by kernel_rfl)) (by unfold Func.isWrapper; first | (rw [if_pos (by decide +kernel)]; kernel_rfl) | (rw [if_neg (by decide +kernel)]; exact ⟨rfl, rfl⟩))
    (fun os started H enc _ => lifted os started H enc)

theorem proved : Rows.ShowDropsCardSaid :=
  Claim7.holds_tied_plain_at .later [] [.data, .data, .data, .data, .sentinel, .sentinel, .pinned] true (true, "18edadb77f3bfa3fa8f8b8205b4f9fafaf4999d92868bab0b2078fb470906d9f") true
    over (fun _ h => by cases h) (by kernel_rfl) (fun _ h => by cases h) showDrops_row_tie rfl ⟨rfl, rfl⟩ (by kernel_rfl) rfl
    (fun f fn hf hfn => by
      obtain rfl : f = 5 := Option.some.inj ((show Tryz.prog.funcNamed "graftbed/graftbedlaw06.ShowDrops" = some 5 by kernel_rfl).symm.trans hf) |>.symm
      obtain rfl : fn = Tryz.f5 := (Option.some.inj (Tryz.func5.symm.trans hfn)).symm
      exact ⟨by kernel_rfl, fun j t ht => by
        rw [Tryz.params5] at ht
        have hm : t ∈ [27, 41, 41] := by simpa using Array.mem_of_getElem? ht
        have hall : ([27, 41, 41].all fun u => !Tryz.prog.wantsStandIn u) = true := by kernel_rfl
        exact (show Tryz.prog.wantsStandIn t = false by simpa using List.all_eq_true.1 hall t hm)⟩)
    (by kernel_rfl)
#print axioms proved
end Go.Proofs.YtmdlmjcejeejfaaGreatDoor.showDrops
