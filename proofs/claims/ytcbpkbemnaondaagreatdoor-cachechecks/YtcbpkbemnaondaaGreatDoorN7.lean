/-
  The modules that were met: a set in memory; whether one is met for the first time.
-/
import Derived.Test.YtcbpkbemnaondaaGreatDoorX1
import Derived.Maps.OwnSet
import Derived.DeepKeys4
import Derived.WalkKit
import Derived.Test.YtcbpkbemnaondaaGreatDoorN2
import Derived.Test.YtcbpkbemnaondaaGreatDoorX3
namespace Go.Proofs.YtcbpkbemnaondaaGreatDoor
open Go.RowKit Go.Shelf Go.Maps

def modV (m : ModB) : Value := .agg #[.string m.1, .string m.2]
set_option maxRecDepth 100000 in
theorem laidOut : laidOutB Tryz.prog = true := by kernel_rfl
set_option maxRecDepth 100000 in
theorem law23 : Keyed Tryz.prog (24) := Keyed.of_law (deep_law_laid laidOut (m := 2) (by omega) (of_decide_eq_true (by kernel_rfl)) (by kernel_rfl) (by rw [Tryz.underlying24]))
set_option maxRecDepth 100000 in
theorem zero92 (w : World) : (zeroValue 89).run Tryz.prog w = .ok (.agg #[]) w := by kernel_rfl
set_option maxRecDepth 100000 in
theorem keyType23 : Tryz.prog.keyType 24 = true := by kernel_rfl
set_option maxRecDepth 100000 in
theorem kcells23 : Tryz.prog.cellsOf 24 = 2 := by kernel_rfl
set_option maxRecDepth 100000 in
theorem kcells9 : Tryz.prog.cellsOf 9 = 1 := by kernel_rfl
theorem key_str {d : Nat} {s : ByteArray} (h : s.size ≤ maxLen) : Tryz.prog.keyLits (d + 1) 9 [.string s] = some [.string s.data.toList] := by
  unfold Program.keyLits
  rw [Tryz.underlying9]
  simp [h]
set_option maxRecDepth 100000 in
theorem tsize : Tryz.prog.types.size = 210 + 1 := by kernel_rfl
def keyL (m : ModB) : Lit := .string (keyBytes [.string m.1.data.toList, .string m.2.data.toList])
def okM (m : ModB) : Prop := m.1.size ≤ maxLen ∧ m.2.size ≤ maxLen
theorem keyL_is {m : ModB} (h : okM m) : keyOf Tryz.prog (24) (modV m) = some (keyL m) := by
  unfold keyOf
  rw [Tryz.underlying24]
  have hf : (modV m).formed Tryz.prog (24) = true := by
    unfold modV Value.formed
    rw [Tryz.underlying24, kcells23]
    rfl
  simp only [keyType23, hf, Bool.and_self, if_true]
  rw [tsize]
  unfold Program.keyLits
  rw [Tryz.underlying24]
  simp [modV, Value.cells, kcells23, kcells9, key_str h.1, key_str h.2, keyL]
theorem keyL_lit {m : ModB} (h : okM m) : WideAt.IsKeyLit (keyL m) := law23.key (keyL_is h)
theorem modV_inj {a b : ModB} (h : modV a = modV b) : a = b := by
  unfold modV at h
  simp only [Value.agg.injEq, Array.mk.injEq, List.cons.injEq, Value.string.injEq, and_true] at h
  exact Prod.ext h.1 h.2
theorem keyL_inj {a b : ModB} (ha : okM a) (hb : okM b) (h : keyL a = keyL b) : a = b := modV_inj (law23.inj (keyL_is ha) (by rw [h]; exact keyL_is hb))
theorem keyL_same {a b : ModB} (ha : okM a) (hb : okM b) : (keyL a).sameKey (keyL b) = decide (a = b) := by
  by_cases e : a = b
  · subst e
    simp [WideAt.sameKey_self (keyL_lit ha)]
  · simp only [e, decide_false]
    cases hs : (keyL a).sameKey (keyL b)
    · rfl
    · exact absurd (keyL_inj ha hb (WideAt.sameKey_eq hs)) e

def inM (S : List ModB) (m : ModB) : Bool := S.any fun y => decide (y = m)
theorem inM_iff {S : List ModB} {m : ModB} : inM S m = true ↔ m ∈ S := by
  unfold inM
  rw [List.any_eq_true]
  constructor
  · rintro ⟨y, hy, e⟩
    rw [decide_eq_true_eq] at e
    exact e ▸ hy
  · exact fun h => ⟨m, h, by simp⟩
/-- The modules S, as a set in block b. -/
structure SetAt (w : World) (b : Nat) (S : List ModB) : Prop where
  map : w.ownsMap Tryz.prog 24 (unitElem (H := Unit)) b S.length (setOf (.agg []) (S.map keyL))
  ok : ∀ m ∈ S, okM m
theorem SetAt.lt {w : World} {b : Nat} {S : List ModB} (h : SetAt w b S) : b < w.heap.size := h.map.lt
theorem SetAt.has {w : World} {b : Nat} {S : List ModB} (h : SetAt w b S) {m : ModB} (hm : okM m) : Maps.has (setOf (H := Unit) (.agg []) (S.map keyL)) (keyL m) = inM S m := by
  rw [has_setOf _ _ _ (by
    intro x hx
    obtain ⟨y, hy, rfl⟩ := List.mem_map.1 hx
    exact keyL_lit (h.ok y hy))]
  have : ∀ T : List ModB, (∀ y ∈ T, okM y) → (T.map keyL).any (fun x => x.sameKey (keyL m)) = inM T m := by
    intro T
    induction T with
    | nil => intro _; rfl
    | cons y T ih =>
      intro hT
      rw [List.map_cons, List.any_cons, ih (fun z hz => hT z (by simp [hz])), keyL_same (hT y (by simp)) hm]
      rfl
  exact this S h.ok
theorem SetAt.kept {w w' : World} {b : Nat} {S : List ModB} {row : Option Nat} (h : SetAt w b S) (hg : w.grownBy w' row) (hne : some b ≠ row) : SetAt w' b S := ⟨h.map.kept hg hne, h.ok⟩
theorem SetAt.below {w w' : World} {b : Nat} {S : List ModB} (h : SetAt w b S) (hb : Below w.heap.size w w') : SetAt w' b S := h.kept (row := none) ⟨hb.os, hb.tape, hb.output, hb.size, fun k hk _ => hb.block k hk⟩ (by simp)
def addM (S : List ModB) (m : ModB) : List ModB := if inM S m then S else S ++ [m]

set_option maxRecDepth 100000 in
set_option maxHeartbeats 1000000 in
theorem seen_any (b : Nat) (S : List ModB) (p v : ByteArray) (hp : p.size ≤ maxLen) (hv : v.size ≤ maxLen) (w : World) (h : SetAt w b S) (hS : S.length ≤ 1000) :
    Calls Tryz.prog 28 #[.map (some b), .agg #[.string p, .string v]] w fun e w' => e = .returned (.bool (!inM S (p, v))) ∧ SetAt w' b (addM S (p, v)) ∧ w.grownBy w' (some b) := by
  have hk := keyL_is (m := (p, v)) ⟨hp, hv⟩
  have hh := h.has (m := (p, v)) ⟨hp, hv⟩
  have h1 := h.below ((Below.refl _ w).alloc (Nat.le_refl _) (.cells #[.string p, .string v] 24))
  have h2 := h1.below ((Below.refl _ _).alloc (Nat.le_refl _) (.cells #[] 89))
  have g0 := (World.grownBy_alloc w (.cells #[.string p, .string v] 24) (some b)).trans (World.grownBy_alloc _ (.cells #[] 89) (some b))
  have c0 : (w.alloc (.cells #[.string p, .string v] 24)).cell? ⟨w.heap.size, 0, none⟩ = some (.string p) := by rw [cell_newR]; rfl
  have c1 : (w.alloc (.cells #[.string p, .string v] 24)).cell? ⟨w.heap.size, 1, none⟩ = some (.string v) := by rw [cell_newR]; rfl
  unfold modV at hk
  cases hd : inM S (p, v)
  · have hA : addM S (p, v) = S ++ [(p, v)] := by simp [addM, hd]
    rw [hd] at hh
    rw [hA]
    have HG := Lib.hid g0
    have H2 := Lib.hid h2
    have H1 := Lib.hid h1
    have HO := Lib.hid h.ok
    have HN := Lib.hid (show S.length < maxLen by unfold maxLen; omega)
    have e0 : ((w.alloc (.cells #[.string p, .string v] 24)).alloc (.cells #[] 89)).cell? ⟨w.heap.size, 0, none⟩ = some (.string p) := (((Below.refl _ (w.alloc (.cells #[.string p, .string v] 24))).alloc (Nat.le_refl _) (.cells #[] 89)).cell (p := ⟨w.heap.size, 0, none⟩) (by simp)).trans c0
    have e1 : ((w.alloc (.cells #[.string p, .string v] 24)).alloc (.cells #[] 89)).cell? ⟨w.heap.size, 1, none⟩ = some (.string v) := (((Below.refl _ (w.alloc (.cells #[.string p, .string v] 24))).alloc (Nat.le_refl _) (.cells #[] 89)).cell (p := ⟨w.heap.size, 1, none⟩) (by simp)).trans c1
    clear hd hA h1 h2 h g0
    go_enter Tryz.func28, Tryz.ntmps28
    go_wp2_with (first
      | (at_lookup; refine wpList_lookup_own_unit _ rfl _ _ 61 rfl 24 89 law23 Tryz.underlying61 (zero92 _) b S.length _ rfl H1.out.map _ _ rfl hk ?_; rw [hh])
      | (at_mapUpdate; refine wpList_mapUpdate_in _ rfl _ _ _ 61 rfl 24 89 law23 Tryz.underlying61 (unitElem (H := Unit)) b S.length _ rfl H2.out.map HN.out _ _ _ rfl rfl hk _ [] unitElem_mk ?_; intro w1 hown1 hturn1)
      | go_in)
    go_ret
    refine ⟨rfl, ⟨?_, ?_⟩, HG.out.trans hturn1.grown⟩
    · rw [List.map_append, List.map_cons, List.map_nil, setOf_snoc, List.length_append]
      exact hown1
    · intro m hm
      rcases List.mem_append.1 hm with hm | hm
      · exact HO.out m hm
      · rw [List.mem_singleton.1 hm]; exact ⟨hp, hv⟩
  · have hA : addM S (p, v) = S := by simp [addM, hd]
    rw [hd] at hh
    rw [hA]
    have HG := Lib.hid g0
    have H2 := Lib.hid h2
    have H1 := Lib.hid h1
    clear hd hA h1 h2 h g0
    go_enter Tryz.func28, Tryz.ntmps28
    go_wp2_with (first
      | (at_lookup; refine wpList_lookup_own_unit _ rfl _ _ 61 rfl 24 89 law23 Tryz.underlying61 (zero92 _) b S.length _ rfl H1.out.map _ _ rfl hk ?_; rw [hh])
      | go_in)
    go_ret
    exact ⟨rfl, H2.out, HG.out⟩
end Go.Proofs.YtcbpkbemnaondaaGreatDoor

/-
  An entry with a list of files of its own; the first entry of a module: the program's and the document's.
-/
namespace Go.Proofs.YtcbpkbemnaondaaGreatDoor
open Go.RowKit Go.Shelf

/-- A block that holds just these cells. -/
def GBlk (w : World) (B : Nat) (t : TypeId) (cs : Array Value) : Prop := w.heap[B]? = some (.cells cs t (0, 0))
theorem GBlk.lt {w : World} {B : Nat} {t : TypeId} {cs : Array Value} (h : GBlk w B t cs) : B < w.heap.size := (Array.getElem?_eq_some_iff.1 h).1
theorem GBlk.new (w : World) (t : TypeId) (cs : Array Value) : GBlk (w.alloc (.cells cs t)) w.heap.size t cs := World.alloc_heap_new w _
theorem GBlk.below {w w' : World} {B : Nat} {t : TypeId} {cs : Array Value} (h : GBlk w B t cs) (hb : Below w.heap.size w w') : GBlk w' B t cs := (hb.block B h.lt).trans h
theorem GBlk.alloc {w : World} {B : Nat} {t : TypeId} {cs : Array Value} (h : GBlk w B t cs) (o : Obj) : GBlk (w.alloc o) B t cs := h.below ((Below.refl _ _).alloc (Nat.le_refl _) _)
theorem GBlk.drew {w : World} {B : Nat} {t : TypeId} {cs : Array Value} (h : GBlk w B t cs) : GBlk w.drew B t cs := h
theorem GBlk.drewN {w : World} {B : Nat} {t : TypeId} {cs : Array Value} (h : GBlk w B t cs) (n : Nat) : GBlk (w.drewN n) B t cs := h
theorem GBlk.cell {w : World} {B : Nat} {t : TypeId} {cs : Array Value} (h : GBlk w B t cs) (i : Nat) : w.cell? ⟨B, i, none⟩ = cs[i]? := by
  unfold GBlk at h
  simp [World.cell?, h]
theorem GBlk.frozen {w : World} {B : Nat} {t : TypeId} {cs : Array Value} (h : GBlk w B t cs) (i : Nat) : w.frozen? ⟨B, i, none⟩ = false := by
  unfold GBlk at h
  simp [World.frozen?, h]
theorem GBlk.set {w : World} {B : Nat} {t : TypeId} {cs : Array Value} (h : GBlk w B t cs) (i : Nat) (u : Value) : GBlk (w.setCell ⟨B, i, none⟩ u) B t (cs.setIfInBounds i u) := by
  unfold GBlk at h ⊢
  simp [World.setCell, Array.getElem?_modify, h]

theorem GBlk.setOther {w : World} {B B' i : Nat} {t : TypeId} {cs : Array Value} {u : Value} (h : GBlk w B t cs) (hne : B ≠ B') : GBlk (w.setCell ⟨B', i, none⟩ u) B t cs := (Below.heap_setCell w ⟨B', i, none⟩ u B hne).trans h
theorem GBlk.four {w : World} {B : Nat} {t : TypeId} {x0 x1 x2 x3 : Value} (h : GBlk w B t #[x0, x1, x2, x3]) (v0 v1 v2 v3 : Value) :
    GBlk ((((w.setCell ⟨B, 0, none⟩ v0).setCell ⟨B, 1, none⟩ v1).setCell ⟨B, 2, none⟩ v2).setCell ⟨B, 3, none⟩ v3) B t #[v0, v1, v2, v3] := (((h.set 0 v0).set 1 v1).set 2 v2).set 3 v3
theorem below_four {B b : Nat} {w w' : World} (h : Below B w w') (hb : B ≤ b) (v0 v1 v2 v3 : Value) : Below B w ((((w'.setCell ⟨b, 0, none⟩ v0).setCell ⟨b, 1, none⟩ v1).setCell ⟨b, 2, none⟩ v2).setCell ⟨b, 3, none⟩ v3) := (((h.setCell (p := ⟨b, 0, none⟩) hb v0).setCell (p := ⟨b, 1, none⟩) hb v1).setCell (p := ⟨b, 2, none⟩) hb v2).setCell (p := ⟨b, 3, none⟩) hb v3

set_option maxRecDepth 100000 in
theorem fileTy : RTy Tryz.prog fileR 27 56 (.agg #[.string ⟨#[]⟩, .string ⟨#[]⟩]) 32 := ⟨Tryz.underlying27, by kernel_rfl, rfl, by decide⟩

set_option maxRecDepth 100000 in
set_option maxHeartbeats 1000000 in
theorem clone_any (fs : List FileB) (v : Value) (w : World) (h : RRow fileR w v fs) (hl : fs.length ≤ 20000) :
    Calls Tryz.prog 52 #[v] w fun e w' => ∃ A c, e = .returned (.slice A fs.length c) ∧ RRow fileR w' (.slice A fs.length c) fs ∧ Below w.heap.size w w' := by
  have hnil : ∀ (w : World) (a : Option Addr) (n c : Nat), (binOp .eql 27 (.slice a n c) (.slice none 0 0)).run Tryz.prog w = .ok (.bool a.isNone) w := fun w a n c => Lib.run_eql_slice_nil w 27 _ a n c 0 0 Tryz.underlying27
  have h0 := h
  obtain ⟨a, c, rfl, hc, hr⟩ := h
  have HH := Lib.hid h0
  clear h0
  rcases a with _ | ad
  · have hfs : fs = [] := by
      apply Classical.byContradiction
      intro hne
      obtain ⟨g, o, e, _⟩ := hr hne
      cases e
    subst hfs
    clear hr
    go_enter Tryz.func52, Tryz.ntmps52
    go_wp2
    go_ret
    exact ⟨none, 0, rfl, RRow.nil _, Below.refl _ _⟩
  · clear hr
    have ha := RAcc.start (R := fileR) (et := 56) w
    have hrow := HH.out.below ((Below.refl _ w).alloc (Nat.le_refl _) (.cells #[] 56))
    have HA := Lib.hid ha
    have HR := Lib.hid hrow
    clear ha hrow
    go_enter Tryz.func52, Tryz.ntmps52
    go_wp2_with (first
      | (at_builtin; refine wpList_racc fileTy rfl _ _ rfl HA.out rfl HR.out rfl (by simp; omega) ?_; intro A' c' zs w' hg)
      | go_in)
    go_ret
    obtain ⟨rfl, hacc, _⟩ := hg
    exact ⟨A', c', rfl, hacc.own.row, hacc.below⟩

def zeroE : Array Value := #[.string ⟨#[]⟩, .string ⟨#[]⟩, .string ⟨#[]⟩, .slice none 0 0]
set_option maxRecDepth 100000 in
set_option maxHeartbeats 1000000 in
theorem copied_any (p v g : ByteArray) (F : Value) (fs : List FileB) (w : World) (h : RRow fileR w F fs) (hl : fs.length ≤ 20000) :
    Calls Tryz.prog 26 #[.agg #[.string p, .string v, .string g, F]] w fun e w' => ∃ A c, e = .returned (.agg #[.string p, .string v, .string g, .slice A fs.length c]) ∧ Below w.heap.size w w' := by
  obtain ⟨A0, C0, rfl⟩ := h.form
  have hb0 := ((Below.refl w.heap.size w).alloc (Nat.le_refl _) (.cells #[.string p, .string v, .string g, .slice A0 fs.length C0] 29)).alloc (by simp) (.cells zeroE 29)
  have g1 := (GBlk.new w 29 #[.string p, .string v, .string g, .slice A0 fs.length C0]).alloc (.cells zeroE 29)
  have g2 := GBlk.new (w.alloc (.cells #[.string p, .string v, .string g, .slice A0 fs.length C0] 29)) 29 zeroE
  have hs : (w.alloc (.cells #[.string p, .string v, .string g, .slice A0 fs.length C0] 29)).heap.size = w.heap.size + 1 := by simp
  rw [hs] at g2
  have hr := h.below hb0
  clear h
  unfold zeroE at *
  generalize hW : (w.alloc (.cells #[.string p, .string v, .string g, .slice A0 fs.length C0] 29)).alloc (.cells #[.string ⟨#[]⟩, .string ⟨#[]⟩, .string ⟨#[]⟩, .slice none 0 0] 29) = W at *
  have c3 := g1.cell 3
  simp only [List.getElem?_toArray, List.getElem?_cons_succ, List.getElem?_cons_zero] at c3
  go_enter Tryz.func26, Tryz.ntmps26
  go_wp2_with fail
  refine (clone_any fs _ W hr hl).mono ?_
  rintro _ w1 ⟨A, c, rfl, hrow, hb1⟩
  have G1 := g1.below hb1
  have G2 := g2.below hb1
  have hB := hb0.trans (hb1.mono hb0.size)
  clear c3 g1 g2 hr hb1
  have y3 := G1.frozen 3
  have x3 : w1.cell? ⟨w.heap.size, 3, none⟩ = some (.slice A0 fs.length C0) := G1.cell 3
  go_upto_region 2 with fail
  clear x3 y3
  have S1 := G1.set 3 (.slice A fs.length c)
  have S2 := G2.setOther (B' := w.heap.size) (i := 3) (u := .slice A fs.length c) (by omega)
  have hB2 := hB.setCell (p := ⟨w.heap.size, 3, none⟩) (Nat.le_refl _) (.slice A fs.length c)
  clear G1 G2 hB hrow
  generalize w1.setCell ⟨w.heap.size, 3, none⟩ (.slice A fs.length c) = w2 at *
  have x0 : w2.cell? ⟨w.heap.size, 0, none⟩ = some (.string p) := S1.cell 0
  have x1 : w2.cell? ⟨w.heap.size, 1, none⟩ = some (.string v) := S1.cell 1
  have x2 : w2.cell? ⟨w.heap.size, 2, none⟩ = some (.string g) := S1.cell 2
  have x3 : w2.cell? ⟨w.heap.size, 3, none⟩ = some (.slice A fs.length c) := S1.cell 3
  have z0 : w2.cell? ⟨w.heap.size + 1, 0, none⟩ = some (.string ⟨#[]⟩) := S2.cell 0
  have z1 : w2.cell? ⟨w.heap.size + 1, 1, none⟩ = some (.string ⟨#[]⟩) := S2.cell 1
  have z2 : w2.cell? ⟨w.heap.size + 1, 2, none⟩ = some (.string ⟨#[]⟩) := S2.cell 2
  have z3 : w2.cell? ⟨w.heap.size + 1, 3, none⟩ = some (.slice none 0 0) := S2.cell 3
  have f0 := S2.frozen 0
  have f1 := S2.frozen 1
  have f2 := S2.frozen 2
  have f3 := S2.frozen 3
  have R := S2.four (.string p) (.string v) (.string g) (.slice A fs.length c)
  have hB3 := below_four hB2 (Nat.le_succ w.heap.size) (.string p) (.string v) (.string g) (.slice A fs.length c)
  have HR := Lib.hid R
  have HB3 := Lib.hid hB3
  clear R hB3 S1 S2 hB2
  go_wp2
  have y0 := HR.out.cell 0
  have y1 := HR.out.cell 1
  have y2 := HR.out.cell 2
  have y3 := HR.out.cell 3
  simp only [List.getElem?_toArray, List.getElem?_cons_succ, List.getElem?_cons_zero] at y0 y1 y2 y3
  exact bodyPost_ret (v := .agg #[.string p, .string v, .string g, .slice A fs.length c]) (by simp [results, Tryz.results26, go_sem, y0, y1, y2, y3]) rfl ⟨A, c, rfl, HB3.out⟩
end Go.Proofs.YtcbpkbemnaondaaGreatDoor

/-
  The first entry of a module: the program's and the document's.
-/
namespace Go.Proofs.YtcbpkbemnaondaaGreatDoor
open Go.RowKit Go.Shelf

def NotYet (xs : List EntB) (m : ModB) (k : Nat) : Prop := ∀ i (h : i < xs.length), i < k → ¬ xs[i].m = m
theorem NotYet.snoc {xs : List EntB} {m : ModB} {k : Nat} (h : NotYet xs m k) (hk : k < xs.length) (hn : ¬ xs[k].m = m) : NotYet xs m (k + 1) := fun i hi hik => by
  by_cases e : i = k
  · subst e; exact hn
  · exact h i hi (by omega)
def FindOut (xs : List EntB) (p v : ByteArray) (w : World) (e : Ending) (w' : World) : Prop :=
  ∃ p' v' g' V b, e = .returned (.tuple #[.agg #[.string p', .string v', .string g', V], .bool b]) ∧ (b = true ↔ (p, v) ∈ xs.map EntB.m) ∧ (b = true → p' = p ∧ v' = v) ∧ (∃ A n c, V = .slice A n c) ∧ Below w.heap.size w w'
theorem found {xs : List EntB} {k : Nat} (h : k < xs.length) {m : ModB} (e : xs[k].m = m) : m ∈ xs.map EntB.m := List.mem_map.2 ⟨xs[k], List.getElem_mem h, e⟩
theorem not_found {xs : List EntB} {m : ModB} (h : NotYet xs m xs.length) : ¬ m ∈ xs.map EntB.m := by
  intro hm
  obtain ⟨x, hx, e⟩ := List.mem_map.1 hm
  obtain ⟨i, hi, rfl⟩ := List.getElem_of_mem hx
  exact absurd e (h i hi hi)
theorem mod_ne1 {x : EntB} {p v : ByteArray} (h : (x.p.toList == p.toList) = false) : ¬ x.m = (p, v) := fun e => by
  have := congrArg Prod.fst e
  simp only [EntB.m] at this
  rw [this] at h
  simp at h
theorem mod_ne2 {x : EntB} {p v : ByteArray} (h : (x.v.toList == v.toList) = false) : ¬ x.m = (p, v) := fun e => by
  have := congrArg Prod.snd e
  simp only [EntB.m] at this
  rw [this] at h
  simp at h
theorem mod_eq {x : EntB} {p v : ByteArray} (h : (x.p.toList == p.toList) = true) (k : (x.v.toList == v.toList) = true) : x.m = (p, v) := Prod.ext (eq_size (eq_of_beq h)) (eq_size (eq_of_beq k))

set_option maxRecDepth 100000 in
set_option maxHeartbeats 2000000 in
theorem findE_any (xs : List EntB) (V : Value) (p v : ByteArray) (w : World) (hV : RRow entR w V xs) (hL : LightE xs) (hF : Filed w xs) :
    Calls Tryz.prog 8 #[V, .agg #[.string p, .string v]] w (FindOut xs p v w) := by
  have hb0 := ((Below.refl w.heap.size w).alloc (Nat.le_refl _) (.cells #[.string p, .string v] 24)).alloc (by simp) (.cells zeroE 29)
  have g1 := (GBlk.new w 24 #[.string p, .string v]).alloc (.cells zeroE 29)
  have g2 := GBlk.new (w.alloc (.cells #[.string p, .string v] 24)) 29 zeroE
  have hs : (w.alloc (.cells #[.string p, .string v] 24)).heap.size = w.heap.size + 1 := by simp
  rw [hs] at g2
  have HV := Lib.hid (hV.below hb0)
  have HF := Lib.hid (hF.below hb0)
  have HL := Lib.hid hL.2
  have h50 := hL.1
  obtain ⟨a, c, rfl, hl, -⟩ := hV
  clear hL hF
  unfold zeroE at *
  go_enter Tryz.func8, Tryz.ntmps8
  go_wp2
  generalize (w.alloc (.cells #[.string p, .string v] 24)).alloc (.cells #[.string ⟨#[]⟩, .string ⟨#[]⟩, .string ⟨#[]⟩, .slice none 0 0] 29) = W at *
  have HB0 := Lib.hid hb0
  have HG1 := Lib.hid g1
  have HG2 := Lib.hid g2
  clear hb0 g1 g2
  go_loopw [10] (fun i wr => ∃ k : Nat, k ≤ xs.length ∧ i = .int .i64 k ∧ NotYet xs (p, v) k ∧ Below W.heap.size W wr) (fun i _ => xs.length - (intOf i).toNat)
  case atStart => exact ⟨0, Nat.zero_le _, rfl, (fun i hi h => absurd h (Nat.not_lt_zero _)), Below.refl _ _⟩
  case round =>
    obtain ⟨k, hk, rfl, hN, hB⟩ := hrel
    have HN := Lib.hid hN
    clear hN
    have G1 := HG1.out.below hB
    have G2 := HG2.out.below hB
    by_cases hlt : k < xs.length
    · obtain ⟨a', c', e, -, hsp⟩ := HV.out.below hB
      simp only [Value.slice.injEq] at e
      obtain ⟨rfl, -, rfl⟩ := e
      obtain ⟨g, o, rfl, hg, hat⟩ := hsp (ne_of_lt hlt)
      obtain ⟨q1, q2, q3, q4⟩ := ent_at hat k hlt
      obtain ⟨s1, s2, -, s4⟩ := HL.out _ (List.getElem_mem hlt)
      obtain ⟨fs, hfs, -⟩ := HF.out xs[k] (List.getElem_mem hlt)
      have HQ := Lib.hid (@NotYet.snoc xs (p, v) k HN.out hlt)
      have HX := Lib.hid (@found xs k hlt (p, v))
      clear hat hsp HN
      generalize xs[k] = x at *
      have E0 := Lib.hid (@mod_ne1 x p v)
      have E1 := Lib.hid (@mod_ne2 x p v)
      have E2 := Lib.hid (@mod_eq x p v)
      obtain ⟨xp, xv, xg, xa, xn, xc⟩ := x
      dsimp only at q1 q2 q3 q4 s1 s2 s4 E0 E1 E2
      have hfs' := hfs.below hB
      obtain ⟨A, C, e⟩ := hfs.form
      simp only [EntB.f, Value.slice.injEq] at e
      obtain ⟨rfl, rfl, rfl⟩ := e
      dsimp only [EntB.f] at hfs'
      clear hfs
      have m0 : wr.cell? ⟨w.heap.size, 0, none⟩ = some (.string p) := G1.cell 0
      have m1 : wr.cell? ⟨w.heap.size, 1, none⟩ = some (.string v) := G1.cell 1
      have n0 : (wr.alloc (.cells #[.string xp, .string xv, .string xg, .slice xa fs.length xc] 29)).cell? ⟨w.heap.size, 0, none⟩ = some (.string p) := (G1.alloc _).cell 0
      have n1 : (wr.alloc (.cells #[.string xp, .string xv, .string xg, .slice xa fs.length xc] 29)).cell? ⟨w.heap.size, 1, none⟩ = some (.string v) := (G1.alloc _).cell 1
      have hB2 := hB.alloc hB.size (.cells #[.string xp, .string xv, .string xg, .slice xa fs.length xc] 29)
      have G3 := G2.alloc (.cells #[.string xp, .string xv, .string xg, .slice xa fs.length xc] 29)
      have hfs2 := hfs'.below ((Below.refl _ wr).alloc (Nat.le_refl _) (.cells #[.string xp, .string xv, .string xg, .slice xa fs.length xc] 29))
      have HB2 := Lib.hid hB2
      have HG3 := Lib.hid G3
      have HFS := Lib.hid hfs2
      clear hB2 G3 hfs2 G2 hfs'
      cases hp : (xp.toList == p.toList)
      · have HY := Lib.hid (HQ.out (E0.out hp))
        clear HQ E0 E1 E2 HX
        go_wp2
        go_roundw
        case rel => exact ⟨k + 1, by omega, by go_num, HY.out, HB2.out⟩
        case measure => simp [intOf]; omega
      · cases hq : (xv.toList == v.toList)
        · have HY := Lib.hid (HQ.out (E1.out hq))
          clear HQ E0 E1 E2 HX
          go_wp2
          go_roundw
          case rel => exact ⟨k + 1, by omega, by go_num, HY.out, HB2.out⟩
          case measure => simp [intOf]; omega
        · have HZ := Lib.hid (HX.out (E2.out hp hq))
          have HP := Lib.hid (Prod.mk.inj (E2.out hp hq))
          clear HQ E0 E1 E2 HX
          go_wp2_with fail
          refine (copied_any xp xv xg _ fs _ HFS.out (by omega)).mono ?_
          rintro _ w3 ⟨A3, c3, rfl, hb3⟩
          have G4 := HG3.out.below hb3
          have hB3 := HB2.out.trans (hb3.mono HB2.out.size)
          have hB4 := HB0.out.trans (hB3.mono HB0.out.size)
          clear hb3 hB3 HG3 HB2 HFS n0 n1 m0 m1
          have z0 : w3.cell? ⟨w.heap.size + 1, 0, none⟩ = some (.string ⟨#[]⟩) := G4.cell 0
          have z1 : w3.cell? ⟨w.heap.size + 1, 1, none⟩ = some (.string ⟨#[]⟩) := G4.cell 1
          have z2 : w3.cell? ⟨w.heap.size + 1, 2, none⟩ = some (.string ⟨#[]⟩) := G4.cell 2
          have z3 : w3.cell? ⟨w.heap.size + 1, 3, none⟩ = some (.slice none 0 0) := G4.cell 3
          have f0 := G4.frozen 0
          have f1 := G4.frozen 1
          have f2 := G4.frozen 2
          have f3 := G4.frozen 3
          have HR := Lib.hid (G4.four (.string xp) (.string xv) (.string xg) (.slice A3 fs.length c3))
          have HE := Lib.hid (below_four hB4 (Nat.le_succ w.heap.size) (.string xp) (.string xv) (.string xg) (.slice A3 fs.length c3))
          clear G4 hB4
          go_wp2
          have y0 := HR.out.cell 0
          have y1 := HR.out.cell 1
          have y2 := HR.out.cell 2
          have y3 := HR.out.cell 3
          simp only [List.getElem?_toArray, List.getElem?_cons_succ, List.getElem?_cons_zero] at y0 y1 y2 y3
          exact bodyPost_ret (v := .tuple #[.agg #[.string xp, .string xv, .string xg, .slice A3 fs.length c3], .bool true]) (by simp [results, Tryz.results8, go_sem, y0, y1, y2, y3]) rfl ⟨xp, xv, xg, _, true, rfl, ⟨fun _ => HZ.out, fun _ => rfl⟩, fun _ => HP.out, ⟨_, _, _, rfl⟩, HE.out⟩
    · obtain rfl : k = xs.length := by omega
      have HZ := Lib.hid (not_found HN.out)
      have hB4 := HB0.out.trans (hB.mono HB0.out.size)
      have z0 : wr.cell? ⟨w.heap.size + 1, 0, none⟩ = some (.string ⟨#[]⟩) := G2.cell 0
      have z1 : wr.cell? ⟨w.heap.size + 1, 1, none⟩ = some (.string ⟨#[]⟩) := G2.cell 1
      have z2 : wr.cell? ⟨w.heap.size + 1, 2, none⟩ = some (.string ⟨#[]⟩) := G2.cell 2
      have z3 : wr.cell? ⟨w.heap.size + 1, 3, none⟩ = some (.slice none 0 0) := G2.cell 3
      have f0 := G2.frozen 0
      have f1 := G2.frozen 1
      have f2 := G2.frozen 2
      have f3 := G2.frozen 3
      have HR := Lib.hid (G2.four (.string ⟨#[]⟩) (.string ⟨#[]⟩) (.string ⟨#[]⟩) (.slice none 0 0))
      have HE := Lib.hid (below_four hB4 (Nat.le_succ w.heap.size) (.string ⟨#[]⟩) (.string ⟨#[]⟩) (.string ⟨#[]⟩) (.slice none 0 0))
      clear G1 G2 hB4 hB
      go_wp2
      have y0 := HR.out.cell 0
      have y1 := HR.out.cell 1
      have y2 := HR.out.cell 2
      have y3 := HR.out.cell 3
      simp only [List.getElem?_toArray, List.getElem?_cons_succ, List.getElem?_cons_zero] at y0 y1 y2 y3
      exact bodyPost_ret (v := .tuple #[.agg #[.string ⟨#[]⟩, .string ⟨#[]⟩, .string ⟨#[]⟩, .slice none 0 0], .bool false]) (by simp [results, Tryz.results8, go_sem, y0, y1, y2, y3]) rfl ⟨⟨#[]⟩, ⟨#[]⟩, ⟨#[]⟩, _, false, rfl, ⟨(fun h => by cases h), fun h => absurd h HZ.out⟩, (fun h => by cases h), ⟨_, _, _, rfl⟩, HE.out⟩

set_option maxRecDepth 100000 in
set_option maxHeartbeats 2000000 in
theorem rfindE_any (xs : List EntB) (V : Value) (p v : ByteArray) (w : World) (hV : RRow entR w V xs) (hL : LightE xs) (hF : Filed w xs) :
    Calls Tryz.prog 9 #[V, .agg #[.string p, .string v]] w (FindOut xs p v w) := by
  have hb0 := ((Below.refl w.heap.size w).alloc (Nat.le_refl _) (.cells #[.string p, .string v] 24)).alloc (by simp) (.cells zeroE 29)
  have g1 := (GBlk.new w 24 #[.string p, .string v]).alloc (.cells zeroE 29)
  have g2 := GBlk.new (w.alloc (.cells #[.string p, .string v] 24)) 29 zeroE
  have hs : (w.alloc (.cells #[.string p, .string v] 24)).heap.size = w.heap.size + 1 := by simp
  rw [hs] at g2
  have HV := Lib.hid (hV.below hb0)
  have HF := Lib.hid (hF.below hb0)
  have HL := Lib.hid hL.2
  have h50 := hL.1
  obtain ⟨a, c, rfl, hl, -⟩ := hV
  clear hL hF
  unfold zeroE at *
  go_enter Tryz.func9, Tryz.ntmps9
  go_wp2
  generalize (w.alloc (.cells #[.string p, .string v] 24)).alloc (.cells #[.string ⟨#[]⟩, .string ⟨#[]⟩, .string ⟨#[]⟩, .slice none 0 0] 29) = W at *
  have HB0 := Lib.hid hb0
  have HG1 := Lib.hid g1
  have HG2 := Lib.hid g2
  clear hb0 g1 g2
  go_loopw [6] (fun i wr => ∃ k : Nat, k ≤ xs.length ∧ i = .int .i64 k ∧ NotYet xs (p, v) k ∧ Below W.heap.size W wr) (fun i _ => xs.length - (intOf i).toNat)
  case atStart => exact ⟨0, Nat.zero_le _, rfl, (fun i hi h => absurd h (Nat.not_lt_zero _)), Below.refl _ _⟩
  case round =>
    obtain ⟨k, hk, rfl, hN, hB⟩ := hrel
    have HN := Lib.hid hN
    clear hN
    have G1 := HG1.out.below hB
    have G2 := HG2.out.below hB
    by_cases hlt : k < xs.length
    · obtain ⟨a', c', e, -, hsp⟩ := HV.out.below hB
      simp only [Value.slice.injEq] at e
      obtain ⟨rfl, -, rfl⟩ := e
      obtain ⟨g, o, rfl, hg, hat⟩ := hsp (ne_of_lt hlt)
      obtain ⟨q1, q2, q3, q4⟩ := ent_at hat k hlt
      obtain ⟨s1, s2, -, s4⟩ := HL.out _ (List.getElem_mem hlt)
      obtain ⟨fs, hfs, -⟩ := HF.out xs[k] (List.getElem_mem hlt)
      have HQ := Lib.hid (@NotYet.snoc xs (p, v) k HN.out hlt)
      have HX := Lib.hid (@found xs k hlt (p, v))
      clear hat hsp HN
      generalize xs[k] = x at *
      have E0 := Lib.hid (@mod_ne1 x p v)
      have E1 := Lib.hid (@mod_ne2 x p v)
      have E2 := Lib.hid (@mod_eq x p v)
      obtain ⟨xp, xv, xg, xa, xn, xc⟩ := x
      dsimp only at q1 q2 q3 q4 s1 s2 s4 E0 E1 E2
      have hfs' := hfs.below hB
      obtain ⟨A, C, e⟩ := hfs.form
      simp only [EntB.f, Value.slice.injEq] at e
      obtain ⟨rfl, rfl, rfl⟩ := e
      dsimp only [EntB.f] at hfs'
      clear hfs
      have m0 : wr.cell? ⟨w.heap.size, 0, none⟩ = some (.string p) := G1.cell 0
      have m1 : wr.cell? ⟨w.heap.size, 1, none⟩ = some (.string v) := G1.cell 1
      have HB2 := Lib.hid hB
      have HG3 := Lib.hid G2
      clear G2 hfs'
      cases hp : (xp.toList == p.toList)
      · have HY := Lib.hid (HQ.out (E0.out hp))
        clear HQ E0 E1 E2 HX
        go_wp2
        go_region
        go_wp2
        go_roundw
        case rel => exact ⟨k + 1, by omega, by go_num, HY.out, HB2.out.drew⟩
        case measure => simp [intOf]; omega
      · cases hq : (xv.toList == v.toList)
        · have HY := Lib.hid (HQ.out (E1.out hq))
          clear HQ E0 E1 E2 HX
          go_wp2
          go_region
          go_wp2
          go_roundw
          case rel => exact ⟨k + 1, by omega, by go_num, HY.out, HB2.out.drew⟩
          case measure => simp [intOf]; omega
        · have HZ := Lib.hid (HX.out (E2.out hp hq))
          have HP := Lib.hid (Prod.mk.inj (E2.out hp hq))
          clear HQ E0 E1 E2 HX
          go_wp2
          go_region
          have G4 := HG3.out
          have hB4 := HB0.out.trans (HB2.out.mono HB0.out.size)
          clear HG3 HB2 m0 m1
          have z0 : wr.cell? ⟨w.heap.size + 1, 0, none⟩ = some (.string ⟨#[]⟩) := G4.cell 0
          have z1 : wr.cell? ⟨w.heap.size + 1, 1, none⟩ = some (.string ⟨#[]⟩) := G4.cell 1
          have z2 : wr.cell? ⟨w.heap.size + 1, 2, none⟩ = some (.string ⟨#[]⟩) := G4.cell 2
          have z3 : wr.cell? ⟨w.heap.size + 1, 3, none⟩ = some (.slice none 0 0) := G4.cell 3
          have f0 := G4.frozen 0
          have f1 := G4.frozen 1
          have f2 := G4.frozen 2
          have f3 := G4.frozen 3
          have HR := Lib.hid (G4.four (.string xp) (.string xv) (.string xg) (.slice xa fs.length xc))
          have HE := Lib.hid (below_four hB4 (Nat.le_succ w.heap.size) (.string xp) (.string xv) (.string xg) (.slice xa fs.length xc))
          clear G4 hB4
          go_wp2
          have y0 := HR.out.cell 0
          have y1 := HR.out.cell 1
          have y2 := HR.out.cell 2
          have y3 := HR.out.cell 3
          simp only [List.getElem?_toArray, List.getElem?_cons_succ, List.getElem?_cons_zero] at y0 y1 y2 y3
          exact bodyPost_ret (v := .tuple #[.agg #[.string xp, .string xv, .string xg, .slice xa fs.length xc], .bool true]) (by simp [results, Tryz.results9, go_sem, y0, y1, y2, y3]) rfl ⟨xp, xv, xg, _, true, rfl, ⟨fun _ => HZ.out, fun _ => rfl⟩, fun _ => HP.out, ⟨_, _, _, rfl⟩, HE.out.drew⟩
    · obtain rfl : k = xs.length := by omega
      have HZ := Lib.hid (not_found HN.out)
      have hB4 := HB0.out.trans (hB.mono HB0.out.size)
      have z0 : wr.cell? ⟨w.heap.size + 1, 0, none⟩ = some (.string ⟨#[]⟩) := G2.cell 0
      have z1 : wr.cell? ⟨w.heap.size + 1, 1, none⟩ = some (.string ⟨#[]⟩) := G2.cell 1
      have z2 : wr.cell? ⟨w.heap.size + 1, 2, none⟩ = some (.string ⟨#[]⟩) := G2.cell 2
      have z3 : wr.cell? ⟨w.heap.size + 1, 3, none⟩ = some (.slice none 0 0) := G2.cell 3
      have f0 := G2.frozen 0
      have f1 := G2.frozen 1
      have f2 := G2.frozen 2
      have f3 := G2.frozen 3
      have HR := Lib.hid (G2.four (.string ⟨#[]⟩) (.string ⟨#[]⟩) (.string ⟨#[]⟩) (.slice none 0 0))
      have HE := Lib.hid (below_four hB4 (Nat.le_succ w.heap.size) (.string ⟨#[]⟩) (.string ⟨#[]⟩) (.string ⟨#[]⟩) (.slice none 0 0))
      clear G1 G2 hB4 hB
      go_wp2
      have y0 := HR.out.cell 0
      have y1 := HR.out.cell 1
      have y2 := HR.out.cell 2
      have y3 := HR.out.cell 3
      simp only [List.getElem?_toArray, List.getElem?_cons_succ, List.getElem?_cons_zero] at y0 y1 y2 y3
      exact bodyPost_ret (v := .tuple #[.agg #[.string ⟨#[]⟩, .string ⟨#[]⟩, .string ⟨#[]⟩, .slice none 0 0], .bool false]) (by simp [results, Tryz.results9, go_sem, y0, y1, y2, y3]) rfl ⟨⟨#[]⟩, ⟨#[]⟩, ⟨#[]⟩, _, false, rfl, ⟨(fun h => by cases h), fun h => absurd h HZ.out⟩, (fun h => by cases h), ⟨_, _, _, rfl⟩, HE.out⟩
end Go.Proofs.YtcbpkbemnaondaaGreatDoor
