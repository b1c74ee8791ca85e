/-
  For every go.mod file, every list of entries and every module: what stands in the place of the module is not excluded, is not lower, and is its own next one; nothing between is in the cache, and not excluded. No condition.
-/
import Derived.Test.YtcbpkbemnaondaaGreatDoorQ3
import Derived.Test.YtcbpkbemnaondaaGreatDoorQ2
import Derived.Deep.LoopGhost
import Derived.WalkMore
import Derived.Test.YtcbpkbemnaondaaGreatDoorRows
import Derived.Test.YtcbpkbemnaondaaGreatDoorCards
import Derived.Test.YtcbpkbemnaondaaGreatDoorTie
import Derived.Test.YtcbpkbemnaondaaGreatDoorL1
import Derived.SevenTiedAt
import Derived.SizedLaws

/-
  That something is replaced.
-/
namespace Go.Proofs.YtcbpkbemnaondaaGreatDoor
open Go.RowKit Go.Shelf
set_option maxRecDepth 100000 in
set_option maxHeartbeats 2000000 in
theorem shownR_any (w : World) : Calls Tryz.prog 20 #[] w fun e w' => e = .returned (.bool true) ∧ Below w.heap.size w w' := by
  have hb0 := (Below.refl w.heap.size w).alloc (Nat.le_refl _) (.cells #[.string ⟨#[97, 46, 98]⟩, .string ⟨#[118, 49, 46, 48, 46, 48]⟩] 24)
  have g0 := GBlk.new w 24 #[.string ⟨#[97, 46, 98]⟩, .string ⟨#[118, 49, 46, 48, 46, 48]⟩]
  have z0 := g0.cell 0
  have z1 := g0.cell 1
  simp only [List.getElem?_toArray, List.getElem?_cons_succ, List.getElem?_cons_zero] at z0 z1
  have hs1 : (w.alloc (.cells #[.string ⟨#[97, 46, 98]⟩, .string ⟨#[118, 49, 46, 48, 46, 48]⟩] 24)).heap.size = w.heap.size + 1 := by simp
  have hr := RRow.one (R := repR) (w.alloc (.cells #[.string ⟨#[97, 46, 98]⟩, .string ⟨#[118, 49, 46, 48, 46, 48]⟩] 24)) ((⟨#[97, 46, 98]⟩, ⟨#[118, 49, 46, 48, 46, 48]⟩), (⟨#[46, 47, 99]⟩, ⟨#[]⟩)) 71
  rw [hs1] at hr
  have hb1 := hb0.alloc (by simp) (.cells (repR.cells ((⟨#[97, 46, 98]⟩, ⟨#[118, 49, 46, 48, 46, 48]⟩), (⟨#[46, 47, 99]⟩, ⟨#[]⟩))).toArray 71)
  have hR : replL [(((⟨#[97, 46, 98]⟩, ⟨#[118, 49, 46, 48, 46, 48]⟩), (⟨#[46, 47, 99]⟩, ⟨#[]⟩)) : RepB)] (⟨#[97, 46, 98]⟩, ⟨#[118, 49, 46, 48, 46, 48]⟩) = ((⟨#[46, 47, 99]⟩, ⟨#[]⟩), true) := by decide +kernel
  have HX := Lib.hid (replaced_any ⟨#[]⟩ ⟨#[]⟩ (.slice none 0 0) (.slice (some ⟨w.heap.size + 1, 0, none⟩) 1 1) (.slice none 0 0) (.slice none 0 0) _ ⟨#[97, 46, 98]⟩ ⟨#[118, 49, 46, 48, 46, 48]⟩ _ hr (by simp))
  have HR := Lib.hid hR
  have HB := Lib.hid hb1
  clear hr hR hb1 g0
  simp only [repR, List.toArray] at HX HB
  go_enter Tryz.func20, Tryz.ntmps20
  go_wp2_with fail
  refine HX.out.mono ?_
  rintro _ w1 ⟨r, b, hr, rfl, hb2⟩
  rw [HR.out] at hr
  simp only [Prod.mk.injEq] at hr
  obtain ⟨rfl, rfl⟩ := hr
  have hb3 := HB.out.trans (hb2.mono HB.out.size)
  have g1 := GBlk.new w1 24 #[.string ⟨#[46, 47, 99]⟩, .string ⟨#[]⟩]
  have y0 := g1.cell 0
  have y1 := g1.cell 1
  simp only [List.getElem?_toArray, List.getElem?_cons_succ, List.getElem?_cons_zero] at y0 y1
  have HB3 := Lib.hid (hb3.alloc hb3.size (.cells #[.string ⟨#[46, 47, 99]⟩, .string ⟨#[]⟩] 24))
  clear hb3 hb2 g1 HX HB
  go_wp2
  go_ret
  exact ⟨rfl, HB3.out⟩
end Go.Proofs.YtcbpkbemnaondaaGreatDoor

/-
  What a go.mod file excludes; the next version that it leaves.
-/
namespace Go.Proofs.YtcbpkbemnaondaaGreatDoor
open Go.RowKit Go.Shelf

set_option maxRecDepth 100000 in
set_option maxHeartbeats 1000000 in
theorem idxMod_any (v : Value) (xs : List ModB) (m1 m2 : ByteArray) (w : World) (hv : RRow modR w v xs) (hx : xs.length ≤ 1000) :
    Calls Tryz.prog 78 #[v, .agg #[.string m1, .string m2]] w fun e w' => e = .returned (.int .i64 (idxL (fun a => sameM a (m1, m2)) xs)) ∧ Below w.heap.size w w' := by
  have hb0 := (Below.refl w.heap.size w).alloc (Nat.le_refl _) (.cells #[.string m1, .string m2] 24)
  have HV := Lib.hid (hv.below hb0)
  have hc0 : (w.alloc (.cells #[.string m1, .string m2] 24)).cell? ⟨w.heap.size, 0, none⟩ = some (.string m1) := by rw [cell_newR]; rfl
  have hc1 : (w.alloc (.cells #[.string m1, .string m2] 24)).cell? ⟨w.heap.size, 1, none⟩ = some (.string m2) := by rw [cell_newR]; rfl
  have HC := Lib.hid hc0
  have HC1 := Lib.hid hc1
  obtain ⟨a, c, rfl, -⟩ := hv
  clear hc0 hc1
  go_enter Tryz.func78, Tryz.ntmps78
  go_wp2
  obtain ⟨W, hW⟩ : ∃ W, W = w.alloc (.cells #[.string m1, .string m2] 24) := ⟨_, rfl⟩
  rw [← hW] at HV HC HC1 hb0 ⊢
  have HS := Lib.hid (show w.heap.size < W.heap.size by rw [hW]; simp)
  clear hW
  go_loopw [8] (fun i wr => ∃ k : Nat, k ≤ xs.length ∧ i = .int .i64 k ∧ NoneTo (fun a => sameM a (m1, m2)) xs k ∧ Below W.heap.size W wr) (fun i _ => xs.length - (intOf i).toNat)
  case atStart => exact ⟨0, Nat.zero_le _, rfl, NoneTo.start _ _, Below.refl _ _⟩
  case round =>
    obtain ⟨k, hk, rfl, hn, hBw⟩ := hrel
    have HN := Lib.hid hn
    clear hn
    by_cases hlt : k < xs.length
    · obtain ⟨a', c', e, hcap, hr⟩ := HV.out.below hBw
      injection e with e1 e2 e3
      subst e1 e3
      obtain ⟨g, o, rfl, hg, hat⟩ := hr (by intro e; rw [e] at hlt; simp at hlt)
      obtain ⟨q1, q2⟩ := mod_at hat k hlt
      have r1 := (hBw.cell (p := ⟨w.heap.size, 0, none⟩) HS.out).trans HC.out
      have r2 := (hBw.cell (p := ⟨w.heap.size, 1, none⟩) HS.out).trans HC1.out
      have HH := Lib.hid (fun e => HN.out.hit hlt e)
      have HO := Lib.hid (fun e => HN.out.on hlt e)
      clear hat hr
      generalize xs[k] = x at *
      obtain ⟨p, u⟩ := x
      dsimp only at q1 q2 HH HO
      cases e1 : (m1.toList == p.toList)
      · have HE := Lib.hid (HO.out (by rw [sameM_swap]; exact sameM_f e1))
        go_wp2
        go_quiet (fail)
        go_wp2
        go_roundw
        case rel => exact ⟨k + 1, by omega, by go_num, HE.out, below_drewN hBw _⟩
        case measure => simp [intOf]; omega
      · cases e2 : (m2.toList == u.toList)
        · have HE := Lib.hid (HO.out (by rw [sameM_swap]; exact sameM_tf e1 e2))
          go_wp2
          go_quiet (fail)
          go_wp2
          go_roundw
          case rel => exact ⟨k + 1, by omega, by go_num, HE.out, below_drewN hBw _⟩
          case measure => simp [intOf]; omega
        · have HE := Lib.hid (HH.out (by rw [sameM_swap]; exact sameM_tt e1 e2))
          go_wp2
          go_quiet (fail)
          go_wp2
          go_ret
          exact ⟨ret_int HE.out.symm, below_drewN (hb0.trans (hBw.mono hb0.size)) _⟩
    · have HE := Lib.hid (HN.out.done (by omega))
      go_wp2
      go_ret
      exact ⟨ret_int HE.out.symm, hb0.trans (hBw.mono hb0.size)⟩

set_option maxRecDepth 100000 in
set_option maxHeartbeats 1000000 in
theorem contMod_any (v : Value) (xs : List ModB) (m1 m2 : ByteArray) (w : World) (hv : RRow modR w v xs) (hx : xs.length ≤ 1000) :
    Calls Tryz.prog 45 #[v, .agg #[.string m1, .string m2]] w fun e w' => e = .returned (.bool (xs.any fun a => sameM a (m1, m2))) ∧ Below w.heap.size w w' := by
  have HI := Lib.hid (idxL_any (fun a : ModB => sameM a (m1, m2)) xs)
  have hb0 := (Below.refl w.heap.size w).alloc (Nat.le_refl _) (.cells #[.string m1, .string m2] 24)
  have HK := Lib.hid (idxMod_any v xs m1 m2 _ (hv.below hb0) hx)
  obtain ⟨a, c, rfl, -⟩ := hv
  go_enter Tryz.func45, Tryz.ntmps45
  go_wp2_with fail
  refine HK.out.mono ?_
  rintro _ w1 ⟨rfl, hb⟩
  replace hb := hb0.trans (hb.mono hb0.size)
  go_wp2
  all_goals
    go_ret
    refine ⟨ret_bool ?_, hb⟩
    rw [← HI.out]

set_option maxRecDepth 100000 in
set_option maxHeartbeats 1000000 in
theorem excluded_any (f : FileG) (a b c d : Value) (p v : ByteArray) (w : World) (hF : FileAt w a b c d f) (hx : f.excs.length ≤ 1000) :
    Calls Tryz.prog 23 #[.agg #[.string f.mo, .string f.go, a, b, c, d], .agg #[.string p, .string v]] w fun e w' => e = .returned (.bool (f.excs.any fun x => sameM x (p, v))) ∧ Below w.heap.size w w' := by
  have hb0 := (Below.refl w.heap.size w).alloc (Nat.le_refl _) (.cells #[.string f.mo, .string f.go, a, b, c, d] 49)
  have hb1 := hb0.alloc (by simp) (.cells #[.string p, .string v] 24)
  have hs0 : (w.alloc (.cells #[.string f.mo, .string f.go, a, b, c, d] 49)).heap.size = w.heap.size + 1 := by simp
  have g0 := (GBlk.new w 49 #[.string f.mo, .string f.go, a, b, c, d]).alloc (.cells #[.string p, .string v] 24)
  have g1 := GBlk.new (w.alloc (.cells #[.string f.mo, .string f.go, a, b, c, d] 49)) 24 #[.string p, .string v]
  rw [hs0] at g1
  have z4 := g0.cell 4
  have m0 := g1.cell 0
  have m1 := g1.cell 1
  simp only [List.getElem?_toArray, List.getElem?_cons_succ, List.getElem?_cons_zero] at z4 m0 m1
  have HX := Lib.hid (contMod_any c f.excs p v _ (hF.excs.below hb1) hx)
  clear g0 g1
  go_enter Tryz.func23, Tryz.ntmps23
  go_wp2_with fail
  refine HX.out.mono ?_
  rintro _ w1 ⟨rfl, hb2⟩
  have HB := Lib.hid (hb1.trans (hb2.mono hb1.size))
  go_wp2
  go_ret
  exact ⟨rfl, HB.out⟩
end Go.Proofs.YtcbpkbemnaondaaGreatDoor

/-
  The next version of a module that a go.mod file leaves.
-/
namespace Go.Proofs.YtcbpkbemnaondaaGreatDoor
open Go.RowKit Go.Shelf

def exB (excs : List ModB) (m : ModB) : Bool := excs.any fun x => sameM x m
/-- A version that may stand in m's place: it is higher, and not excluded. -/
def mayB (excs : List ModB) (m : ModB) (z : ByteArray) : Bool := !decide (scmp z.data.toList m.2.data.toList ≤ 0) && !exB excs (m.1, z)
def nextL (excs : List ModB) (zs : List ByteArray) (m : ModB) : ModB × Bool :=
  if exB excs m = true then match zs.find? (mayB excs m) with
    | some z => ((m.1, z), true)
    | none => (m, false)
  else (m, true)
def NextOut (f : FileG) (xs : List EntB) (m : ModB) (w : World) (e : Ending) (w' : World) : Prop :=
  ∃ zs r b, Vers m.1 xs zs ∧ nextL f.excs zs m = (r, b) ∧ e = .returned (.tuple #[.agg #[.string r.1, .string r.2], .bool b]) ∧ Below w.heap.size w w'
theorem nextL_stay {excs : List ModB} {zs : List ByteArray} {m : ModB} (h : exB excs m = false) : nextL excs zs m = (m, true) := by unfold nextL; rw [h]; rfl
theorem nextL_none {excs : List ModB} {zs : List ByteArray} {m : ModB} (h : exB excs m = true) (hn : ∀ z ∈ zs, mayB excs m z = false) : nextL excs zs m = (m, false) := by
  unfold nextL
  rw [if_pos h, List.find?_eq_none.2 fun z hz => by rw [hn z hz]; simp]
def Pass (excs : List ModB) (m : ModB) (zs : List ByteArray) (k : Nat) : Prop := ∀ i (h : i < zs.length), i < k → mayB excs m zs[i] = false
theorem Pass.snoc {excs : List ModB} {m : ModB} {zs : List ByteArray} {k : Nat} (h : Pass excs m zs k) (hk : k < zs.length) (e : mayB excs m zs[k] = false) : Pass excs m zs (k + 1) := fun i hi hik => by
  by_cases c : i = k
  · subst c; exact e
  · exact h i hi (by omega)
theorem Pass.all {excs : List ModB} {m : ModB} {zs : List ByteArray} (h : Pass excs m zs zs.length) : ∀ z ∈ zs, mayB excs m z = false := fun z hz => by
  obtain ⟨i, hi, rfl⟩ := List.getElem_of_mem hz
  exact h i hi hi
theorem nextL_hit {excs : List ModB} {m : ModB} {zs : List ByteArray} {k : Nat} (h0 : exB excs m = true) (h : Pass excs m zs k) (hk : k < zs.length) (e : mayB excs m zs[k] = true) : nextL excs zs m = ((m.1, zs[k]), true) := by
  unfold nextL
  have : zs.find? (mayB excs m) = some zs[k] := by
    rw [List.find?_eq_some_iff_getElem]
    exact ⟨e, k, hk, rfl, fun j hj => by rw [h j (by omega) hj]; rfl⟩
  rw [if_pos h0, this]
def NoEx (excs : List ModB) (m : ModB) (k : Nat) : Prop := ∀ i (h : i < excs.length), i < k → sameM excs[i] m = false
theorem NoEx.snoc {excs : List ModB} {m : ModB} {k : Nat} (h : NoEx excs m k) (hk : k < excs.length) (e : sameM excs[k] m = false) : NoEx excs m (k + 1) := fun i hi hik => by
  by_cases c : i = k
  · subst c; exact e
  · exact h i hi (by omega)
theorem NoEx.all {excs : List ModB} {m : ModB} (h : NoEx excs m excs.length) : exB excs m = false := by
  unfold exB
  rw [List.any_eq_false]
  intro x hx
  obtain ⟨i, hi, rfl⟩ := List.getElem_of_mem hx
  rw [h i hi hi]; simp
theorem ex_hit {excs : List ModB} {m : ModB} {k : Nat} (hk : k < excs.length) (e : sameM excs[k] m = true) : exB excs m = true := List.any_eq_true.2 ⟨_, List.getElem_mem hk, e⟩
theorem may_low {excs : List ModB} {m : ModB} {z : ByteArray} (h : scmp z.data.toList m.2.data.toList ≤ 0) : mayB excs m z = false := by unfold mayB; rw [decide_eq_true h]; rfl
theorem may_ex {excs : List ModB} {m : ModB} {z : ByteArray} (h : exB excs (m.1, z) = true) : mayB excs m z = false := by unfold mayB; rw [h]; simp
theorem may_yes {excs : List ModB} {m : ModB} {z : ByteArray} (h : ¬ scmp z.data.toList m.2.data.toList ≤ 0) (k : exB excs (m.1, z) = false) : mayB excs m z = true := by unfold mayB; rw [decide_eq_false h, k]; rfl

theorem Vers.exists (p : ByteArray) (xs : List EntB) : ∃ zs, Vers p xs zs := ⟨_, versL_is p xs⟩

set_option maxRecDepth 100000 in
set_option maxHeartbeats 4000000 in
theorem next_any (f : FileG) (a b c d : Value) (xs : List EntB) (V : Value) (p v : ByteArray) (w : World) (hF : FileAt w a b c d f) (hV : RRow entR w V xs) (hL : LightE xs) (hx : f.excs.length ≤ 1000) (hvz : v.size ≤ 20400) :
    Calls Tryz.prog 21 #[.agg #[.string f.mo, .string f.go, a, b, c, d], V, .agg #[.string p, .string v]] w (NextOut f xs (p, v) w) := by
  obtain ⟨A2, C2, rfl⟩ := hF.excs.form
  have hb0 := (Below.refl w.heap.size w).alloc (Nat.le_refl _) (.cells #[.string f.mo, .string f.go, a, b, .slice A2 f.excs.length C2, d] 49)
  have hb1 := hb0.alloc (by simp) (.cells #[.string p, .string v] 24)
  have hb2 := hb1.alloc (by simp; omega) (.cells #[.string ⟨#[]⟩, .string ⟨#[]⟩] 24)
  have hs0 : (w.alloc (.cells #[.string f.mo, .string f.go, a, b, .slice A2 f.excs.length C2, d] 49)).heap.size = w.heap.size + 1 := by simp
  have hs1 : ((w.alloc (.cells #[.string f.mo, .string f.go, a, b, .slice A2 f.excs.length C2, d] 49)).alloc (.cells #[.string p, .string v] 24)).heap.size = w.heap.size + 2 := by simp
  have g0 := ((GBlk.new w 49 #[.string f.mo, .string f.go, a, b, .slice A2 f.excs.length C2, d]).alloc (.cells #[.string p, .string v] 24)).alloc (.cells #[.string ⟨#[]⟩, .string ⟨#[]⟩] 24)
  have g1 := (GBlk.new (w.alloc (.cells #[.string f.mo, .string f.go, a, b, .slice A2 f.excs.length C2, d] 49)) 24 #[.string p, .string v]).alloc (.cells #[.string ⟨#[]⟩, .string ⟨#[]⟩] 24)
  have g2 := GBlk.new ((w.alloc (.cells #[.string f.mo, .string f.go, a, b, .slice A2 f.excs.length C2, d] 49)).alloc (.cells #[.string p, .string v] 24)) 24 #[.string ⟨#[]⟩, .string ⟨#[]⟩]
  rw [hs0] at g1
  rw [hs1] at g2
  have HF := Lib.hid (hF.below hb2)
  have HV := Lib.hid (hV.below hb2)
  have HLt := Lib.hid hL
  have z0 := g0.cell 0
  have z1 := g0.cell 1
  have z2 := g0.cell 2
  have z3 := g0.cell 3
  have z4 := g0.cell 4
  have z5 := g0.cell 5
  have m0 := g1.cell 0
  have m1 := g1.cell 1
  simp only [List.getElem?_toArray, List.getElem?_cons_succ, List.getElem?_cons_zero] at z0 z1 z2 z3 z4 z5 m0 m1
  clear hs0 hs1 hF hV hL
  go_enter Tryz.func21, Tryz.ntmps21
  go_wp2
  go_step3
  go_wp2_with fail
  generalize ((w.alloc (.cells #[.string f.mo, .string f.go, a, b, .slice A2 f.excs.length C2, d] 49)).alloc (.cells #[.string p, .string v] 24)).alloc (.cells #[.string ⟨#[]⟩, .string ⟨#[]⟩] 24) = W at *
  have HB2 := Lib.hid hb2
  have HG0 := Lib.hid g0
  have HG1 := Lib.hid g1
  have HG2 := Lib.hid g2
  clear hb0 hb1 hb2 g0 g1 g2 z0 z1 z2 z3 z4 z5 m0 m1
  refine (excluded_any f a b _ d p v W HF.out hx).mono ?_
  rintro _ w1 ⟨rfl, hb1⟩
  have HB1 := Lib.hid hb1
  have m0 := (HG1.out.below hb1).cell 0
  have m1 := (HG1.out.below hb1).cell 1
  have n0 := (HG2.out.below hb1).cell 0
  have n1 := (HG2.out.below hb1).cell 1
  have f0 := (HG2.out.below hb1).frozen 0
  have f1 := (HG2.out.below hb1).frozen 1
  simp only [List.getElem?_toArray, List.getElem?_cons_succ, List.getElem?_cons_zero] at m0 m1 n0 n1
  have HE := Lib.hid (show (f.excs.any fun x => sameM x (p, v)) = exB f.excs (p, v) from rfl)
  cases hex : (f.excs.any fun x => sameM x (p, v))
  · have HR := Lib.hid (((HG2.out.below hb1).set 0 (.string p)).set 1 (.string v))
    have HEnd := Lib.hid (below_set (below_set (HB2.out.trans (hb1.mono HB2.out.size)) (show w.heap.size ≤ w.heap.size + 2 by omega) (i := 0) (u := .string p)) (show w.heap.size ≤ w.heap.size + 2 by omega) (i := 1) (u := .string v))
    clear hb1
    go_wp2
    rw [Exit.noGoto_ret]
    have y0 := HR.out.cell 0
    have y1 := HR.out.cell 1
    simp at y0 y1
    obtain ⟨zs, hvs⟩ : ∃ zs, Vers p xs zs := Vers.exists p xs
    exact bodyPost_ret (v := .tuple #[.agg #[.string p, .string v], .bool true]) (by simp [results, Tryz.results21, go_sem, y0, y1]) rfl ⟨zs, (p, v), true, hvs, nextL_stay (HE.out.symm.trans hex), rfl, HEnd.out⟩
  · clear hb1
    have HEX := Lib.hid (show exB f.excs (p, v) = true from HE.out.symm.trans hex)
    clear HE hex
    go_wp2
    go_step3
    go_wp2_with fail
    refine (versions_any xs V p w1 (HV.out.below HB1.out) HLt.out).mono ?_
    rintro _ w2 ⟨VV, zs, rfl, hrow, hperm, hris, hb2⟩
    have HVS := Lib.hid (Vers.of hperm hris)
    obtain ⟨A5, C5, rfl⟩ := hrow.form
    have HW := Lib.hid hrow
    have HB2' := Lib.hid (HB1.out.trans (hb2.mono HB1.out.size))
    have hzl : zs.length ≤ 50 := by
      have h1 := HVS.out.len
      have h2 := cnt_le p xs xs.length
      rw [List.take_length] at h2
      have h3 := HLt.out.1
      omega
    clear hb2 hperm hris hrow m0 m1 n0 n1 f0 f1
    go_wp2
    go_loopg [23] zs.length (fun g s23 wx => ∃ k : Nat, k + g = zs.length ∧ s23 = .int .i64 k ∧ Aside (Pass f.excs (p, v) zs k) ∧ Below w2.heap.size w2 wx)
    case atStart => exact ⟨0, by omega, rfl, (fun i hi h => absurd h (Nat.not_lt_zero _)), Below.refl _ _⟩
    case round =>
      obtain ⟨k, hkg, rfl, HP, hbx⟩ := hrel
      have HBX := Lib.hid hbx
      have hB := HB2'.out.trans (hbx.mono HB2'.out.size)
      have HBW := Lib.hid hB
      have m0 := (HG1.out.below hB).cell 0
      have m1 := (HG1.out.below hB).cell 1
      have n0 := (HG2.out.below hB).cell 0
      have n1 := (HG2.out.below hB).cell 1
      have f0 := (HG2.out.below hB).frozen 0
      have f1 := (HG2.out.below hB).frozen 1
      simp only [List.getElem?_toArray, List.getElem?_cons_succ, List.getElem?_cons_zero] at m0 m1 n0 n1
      cases gk with
      | zero =>
        have hkz : k = zs.length := by omega
        subst hkz
        have HN := Lib.hid (nextL_none HEX.out (Pass.all HP.out))
        have HR := Lib.hid (((HG2.out.below hB).set 0 (.string p)).set 1 (.string v))
        have HEnd := Lib.hid (below_set (below_set (HB2.out.trans (hB.mono HB2.out.size)) (show w.heap.size ≤ w.heap.size + 2 by omega) (i := 0) (u := .string p)) (show w.heap.size ≤ w.heap.size + 2 by omega) (i := 1) (u := .string v))
        clear hB hbx
        go_wp2
        rw [Exit.noGoto_ret]
        have y0 := HR.out.cell 0
        have y1 := HR.out.cell 1
        simp at y0 y1
        exact bodyPost_ret (v := .tuple #[.agg #[.string p, .string v], .bool false]) (by simp [results, Tryz.results21, go_sem, y0, y1]) rfl ⟨zs, (p, v), false, HVS.out, HN.out, rfl, HEnd.out⟩
      | succ g =>
        have hlt : k < zs.length := by omega
        obtain ⟨a', c', e, -, hsp⟩ := HW.out.below hbx
        simp only [Value.slice.injEq] at e
        obtain ⟨rfl, -, rfl⟩ := e
        obtain ⟨gg, oo, rfl, hgg, hat⟩ := hsp (ne_of_lt hlt)
        have q1 := str_at hat k hlt
        have hz := HVS.out.small HLt.out hlt
        have HS := Lib.hid (fun e => Pass.snoc HP.out hlt e)
        have HH := Lib.hid (fun e => nextL_hit HEX.out HP.out hlt e)
        clear hat hsp hB hbx
        generalize zs[k] = z at *
        go_wp2_with fail
        refine (compare_any' z v (by omega) (by omega) wr).mono ?_
        rintro _ w3 ⟨rfl, hb3⟩
        have HB3 := Lib.hid (HBX.out.trans (hb3.mono HBX.out.size))
        have HW3 := Lib.hid (HBW.out.trans (hb3.mono HBW.out.size))
        clear m0 m1 n0 n1 f0 f1 q1 hb3
        by_cases hle : scmp z.data.toList v.data.toList ≤ 0
        · have HN := Lib.hid (HS.out (may_low hle))
          clear HS HH
          go_wp2
          go_roundg g
          case rel => exact ⟨k + 1, by omega, by go_num, HN.out, HB3.out⟩
          case measure => omega
        · have HLE := Lib.hid hle
          have m0 := (HG1.out.below HW3.out).cell 0
          have z4 := (HG0.out.below HW3.out).cell 4
          simp only [List.getElem?_toArray, List.getElem?_cons_succ, List.getElem?_cons_zero] at m0 z4
          have hb4 := (Below.refl w3.heap.size w3).alloc (Nat.le_refl _) (.cells #[.string p, .string z] 24)
          have HT := Lib.hid (GBlk.new w3 24 #[.string p, .string z])
          have HB4 := Lib.hid (HB3.out.trans (hb4.mono HB3.out.size))
          have HW4 := Lib.hid (HW3.out.trans (hb4.mono HW3.out.size))
          have z4' := (HG0.out.below HW4.out).cell 4
          simp only [List.getElem?_toArray, List.getElem?_cons_succ, List.getElem?_cons_zero] at z4'
          have HX := Lib.hid (HF.out.below HW4.out).excs
          clear hb4
          go_wp2
          generalize w3.alloc (.cells #[.string p, .string z] 24) = w4 at *
          go_loopg [39] f.excs.length (fun g2 s39 wx => ∃ j : Nat, j + g2 = f.excs.length ∧ s39 = .int .i64 j ∧ Aside (NoEx f.excs (p, z) j) ∧ Below w4.heap.size w4 wx)
          case atStart => exact ⟨0, by omega, rfl, (fun i hi h => absurd h (Nat.not_lt_zero _)), Below.refl _ _⟩
          case round =>
            obtain ⟨j, hjg, rfl, HNE, hbj⟩ := hrel
            have HBJ := Lib.hid (HB4.out.trans (hbj.mono HB4.out.size))
            have hWJ := HW4.out.trans (hbj.mono HW4.out.size)
            have HWJ := Lib.hid hWJ
            have t0 := (HT.out.below hbj).cell 0
            have t1 := (HT.out.below hbj).cell 1
            simp only [List.getElem?_toArray, List.getElem?_cons_succ, List.getElem?_cons_zero] at t0 t1
            cases gk with
            | zero =>
              have hjl : j = f.excs.length := by omega
              subst hjl
              have HN := Lib.hid (HH.out (may_yes (m := (p, v)) (by have := HLE.out; dsimp only; omega) (NoEx.all HNE.out)))
              have n0 := (HG2.out.below hWJ).cell 0
              have n1 := (HG2.out.below hWJ).cell 1
              have f0 := (HG2.out.below hWJ).frozen 0
              have f1 := (HG2.out.below hWJ).frozen 1
              simp only [List.getElem?_toArray, List.getElem?_cons_succ, List.getElem?_cons_zero] at n0 n1
              have HR := Lib.hid (((HG2.out.below hWJ).set 0 (.string p)).set 1 (.string z))
              have HEnd := Lib.hid (below_set (below_set (HB2.out.trans (hWJ.mono HB2.out.size)) (show w.heap.size ≤ w.heap.size + 2 by omega) (i := 0) (u := .string p)) (show w.heap.size ≤ w.heap.size + 2 by omega) (i := 1) (u := .string z))
              clear hWJ hbj
              go_wp2
              rw [Exit.noGoto_ret]
              have y0 := HR.out.cell 0
              have y1 := HR.out.cell 1
              simp at y0 y1
              exact bodyPost_ret (v := .tuple #[.agg #[.string p, .string z], .bool true]) (by simp [results, Tryz.results21, go_sem, y0, y1]) rfl ⟨zs, (p, z), true, HVS.out, HN.out, rfl, HEnd.out⟩
            | succ g2 =>
              have hltj : j < f.excs.length := by omega
              obtain ⟨a', c', e, -, hsp⟩ := HX.out.below hbj
              simp only [Value.slice.injEq] at e
              obtain ⟨rfl, -, rfl⟩ := e
              obtain ⟨ge, oe, rfl, hge, hat⟩ := hsp (ne_of_lt hltj)
              obtain ⟨q1, q2⟩ := mod_at hat j hltj
              have HSn := Lib.hid (fun e => NoEx.snoc HNE.out hltj e)
              have HHit := Lib.hid (fun e => ex_hit (m := (p, z)) hltj e)
              have hbx := (Below.refl wr.heap.size wr).alloc (Nat.le_refl _) (.cells #[.string f.excs[j].1, .string f.excs[j].2] 24)
              have hbj2 := hbj.trans (hbx.mono hbj.size)
              have t0' := (HT.out.below hbj2).cell 0
              have t1' := (HT.out.below hbj2).cell 1
              simp only [List.getElem?_toArray, List.getElem?_cons_succ, List.getElem?_cons_zero] at t0' t1'
              have HB5 := Lib.hid (HBJ.out.trans (hbx.mono HBJ.out.size))
              have HJ5 := Lib.hid hbj2
              clear hat hsp hWJ hbj hbx hbj2
              generalize f.excs[j] = x at *
              obtain ⟨x1, x2⟩ := x
              dsimp only at q1 q2 HSn HHit t0' t1' HB5 HJ5
              cases e1 : (x1.toList == p.toList)
              · have HE1 := Lib.hid (HSn.out (sameM_f e1))
                go_wp2
                go_roundg g2
                case rel => exact ⟨j + 1, by omega, by go_num, HE1.out, HJ5.out⟩
                case measure => omega
              · cases e2 : (x2.toList == z.toList)
                · have HE1 := Lib.hid (HSn.out (sameM_tf e1 e2))
                  go_wp2
                  go_roundg g2
                  case rel => exact ⟨j + 1, by omega, by go_num, HE1.out, HJ5.out⟩
                  case measure => omega
                · have HN := Lib.hid (HS.out (may_ex (m := (p, v)) (HHit.out (sameM_tt e1 e2))))
                  go_wp2
                  go_roundg g
                  case rel => exact ⟨k + 1, by omega, by go_num, HN.out, HB5.out⟩
                  case measure => omega
end Go.Proofs.YtcbpkbemnaondaaGreatDoor

/-
  What stands in the place of a module, plain.
-/
namespace Go.Proofs.YtcbpkbemnaondaaGreatDoor
open Go.RowKit Go.Shelf

structure NextIs (excs : List ModB) (xs : List EntB) (p v : ByteArray) (r : ModB) : Prop where
  out : exB excs r = false
  up : 0 ≤ scmp r.2.data.toList v.data.toList
  least : ∀ x ∈ xs, x.p = p → 0 < scmp x.v.data.toList v.data.toList → exB excs (p, x.v) = false → exB excs (p, v) = true → ¬ scmp x.v.data.toList r.2.data.toList < 0
  small : LightE xs → v.size ≤ 400 → r.2.size ≤ 16384
structure NextNot (excs : List ModB) (xs : List EntB) (p v : ByteArray) : Prop where
  ex : exB excs (p, v) = true
  none : ∀ x ∈ xs, x.p = p → 0 < scmp x.v.data.toList v.data.toList → exB excs (p, x.v) = false → False
theorem ver_up {a b : ByteArray} (h : verCmp a b = -1) : scmp a.data.toList b.data.toList ≤ 0 := by
  unfold verCmp orI at h
  split at h
  · omega
  · omega
theorem may_iff {excs : List ModB} {p v z : ByteArray} (h1 : 0 < scmp z.data.toList v.data.toList) (h2 : exB excs (p, z) = false) : mayB excs (p, v) z = true := may_yes (m := (p, v)) (by dsimp only; omega) h2
theorem next_facts {excs : List ModB} {zs : List ByteArray} {xs : List EntB} {p v : ByteArray} {r : ModB} {b : Bool} (hv : Vers p xs zs) (h : nextL excs zs (p, v) = (r, b)) :
    (b = true ∧ ∃ nv, r = (p, nv) ∧ NextIs excs xs p v (p, nv)) ∨ (b = false ∧ r = (p, v) ∧ NextNot excs xs p v) := by
  unfold nextL at h
  split at h
  · rename_i hex
    split at h
    · rename_i z hz
      simp only [Prod.mk.injEq] at h
      obtain ⟨rfl, rfl⟩ := h
      left
      obtain ⟨hm, i, hi, rfl, hbef⟩ := List.find?_eq_some_iff_getElem.1 hz
      have hm' := hm
      unfold mayB at hm'
      simp only [Bool.and_eq_true, Bool.not_eq_true', decide_eq_false_iff_not] at hm'
      refine ⟨rfl, _, rfl, ⟨hm'.2, by have := hm'.1; dsimp only at this ⊢; omega, ?_, ?_⟩⟩
      · intro x hx hp h1 h2 _
        have hmem : x.v ∈ zs := (hv.mem x.v).2 ⟨x, hx, hp, rfl⟩
        obtain ⟨j, hj, hjx⟩ := List.getElem_of_mem hmem
        have hmay := may_iff (excs := excs) (p := p) (v := v) h1 h2
        rw [← hjx] at hmay ⊢
        dsimp only
        rcases Nat.lt_trichotomy j i with hji | hji | hji
        · have := hbef j hji
          rw [hmay] at this
          simp at this
        · subst hji
          rw [scmp_cmp.self]; omega
        · have := ver_up (List.pairwise_iff_getElem.1 hv.strict i j hi hj hji)
          have h3 := scmp_cmp.neg zs[i].data.toList zs[j].data.toList
          omega
      · intro hL _
        exact hv.small hL hi
    · rename_i hz
      simp only [Prod.mk.injEq] at h
      obtain ⟨rfl, rfl⟩ := h
      right
      refine ⟨rfl, rfl, hex, ?_⟩
      intro x hx hp h1 h2
      have hmem : x.v ∈ zs := (hv.mem x.v).2 ⟨x, hx, hp, rfl⟩
      have := List.find?_eq_none.1 hz _ hmem
      rw [may_iff h1 h2] at this
      simp at this
  · rename_i hex
    simp only [Prod.mk.injEq] at h
    obtain ⟨rfl, rfl⟩ := h
    left
    refine ⟨rfl, v, rfl, ⟨by simpa using hex, by dsimp only; rw [scmp_cmp.self]; omega, ?_, fun _ h => by dsimp only; omega⟩⟩
    intro x _ _ _ _ h
    exact absurd h hex
end Go.Proofs.YtcbpkbemnaondaaGreatDoor

/-
  What stands in the place of a module is not excluded, is not lower, and is its own next one; nothing between is in the cache, and not excluded: the law's own walk.
-/
namespace Go.Proofs.YtcbpkbemnaondaaGreatDoor
open Go.RowKit Go.Shelf

theorem filed_n {w : World} {xs : List EntB} (h : Filed w xs) : ∀ x ∈ xs, x.n ≤ maxLen := fun x hx => by
  obtain ⟨fs, h1, h2⟩ := h x hx
  obtain ⟨A, C, e⟩ := h1.form
  simp only [EntB.f, Value.slice.injEq] at e
  omega

set_option maxRecDepth 100000 in
set_option maxHeartbeats 8000000 in
theorem nextlaw_walk (f : FileG) (a b c d : Value) (xs : List EntB) (V : Value) (p v : ByteArray) (w : World) (hF : FileAt w a b c d f) (hV : RRow entR w V xs) (hm : xs.length ≤ maxLen) (hf : Filed w xs) (yp : p.size ≤ 140737488355328) (yv : v.size ≤ 140737488355328) :
    Calls Tryz.prog 5 #[.agg #[.string f.mo, .string f.go, a, b, c, d], V, .agg #[.string p, .string v]] w fun e w' => e = .returned (.bool true) ∧ Below w.heap.size w w' := by
  have hb0 := (Below.refl w.heap.size w).alloc (Nat.le_refl _) (.cells #[.string f.mo, .string f.go, a, b, c, d] 49)
  have hb1 := hb0.alloc (by simp) (.cells #[.string p, .string v] 24)
  have hs0 : (w.alloc (.cells #[.string f.mo, .string f.go, a, b, c, d] 49)).heap.size = w.heap.size + 1 := by simp
  have g0 := (GBlk.new w 49 #[.string f.mo, .string f.go, a, b, c, d]).alloc (.cells #[.string p, .string v] 24)
  have g1 := GBlk.new (w.alloc (.cells #[.string f.mo, .string f.go, a, b, c, d] 49)) 24 #[.string p, .string v]
  rw [hs0] at g1
  have z0 := g0.cell 0
  have z1 := g0.cell 1
  have z2 := g0.cell 2
  have z3 := g0.cell 3
  have z4 := g0.cell 4
  have z5 := g0.cell 5
  have m0 := g1.cell 0
  have m1 := g1.cell 1
  simp only [List.getElem?_toArray, List.getElem?_cons_succ, List.getElem?_cons_zero] at z0 z1 z2 z3 z4 z5 m0 m1
  generalize hW : (w.alloc (.cells #[.string f.mo, .string f.go, a, b, c, d] 49)).alloc (.cells #[.string p, .string v] 24) = W at *
  have HN := Lib.hid (filed_n hf)
  have HF := Lib.hid (hF.below hb1)
  have HV := Lib.hid (hV.below hb1)
  have HB1 := Lib.hid hb1
  have HG0 := Lib.hid g0
  have HG1 := Lib.hid g1
  clear hF hV hb0 hb1 hs0 g0 g1 hf
  obtain ⟨A4, C4, hev⟩ := HV.out.form
  subst hev
  unfold maxLen at hm
  go_enter Tryz.func5, Tryz.ntmps5
  go_wp2_with fail
  refine (heavyR_any f a b c d xs _ p v W HF.out HV.out HN.out).mono ?_
  rintro _ w4 ⟨hv, rfl, hlight, hb4⟩
  have HT := Lib.hid hb4
  have HL := Lib.hid hlight
  clear z0 z1 z2 z3 z4 z5 m0 m1 hlight hb4 hW
  cases hv
  rotate_left 1
  · go_wp2_with (first | (go_at_call 20; refine (shownR_any _).mono ?_; rintro _ w5 ⟨rfl, hb5⟩))
    go_ret
    exact ⟨rfl, HB1.out.trans ((HT.out.trans (hb5.mono HT.out.size)).mono HB1.out.size)⟩
  have HLE := Lib.hid (HL.out rfl).ents
  have hex30 := (HL.out rfl).excs
  have hv400 := (HL.out rfl).m (by dsimp only; omega)
  dsimp only at hv400
  clear HL
  go_wp2_with (first | (go_at_call 20; refine (shownR_any _).mono ?_; rintro _ w5 ⟨rfl, hb5⟩; replace HT := Lib.hid (HT.out.trans (hb5.mono HT.out.size)); clear hb5; have z0 := (HG0.out.below HT.out).cell 0; have z1 := (HG0.out.below HT.out).cell 1; have z2 := (HG0.out.below HT.out).cell 2; have z3 := (HG0.out.below HT.out).cell 3; have z4 := (HG0.out.below HT.out).cell 4; have z5 := (HG0.out.below HT.out).cell 5; have m0 := (HG1.out.below HT.out).cell 0; have m1 := (HG1.out.below HT.out).cell 1; simp only [List.getElem?_toArray, List.getElem?_cons_succ, List.getElem?_cons_zero] at z0 z1 z2 z3 z4 z5 m0 m1))
  refine (next_any f a b c d xs _ p v w5 (HF.out.below HT.out) (HV.out.below HT.out) HLE.out (by omega) (by omega)).mono ?_
  rintro _ w6 ⟨zs, r, bb, hvs, hnx, rfl, hb6⟩
  replace HT := Lib.hid (HT.out.trans (hb6.mono HT.out.size))
  clear hb6 z0 z1 z2 z3 z4 z5 m0 m1
  have h50 := HLE.out.1
  rcases next_facts hvs hnx with ⟨rfl, nv, rfl, hN⟩ | ⟨rfl, rfl, hN⟩
  · have hb7 := (Below.refl w6.heap.size w6).alloc (Nat.le_refl _) (.cells #[.string p, .string nv] 24)
    have kn := GBlk.new w6 24 #[.string p, .string nv]
    have hT7 := HT.out.trans (hb7.mono HT.out.size)
    have m0 := (HG1.out.below hT7).cell 0
    have m1 := (HG1.out.below hT7).cell 1
    simp only [List.getElem?_toArray, List.getElem?_cons_succ, List.getElem?_cons_zero] at m0 m1
    have n0 := kn.cell 0
    have n1 := kn.cell 1
    simp only [List.getElem?_toArray, List.getElem?_cons_succ, List.getElem?_cons_zero] at n0 n1
    have HNI := Lib.hid hN
    clear hN hnx hvs
    have hnsz0 := HNI.out.small HLE.out (by omega)
    dsimp only at hnsz0
    go_wp2
    generalize w6.alloc (.cells #[.string p, .string nv] 24) = w7 at *
    have HT7 := Lib.hid hT7
    have HKN := Lib.hid kn
    clear hT7 kn m0 m1 n0 n1 hb7
    go_loopw [9] (fun i wr => ∃ k : Nat, k ≤ xs.length ∧ i = .int .i64 k ∧ Below w7.heap.size w7 wr) (fun i _ => xs.length - (intOf i).toNat)
    case atStart => exact ⟨0, Nat.zero_le _, rfl, Below.refl _ _⟩
    case round =>
      obtain ⟨k, hk, rfl, hbr⟩ := hrel
      have HBR := Lib.hid hbr
      by_cases hlt : k < xs.length
      · obtain ⟨a', c', e, -, hsp⟩ := (HV.out.below HT7.out).below hbr
        simp only [Value.slice.injEq] at e
        obtain ⟨rfl, -, rfl⟩ := e
        obtain ⟨g, o, rfl, hg, hat⟩ := hsp (ne_of_lt hlt)
        obtain ⟨q1, q2, q3, q4⟩ := ent_at hat k hlt
        obtain ⟨s1, s2, -, -⟩ := HLE.out.2 _ (List.getElem_mem hlt)
        have HLeast := Lib.hid (HNI.out.least xs[k] (List.getElem_mem hlt))
        clear hat hsp
        generalize xs[k] = x at *
        obtain ⟨xp, xv, xg, xa, xn, xc⟩ := x
        dsimp only at q1 q2 q3 q4 s1 s2 HLeast
        have hbx := (Below.refl wr.heap.size wr).alloc (Nat.le_refl _) (.cells #[.string xp, .string xv] 24)
        have hbrx := HT7.out.trans ((hbr.trans (hbx.mono hbr.size)).mono HT7.out.size)
        have KF := Lib.hid (HG0.out.below hbrx)
        have KM := Lib.hid (HG1.out.below hbrx)
        have KN := Lib.hid (HKN.out.below (hbr.trans (hbx.mono hbr.size)))
        have KX := Lib.hid (GBlk.new wr 24 #[.string xp, .string xv])
        replace HBR := Lib.hid (hbr.trans (hbx.mono hbr.size))
        have HU := Lib.hid (Below.refl (wr.alloc (.cells #[.string xp, .string xv] 24)).heap.size (wr.alloc (.cells #[.string xp, .string xv] 24)))
        clear hbr hbx hbrx
        have z0 := (KF.out.below HU.out).cell 0
        have z1 := (KF.out.below HU.out).cell 1
        have z2 := (KF.out.below HU.out).cell 2
        have z3 := (KF.out.below HU.out).cell 3
        have z4 := (KF.out.below HU.out).cell 4
        have z5 := (KF.out.below HU.out).cell 5
        have m0 := (KM.out.below HU.out).cell 0
        have m1 := (KM.out.below HU.out).cell 1
        have n0 := (KN.out.below HU.out).cell 0
        have n1 := (KN.out.below HU.out).cell 1
        have x0 := (KX.out.below HU.out).cell 0
        have x1 := (KX.out.below HU.out).cell 1
        simp only [List.getElem?_toArray, List.getElem?_cons_succ, List.getElem?_cons_zero] at z0 z1 z2 z3 z4 z5 m0 m1 n0 n1 x0 x1
        cases e1 : (xp.toList == p.toList)
        · go_wp2_with (first | (go_at_call 22; with_reducible refine (R1 _).mono ?_; rintro _ w9 ⟨rfl, hb9⟩; replace HU := Lib.hid (HU.out.trans (hb9.mono HU.out.size)); clear hb9; have z0 := (KF.out.below HU.out).cell 0; have z1 := (KF.out.below HU.out).cell 1; have z2 := (KF.out.below HU.out).cell 2; have z3 := (KF.out.below HU.out).cell 3; have z4 := (KF.out.below HU.out).cell 4; have z5 := (KF.out.below HU.out).cell 5; have m0 := (KM.out.below HU.out).cell 0; have m1 := (KM.out.below HU.out).cell 1; have n0 := (KN.out.below HU.out).cell 0; have n1 := (KN.out.below HU.out).cell 1; have x0 := (KX.out.below HU.out).cell 0; have x1 := (KX.out.below HU.out).cell 1; simp only [List.getElem?_toArray, List.getElem?_cons_succ, List.getElem?_cons_zero] at z0 z1 z2 z3 z4 z5 m0 m1 n0 n1 x0 x1) | (go_at_call 23; with_reducible refine (R3 _ (HF.out.below (HT7.out.trans ((HBR.out.trans (HU.out.mono HBR.out.size)).mono HT7.out.size)))).mono ?_; rintro _ w9 ⟨rfl, hb9⟩; replace HU := Lib.hid (HU.out.trans (hb9.mono HU.out.size)); clear hb9; have z0 := (KF.out.below HU.out).cell 0; have z1 := (KF.out.below HU.out).cell 1; have z2 := (KF.out.below HU.out).cell 2; have z3 := (KF.out.below HU.out).cell 3; have z4 := (KF.out.below HU.out).cell 4; have z5 := (KF.out.below HU.out).cell 5; have m0 := (KM.out.below HU.out).cell 0; have m1 := (KM.out.below HU.out).cell 1; have n0 := (KN.out.below HU.out).cell 0; have n1 := (KN.out.below HU.out).cell 1; have x0 := (KX.out.below HU.out).cell 0; have x1 := (KX.out.below HU.out).cell 1; simp only [List.getElem?_toArray, List.getElem?_cons_succ, List.getElem?_cons_zero] at z0 z1 z2 z3 z4 z5 m0 m1 n0 n1 x0 x1) | (go_at_call 23; with_reducible refine (R4 _ (HF.out.below (HT7.out.trans ((HBR.out.trans (HU.out.mono HBR.out.size)).mono HT7.out.size)))).mono ?_; rintro _ w9 ⟨rfl, hb9⟩; replace HU := Lib.hid (HU.out.trans (hb9.mono HU.out.size)); clear hb9; have z0 := (KF.out.below HU.out).cell 0; have z1 := (KF.out.below HU.out).cell 1; have z2 := (KF.out.below HU.out).cell 2; have z3 := (KF.out.below HU.out).cell 3; have z4 := (KF.out.below HU.out).cell 4; have z5 := (KF.out.below HU.out).cell 5; have m0 := (KM.out.below HU.out).cell 0; have m1 := (KM.out.below HU.out).cell 1; have n0 := (KN.out.below HU.out).cell 0; have n1 := (KN.out.below HU.out).cell 1; have x0 := (KX.out.below HU.out).cell 0; have x1 := (KX.out.below HU.out).cell 1; simp only [List.getElem?_toArray, List.getElem?_cons_succ, List.getElem?_cons_zero] at z0 z1 z2 z3 z4 z5 m0 m1 n0 n1 x0 x1) | (go_at_call 22; with_reducible refine (R2 _).mono ?_; rintro _ w9 ⟨rfl, hb9⟩; replace HU := Lib.hid (HU.out.trans (hb9.mono HU.out.size)); clear hb9; have z0 := (KF.out.below HU.out).cell 0; have z1 := (KF.out.below HU.out).cell 1; have z2 := (KF.out.below HU.out).cell 2; have z3 := (KF.out.below HU.out).cell 3; have z4 := (KF.out.below HU.out).cell 4; have z5 := (KF.out.below HU.out).cell 5; have m0 := (KM.out.below HU.out).cell 0; have m1 := (KM.out.below HU.out).cell 1; have n0 := (KN.out.below HU.out).cell 0; have n1 := (KN.out.below HU.out).cell 1; have x0 := (KX.out.below HU.out).cell 0; have x1 := (KX.out.below HU.out).cell 1; simp only [List.getElem?_toArray, List.getElem?_cons_succ, List.getElem?_cons_zero] at z0 z1 z2 z3 z4 z5 m0 m1 n0 n1 x0 x1))
          go_roundw
          case rel => exact ⟨k + 1, by omega, by go_num, HBR.out.trans (HU.out.mono HBR.out.size)⟩
          case measure => simp [intOf]; omega
        · have hxp : p = xp := (eq_size (eq_of_beq e1)).symm
          subst hxp
          have R1 := fun w => rcompare_any xv v (by omega) (by omega) w
          have R2 := fun w => rcompare_any xv nv (by omega) (by omega) w
          have R3 := fun w h => excluded_any f a b c d p xv w h (by omega)
          have R4 := fun w h => excluded_any f a b c d p v w h (by omega)
          cases e2 : (xv.toList == [])
          rotate_left 1
          · go_wp2_with (first | (go_at_call 22; with_reducible refine (R1 _).mono ?_; rintro _ w9 ⟨rfl, hb9⟩; replace HU := Lib.hid (HU.out.trans (hb9.mono HU.out.size)); clear hb9; have z0 := (KF.out.below HU.out).cell 0; have z1 := (KF.out.below HU.out).cell 1; have z2 := (KF.out.below HU.out).cell 2; have z3 := (KF.out.below HU.out).cell 3; have z4 := (KF.out.below HU.out).cell 4; have z5 := (KF.out.below HU.out).cell 5; have m0 := (KM.out.below HU.out).cell 0; have m1 := (KM.out.below HU.out).cell 1; have n0 := (KN.out.below HU.out).cell 0; have n1 := (KN.out.below HU.out).cell 1; have x0 := (KX.out.below HU.out).cell 0; have x1 := (KX.out.below HU.out).cell 1; simp only [List.getElem?_toArray, List.getElem?_cons_succ, List.getElem?_cons_zero] at z0 z1 z2 z3 z4 z5 m0 m1 n0 n1 x0 x1) | (go_at_call 23; with_reducible refine (R3 _ (HF.out.below (HT7.out.trans ((HBR.out.trans (HU.out.mono HBR.out.size)).mono HT7.out.size)))).mono ?_; rintro _ w9 ⟨rfl, hb9⟩; replace HU := Lib.hid (HU.out.trans (hb9.mono HU.out.size)); clear hb9; have z0 := (KF.out.below HU.out).cell 0; have z1 := (KF.out.below HU.out).cell 1; have z2 := (KF.out.below HU.out).cell 2; have z3 := (KF.out.below HU.out).cell 3; have z4 := (KF.out.below HU.out).cell 4; have z5 := (KF.out.below HU.out).cell 5; have m0 := (KM.out.below HU.out).cell 0; have m1 := (KM.out.below HU.out).cell 1; have n0 := (KN.out.below HU.out).cell 0; have n1 := (KN.out.below HU.out).cell 1; have x0 := (KX.out.below HU.out).cell 0; have x1 := (KX.out.below HU.out).cell 1; simp only [List.getElem?_toArray, List.getElem?_cons_succ, List.getElem?_cons_zero] at z0 z1 z2 z3 z4 z5 m0 m1 n0 n1 x0 x1) | (go_at_call 23; with_reducible refine (R4 _ (HF.out.below (HT7.out.trans ((HBR.out.trans (HU.out.mono HBR.out.size)).mono HT7.out.size)))).mono ?_; rintro _ w9 ⟨rfl, hb9⟩; replace HU := Lib.hid (HU.out.trans (hb9.mono HU.out.size)); clear hb9; have z0 := (KF.out.below HU.out).cell 0; have z1 := (KF.out.below HU.out).cell 1; have z2 := (KF.out.below HU.out).cell 2; have z3 := (KF.out.below HU.out).cell 3; have z4 := (KF.out.below HU.out).cell 4; have z5 := (KF.out.below HU.out).cell 5; have m0 := (KM.out.below HU.out).cell 0; have m1 := (KM.out.below HU.out).cell 1; have n0 := (KN.out.below HU.out).cell 0; have n1 := (KN.out.below HU.out).cell 1; have x0 := (KX.out.below HU.out).cell 0; have x1 := (KX.out.below HU.out).cell 1; simp only [List.getElem?_toArray, List.getElem?_cons_succ, List.getElem?_cons_zero] at z0 z1 z2 z3 z4 z5 m0 m1 n0 n1 x0 x1) | (go_at_call 22; with_reducible refine (R2 _).mono ?_; rintro _ w9 ⟨rfl, hb9⟩; replace HU := Lib.hid (HU.out.trans (hb9.mono HU.out.size)); clear hb9; have z0 := (KF.out.below HU.out).cell 0; have z1 := (KF.out.below HU.out).cell 1; have z2 := (KF.out.below HU.out).cell 2; have z3 := (KF.out.below HU.out).cell 3; have z4 := (KF.out.below HU.out).cell 4; have z5 := (KF.out.below HU.out).cell 5; have m0 := (KM.out.below HU.out).cell 0; have m1 := (KM.out.below HU.out).cell 1; have n0 := (KN.out.below HU.out).cell 0; have n1 := (KN.out.below HU.out).cell 1; have x0 := (KX.out.below HU.out).cell 0; have x1 := (KX.out.below HU.out).cell 1; simp only [List.getElem?_toArray, List.getElem?_cons_succ, List.getElem?_cons_zero] at z0 z1 z2 z3 z4 z5 m0 m1 n0 n1 x0 x1))
            go_roundw
            case rel => exact ⟨k + 1, by omega, by go_num, HBR.out.trans (HU.out.mono HBR.out.size)⟩
            case measure => simp [intOf]; omega
          · by_cases h3 : 0 < scmp xv.data.toList v.data.toList
            rotate_left 1
            · go_wp2_with (first | (go_at_call 22; with_reducible refine (R1 _).mono ?_; rintro _ w9 ⟨rfl, hb9⟩; replace HU := Lib.hid (HU.out.trans (hb9.mono HU.out.size)); clear hb9; have z0 := (KF.out.below HU.out).cell 0; have z1 := (KF.out.below HU.out).cell 1; have z2 := (KF.out.below HU.out).cell 2; have z3 := (KF.out.below HU.out).cell 3; have z4 := (KF.out.below HU.out).cell 4; have z5 := (KF.out.below HU.out).cell 5; have m0 := (KM.out.below HU.out).cell 0; have m1 := (KM.out.below HU.out).cell 1; have n0 := (KN.out.below HU.out).cell 0; have n1 := (KN.out.below HU.out).cell 1; have x0 := (KX.out.below HU.out).cell 0; have x1 := (KX.out.below HU.out).cell 1; simp only [List.getElem?_toArray, List.getElem?_cons_succ, List.getElem?_cons_zero] at z0 z1 z2 z3 z4 z5 m0 m1 n0 n1 x0 x1) | (go_at_call 23; with_reducible refine (R3 _ (HF.out.below (HT7.out.trans ((HBR.out.trans (HU.out.mono HBR.out.size)).mono HT7.out.size)))).mono ?_; rintro _ w9 ⟨rfl, hb9⟩; replace HU := Lib.hid (HU.out.trans (hb9.mono HU.out.size)); clear hb9; have z0 := (KF.out.below HU.out).cell 0; have z1 := (KF.out.below HU.out).cell 1; have z2 := (KF.out.below HU.out).cell 2; have z3 := (KF.out.below HU.out).cell 3; have z4 := (KF.out.below HU.out).cell 4; have z5 := (KF.out.below HU.out).cell 5; have m0 := (KM.out.below HU.out).cell 0; have m1 := (KM.out.below HU.out).cell 1; have n0 := (KN.out.below HU.out).cell 0; have n1 := (KN.out.below HU.out).cell 1; have x0 := (KX.out.below HU.out).cell 0; have x1 := (KX.out.below HU.out).cell 1; simp only [List.getElem?_toArray, List.getElem?_cons_succ, List.getElem?_cons_zero] at z0 z1 z2 z3 z4 z5 m0 m1 n0 n1 x0 x1) | (go_at_call 23; with_reducible refine (R4 _ (HF.out.below (HT7.out.trans ((HBR.out.trans (HU.out.mono HBR.out.size)).mono HT7.out.size)))).mono ?_; rintro _ w9 ⟨rfl, hb9⟩; replace HU := Lib.hid (HU.out.trans (hb9.mono HU.out.size)); clear hb9; have z0 := (KF.out.below HU.out).cell 0; have z1 := (KF.out.below HU.out).cell 1; have z2 := (KF.out.below HU.out).cell 2; have z3 := (KF.out.below HU.out).cell 3; have z4 := (KF.out.below HU.out).cell 4; have z5 := (KF.out.below HU.out).cell 5; have m0 := (KM.out.below HU.out).cell 0; have m1 := (KM.out.below HU.out).cell 1; have n0 := (KN.out.below HU.out).cell 0; have n1 := (KN.out.below HU.out).cell 1; have x0 := (KX.out.below HU.out).cell 0; have x1 := (KX.out.below HU.out).cell 1; simp only [List.getElem?_toArray, List.getElem?_cons_succ, List.getElem?_cons_zero] at z0 z1 z2 z3 z4 z5 m0 m1 n0 n1 x0 x1) | (go_at_call 22; with_reducible refine (R2 _).mono ?_; rintro _ w9 ⟨rfl, hb9⟩; replace HU := Lib.hid (HU.out.trans (hb9.mono HU.out.size)); clear hb9; have z0 := (KF.out.below HU.out).cell 0; have z1 := (KF.out.below HU.out).cell 1; have z2 := (KF.out.below HU.out).cell 2; have z3 := (KF.out.below HU.out).cell 3; have z4 := (KF.out.below HU.out).cell 4; have z5 := (KF.out.below HU.out).cell 5; have m0 := (KM.out.below HU.out).cell 0; have m1 := (KM.out.below HU.out).cell 1; have n0 := (KN.out.below HU.out).cell 0; have n1 := (KN.out.below HU.out).cell 1; have x0 := (KX.out.below HU.out).cell 0; have x1 := (KX.out.below HU.out).cell 1; simp only [List.getElem?_toArray, List.getElem?_cons_succ, List.getElem?_cons_zero] at z0 z1 z2 z3 z4 z5 m0 m1 n0 n1 x0 x1))
              go_roundw
              case rel => exact ⟨k + 1, by omega, by go_num, HBR.out.trans (HU.out.mono HBR.out.size)⟩
              case measure => simp [intOf]; omega
            · cases h4 : exB f.excs (p, xv)
              rotate_left 1
              · have h4' : (f.excs.any fun x => sameM x (p, xv)) = true := h4
                go_wp2_with (first | (go_at_call 22; with_reducible refine (R1 _).mono ?_; rintro _ w9 ⟨rfl, hb9⟩; replace HU := Lib.hid (HU.out.trans (hb9.mono HU.out.size)); clear hb9; have z0 := (KF.out.below HU.out).cell 0; have z1 := (KF.out.below HU.out).cell 1; have z2 := (KF.out.below HU.out).cell 2; have z3 := (KF.out.below HU.out).cell 3; have z4 := (KF.out.below HU.out).cell 4; have z5 := (KF.out.below HU.out).cell 5; have m0 := (KM.out.below HU.out).cell 0; have m1 := (KM.out.below HU.out).cell 1; have n0 := (KN.out.below HU.out).cell 0; have n1 := (KN.out.below HU.out).cell 1; have x0 := (KX.out.below HU.out).cell 0; have x1 := (KX.out.below HU.out).cell 1; simp only [List.getElem?_toArray, List.getElem?_cons_succ, List.getElem?_cons_zero] at z0 z1 z2 z3 z4 z5 m0 m1 n0 n1 x0 x1) | (go_at_call 23; with_reducible refine (R3 _ (HF.out.below (HT7.out.trans ((HBR.out.trans (HU.out.mono HBR.out.size)).mono HT7.out.size)))).mono ?_; rintro _ w9 ⟨rfl, hb9⟩; replace HU := Lib.hid (HU.out.trans (hb9.mono HU.out.size)); clear hb9; have z0 := (KF.out.below HU.out).cell 0; have z1 := (KF.out.below HU.out).cell 1; have z2 := (KF.out.below HU.out).cell 2; have z3 := (KF.out.below HU.out).cell 3; have z4 := (KF.out.below HU.out).cell 4; have z5 := (KF.out.below HU.out).cell 5; have m0 := (KM.out.below HU.out).cell 0; have m1 := (KM.out.below HU.out).cell 1; have n0 := (KN.out.below HU.out).cell 0; have n1 := (KN.out.below HU.out).cell 1; have x0 := (KX.out.below HU.out).cell 0; have x1 := (KX.out.below HU.out).cell 1; simp only [List.getElem?_toArray, List.getElem?_cons_succ, List.getElem?_cons_zero] at z0 z1 z2 z3 z4 z5 m0 m1 n0 n1 x0 x1) | (go_at_call 23; with_reducible refine (R4 _ (HF.out.below (HT7.out.trans ((HBR.out.trans (HU.out.mono HBR.out.size)).mono HT7.out.size)))).mono ?_; rintro _ w9 ⟨rfl, hb9⟩; replace HU := Lib.hid (HU.out.trans (hb9.mono HU.out.size)); clear hb9; have z0 := (KF.out.below HU.out).cell 0; have z1 := (KF.out.below HU.out).cell 1; have z2 := (KF.out.below HU.out).cell 2; have z3 := (KF.out.below HU.out).cell 3; have z4 := (KF.out.below HU.out).cell 4; have z5 := (KF.out.below HU.out).cell 5; have m0 := (KM.out.below HU.out).cell 0; have m1 := (KM.out.below HU.out).cell 1; have n0 := (KN.out.below HU.out).cell 0; have n1 := (KN.out.below HU.out).cell 1; have x0 := (KX.out.below HU.out).cell 0; have x1 := (KX.out.below HU.out).cell 1; simp only [List.getElem?_toArray, List.getElem?_cons_succ, List.getElem?_cons_zero] at z0 z1 z2 z3 z4 z5 m0 m1 n0 n1 x0 x1) | (go_at_call 22; with_reducible refine (R2 _).mono ?_; rintro _ w9 ⟨rfl, hb9⟩; replace HU := Lib.hid (HU.out.trans (hb9.mono HU.out.size)); clear hb9; have z0 := (KF.out.below HU.out).cell 0; have z1 := (KF.out.below HU.out).cell 1; have z2 := (KF.out.below HU.out).cell 2; have z3 := (KF.out.below HU.out).cell 3; have z4 := (KF.out.below HU.out).cell 4; have z5 := (KF.out.below HU.out).cell 5; have m0 := (KM.out.below HU.out).cell 0; have m1 := (KM.out.below HU.out).cell 1; have n0 := (KN.out.below HU.out).cell 0; have n1 := (KN.out.below HU.out).cell 1; have x0 := (KX.out.below HU.out).cell 0; have x1 := (KX.out.below HU.out).cell 1; simp only [List.getElem?_toArray, List.getElem?_cons_succ, List.getElem?_cons_zero] at z0 z1 z2 z3 z4 z5 m0 m1 n0 n1 x0 x1))
                go_roundw
                case rel => exact ⟨k + 1, by omega, by go_num, HBR.out.trans (HU.out.mono HBR.out.size)⟩
                case measure => simp [intOf]; omega
              · have h4' : (f.excs.any fun x => sameM x (p, xv)) = false := h4
        
                cases h5 : exB f.excs (p, v)
                · have h5' : (f.excs.any fun x => sameM x (p, v)) = false := h5
                  go_wp2_with (first | (go_at_call 22; with_reducible refine (R1 _).mono ?_; rintro _ w9 ⟨rfl, hb9⟩; replace HU := Lib.hid (HU.out.trans (hb9.mono HU.out.size)); clear hb9; have z0 := (KF.out.below HU.out).cell 0; have z1 := (KF.out.below HU.out).cell 1; have z2 := (KF.out.below HU.out).cell 2; have z3 := (KF.out.below HU.out).cell 3; have z4 := (KF.out.below HU.out).cell 4; have z5 := (KF.out.below HU.out).cell 5; have m0 := (KM.out.below HU.out).cell 0; have m1 := (KM.out.below HU.out).cell 1; have n0 := (KN.out.below HU.out).cell 0; have n1 := (KN.out.below HU.out).cell 1; have x0 := (KX.out.below HU.out).cell 0; have x1 := (KX.out.below HU.out).cell 1; simp only [List.getElem?_toArray, List.getElem?_cons_succ, List.getElem?_cons_zero] at z0 z1 z2 z3 z4 z5 m0 m1 n0 n1 x0 x1) | (go_at_call 23; with_reducible refine (R3 _ (HF.out.below (HT7.out.trans ((HBR.out.trans (HU.out.mono HBR.out.size)).mono HT7.out.size)))).mono ?_; rintro _ w9 ⟨rfl, hb9⟩; replace HU := Lib.hid (HU.out.trans (hb9.mono HU.out.size)); clear hb9; have z0 := (KF.out.below HU.out).cell 0; have z1 := (KF.out.below HU.out).cell 1; have z2 := (KF.out.below HU.out).cell 2; have z3 := (KF.out.below HU.out).cell 3; have z4 := (KF.out.below HU.out).cell 4; have z5 := (KF.out.below HU.out).cell 5; have m0 := (KM.out.below HU.out).cell 0; have m1 := (KM.out.below HU.out).cell 1; have n0 := (KN.out.below HU.out).cell 0; have n1 := (KN.out.below HU.out).cell 1; have x0 := (KX.out.below HU.out).cell 0; have x1 := (KX.out.below HU.out).cell 1; simp only [List.getElem?_toArray, List.getElem?_cons_succ, List.getElem?_cons_zero] at z0 z1 z2 z3 z4 z5 m0 m1 n0 n1 x0 x1) | (go_at_call 23; with_reducible refine (R4 _ (HF.out.below (HT7.out.trans ((HBR.out.trans (HU.out.mono HBR.out.size)).mono HT7.out.size)))).mono ?_; rintro _ w9 ⟨rfl, hb9⟩; replace HU := Lib.hid (HU.out.trans (hb9.mono HU.out.size)); clear hb9; have z0 := (KF.out.below HU.out).cell 0; have z1 := (KF.out.below HU.out).cell 1; have z2 := (KF.out.below HU.out).cell 2; have z3 := (KF.out.below HU.out).cell 3; have z4 := (KF.out.below HU.out).cell 4; have z5 := (KF.out.below HU.out).cell 5; have m0 := (KM.out.below HU.out).cell 0; have m1 := (KM.out.below HU.out).cell 1; have n0 := (KN.out.below HU.out).cell 0; have n1 := (KN.out.below HU.out).cell 1; have x0 := (KX.out.below HU.out).cell 0; have x1 := (KX.out.below HU.out).cell 1; simp only [List.getElem?_toArray, List.getElem?_cons_succ, List.getElem?_cons_zero] at z0 z1 z2 z3 z4 z5 m0 m1 n0 n1 x0 x1) | (go_at_call 22; with_reducible refine (R2 _).mono ?_; rintro _ w9 ⟨rfl, hb9⟩; replace HU := Lib.hid (HU.out.trans (hb9.mono HU.out.size)); clear hb9; have z0 := (KF.out.below HU.out).cell 0; have z1 := (KF.out.below HU.out).cell 1; have z2 := (KF.out.below HU.out).cell 2; have z3 := (KF.out.below HU.out).cell 3; have z4 := (KF.out.below HU.out).cell 4; have z5 := (KF.out.below HU.out).cell 5; have m0 := (KM.out.below HU.out).cell 0; have m1 := (KM.out.below HU.out).cell 1; have n0 := (KN.out.below HU.out).cell 0; have n1 := (KN.out.below HU.out).cell 1; have x0 := (KX.out.below HU.out).cell 0; have x1 := (KX.out.below HU.out).cell 1; simp only [List.getElem?_toArray, List.getElem?_cons_succ, List.getElem?_cons_zero] at z0 z1 z2 z3 z4 z5 m0 m1 n0 n1 x0 x1))
                  go_roundw
                  case rel => exact ⟨k + 1, by omega, by go_num, HBR.out.trans (HU.out.mono HBR.out.size)⟩
                  case measure => simp [intOf]; omega
                · have h5' : (f.excs.any fun x => sameM x (p, v)) = true := h5
                  have h6 := HLeast.out rfl h3 h4 h5
                  go_wp2_with (first | (go_at_call 22; with_reducible refine (R1 _).mono ?_; rintro _ w9 ⟨rfl, hb9⟩; replace HU := Lib.hid (HU.out.trans (hb9.mono HU.out.size)); clear hb9; have z0 := (KF.out.below HU.out).cell 0; have z1 := (KF.out.below HU.out).cell 1; have z2 := (KF.out.below HU.out).cell 2; have z3 := (KF.out.below HU.out).cell 3; have z4 := (KF.out.below HU.out).cell 4; have z5 := (KF.out.below HU.out).cell 5; have m0 := (KM.out.below HU.out).cell 0; have m1 := (KM.out.below HU.out).cell 1; have n0 := (KN.out.below HU.out).cell 0; have n1 := (KN.out.below HU.out).cell 1; have x0 := (KX.out.below HU.out).cell 0; have x1 := (KX.out.below HU.out).cell 1; simp only [List.getElem?_toArray, List.getElem?_cons_succ, List.getElem?_cons_zero] at z0 z1 z2 z3 z4 z5 m0 m1 n0 n1 x0 x1) | (go_at_call 23; with_reducible refine (R3 _ (HF.out.below (HT7.out.trans ((HBR.out.trans (HU.out.mono HBR.out.size)).mono HT7.out.size)))).mono ?_; rintro _ w9 ⟨rfl, hb9⟩; replace HU := Lib.hid (HU.out.trans (hb9.mono HU.out.size)); clear hb9; have z0 := (KF.out.below HU.out).cell 0; have z1 := (KF.out.below HU.out).cell 1; have z2 := (KF.out.below HU.out).cell 2; have z3 := (KF.out.below HU.out).cell 3; have z4 := (KF.out.below HU.out).cell 4; have z5 := (KF.out.below HU.out).cell 5; have m0 := (KM.out.below HU.out).cell 0; have m1 := (KM.out.below HU.out).cell 1; have n0 := (KN.out.below HU.out).cell 0; have n1 := (KN.out.below HU.out).cell 1; have x0 := (KX.out.below HU.out).cell 0; have x1 := (KX.out.below HU.out).cell 1; simp only [List.getElem?_toArray, List.getElem?_cons_succ, List.getElem?_cons_zero] at z0 z1 z2 z3 z4 z5 m0 m1 n0 n1 x0 x1) | (go_at_call 23; with_reducible refine (R4 _ (HF.out.below (HT7.out.trans ((HBR.out.trans (HU.out.mono HBR.out.size)).mono HT7.out.size)))).mono ?_; rintro _ w9 ⟨rfl, hb9⟩; replace HU := Lib.hid (HU.out.trans (hb9.mono HU.out.size)); clear hb9; have z0 := (KF.out.below HU.out).cell 0; have z1 := (KF.out.below HU.out).cell 1; have z2 := (KF.out.below HU.out).cell 2; have z3 := (KF.out.below HU.out).cell 3; have z4 := (KF.out.below HU.out).cell 4; have z5 := (KF.out.below HU.out).cell 5; have m0 := (KM.out.below HU.out).cell 0; have m1 := (KM.out.below HU.out).cell 1; have n0 := (KN.out.below HU.out).cell 0; have n1 := (KN.out.below HU.out).cell 1; have x0 := (KX.out.below HU.out).cell 0; have x1 := (KX.out.below HU.out).cell 1; simp only [List.getElem?_toArray, List.getElem?_cons_succ, List.getElem?_cons_zero] at z0 z1 z2 z3 z4 z5 m0 m1 n0 n1 x0 x1) | (go_at_call 22; with_reducible refine (R2 _).mono ?_; rintro _ w9 ⟨rfl, hb9⟩; replace HU := Lib.hid (HU.out.trans (hb9.mono HU.out.size)); clear hb9; have z0 := (KF.out.below HU.out).cell 0; have z1 := (KF.out.below HU.out).cell 1; have z2 := (KF.out.below HU.out).cell 2; have z3 := (KF.out.below HU.out).cell 3; have z4 := (KF.out.below HU.out).cell 4; have z5 := (KF.out.below HU.out).cell 5; have m0 := (KM.out.below HU.out).cell 0; have m1 := (KM.out.below HU.out).cell 1; have n0 := (KN.out.below HU.out).cell 0; have n1 := (KN.out.below HU.out).cell 1; have x0 := (KX.out.below HU.out).cell 0; have x1 := (KX.out.below HU.out).cell 1; simp only [List.getElem?_toArray, List.getElem?_cons_succ, List.getElem?_cons_zero] at z0 z1 z2 z3 z4 z5 m0 m1 n0 n1 x0 x1))
                  go_roundw
                  case rel => exact ⟨k + 1, by omega, by go_num, HBR.out.trans (HU.out.mono HBR.out.size)⟩
                  case measure => simp [intOf]; omega
      · have hkl : k = xs.length := by omega
        have hBR := HT7.out.trans (hbr.mono HT7.out.size)
        have z0 := (HG0.out.below hBR).cell 0
        have z1 := (HG0.out.below hBR).cell 1
        have z2 := (HG0.out.below hBR).cell 2
        have z3 := (HG0.out.below hBR).cell 3
        have z4 := (HG0.out.below hBR).cell 4
        have z5 := (HG0.out.below hBR).cell 5
        have m0 := (HG1.out.below hBR).cell 0
        have m1 := (HG1.out.below hBR).cell 1
        simp only [List.getElem?_toArray, List.getElem?_cons_succ, List.getElem?_cons_zero] at z0 z1 z2 z3 z4 z5 m0 m1
        have n0 := (HKN.out.below hbr).cell 0
        have n1 := (HKN.out.below hbr).cell 1
        simp only [List.getElem?_toArray, List.getElem?_cons_succ, List.getElem?_cons_zero] at n0 n1
        have hnsz := HNI.out.small HLE.out (by omega)
        dsimp only at hnsz
        have HBR' := Lib.hid hBR
        clear hBR hbr
        go_wp2_with fail
        refine (next_any f a b c d xs _ p nv wr (HF.out.below HBR'.out) (HV.out.below HBR'.out) HLE.out (by omega) (by omega)).mono ?_
        rintro _ w8 ⟨zs8, r8, b8, hvs8, hnx8, rfl, hb8⟩
        rw [nextL_stay HNI.out.out] at hnx8
        simp only [Prod.mk.injEq] at hnx8
        obtain ⟨rfl, rfl⟩ := hnx8
        clear z0 z1 z2 z3 z4 z5 m0 m1 n0 n1 hvs8
        have hb9 := hb8.alloc hb8.size (.cells #[.string p, .string nv] 24)
        have kk := GBlk.new w8 24 #[.string p, .string nv]
        have hb10 := HBR'.out.trans (hb9.mono HBR'.out.size)
        have kn := HKN.out.below (HBR.out.trans (hb9.mono HBR.out.size))
        have z0 := (HG0.out.below hb10).cell 0
        have z1 := (HG0.out.below hb10).cell 1
        have z2 := (HG0.out.below hb10).cell 2
        have z3 := (HG0.out.below hb10).cell 3
        have z4 := (HG0.out.below hb10).cell 4
        have z5 := (HG0.out.below hb10).cell 5
        have m0 := (HG1.out.below hb10).cell 0
        have m1 := (HG1.out.below hb10).cell 1
        simp only [List.getElem?_toArray, List.getElem?_cons_succ, List.getElem?_cons_zero] at z0 z1 z2 z3 z4 z5 m0 m1
        have n0 := kn.cell 0
        have n1 := kn.cell 1
        have x0 := kk.cell 0
        have x1 := kk.cell 1
        simp only [List.getElem?_toArray, List.getElem?_cons_succ, List.getElem?_cons_zero] at n0 n1 x0 x1
        have HKK := Lib.hid kk
        have HKn := Lib.hid kn
        have HB10 := Lib.hid hb10
        have HU := Lib.hid (Below.refl (w8.alloc (.cells #[.string p, .string nv] 24)).heap.size (w8.alloc (.cells #[.string p, .string nv] 24)))
        have hout : (f.excs.any fun x => sameM x (p, nv)) = false := HNI.out.out
        have hup := HNI.out.up
        dsimp only at hup
        clear hb8 hb9 hb10 kk kn
        go_wp2_with (first
          | (go_at_call 23; refine (excluded_any f a b c d p nv _ (HF.out.below HB10.out) (by omega)).mono ?_; rintro _ w9 ⟨rfl, hb9⟩; replace HU := Lib.hid (HU.out.trans (hb9.mono HU.out.size)); clear hb9; have m1 := (HG1.out.below (HB10.out.trans (HU.out.mono HB10.out.size))).cell 1; have n0 := (HKn.out.below HU.out).cell 0; have n1 := (HKn.out.below HU.out).cell 1; have x0 := (HKK.out.below HU.out).cell 0; have x1 := (HKK.out.below HU.out).cell 1; simp only [List.getElem?_toArray, List.getElem?_cons_succ, List.getElem?_cons_zero] at m1 n0 n1 x0 x1)
          | (go_at_call 22; refine (rcompare_any nv v (by omega) (by omega) _).mono ?_; rintro _ w9 ⟨rfl, hb9⟩; replace HU := Lib.hid (HU.out.trans (hb9.mono HU.out.size)); clear hb9; have n0 := (HKn.out.below HU.out).cell 0; have n1 := (HKn.out.below HU.out).cell 1; have x0 := (HKK.out.below HU.out).cell 0; have x1 := (HKK.out.below HU.out).cell 1; simp only [List.getElem?_toArray, List.getElem?_cons_succ, List.getElem?_cons_zero] at n0 n1 x0 x1))
        go_ret
        exact ⟨by simp, HB1.out.trans ((HB10.out.trans (HU.out.mono HB10.out.size)).mono HB1.out.size)⟩
  · have hb7 := (Below.refl w6.heap.size w6).alloc (Nat.le_refl _) (.cells #[.string p, .string v] 24)
    have kn := GBlk.new w6 24 #[.string p, .string v]
    have n0' := kn.cell 0
    have n1' := kn.cell 1
    have hT8' := HT.out.trans (hb7.mono HT.out.size)
    have m0' := (HG1.out.below hT8').cell 0
    have m1' := (HG1.out.below hT8').cell 1
    simp only [List.getElem?_toArray, List.getElem?_cons_succ, List.getElem?_cons_zero] at n0' n1' m0' m1'
    replace kn := GBlk.new w6 24 #[.string p, .string ⟨#[]⟩]
    replace hb7 := (Below.refl w6.heap.size w6).alloc (Nat.le_refl _) (.cells #[.string p, .string ⟨#[]⟩] 24)
    have hT7 := HT.out.trans (hb7.mono HT.out.size)
    have m0 := (HG1.out.below hT7).cell 0
    have m1 := (HG1.out.below hT7).cell 1
    simp only [List.getElem?_toArray, List.getElem?_cons_succ, List.getElem?_cons_zero] at m0 m1
    have n0 := kn.cell 0
    have n1 := kn.cell 1
    simp only [List.getElem?_toArray, List.getElem?_cons_succ, List.getElem?_cons_zero] at n0 n1
    have HNI := Lib.hid hN
    clear hN hnx hvs
    go_wp2
    generalize w6.alloc (.cells #[.string p, .string ⟨#[]⟩] 24) = w7 at *
    have HT7 := Lib.hid hT7
    have HKN := Lib.hid kn
    clear hT7 kn m0 m1 n0 n1 hb7 n0' n1' m0' m1' hT8'
    go_loopw [9] (fun i wr => ∃ k : Nat, k ≤ xs.length ∧ i = .int .i64 k ∧ Below w7.heap.size w7 wr) (fun i _ => xs.length - (intOf i).toNat)
    case atStart => exact ⟨0, Nat.zero_le _, rfl, Below.refl _ _⟩
    case round =>
      obtain ⟨k, hk, rfl, hbr⟩ := hrel
      have HBR := Lib.hid hbr
      by_cases hlt : k < xs.length
      · obtain ⟨a', c', e, -, hsp⟩ := (HV.out.below HT7.out).below hbr
        simp only [Value.slice.injEq] at e
        obtain ⟨rfl, -, rfl⟩ := e
        obtain ⟨g, o, rfl, hg, hat⟩ := hsp (ne_of_lt hlt)
        obtain ⟨q1, q2, q3, q4⟩ := ent_at hat k hlt
        obtain ⟨s1, s2, -, -⟩ := HLE.out.2 _ (List.getElem_mem hlt)
        have HNone := Lib.hid (HNI.out.none xs[k] (List.getElem_mem hlt))
        clear hat hsp
        generalize xs[k] = x at *
        obtain ⟨xp, xv, xg, xa, xn, xc⟩ := x
        dsimp only at q1 q2 q3 q4 s1 s2 HNone
        have hbx := (Below.refl wr.heap.size wr).alloc (Nat.le_refl _) (.cells #[.string xp, .string xv] 24)
        have hbrx := HT7.out.trans ((hbr.trans (hbx.mono hbr.size)).mono HT7.out.size)
        have KF := Lib.hid (HG0.out.below hbrx)
        have KM := Lib.hid (HG1.out.below hbrx)
        have KN := Lib.hid (HKN.out.below (hbr.trans (hbx.mono hbr.size)))
        have KX := Lib.hid (GBlk.new wr 24 #[.string xp, .string xv])
        replace HBR := Lib.hid (hbr.trans (hbx.mono hbr.size))
        have HU := Lib.hid (Below.refl (wr.alloc (.cells #[.string xp, .string xv] 24)).heap.size (wr.alloc (.cells #[.string xp, .string xv] 24)))
        clear hbr hbx hbrx
        have z0 := (KF.out.below HU.out).cell 0
        have z1 := (KF.out.below HU.out).cell 1
        have z2 := (KF.out.below HU.out).cell 2
        have z3 := (KF.out.below HU.out).cell 3
        have z4 := (KF.out.below HU.out).cell 4
        have z5 := (KF.out.below HU.out).cell 5
        have m0 := (KM.out.below HU.out).cell 0
        have m1 := (KM.out.below HU.out).cell 1
        have n0 := (KN.out.below HU.out).cell 0
        have n1 := (KN.out.below HU.out).cell 1
        have x0 := (KX.out.below HU.out).cell 0
        have x1 := (KX.out.below HU.out).cell 1
        simp only [List.getElem?_toArray, List.getElem?_cons_succ, List.getElem?_cons_zero] at z0 z1 z2 z3 z4 z5 m0 m1 n0 n1 x0 x1
        cases e1 : (xp.toList == p.toList)
        · go_wp2_with (first | (go_at_call 22; with_reducible refine (R1 _).mono ?_; rintro _ w9 ⟨rfl, hb9⟩; replace HU := Lib.hid (HU.out.trans (hb9.mono HU.out.size)); clear hb9; have z0 := (KF.out.below HU.out).cell 0; have z1 := (KF.out.below HU.out).cell 1; have z2 := (KF.out.below HU.out).cell 2; have z3 := (KF.out.below HU.out).cell 3; have z4 := (KF.out.below HU.out).cell 4; have z5 := (KF.out.below HU.out).cell 5; have m0 := (KM.out.below HU.out).cell 0; have m1 := (KM.out.below HU.out).cell 1; have n0 := (KN.out.below HU.out).cell 0; have n1 := (KN.out.below HU.out).cell 1; have x0 := (KX.out.below HU.out).cell 0; have x1 := (KX.out.below HU.out).cell 1; simp only [List.getElem?_toArray, List.getElem?_cons_succ, List.getElem?_cons_zero] at z0 z1 z2 z3 z4 z5 m0 m1 n0 n1 x0 x1) | (go_at_call 23; with_reducible refine (R3 _ (HF.out.below (HT7.out.trans ((HBR.out.trans (HU.out.mono HBR.out.size)).mono HT7.out.size)))).mono ?_; rintro _ w9 ⟨rfl, hb9⟩; replace HU := Lib.hid (HU.out.trans (hb9.mono HU.out.size)); clear hb9; have z0 := (KF.out.below HU.out).cell 0; have z1 := (KF.out.below HU.out).cell 1; have z2 := (KF.out.below HU.out).cell 2; have z3 := (KF.out.below HU.out).cell 3; have z4 := (KF.out.below HU.out).cell 4; have z5 := (KF.out.below HU.out).cell 5; have m0 := (KM.out.below HU.out).cell 0; have m1 := (KM.out.below HU.out).cell 1; have n0 := (KN.out.below HU.out).cell 0; have n1 := (KN.out.below HU.out).cell 1; have x0 := (KX.out.below HU.out).cell 0; have x1 := (KX.out.below HU.out).cell 1; simp only [List.getElem?_toArray, List.getElem?_cons_succ, List.getElem?_cons_zero] at z0 z1 z2 z3 z4 z5 m0 m1 n0 n1 x0 x1) | (go_at_call 23; with_reducible refine (R4 _ (HF.out.below (HT7.out.trans ((HBR.out.trans (HU.out.mono HBR.out.size)).mono HT7.out.size)))).mono ?_; rintro _ w9 ⟨rfl, hb9⟩; replace HU := Lib.hid (HU.out.trans (hb9.mono HU.out.size)); clear hb9; have z0 := (KF.out.below HU.out).cell 0; have z1 := (KF.out.below HU.out).cell 1; have z2 := (KF.out.below HU.out).cell 2; have z3 := (KF.out.below HU.out).cell 3; have z4 := (KF.out.below HU.out).cell 4; have z5 := (KF.out.below HU.out).cell 5; have m0 := (KM.out.below HU.out).cell 0; have m1 := (KM.out.below HU.out).cell 1; have n0 := (KN.out.below HU.out).cell 0; have n1 := (KN.out.below HU.out).cell 1; have x0 := (KX.out.below HU.out).cell 0; have x1 := (KX.out.below HU.out).cell 1; simp only [List.getElem?_toArray, List.getElem?_cons_succ, List.getElem?_cons_zero] at z0 z1 z2 z3 z4 z5 m0 m1 n0 n1 x0 x1))
          go_roundw
          case rel => exact ⟨k + 1, by omega, by go_num, HBR.out.trans (HU.out.mono HBR.out.size)⟩
          case measure => simp [intOf]; omega
        · have hxp : p = xp := (eq_size (eq_of_beq e1)).symm
          subst hxp
          have R1 := fun w => rcompare_any xv v (by omega) (by omega) w
          have R3 := fun w h => excluded_any f a b c d p xv w h (by omega)
          have R4 := fun w h => excluded_any f a b c d p v w h (by omega)
          cases e2 : (xv.toList == [])
          rotate_left 1
          · go_wp2_with (first | (go_at_call 22; with_reducible refine (R1 _).mono ?_; rintro _ w9 ⟨rfl, hb9⟩; replace HU := Lib.hid (HU.out.trans (hb9.mono HU.out.size)); clear hb9; have z0 := (KF.out.below HU.out).cell 0; have z1 := (KF.out.below HU.out).cell 1; have z2 := (KF.out.below HU.out).cell 2; have z3 := (KF.out.below HU.out).cell 3; have z4 := (KF.out.below HU.out).cell 4; have z5 := (KF.out.below HU.out).cell 5; have m0 := (KM.out.below HU.out).cell 0; have m1 := (KM.out.below HU.out).cell 1; have n0 := (KN.out.below HU.out).cell 0; have n1 := (KN.out.below HU.out).cell 1; have x0 := (KX.out.below HU.out).cell 0; have x1 := (KX.out.below HU.out).cell 1; simp only [List.getElem?_toArray, List.getElem?_cons_succ, List.getElem?_cons_zero] at z0 z1 z2 z3 z4 z5 m0 m1 n0 n1 x0 x1) | (go_at_call 23; with_reducible refine (R3 _ (HF.out.below (HT7.out.trans ((HBR.out.trans (HU.out.mono HBR.out.size)).mono HT7.out.size)))).mono ?_; rintro _ w9 ⟨rfl, hb9⟩; replace HU := Lib.hid (HU.out.trans (hb9.mono HU.out.size)); clear hb9; have z0 := (KF.out.below HU.out).cell 0; have z1 := (KF.out.below HU.out).cell 1; have z2 := (KF.out.below HU.out).cell 2; have z3 := (KF.out.below HU.out).cell 3; have z4 := (KF.out.below HU.out).cell 4; have z5 := (KF.out.below HU.out).cell 5; have m0 := (KM.out.below HU.out).cell 0; have m1 := (KM.out.below HU.out).cell 1; have n0 := (KN.out.below HU.out).cell 0; have n1 := (KN.out.below HU.out).cell 1; have x0 := (KX.out.below HU.out).cell 0; have x1 := (KX.out.below HU.out).cell 1; simp only [List.getElem?_toArray, List.getElem?_cons_succ, List.getElem?_cons_zero] at z0 z1 z2 z3 z4 z5 m0 m1 n0 n1 x0 x1) | (go_at_call 23; with_reducible refine (R4 _ (HF.out.below (HT7.out.trans ((HBR.out.trans (HU.out.mono HBR.out.size)).mono HT7.out.size)))).mono ?_; rintro _ w9 ⟨rfl, hb9⟩; replace HU := Lib.hid (HU.out.trans (hb9.mono HU.out.size)); clear hb9; have z0 := (KF.out.below HU.out).cell 0; have z1 := (KF.out.below HU.out).cell 1; have z2 := (KF.out.below HU.out).cell 2; have z3 := (KF.out.below HU.out).cell 3; have z4 := (KF.out.below HU.out).cell 4; have z5 := (KF.out.below HU.out).cell 5; have m0 := (KM.out.below HU.out).cell 0; have m1 := (KM.out.below HU.out).cell 1; have n0 := (KN.out.below HU.out).cell 0; have n1 := (KN.out.below HU.out).cell 1; have x0 := (KX.out.below HU.out).cell 0; have x1 := (KX.out.below HU.out).cell 1; simp only [List.getElem?_toArray, List.getElem?_cons_succ, List.getElem?_cons_zero] at z0 z1 z2 z3 z4 z5 m0 m1 n0 n1 x0 x1))
            go_roundw
            case rel => exact ⟨k + 1, by omega, by go_num, HBR.out.trans (HU.out.mono HBR.out.size)⟩
            case measure => simp [intOf]; omega
          · by_cases h3 : 0 < scmp xv.data.toList v.data.toList
            rotate_left 1
            · go_wp2_with (first | (go_at_call 22; with_reducible refine (R1 _).mono ?_; rintro _ w9 ⟨rfl, hb9⟩; replace HU := Lib.hid (HU.out.trans (hb9.mono HU.out.size)); clear hb9; have z0 := (KF.out.below HU.out).cell 0; have z1 := (KF.out.below HU.out).cell 1; have z2 := (KF.out.below HU.out).cell 2; have z3 := (KF.out.below HU.out).cell 3; have z4 := (KF.out.below HU.out).cell 4; have z5 := (KF.out.below HU.out).cell 5; have m0 := (KM.out.below HU.out).cell 0; have m1 := (KM.out.below HU.out).cell 1; have n0 := (KN.out.below HU.out).cell 0; have n1 := (KN.out.below HU.out).cell 1; have x0 := (KX.out.below HU.out).cell 0; have x1 := (KX.out.below HU.out).cell 1; simp only [List.getElem?_toArray, List.getElem?_cons_succ, List.getElem?_cons_zero] at z0 z1 z2 z3 z4 z5 m0 m1 n0 n1 x0 x1) | (go_at_call 23; with_reducible refine (R3 _ (HF.out.below (HT7.out.trans ((HBR.out.trans (HU.out.mono HBR.out.size)).mono HT7.out.size)))).mono ?_; rintro _ w9 ⟨rfl, hb9⟩; replace HU := Lib.hid (HU.out.trans (hb9.mono HU.out.size)); clear hb9; have z0 := (KF.out.below HU.out).cell 0; have z1 := (KF.out.below HU.out).cell 1; have z2 := (KF.out.below HU.out).cell 2; have z3 := (KF.out.below HU.out).cell 3; have z4 := (KF.out.below HU.out).cell 4; have z5 := (KF.out.below HU.out).cell 5; have m0 := (KM.out.below HU.out).cell 0; have m1 := (KM.out.below HU.out).cell 1; have n0 := (KN.out.below HU.out).cell 0; have n1 := (KN.out.below HU.out).cell 1; have x0 := (KX.out.below HU.out).cell 0; have x1 := (KX.out.below HU.out).cell 1; simp only [List.getElem?_toArray, List.getElem?_cons_succ, List.getElem?_cons_zero] at z0 z1 z2 z3 z4 z5 m0 m1 n0 n1 x0 x1) | (go_at_call 23; with_reducible refine (R4 _ (HF.out.below (HT7.out.trans ((HBR.out.trans (HU.out.mono HBR.out.size)).mono HT7.out.size)))).mono ?_; rintro _ w9 ⟨rfl, hb9⟩; replace HU := Lib.hid (HU.out.trans (hb9.mono HU.out.size)); clear hb9; have z0 := (KF.out.below HU.out).cell 0; have z1 := (KF.out.below HU.out).cell 1; have z2 := (KF.out.below HU.out).cell 2; have z3 := (KF.out.below HU.out).cell 3; have z4 := (KF.out.below HU.out).cell 4; have z5 := (KF.out.below HU.out).cell 5; have m0 := (KM.out.below HU.out).cell 0; have m1 := (KM.out.below HU.out).cell 1; have n0 := (KN.out.below HU.out).cell 0; have n1 := (KN.out.below HU.out).cell 1; have x0 := (KX.out.below HU.out).cell 0; have x1 := (KX.out.below HU.out).cell 1; simp only [List.getElem?_toArray, List.getElem?_cons_succ, List.getElem?_cons_zero] at z0 z1 z2 z3 z4 z5 m0 m1 n0 n1 x0 x1))
              go_roundw
              case rel => exact ⟨k + 1, by omega, by go_num, HBR.out.trans (HU.out.mono HBR.out.size)⟩
              case measure => simp [intOf]; omega
            · cases h4 : exB f.excs (p, xv)
              rotate_left 1
              · have h4' : (f.excs.any fun x => sameM x (p, xv)) = true := h4
                go_wp2_with (first | (go_at_call 22; with_reducible refine (R1 _).mono ?_; rintro _ w9 ⟨rfl, hb9⟩; replace HU := Lib.hid (HU.out.trans (hb9.mono HU.out.size)); clear hb9; have z0 := (KF.out.below HU.out).cell 0; have z1 := (KF.out.below HU.out).cell 1; have z2 := (KF.out.below HU.out).cell 2; have z3 := (KF.out.below HU.out).cell 3; have z4 := (KF.out.below HU.out).cell 4; have z5 := (KF.out.below HU.out).cell 5; have m0 := (KM.out.below HU.out).cell 0; have m1 := (KM.out.below HU.out).cell 1; have n0 := (KN.out.below HU.out).cell 0; have n1 := (KN.out.below HU.out).cell 1; have x0 := (KX.out.below HU.out).cell 0; have x1 := (KX.out.below HU.out).cell 1; simp only [List.getElem?_toArray, List.getElem?_cons_succ, List.getElem?_cons_zero] at z0 z1 z2 z3 z4 z5 m0 m1 n0 n1 x0 x1) | (go_at_call 23; with_reducible refine (R3 _ (HF.out.below (HT7.out.trans ((HBR.out.trans (HU.out.mono HBR.out.size)).mono HT7.out.size)))).mono ?_; rintro _ w9 ⟨rfl, hb9⟩; replace HU := Lib.hid (HU.out.trans (hb9.mono HU.out.size)); clear hb9; have z0 := (KF.out.below HU.out).cell 0; have z1 := (KF.out.below HU.out).cell 1; have z2 := (KF.out.below HU.out).cell 2; have z3 := (KF.out.below HU.out).cell 3; have z4 := (KF.out.below HU.out).cell 4; have z5 := (KF.out.below HU.out).cell 5; have m0 := (KM.out.below HU.out).cell 0; have m1 := (KM.out.below HU.out).cell 1; have n0 := (KN.out.below HU.out).cell 0; have n1 := (KN.out.below HU.out).cell 1; have x0 := (KX.out.below HU.out).cell 0; have x1 := (KX.out.below HU.out).cell 1; simp only [List.getElem?_toArray, List.getElem?_cons_succ, List.getElem?_cons_zero] at z0 z1 z2 z3 z4 z5 m0 m1 n0 n1 x0 x1) | (go_at_call 23; with_reducible refine (R4 _ (HF.out.below (HT7.out.trans ((HBR.out.trans (HU.out.mono HBR.out.size)).mono HT7.out.size)))).mono ?_; rintro _ w9 ⟨rfl, hb9⟩; replace HU := Lib.hid (HU.out.trans (hb9.mono HU.out.size)); clear hb9; have z0 := (KF.out.below HU.out).cell 0; have z1 := (KF.out.below HU.out).cell 1; have z2 := (KF.out.below HU.out).cell 2; have z3 := (KF.out.below HU.out).cell 3; have z4 := (KF.out.below HU.out).cell 4; have z5 := (KF.out.below HU.out).cell 5; have m0 := (KM.out.below HU.out).cell 0; have m1 := (KM.out.below HU.out).cell 1; have n0 := (KN.out.below HU.out).cell 0; have n1 := (KN.out.below HU.out).cell 1; have x0 := (KX.out.below HU.out).cell 0; have x1 := (KX.out.below HU.out).cell 1; simp only [List.getElem?_toArray, List.getElem?_cons_succ, List.getElem?_cons_zero] at z0 z1 z2 z3 z4 z5 m0 m1 n0 n1 x0 x1))
                go_roundw
                case rel => exact ⟨k + 1, by omega, by go_num, HBR.out.trans (HU.out.mono HBR.out.size)⟩
                case measure => simp [intOf]; omega
              · have h4' : (f.excs.any fun x => sameM x (p, xv)) = false := h4
        
                exact (HNone.out rfl h3 h4).elim
      · have hkl : k = xs.length := by omega
        have hBR := HT7.out.trans (hbr.mono HT7.out.size)
        have z0 := (HG0.out.below hBR).cell 0
        have z1 := (HG0.out.below hBR).cell 1
        have z2 := (HG0.out.below hBR).cell 2
        have z3 := (HG0.out.below hBR).cell 3
        have z4 := (HG0.out.below hBR).cell 4
        have z5 := (HG0.out.below hBR).cell 5
        have m0 := (HG1.out.below hBR).cell 0
        have m1 := (HG1.out.below hBR).cell 1
        simp only [List.getElem?_toArray, List.getElem?_cons_succ, List.getElem?_cons_zero] at z0 z1 z2 z3 z4 z5 m0 m1
        have HBR' := Lib.hid hBR
        have hexm : (f.excs.any fun x => sameM x (p, v)) = true := HNI.out.ex
        clear hBR hbr
        go_wp2_with fail
        refine (excluded_any f a b c d p v _ (HF.out.below HBR'.out) (by omega)).mono ?_
        rintro _ w9 ⟨rfl, hb9⟩
        have HEnd := Lib.hid (HB1.out.trans ((HBR'.out.trans (hb9.mono HBR'.out.size)).mono HB1.out.size))
        clear hb9
        go_wp2
        go_ret
        exact ⟨by simp, HEnd.out⟩
end Go.Proofs.YtcbpkbemnaondaaGreatDoor

namespace Go.Proofs.YtcbpkbemnaondaaGreatDoor.rewriteNext
open Go.ChangeShapes Go.WideShapes Go.ChangeAt Go.RowKit Go.Shelf Go.Deep
open Go.ChangeMaps (open_string shut_string)
set_option linter.unusedVariables false

section
variable {H : Type} {enc : TypeId × Value → H}
set_option maxRecDepth 100000 in
theorem open_modS {W : World} {r : Reach} {b0 : Nat} {v : Value} {d : DataW H} {p : List MemPlace} (hval : Value.okWide Tryz.prog W r b0 24 v) (h : DataW.Trod enc Tryz.prog W 0 (fun _ => true) true 24 v d p) :
    ∃ m : ModB, v = .agg #[.string m.1, .string m.2] ∧ modOk m ∧ d = modD m ∧ ∀ (W' : World) (sp : Nat → Bool), DataW.Trod enc Tryz.prog W' 0 sp true 24 v d p := by
  obtain ⟨cs, rfl, hsz⟩ := okWide_struct Tryz.underlying24 hval
  obtain ⟨fuel, hf⟩ := h
  obtain ⟨m, e, hx, hm⟩ := modRD.opens hf
  simp only [Prod.mk.injEq] at hx
  obtain ⟨rfl, rfl⟩ := hx
  have : cs = #[.string m.1, .string m.2] := by
    have e' : cs.toList = [.string m.1, .string m.2] := e
    rw [← Array.toArray_toList (xs := cs), e']
  subst this
  exact ⟨m, rfl, hm, rfl, fun W' sp => modRD.shuts hm W' 0 sp⟩
theorem mod_sized {ts : List TypeId} {ds : List (DataW H)} (h : (DataW.weightsEach Tryz.prog ts ds).all (· ≤ reachBytes) = true) {j : Nat} {m : ModB} (ht : ts[j]? = some 24) (hd : ds[j]? = some (modD m)) : m.1.size ≤ 140737488355328 ∧ m.2.size ≤ 140737488355328 := by
  have hr : reachBytes ≤ 140737488355328 := by decide
  have hw : DataW.weights Tryz.prog 24 (modD (H := H) m) = [m.1.data.toList.length, m.2.data.toList.length] := by
    simp [modD, litS, DataW.weights, Tryz.underlying24, DataW.weightsEach]
  have h1 := List.all_eq_true.1 h _ (DataW.weights_mem_each ht hd m.1.data.toList.length (by rw [hw]; simp))
  have h2 := List.all_eq_true.1 h _ (DataW.weights_mem_each ht hd m.2.data.toList.length (by rw [hw]; simp))
  simp only [decide_eq_true_eq] at h1 h2
  have e1 : m.1.size = m.1.data.toList.length := by rw [Array.length_toList]; rfl
  have e2 : m.2.size = m.2.data.toList.length := by rw [Array.length_toList]; rfl
  omega
end

set_option maxRecDepth 100000 in
theorem lifted (os : Os) (started : os.Started) (H : Type) (enc : TypeId × Value → H) :
    ReturnsInHanded {} Tryz.checked os 5 .any (fun w args => (Rows.rewriteNextSpec.pre enc Tryz.prog Tryz.f5 Rows.rewriteNextRow.domain false w args ∧ laidMetH Tryz.prog laid0 w) ∧ sizedMet enc Tryz.prog Tryz.f5 (OpenSpec.ofChange Rows.rewriteNextSpec) false w args)
      (Rows.rewriteNextSpec.post enc Tryz.prog Tryz.f5 false true false false) := by
  refine returnsInHanded_of_change_and (C := Tryz.checked) (X := fun w _ => laidMetH Tryz.prog laid0 w) (fun _ _ _ hh h => h.of_heap hh) own started (by kernel_rfl) Tryz.func5
    (ChangeSpec.witness_shaped (enc := enc) (C := Tryz.checked) (os := os) (X := fun w _ => laidMetH Tryz.prog laid0 w) false (World.laidAll Tryz.prog os laid0) #[.agg #[.string ByteArray.empty, .string ByteArray.empty, .slice none 0 0, .slice none 0 0, .slice none 0 0, .slice none 0 0], .slice none 0 0, .agg #[.string ByteArray.empty, .string ByteArray.empty]] 8 (World.laidAll_os _ _ _) (World.shaped_of_ZipB (by kernel_rfl) (by kernel_rfl)) (by kernel_rfl) (by kernel_rfl) (by kernel_rfl) (door_met os _)) ?_
  intro W base args ds gs before hval0 hW _ hz hL _
  have hval : ∀ (j : Nat) t v, Tryz.f5.params[j]? = some t → args[j]? = some v → Value.okWide Tryz.prog W .any base t v := hval0
  have hW' := hW
  obtain ⟨p, q, hA0, hV, rfl, hfz, hnd⟩ := hW
  have hA : DataW.TrodAll enc Tryz.prog W 0 (fun _ => true) true Tryz.f5.params.toList args.toList ds p := hA0
  rw [Tryz.params5] at hA hval
  have hz' := hz
  simp only [show (Tryz.checked.prog : Program) = Tryz.prog from rfl, Tryz.params5] at hz'
  obtain ⟨v0, vs0, d0, ds0, p0, q0, hargs, rfl, rfl, h0, r0⟩ := trodAll_cons hA
  obtain ⟨v1, vs1, d1, ds1, p1, q1, rfl, rfl, rfl, h1, r1⟩ := trodAll_cons r0
  obtain ⟨v2, vs2, d2, ds2, p2, q2, rfl, rfl, rfl, h2, r2⟩ := trodAll_cons r1
  obtain ⟨rfl, rfl, rfl⟩ := trodAll_nil r2
  obtain rfl : args = #[v0, v1, v2] := by cases args; simp_all
  obtain ⟨rfl, rfl⟩ := trodVars_none hV
  obtain ⟨a0, x0, y0, z0, t0, rfl, g0, u0⟩ := open_fileG (hval 0 49 v0 rfl rfl) h0
  obtain ⟨a1, eR1, eL1, eF1, eZ1, u1⟩ := open_ents (hval 1 22 v1 rfl rfl) h1
  obtain ⟨a2, rfl, w2, e2, u2⟩ := open_modS (hval 2 24 v2 rfl rfl) h2
  subst e2
  have s2 := mod_sized hz' (j := 2) (m := a2) rfl rfl
  clear hA0 hval0 hz hz'
  simp only [List.append_nil] at hW'
  refine (nextlaw_walk a0 x0 y0 z0 t0 a1 v1 a2.1 a2.2 W g0 eR1 eL1 eF1 s2.1 s2.2).mono fun e W' ⟨he, bel⟩ => ?_
  subst he
  exact ⟨_, rfl, _, _, _, [], _, [], hW', trodAll_mk1 (shut_bool Tryz.underlying4 _), (trodAll_cons_mk (u0 _ bel) (trodAll_cons_mk (u1 _ bel) (trodAll_cons_mk (u2 _ _) trodAll_mk0))), rfl, bel.frame _, fun h => by cases h⟩

theorem over : Rows.rewriteNextRow.holds Tryz.pinned (OpenSpec.ofChange Rows.rewriteNextSpec) :=
  OpenClaim.holds_of_wide 5 Tryz.f5 rfl rfl rfl rfl rfl rfl rfl ⟨rfl, rfl, rfl, rfl, rfl⟩ rfl rfl rfl rfl rfl (by kernel_rfl) Tryz.func5 (by kernel_rfl)
    (of_decide_eq_true (by kernel_rfl)) (by unfold Func.isWrapper; first | (rw [if_pos (by decide +kernel)]; kernel_rfl) | (rw [if_neg (by decide +kernel)]; exact ⟨rfl, rfl⟩))
    (fun os started H enc _ => lifted os started H enc)

theorem proved : Rows.RewriteNextCardSaid :=
  Claim7.holds_tied_plain_at .later [] [.data, .data, .data, .sentinel, .sentinel] true (true, "07d34ad4e3c8e650294916f1c9b8cfd7f2d0debd49f269622e2b0cae7c9d0b0f") true
    over (fun _ h => by cases h) (by kernel_rfl) (fun _ h => by cases h) rewriteNext_row_tie rfl ⟨rfl, rfl⟩ (by kernel_rfl) rfl
    (fun f fn hf hfn => by
      obtain rfl : f = 5 := Option.some.inj ((show Tryz.prog.funcNamed "graftbed/graftbedlaw08.RewriteNext" = some 5 by kernel_rfl).symm.trans hf) |>.symm
      obtain rfl : fn = Tryz.f5 := (Option.some.inj (Tryz.func5.symm.trans hfn)).symm
      exact ⟨by kernel_rfl, fun j t ht => by
        rw [Tryz.params5] at ht
        have hm : t ∈ [49, 22, 24] := by simpa using Array.mem_of_getElem? ht
        have hall : ([49, 22, 24].all fun u => !Tryz.prog.wantsStandIn u) = true := by kernel_rfl
        exact (show Tryz.prog.wantsStandIn t = false by simpa using List.all_eq_true.1 hall t hm)⟩)
    (by kernel_rfl)
#print axioms proved
end Go.Proofs.YtcbpkbemnaondaaGreatDoor.rewriteNext
