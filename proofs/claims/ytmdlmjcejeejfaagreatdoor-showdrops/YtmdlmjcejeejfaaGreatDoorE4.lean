/-
  A file, as the document has it.
-/
import Derived.Test.YtmdlmjcejeejfaaGreatDoorD0
import Derived.Deep.RegionLaw
namespace Go.Proofs.YtmdlmjcejeejfaaGreatDoor
open Go.RowKit Go.Shelf

theorem RRow.oneE {α : Type} {R : Rec α} {w : World} (t : TypeId) (x : α) (cs : Array Value) (b : Nat) (hb : b = w.heap.size) (h : cs = (R.cells x).toArray) : RRow R (w.alloc (.cells cs t)).drew (.slice (some ⟨b, 0, none⟩) 1 1) [x] := RRow.one' t x cs b hb h
theorem GBlk.setOther {w : World} {B B' i : Nat} {t : TypeId} {cs : Array Value} {u : Value} (h : GBlk w B t cs) (hne : B ≠ B') : GBlk (w.setCell ⟨B', i, none⟩ u) B t cs := (Below.heap_setCell w ⟨B', i, none⟩ u B hne).trans h
theorem GBlk.six {w : World} {B : Nat} {t : TypeId} {x0 x1 x2 x3 x4 x5 : Value} (h : GBlk w B t #[x0, x1, x2, x3, x4, x5]) (v0 v1 v2 v3 v4 v5 : Value) :
    GBlk ((((((w.setCell ⟨B, 0, none⟩ v0).setCell ⟨B, 1, none⟩ v1).setCell ⟨B, 2, none⟩ v2).setCell ⟨B, 3, none⟩ v3).setCell ⟨B, 4, none⟩ v4).setCell ⟨B, 5, none⟩ v5) B t #[v0, v1, v2, v3, v4, v5] :=
  (((((h.set 0 v0).set 1 v1).set 2 v2).set 3 v3).set 4 v4).set 5 v5
theorem RAcc.six {α : Type} {R : Rec α} {et t : TypeId} {w0 w : World} {B : Nat} {v : Value} {xs : List α} {x0 x1 x2 x3 x4 x5 : Value} (h : RAcc R et w0 w v xs) (hs : GBlk w B t #[x0, x1, x2, x3, x4, x5]) (hne : t ≠ et) (hB : w0.heap.size ≤ B) (v0 v1 v2 v3 v4 v5 : Value) :
    RAcc R et w0 ((((((w.setCell ⟨B, 0, none⟩ v0).setCell ⟨B, 1, none⟩ v1).setCell ⟨B, 2, none⟩ v2).setCell ⟨B, 3, none⟩ v3).setCell ⟨B, 4, none⟩ v4).setCell ⟨B, 5, none⟩ v5) v xs :=
  (((((h.set hs hne hB).set (hs.set 0 v0) hne hB).set ((hs.set 0 v0).set 1 v1) hne hB).set (((hs.set 0 v0).set 1 v1).set 2 v2) hne hB).set ((((hs.set 0 v0).set 1 v1).set 2 v2).set 3 v3) hne hB).set (((((hs.set 0 v0).set 1 v1).set 2 v2).set 3 v3).set 4 v4) hne hB

/-- No part of the list lies in block B. -/
def Off (B : Nat) (v : Value) {α : Type} (xs : List α) : Prop := xs ≠ [] → v.ownBlock ≠ some B
theorem RRow.off {α : Type} {R : Rec α} {w : World} {v : Value} {xs : List α} {B : Nat} (h : RRow R w v xs) (hB : w.heap.size ≤ B) : Off B v xs := by
  intro hne e
  obtain ⟨a, cap, rfl, _, hc⟩ := h
  obtain ⟨g, o, rfl, hg, _⟩ := hc hne
  have : some g = some B := e
  have := Option.some.inj this
  omega
theorem ROwn.off {α : Type} {R : Rec α} {et : TypeId} {w : World} {base B : Nat} {v : Value} {xs : List α} (h : ROwn R et w base v xs) (hB : B < base) : Off B v xs := fun _ e => by
  have := h.block B e
  omega
theorem RRow.setOff {α : Type} {R : Rec α} {w : World} {v u : Value} {xs : List α} {B i : Nat} (h : RRow R w v xs) (ho : Off B v xs) : RRow R (w.setCell ⟨B, i, none⟩ u) v xs := by
  obtain ⟨a, cap, rfl, hl, hc⟩ := h
  refine ⟨a, cap, rfl, hl, fun hne => ?_⟩
  obtain ⟨g, o, rfl, hg, hat⟩ := hc hne
  have hgB : g ≠ B := fun e => ho hne (by rw [← e]; rfl)
  have hb := Below.heap_setCell w ⟨B, i, none⟩ u g hgB
  refine ⟨g, o, rfl, ?_, hat.of_block hb⟩
  have h1 : w.heap[g]? ≠ none := by simp [hg]
  rw [← hb] at h1
  exact Nat.lt_of_not_le fun h2 => h1 (Array.getElem?_eq_none h2)
structure FileOff (B : Nat) (a b c d : Value) (f : FileG) : Prop where
  reqs : Off B a f.reqs
  reps : Off B b f.reps
  excs : Off B c f.excs
  rets : Off B d f.rets
theorem FileAt.off {w : World} {a b c d : Value} {f : FileG} {B : Nat} (h : FileAt w a b c d f) (hB : w.heap.size ≤ B) : FileOff B a b c d f := ⟨h.reqs.off hB, h.reps.off hB, h.excs.off hB, h.rets.off hB⟩
theorem FileAt.setOff {w : World} {a b c d u : Value} {f : FileG} {B i : Nat} (h : FileAt w a b c d f) (ho : FileOff B a b c d f) : FileAt (w.setCell ⟨B, i, none⟩ u) a b c d f := ⟨h.reqs.setOff ho.reqs, h.reps.setOff ho.reps, h.excs.setOff ho.excs, h.rets.setOff ho.rets⟩

/-- What a function tells that tells a file. -/
def FileOut (f : FileG) (a b c d : Value) (w : World) (e : Ending) (w' : World) : Prop := ∃ a' b' c' d', e = .returned (.agg #[.string f.mo, .string f.go, a', b', c', d']) ∧ FileAt w' a' b' c' d' f ∧ Below w.heap.size w w' ∧ ∀ B, B < w.heap.size → FileOff B a b c d f → FileOff B a' b' c' d' f

set_option maxRecDepth 100000 in
set_option maxHeartbeats 8000000 in
theorem theirs_file (f : FileG) (n1 : f.reqs.length ≤ 1000) (n2 : f.reps.length ≤ 1000) (n3 : f.excs.length ≤ 1000) (n4 : f.rets.length ≤ 1000) (a b c d : Value) (w : World) (hF : FileAt w a b c d f) :
    Calls Tryz.prog 9 #[.agg #[.string f.mo, .string f.go, a, b, c, d]] w (FileOut f a b c d w) := by
  obtain ⟨mo, go, reqs, reps, excs, rets⟩ := f
  obtain ⟨hr, hp, hx, ht⟩ := hF
  dsimp only at *
  obtain ⟨ra, rc, rfl⟩ := hr.form
  obtain ⟨pa, pc, rfl⟩ := hp.form
  obtain ⟨xa, xc, rfl⟩ := hx.form
  obtain ⟨ta, tc, rfl⟩ := ht.form
  have hb0 := (Below.refl w.heap.size w).alloc (Nat.le_refl _) (.cells #[.string mo, .string go, .slice ra reqs.length rc, .slice pa reps.length pc, .slice xa excs.length xc, .slice ta rets.length tc] 27)
  have HR := Lib.hid (hr.below hb0)
  have HP := Lib.hid (hp.below hb0)
  have HX := Lib.hid hx
  have HT := Lib.hid (ht.below hb0)
  have HA := Lib.hid (GBlk.new w 27 #[.string mo, .string go, .slice ra reqs.length rc, .slice pa reps.length pc, .slice xa excs.length xc, .slice ta rets.length tc])
  clear hr hp hx ht
  have hz1 : (w.alloc (.cells #[.string mo, .string go, .slice ra reqs.length rc, .slice pa reps.length pc, .slice xa excs.length xc, .slice ta rets.length tc] 27)).heap.size = w.heap.size + 1 := by simp
  go_enter Tryz.func9, Tryz.ntmps9
  go_wp2
  generalize w.alloc (.cells #[.string mo, .string go, .slice ra reqs.length rc, .slice pa reps.length pc, .slice xa excs.length xc, .slice ta rets.length tc] 27) = W at *
  have HS := Lib.hid hz1
  have HS1 := Lib.hid (show W.heap.size ≤ w.heap.size + 1 + 1 by omega)
  have hG0 : GBlk ((W.alloc (.cells #[.string ⟨#[]⟩, .string ⟨#[]⟩, .slice none 0 0, .slice none 0 0, .slice none 0 0, .slice none 0 0] 35)).alloc (.cells #[.string mo, .string go, .slice none 0 0, .slice none 0 0, .slice xa excs.length xc, .slice none 0 0] 35)) (w.heap.size + 1) 35 #[.string ⟨#[]⟩, .string ⟨#[]⟩, .slice none 0 0, .slice none 0 0, .slice none 0 0, .slice none 0 0] := by
    have := (GBlk.new W 35 #[.string ⟨#[]⟩, .string ⟨#[]⟩, .slice none 0 0, .slice none 0 0, .slice none 0 0, .slice none 0 0]).alloc (.cells #[.string mo, .string go, .slice none 0 0, .slice none 0 0, .slice xa excs.length xc, .slice none 0 0] 35)
    rwa [hz1] at this
  have hG1 : GBlk ((W.alloc (.cells #[.string ⟨#[]⟩, .string ⟨#[]⟩, .slice none 0 0, .slice none 0 0, .slice none 0 0, .slice none 0 0] 35)).alloc (.cells #[.string mo, .string go, .slice none 0 0, .slice none 0 0, .slice xa excs.length xc, .slice none 0 0] 35)) (w.heap.size + 1 + 1) 35 #[.string mo, .string go, .slice none 0 0, .slice none 0 0, .slice xa excs.length xc, .slice none 0 0] := by
    have := GBlk.new (W.alloc (.cells #[.string ⟨#[]⟩, .string ⟨#[]⟩, .slice none 0 0, .slice none 0 0, .slice none 0 0, .slice none 0 0] 35)) 35 #[.string mo, .string go, .slice none 0 0, .slice none 0 0, .slice xa excs.length xc, .slice none 0 0]
    rwa [World.size_alloc, hz1] at this
  have hBw : Below W.heap.size W ((W.alloc (.cells #[.string ⟨#[]⟩, .string ⟨#[]⟩, .slice none 0 0, .slice none 0 0, .slice none 0 0, .slice none 0 0] 35)).alloc (.cells #[.string mo, .string go, .slice none 0 0, .slice none 0 0, .slice xa excs.length xc, .slice none 0 0] 35)) := ((Below.refl _ _).alloc (Nat.le_refl _) _).alloc (by simp) _
  generalize ((W.alloc (.cells #[.string ⟨#[]⟩, .string ⟨#[]⟩, .slice none 0 0, .slice none 0 0, .slice none 0 0, .slice none 0 0] 35)).alloc (.cells #[.string mo, .string go, .slice none 0 0, .slice none 0 0, .slice xa excs.length xc, .slice none 0 0] 35)) = w2 at *
  clear hz1
  go_loopw [4] (fun i wr => ∃ (k : Nat) (acc : List ReqB) (A : Option Addr) (c : Nat), k ≤ reqs.length ∧ i = .int .i64 k ∧ acc = reqs.take k ∧ GBlk wr (w.heap.size + 1) 35 #[.string ⟨#[]⟩, .string ⟨#[]⟩, .slice none 0 0, .slice none 0 0, .slice none 0 0, .slice none 0 0] ∧ GBlk wr (w.heap.size + 1 + 1) 35 #[.string mo, .string go, .slice A acc.length c, .slice none 0 0, .slice xa excs.length xc, .slice none 0 0] ∧ RAcc reqR 61 W wr (.slice A acc.length c) acc) (fun i _ => reqs.length - (intOf i).toNat)
  case atStart => exact ⟨0, [], none, 0, Nat.zero_le _, rfl, rfl, hG0, hG1, ROwn.nil _ _, hBw⟩
  case round =>
    clear hG0 hG1 hBw
    obtain ⟨k, acc, A, c, hk, rfl, hL, hG0, hG1, hacc⟩ := hrel
    have HL := Lib.hid hL
    have hal : acc.length ≤ k := by rw [hL, List.length_take]; omega
    clear hL
    have u0 : wr.cell? ⟨w.heap.size, 2, none⟩ = some (.slice ra reqs.length rc) := (HA.out.below hacc.below).cell 2
    by_cases hlt : k < reqs.length
    · obtain ⟨-, hcap, hsp⟩ := (HR.out.below hacc.below).spot
      obtain ⟨g, o, rfl, hg, hat⟩ := hsp (ne_of_lt hlt)
      obtain ⟨q1, q2, q3⟩ := req_at hat k hlt
      have HN := Lib.hid (show acc ++ [reqs[k]] = reqs.take (k + 1) by rw [HL.out, List.take_succ_eq_append_getElem hlt])
      clear hat hsp
      generalize reqs[k] = x at *
      obtain ⟨⟨p, v⟩, bb⟩ := x
      dsimp only at q1 q2 q3
      have i0 : (0 : Int) ≤ (k : Int) := by omega
      have i1 : (k : Int) < (reqs.length : Int) := by omega
      have g2 : wr.cell? ⟨w.heap.size + 1 + 1, 2, none⟩ = some (.slice A acc.length c) := hG1.cell 2
      have ma : ∀ o, (wr.alloc o).cell? ⟨w.heap.size + 1 + 1, 2, none⟩ = some (.slice A acc.length c) := fun o => (hG1.alloc o).cell 2
      go_wp2
      go_region_law (refine step_racc reqT rfl _ _ rfl (hacc.alloc _).drew rfl (RRow.oneE _ ((p, v), bb) _ _ (by simp) rfl) rfl (by simp; omega) ?_; intro A4 c4 acc4 w4 hgr; have hG04 := (hG0.alloc _).drew.grew (hacc.alloc _).drew.own hgr (by decide); have hG14 := (hG1.alloc _).drew.grew (hacc.alloc _).drew.own hgr (by decide); have kc : w4.cell? ⟨w.heap.size + 1 + 1, 2, none⟩ = some (.slice A acc.length c) := hG14.cell 2; have kf := hG14.frozen 2; have hacc4 := hgr.acc; have HL4 := Lib.hid hgr.list; clear hgr)
      all_goals
        go_wp2
        go_roundw
        case rel => exact ⟨k + 1, acc4, A4, c4, by omega, by go_num, HL4.out.trans HN.out, hG04.setOther (by omega), hG14.set 2 _, hacc4.set hG14 (by decide) HS1.out⟩
        case measure => simp [intOf]; omega
    · obtain rfl : k = reqs.length := by omega
      have hacq : reqs = acc := by rw [HL.out, List.take_length]
      subst hacq
      clear HL
      go_wp2
      clear u0
      obtain ⟨v0, hv0⟩ : ∃ v, v = wr := ⟨_, rfl⟩
      subst hv0
      have hacc0 := hacc
      clear hacc
      go_loopw [5] (fun i wr => ∃ (k : Nat) (acc : List RepB) (A2 : Option Addr) (c2 : Nat), k ≤ reps.length ∧ i = .int .i64 k ∧ acc = reps.take k ∧ GBlk wr (w.heap.size + 1) 35 #[.string ⟨#[]⟩, .string ⟨#[]⟩, .slice none 0 0, .slice none 0 0, .slice none 0 0, .slice none 0 0] ∧ GBlk wr (w.heap.size + 1 + 1) 35 #[.string mo, .string go, .slice A reqs.length c, .slice A2 acc.length c2, .slice xa excs.length xc, .slice none 0 0] ∧ RAcc reqR 61 W wr (.slice A reqs.length c) reqs ∧ RAcc repR 62 W wr (.slice A2 acc.length c2) acc) (fun i _ => reps.length - (intOf i).toNat)
      case atStart => exact ⟨0, [], none, 0, Nat.zero_le _, rfl, rfl, hG0, hG1, hacc0, ROwn.nil _ _, hacc0.below⟩
      case round =>
        clear hG0 hG1 hacc0
        obtain ⟨k, acc, A2, c2, hk, rfl, hL, hG0, hG1, hacc0, hacc⟩ := hrel
        have HL := Lib.hid hL
        have hal : acc.length ≤ k := by rw [hL, List.length_take]; omega
        clear hL
        have u0 : wr.cell? ⟨w.heap.size, 3, none⟩ = some (.slice pa reps.length pc) := (HA.out.below hacc.below).cell 3
        by_cases hlt : k < reps.length
        · obtain ⟨-, hcap, hsp⟩ := (HP.out.below hacc.below).spot
          obtain ⟨g, o, rfl, hg, hat⟩ := hsp (ne_of_lt hlt)
          obtain ⟨q1, q2, q3, q4⟩ := rep_at hat k hlt
          have HN := Lib.hid (show acc ++ [reps[k]] = reps.take (k + 1) by rw [HL.out, List.take_succ_eq_append_getElem hlt])
          clear hat hsp
          generalize reps[k] = x at *
          obtain ⟨⟨p, v⟩, p2, v2⟩ := x
          dsimp only at q1 q2 q3 q4
          have i0 : (0 : Int) ≤ (k : Int) := by omega
          have i1 : (k : Int) < (reps.length : Int) := by omega
          have g2 : wr.cell? ⟨w.heap.size + 1 + 1, 3, none⟩ = some (.slice A2 acc.length c2) := hG1.cell 3
          have ma : ∀ o, (wr.alloc o).cell? ⟨w.heap.size + 1 + 1, 3, none⟩ = some (.slice A2 acc.length c2) := fun o => (hG1.alloc o).cell 3
          go_wp2
          go_region_law (refine step_racc repT rfl _ _ rfl (hacc.alloc _).drew rfl (RRow.oneE _ ((p, v), p2, v2) _ _ (by simp) rfl) rfl (by simp; omega) ?_; intro A4 c4 acc4 w4 hgr; have hG04 := (hG0.alloc _).drew.grew (hacc.alloc _).drew.own hgr (by decide); have hG14 := (hG1.alloc _).drew.grew (hacc.alloc _).drew.own hgr (by decide); have hacc04 := (hacc0.alloc _).drew.other (hacc.alloc _).drew.own hgr (by decide); have kc : w4.cell? ⟨w.heap.size + 1 + 1, 3, none⟩ = some (.slice A2 acc.length c2) := hG14.cell 3; have kf := hG14.frozen 3; have hacc4 := hgr.acc; have HL4 := Lib.hid hgr.list; clear hgr)
          all_goals
            go_wp2
            go_roundw
            case rel => exact ⟨k + 1, acc4, A4, c4, by omega, by go_num, HL4.out.trans HN.out, hG04.setOther (by omega), hG14.set 3 _, hacc04.set hG14 (by decide) HS1.out, hacc4.set hG14 (by decide) HS1.out⟩
            case measure => simp [intOf]; omega
        · obtain rfl : k = reps.length := by omega
          have hacq : reps = acc := by rw [HL.out, List.take_length]
          subst hacq
          clear HL
          go_wp2
          clear u0
          obtain ⟨v1, hv1⟩ : ∃ v, v = wr := ⟨_, rfl⟩
          subst hv1
          have hacc1 := hacc
          clear hacc
          go_loopw [6] (fun i wr => ∃ (k : Nat) (acc : List RetB) (A3 : Option Addr) (c3 : Nat), k ≤ rets.length ∧ i = .int .i64 k ∧ acc = rets.take k ∧ GBlk wr (w.heap.size + 1) 35 #[.string ⟨#[]⟩, .string ⟨#[]⟩, .slice none 0 0, .slice none 0 0, .slice none 0 0, .slice none 0 0] ∧ GBlk wr (w.heap.size + 1 + 1) 35 #[.string mo, .string go, .slice A reqs.length c, .slice A2 reps.length c2, .slice xa excs.length xc, .slice A3 acc.length c3] ∧ RAcc reqR 61 W wr (.slice A reqs.length c) reqs ∧ RAcc repR 62 W wr (.slice A2 reps.length c2) reps ∧ RAcc retR 63 W wr (.slice A3 acc.length c3) acc) (fun i _ => rets.length - (intOf i).toNat)
          case atStart => exact ⟨0, [], none, 0, Nat.zero_le _, rfl, rfl, hG0, hG1, hacc0, hacc1, ROwn.nil _ _, hacc0.below⟩
          case round =>
            clear hG0 hG1 hacc0 hacc1
            obtain ⟨k, acc, A3, c3, hk, rfl, hL, hG0, hG1, hacc0, hacc1, hacc⟩ := hrel
            have HL := Lib.hid hL
            have hal : acc.length ≤ k := by rw [hL, List.length_take]; omega
            clear hL
            have u0 : wr.cell? ⟨w.heap.size, 5, none⟩ = some (.slice ta rets.length tc) := (HA.out.below hacc.below).cell 5
            by_cases hlt : k < rets.length
            · obtain ⟨-, hcap, hsp⟩ := (HT.out.below hacc.below).spot
              obtain ⟨g, o, rfl, hg, hat⟩ := hsp (ne_of_lt hlt)
              obtain ⟨q1, q2, q3⟩ := ret_at hat k hlt
              have HN := Lib.hid (show acc ++ [rets[k]] = rets.take (k + 1) by rw [HL.out, List.take_succ_eq_append_getElem hlt])
              clear hat hsp
              generalize rets[k] = x at *
              obtain ⟨p, v, y⟩ := x
              dsimp only at q1 q2 q3
              have i0 : (0 : Int) ≤ (k : Int) := by omega
              have i1 : (k : Int) < (rets.length : Int) := by omega
              have g2 : wr.cell? ⟨w.heap.size + 1 + 1, 5, none⟩ = some (.slice A3 acc.length c3) := hG1.cell 5
              have ma : ∀ o, (wr.alloc o).cell? ⟨w.heap.size + 1 + 1, 5, none⟩ = some (.slice A3 acc.length c3) := fun o => (hG1.alloc o).cell 5
              go_wp2
              go_region_law (refine step_racc retT rfl _ _ rfl (hacc.alloc _).drew rfl (RRow.oneE _ (p, v, y) _ _ (by simp) rfl) rfl (by simp; omega) ?_; intro A4 c4 acc4 w4 hgr; have hG04 := (hG0.alloc _).drew.grew (hacc.alloc _).drew.own hgr (by decide); have hG14 := (hG1.alloc _).drew.grew (hacc.alloc _).drew.own hgr (by decide); have hacc04 := (hacc0.alloc _).drew.other (hacc.alloc _).drew.own hgr (by decide); have hacc14 := (hacc1.alloc _).drew.other (hacc.alloc _).drew.own hgr (by decide); have kc : w4.cell? ⟨w.heap.size + 1 + 1, 5, none⟩ = some (.slice A3 acc.length c3) := hG14.cell 5; have kf := hG14.frozen 5; have hacc4 := hgr.acc; have HL4 := Lib.hid hgr.list; clear hgr)
              all_goals
                go_wp2
                go_roundw
                case rel => exact ⟨k + 1, acc4, A4, c4, by omega, by go_num, HL4.out.trans HN.out, hG04.setOther (by omega), hG14.set 5 _, hacc04.set hG14 (by decide) HS1.out, hacc14.set hG14 (by decide) HS1.out, hacc4.set hG14 (by decide) HS1.out⟩
                case measure => simp [intOf]; omega
            · obtain rfl : k = rets.length := by omega
              have hacq : rets = acc := by rw [HL.out, List.take_length]
              subst hacq
              clear HL
              have g0 : wr.cell? ⟨w.heap.size + 1 + 1, 0, none⟩ = some (.string mo) := hG1.cell 0
              have g1 : wr.cell? ⟨w.heap.size + 1 + 1, 1, none⟩ = some (.string go) := hG1.cell 1
              have g2 : wr.cell? ⟨w.heap.size + 1 + 1, 2, none⟩ = some (.slice A reqs.length c) := hG1.cell 2
              have g3 : wr.cell? ⟨w.heap.size + 1 + 1, 3, none⟩ = some (.slice A2 reps.length c2) := hG1.cell 3
              have g4 : wr.cell? ⟨w.heap.size + 1 + 1, 4, none⟩ = some (.slice xa excs.length xc) := hG1.cell 4
              have g5 : wr.cell? ⟨w.heap.size + 1 + 1, 5, none⟩ = some (.slice A3 rets.length c3) := hG1.cell 5
              have z0 : wr.cell? ⟨w.heap.size + 1, 0, none⟩ = some (.string ⟨#[]⟩) := hG0.cell 0
              have z1 : wr.cell? ⟨w.heap.size + 1, 1, none⟩ = some (.string ⟨#[]⟩) := hG0.cell 1
              have z2 : wr.cell? ⟨w.heap.size + 1, 2, none⟩ = some (.slice none 0 0) := hG0.cell 2
              have z3 : wr.cell? ⟨w.heap.size + 1, 3, none⟩ = some (.slice none 0 0) := hG0.cell 3
              have z4 : wr.cell? ⟨w.heap.size + 1, 4, none⟩ = some (.slice none 0 0) := hG0.cell 4
              have z5 : wr.cell? ⟨w.heap.size + 1, 5, none⟩ = some (.slice none 0 0) := hG0.cell 5
              have f0 := hG0.frozen 0
              have f1 := hG0.frozen 1
              have f2 := hG0.frozen 2
              have f3 := hG0.frozen 3
              have f4 := hG0.frozen 4
              have f5 := hG0.frozen 5
              have hS6 := hG0.six (.string mo) (.string go) (.slice A reqs.length c) (.slice A2 reps.length c2) (.slice xa excs.length xc) (.slice A3 rets.length c3)
              have r0 := hacc0.six hG0 (by decide) (Nat.le_of_eq HS.out) (.string mo) (.string go) (.slice A reqs.length c) (.slice A2 reps.length c2) (.slice xa excs.length xc) (.slice A3 rets.length c3)
              have r1 := hacc1.six hG0 (by decide) (Nat.le_of_eq HS.out) (.string mo) (.string go) (.slice A reqs.length c) (.slice A2 reps.length c2) (.slice xa excs.length xc) (.slice A3 rets.length c3)
              have r3 := hacc.six hG0 (by decide) (Nat.le_of_eq HS.out) (.string mo) (.string go) (.slice A reqs.length c) (.slice A2 reps.length c2) (.slice xa excs.length xc) (.slice A3 rets.length c3)
              go_wp2
              have y0 := hS6.cell 0
              have y1 := hS6.cell 1
              have y2 := hS6.cell 2
              have y3 := hS6.cell 3
              have y4 := hS6.cell 4
              have y5 := hS6.cell 5
              have hBe := hb0.trans (r0.below.mono hb0.size)
              refine bodyPost_ret (v := .agg #[.string mo, .string go, .slice A reqs.length c, .slice A2 reps.length c2, .slice xa excs.length xc, .slice A3 rets.length c3]) (by simp [results, Tryz.results9, go_sem, y0, y1, y2, y3, y4, y5]) rfl ⟨_, _, _, _, rfl, ⟨r0.own.row, r1.own.row, HX.out.below hBe, r3.own.row⟩, hBe, fun B hB ho => ⟨r0.own.off (by have := HS.out; omega), r1.own.off (by have := HS.out; omega), ho.excs, r3.own.off (by have := HS.out; omega)⟩⟩
end Go.Proofs.YtmdlmjcejeejfaaGreatDoor

/-
  Lists of one's own; a file that is copied.
-/
namespace Go.Proofs.YtmdlmjcejeejfaaGreatDoor
open Go.RowKit Go.Shelf

theorem preqT : RTy Tryz.prog reqR 22 50 (.agg #[.string ⟨#[]⟩, .string ⟨#[]⟩, .bool false]) 40 := ⟨Tryz.underlying22, by kernel_rfl, rfl, by decide⟩
theorem prepT : RTy Tryz.prog repR 23 56 (.agg #[.string ⟨#[]⟩, .string ⟨#[]⟩, .string ⟨#[]⟩, .string ⟨#[]⟩]) 64 := ⟨Tryz.underlying23, by kernel_rfl, rfl, by decide⟩
theorem pretT : RTy Tryz.prog retR 25 58 (.agg #[.string ⟨#[]⟩, .string ⟨#[]⟩, .string ⟨#[]⟩]) 48 := ⟨Tryz.underlying25, by kernel_rfl, rfl, by decide⟩

theorem ROwn.mono {α : Type} {R : Rec α} {et : TypeId} {w : World} {base base' : Nat} {v : Value} {xs : List α} (h : ROwn R et w base v xs) (hb : base' ≤ base) : ROwn R et w base' v xs := by
  obtain ⟨hl, ⟨rfl, h0⟩ | ⟨g, cap, cur, rfl, hg, hh, hr⟩⟩ := h
  · exact ⟨hl, .inl ⟨rfl, h0⟩⟩
  · exact ⟨hl, .inr ⟨g, cap, cur, rfl, Nat.le_trans hb hg, hh, hr⟩⟩
theorem RAcc.since {α : Type} {R : Rec α} {et : TypeId} {w w1 w2 : World} {v : Value} {xs : List α} (h : RAcc R et w1 w2 v xs) (hb : Below w.heap.size w w1) : RAcc R et w w2 v xs := ⟨h.own.mono hb.size, hb.trans (h.below.mono hb.size)⟩

/-- A new list of the same things. -/
def NewOut {α : Type} (R : Rec α) (et : TypeId) (xs : List α) (w : World) (e : Ending) (w' : World) : Prop := ∃ A c, e = .returned (.slice A xs.length c) ∧ RAcc R et w w' (.slice A xs.length c) xs

set_option maxRecDepth 100000 in
set_option maxHeartbeats 1000000 in
theorem newReqs_any (v : Value) (xs : List ReqB) (w : World) (hv : RRow reqR w v xs) (hx : xs.length ≤ 1000) : Calls Tryz.prog 60 #[v] w (NewOut reqR 50 xs w) := by
  have HV := Lib.hid hv
  obtain ⟨a, c, rfl, -⟩ := hv
  go_enter Tryz.func60, Tryz.ntmps60
  go_wp2_with (at_builtin; refine wpList_racc preqT rfl _ _ rfl (RAcc.nil w) rfl HV.out rfl (by simp; omega) ?_; intro A4 c4 acc4 w4 hgr; have hacc4 := hgr.acc; have HL4 := Lib.hid hgr.list; clear hgr)
  go_ret
  obtain rfl : acc4 = xs := HL4.out
  exact ⟨A4, c4, rfl, hacc4⟩

set_option maxRecDepth 100000 in
set_option maxHeartbeats 1000000 in
theorem newReps_any (v : Value) (xs : List RepB) (w : World) (hv : RRow repR w v xs) (hx : xs.length ≤ 1000) : Calls Tryz.prog 61 #[v] w (NewOut repR 56 xs w) := by
  have HV := Lib.hid hv
  obtain ⟨a, c, rfl, -⟩ := hv
  go_enter Tryz.func61, Tryz.ntmps61
  go_wp2_with (at_builtin; refine wpList_racc prepT rfl _ _ rfl (RAcc.nil w) rfl HV.out rfl (by simp; omega) ?_; intro A4 c4 acc4 w4 hgr; have hacc4 := hgr.acc; have HL4 := Lib.hid hgr.list; clear hgr)
  go_ret
  obtain rfl : acc4 = xs := HL4.out
  exact ⟨A4, c4, rfl, hacc4⟩

set_option maxRecDepth 100000 in
set_option maxHeartbeats 1000000 in
theorem newMods_any (v : Value) (xs : List ModB) (w : World) (hv : RRow modR w v xs) (hx : xs.length ≤ 1000) : Calls Tryz.prog 62 #[v] w (NewOut modR 41 xs w) := by
  have HV := Lib.hid hv
  obtain ⟨a, c, rfl, -⟩ := hv
  go_enter Tryz.func62, Tryz.ntmps62
  go_wp2_with (at_builtin; refine wpList_racc modT rfl _ _ rfl (RAcc.nil w) rfl HV.out rfl (by simp; omega) ?_; intro A4 c4 acc4 w4 hgr; have hacc4 := hgr.acc; have HL4 := Lib.hid hgr.list; clear hgr)
  go_ret
  obtain rfl : acc4 = xs := HL4.out
  exact ⟨A4, c4, rfl, hacc4⟩

set_option maxRecDepth 100000 in
set_option maxHeartbeats 1000000 in
theorem newRets_any (v : Value) (xs : List RetB) (w : World) (hv : RRow retR w v xs) (hx : xs.length ≤ 1000) : Calls Tryz.prog 63 #[v] w (NewOut retR 58 xs w) := by
  have HV := Lib.hid hv
  obtain ⟨a, c, rfl, -⟩ := hv
  go_enter Tryz.func63, Tryz.ntmps63
  go_wp2_with (at_builtin; refine wpList_racc pretT rfl _ _ rfl (RAcc.nil w) rfl HV.out rfl (by simp; omega) ?_; intro A4 c4 acc4 w4 hgr; have hacc4 := hgr.acc; have HL4 := Lib.hid hgr.list; clear hgr)
  go_ret
  obtain rfl : acc4 = xs := HL4.out
  exact ⟨A4, c4, rfl, hacc4⟩

/-- A file whose lists are new ones. -/
def CopyOut (f : FileG) (w : World) (e : Ending) (w' : World) : Prop := ∃ a b c d, e = .returned (.agg #[.string f.mo, .string f.go, a, b, c, d]) ∧ RAcc reqR 50 w w' a f.reqs ∧ RAcc repR 56 w w' b f.reps ∧ RAcc modR 41 w w' c f.excs ∧ RAcc retR 58 w w' d f.rets

set_option maxRecDepth 100000 in
set_option maxHeartbeats 4000000 in
theorem copied_file (f : FileG) (n1 : f.reqs.length ≤ 1000) (n2 : f.reps.length ≤ 1000) (n3 : f.excs.length ≤ 1000) (n4 : f.rets.length ≤ 1000) (a b c d : Value) (w : World) (hF : FileAt w a b c d f) :
    Calls Tryz.prog 20 #[.agg #[.string f.mo, .string f.go, a, b, c, d]] w (CopyOut f w) := by
  obtain ⟨mo, go, reqs, reps, excs, rets⟩ := f
  obtain ⟨hr, hp, hx, ht⟩ := hF
  dsimp only at *
  obtain ⟨ra, rc, rfl⟩ := hr.form
  obtain ⟨pa, pc, rfl⟩ := hp.form
  obtain ⟨xa, xc, rfl⟩ := hx.form
  obtain ⟨ta, tc, rfl⟩ := ht.form
  have HR := Lib.hid hr
  have HP := Lib.hid hp
  have HX := Lib.hid hx
  have HT := Lib.hid ht
  clear hr hp hx ht
  have hA := (GBlk.new w 27 #[.string mo, .string go, .slice ra reqs.length rc, .slice pa reps.length pc, .slice xa excs.length xc, .slice ta rets.length tc]).alloc (.cells #[.string ⟨#[]⟩, .string ⟨#[]⟩, .slice none 0 0, .slice none 0 0, .slice none 0 0, .slice none 0 0] 27)
  have hZ := GBlk.new (w.alloc (.cells #[.string mo, .string go, .slice ra reqs.length rc, .slice pa reps.length pc, .slice xa excs.length xc, .slice ta rets.length tc] 27)) 27 #[.string ⟨#[]⟩, .string ⟨#[]⟩, .slice none 0 0, .slice none 0 0, .slice none 0 0, .slice none 0 0]
  rw [World.size_alloc] at hZ
  have hB := ((Below.refl w.heap.size w).alloc (Nat.le_refl _) (.cells #[.string mo, .string go, .slice ra reqs.length rc, .slice pa reps.length pc, .slice xa excs.length xc, .slice ta rets.length tc] 27)).alloc (by simp) (.cells #[.string ⟨#[]⟩, .string ⟨#[]⟩, .slice none 0 0, .slice none 0 0, .slice none 0 0, .slice none 0 0] 27)
  have HY := Lib.hid (show w.heap.size ≤ w.heap.size + 1 by omega)
  go_enter Tryz.func20, Tryz.ntmps20
  go_wp2_with fail
  generalize (w.alloc (.cells #[.string mo, .string go, .slice ra reqs.length rc, .slice pa reps.length pc, .slice xa excs.length xc, .slice ta rets.length tc] 27)).alloc (.cells #[.string ⟨#[]⟩, .string ⟨#[]⟩, .slice none 0 0, .slice none 0 0, .slice none 0 0, .slice none 0 0] 27) = w0 at *
  refine (newReqs_any _ reqs _ (HR.out.below hB) (by omega)).mono ?_
  rintro _ w1 ⟨A0, c0, rfl, hn⟩
  have hacc0 := hn.since hB
  replace hB := hB.trans (hn.below.mono hB.size)
  replace hA := hA.below hn.below
  replace hZ := hZ.below hn.below
  clear hn
  have kc : w1.cell? ⟨w.heap.size, 2, none⟩ = some (.slice ra reqs.length rc) := hA.cell 2
  have kf := hA.frozen 2
  have sA := hA.set 2 (.slice A0 reqs.length c0)
  have sZ := hZ.setOther (B' := w.heap.size) (i := 2) (u := .slice A0 reqs.length c0) (by omega)
  have sB := hB.setCell (p := ⟨w.heap.size, 2, none⟩) (Nat.le_refl _) (.slice A0 reqs.length c0)
  have shacc0 := hacc0.set (i := 2) (u := .slice A0 reqs.length c0) hA (by decide) (Nat.le_refl _)
  have kn : (w1.setCell ⟨w.heap.size, 2, none⟩ (.slice A0 reqs.length c0)).cell? ⟨w.heap.size, 3, none⟩ = some (.slice pa reps.length pc) := sA.cell 3
  go_wp2_with fail
  clear kc kf kn hA hZ hB hacc0
  generalize w1.setCell ⟨w.heap.size, 2, none⟩ (.slice A0 reqs.length c0) = x1 at *
  have hA := sA
  clear sA
  have hZ := sZ
  clear sZ
  have hB := sB
  clear sB
  have hacc0 := shacc0
  clear shacc0
  refine (newReps_any _ reps _ (HP.out.below hB) (by omega)).mono ?_
  rintro _ w2 ⟨A1, c1, rfl, hn⟩
  replace hacc0 := hacc0.call hn.below
  have hacc1 := hn.since hB
  replace hB := hB.trans (hn.below.mono hB.size)
  replace hA := hA.below hn.below
  replace hZ := hZ.below hn.below
  clear hn
  have kc : w2.cell? ⟨w.heap.size, 3, none⟩ = some (.slice pa reps.length pc) := hA.cell 3
  have kf := hA.frozen 3
  have sA := hA.set 3 (.slice A1 reps.length c1)
  have sZ := hZ.setOther (B' := w.heap.size) (i := 3) (u := .slice A1 reps.length c1) (by omega)
  have sB := hB.setCell (p := ⟨w.heap.size, 3, none⟩) (Nat.le_refl _) (.slice A1 reps.length c1)
  have shacc0 := hacc0.set (i := 3) (u := .slice A1 reps.length c1) hA (by decide) (Nat.le_refl _)
  have shacc1 := hacc1.set (i := 3) (u := .slice A1 reps.length c1) hA (by decide) (Nat.le_refl _)
  have kn : (w2.setCell ⟨w.heap.size, 3, none⟩ (.slice A1 reps.length c1)).cell? ⟨w.heap.size, 4, none⟩ = some (.slice xa excs.length xc) := sA.cell 4
  go_wp2_with fail
  clear kc kf kn hA hZ hB hacc0 hacc1
  generalize w2.setCell ⟨w.heap.size, 3, none⟩ (.slice A1 reps.length c1) = x2 at *
  have hA := sA
  clear sA
  have hZ := sZ
  clear sZ
  have hB := sB
  clear sB
  have hacc0 := shacc0
  clear shacc0
  have hacc1 := shacc1
  clear shacc1
  refine (newMods_any _ excs _ (HX.out.below hB) (by omega)).mono ?_
  rintro _ w3 ⟨A2, c2, rfl, hn⟩
  replace hacc0 := hacc0.call hn.below
  replace hacc1 := hacc1.call hn.below
  have hacc2 := hn.since hB
  replace hB := hB.trans (hn.below.mono hB.size)
  replace hA := hA.below hn.below
  replace hZ := hZ.below hn.below
  clear hn
  have kc : w3.cell? ⟨w.heap.size, 4, none⟩ = some (.slice xa excs.length xc) := hA.cell 4
  have kf := hA.frozen 4
  have sA := hA.set 4 (.slice A2 excs.length c2)
  have sZ := hZ.setOther (B' := w.heap.size) (i := 4) (u := .slice A2 excs.length c2) (by omega)
  have sB := hB.setCell (p := ⟨w.heap.size, 4, none⟩) (Nat.le_refl _) (.slice A2 excs.length c2)
  have shacc0 := hacc0.set (i := 4) (u := .slice A2 excs.length c2) hA (by decide) (Nat.le_refl _)
  have shacc1 := hacc1.set (i := 4) (u := .slice A2 excs.length c2) hA (by decide) (Nat.le_refl _)
  have shacc2 := hacc2.set (i := 4) (u := .slice A2 excs.length c2) hA (by decide) (Nat.le_refl _)
  have kn : (w3.setCell ⟨w.heap.size, 4, none⟩ (.slice A2 excs.length c2)).cell? ⟨w.heap.size, 5, none⟩ = some (.slice ta rets.length tc) := sA.cell 5
  go_wp2_with fail
  clear kc kf kn hA hZ hB hacc0 hacc1 hacc2
  generalize w3.setCell ⟨w.heap.size, 4, none⟩ (.slice A2 excs.length c2) = x3 at *
  have hA := sA
  clear sA
  have hZ := sZ
  clear sZ
  have hB := sB
  clear sB
  have hacc0 := shacc0
  clear shacc0
  have hacc1 := shacc1
  clear shacc1
  have hacc2 := shacc2
  clear shacc2
  refine (newRets_any _ rets _ (HT.out.below hB) (by omega)).mono ?_
  rintro _ w4 ⟨A3, c3, rfl, hn⟩
  replace hacc0 := hacc0.call hn.below
  replace hacc1 := hacc1.call hn.below
  replace hacc2 := hacc2.call hn.below
  have hacc3 := hn.since hB
  replace hB := hB.trans (hn.below.mono hB.size)
  replace hA := hA.below hn.below
  replace hZ := hZ.below hn.below
  clear hn
  have kc : w4.cell? ⟨w.heap.size, 5, none⟩ = some (.slice ta rets.length tc) := hA.cell 5
  have kf := hA.frozen 5
  have sA := hA.set 5 (.slice A3 rets.length c3)
  have sZ := hZ.setOther (B' := w.heap.size) (i := 5) (u := .slice A3 rets.length c3) (by omega)
  have sB := hB.setCell (p := ⟨w.heap.size, 5, none⟩) (Nat.le_refl _) (.slice A3 rets.length c3)
  have shacc0 := hacc0.set (i := 5) (u := .slice A3 rets.length c3) hA (by decide) (Nat.le_refl _)
  have shacc1 := hacc1.set (i := 5) (u := .slice A3 rets.length c3) hA (by decide) (Nat.le_refl _)
  have shacc2 := hacc2.set (i := 5) (u := .slice A3 rets.length c3) hA (by decide) (Nat.le_refl _)
  have shacc3 := hacc3.set (i := 5) (u := .slice A3 rets.length c3) hA (by decide) (Nat.le_refl _)
  have g0 : (w4.setCell ⟨w.heap.size, 5, none⟩ (.slice A3 rets.length c3)).cell? ⟨w.heap.size, 0, none⟩ = some (.string mo) := sA.cell 0
  have g1 : (w4.setCell ⟨w.heap.size, 5, none⟩ (.slice A3 rets.length c3)).cell? ⟨w.heap.size, 1, none⟩ = some (.string go) := sA.cell 1
  have g2 : (w4.setCell ⟨w.heap.size, 5, none⟩ (.slice A3 rets.length c3)).cell? ⟨w.heap.size, 2, none⟩ = some (.slice A0 reqs.length c0) := sA.cell 2
  have g3 : (w4.setCell ⟨w.heap.size, 5, none⟩ (.slice A3 rets.length c3)).cell? ⟨w.heap.size, 3, none⟩ = some (.slice A1 reps.length c1) := sA.cell 3
  have g4 : (w4.setCell ⟨w.heap.size, 5, none⟩ (.slice A3 rets.length c3)).cell? ⟨w.heap.size, 4, none⟩ = some (.slice A2 excs.length c2) := sA.cell 4
  have g5 : (w4.setCell ⟨w.heap.size, 5, none⟩ (.slice A3 rets.length c3)).cell? ⟨w.heap.size, 5, none⟩ = some (.slice A3 rets.length c3) := sA.cell 5
  have z0 : (w4.setCell ⟨w.heap.size, 5, none⟩ (.slice A3 rets.length c3)).cell? ⟨w.heap.size + 1, 0, none⟩ = some (.string ⟨#[]⟩) := sZ.cell 0
  have z1 : (w4.setCell ⟨w.heap.size, 5, none⟩ (.slice A3 rets.length c3)).cell? ⟨w.heap.size + 1, 1, none⟩ = some (.string ⟨#[]⟩) := sZ.cell 1
  have z2 : (w4.setCell ⟨w.heap.size, 5, none⟩ (.slice A3 rets.length c3)).cell? ⟨w.heap.size + 1, 2, none⟩ = some (.slice none 0 0) := sZ.cell 2
  have z3 : (w4.setCell ⟨w.heap.size, 5, none⟩ (.slice A3 rets.length c3)).cell? ⟨w.heap.size + 1, 3, none⟩ = some (.slice none 0 0) := sZ.cell 3
  have z4 : (w4.setCell ⟨w.heap.size, 5, none⟩ (.slice A3 rets.length c3)).cell? ⟨w.heap.size + 1, 4, none⟩ = some (.slice none 0 0) := sZ.cell 4
  have z5 : (w4.setCell ⟨w.heap.size, 5, none⟩ (.slice A3 rets.length c3)).cell? ⟨w.heap.size + 1, 5, none⟩ = some (.slice none 0 0) := sZ.cell 5
  have f0 := sZ.frozen 0
  have f1 := sZ.frozen 1
  have f2 := sZ.frozen 2
  have f3 := sZ.frozen 3
  have f4 := sZ.frozen 4
  have f5 := sZ.frozen 5
  go_wp2
  have hS6 := sZ.six (.string mo) (.string go) (.slice A0 reqs.length c0) (.slice A1 reps.length c1) (.slice A2 excs.length c2) (.slice A3 rets.length c3)
  have r0 := shacc0.six sZ (by decide) HY.out (.string mo) (.string go) (.slice A0 reqs.length c0) (.slice A1 reps.length c1) (.slice A2 excs.length c2) (.slice A3 rets.length c3)
  have r1 := shacc1.six sZ (by decide) HY.out (.string mo) (.string go) (.slice A0 reqs.length c0) (.slice A1 reps.length c1) (.slice A2 excs.length c2) (.slice A3 rets.length c3)
  have r2 := shacc2.six sZ (by decide) HY.out (.string mo) (.string go) (.slice A0 reqs.length c0) (.slice A1 reps.length c1) (.slice A2 excs.length c2) (.slice A3 rets.length c3)
  have r3 := shacc3.six sZ (by decide) HY.out (.string mo) (.string go) (.slice A0 reqs.length c0) (.slice A1 reps.length c1) (.slice A2 excs.length c2) (.slice A3 rets.length c3)
  have y0 := hS6.cell 0
  have y1 := hS6.cell 1
  have y2 := hS6.cell 2
  have y3 := hS6.cell 3
  have y4 := hS6.cell 4
  have y5 := hS6.cell 5
  refine bodyPost_ret (v := .agg #[.string mo, .string go, .slice A0 reqs.length c0, .slice A1 reps.length c1, .slice A2 excs.length c2, .slice A3 rets.length c3]) (by simp [results, Tryz.results20, go_sem, y0, y1, y2, y3, y4, y5]) rfl ⟨_, _, _, _, rfl, r0, r1, r2, r3⟩
end Go.Proofs.YtmdlmjcejeejfaaGreatDoor

/-
  A record of a list of one's own, put anew; what comes of a require, plain.
-/
namespace Go.Proofs.YtmdlmjcejeejfaaGreatDoor
open Go.RowKit Go.Shelf

section
variable {α : Type} {R : Rec α} {et : TypeId}
theorem Rec.flat_set {j : Nat} {u : Value} (hj : j < R.k) : ∀ (xs : List α) (i : Nat) (hi : i < xs.length) (y : α), R.cells y = (R.cells xs[i]).set j u → R.flat (xs.set i y) = (R.flat xs).set (i * R.k + j) u
  | x :: xs, 0, _, y, h => by
    simp only [List.getElem_cons_zero] at h
    rw [List.set_cons_zero, R.flat_cons, R.flat_cons, h, Nat.zero_mul, Nat.zero_add, List.set_append_left _ _ (by rw [R.len]; exact hj)]
  | x :: xs, i + 1, hi, y, h => by
    have ih := Rec.flat_set hj xs i (by simpa using hi) y (by simpa using h)
    rw [List.set_cons_succ, R.flat_cons, R.flat_cons, ih, List.set_append_right _ _ (by rw [R.len, Nat.add_mul]; omega), R.len, show (i + 1) * R.k + j - R.k = i * R.k + j by rw [Nat.add_mul]; omega]
theorem ROwn.spot {w : World} {base : Nat} {A : Option Addr} {n c : Nat} {xs : List α} (h : ROwn R et w base (.slice A n c) xs) (hne : xs ≠ []) :
    ∃ g cur, A = some ⟨g, 0, none⟩ ∧ n = xs.length ∧ base ≤ g ∧ GBlk w g et cur ∧ xs.length ≤ c ∧ RAt R w g 0 xs := by
  obtain ⟨hl, ⟨e, h0⟩ | ⟨g, cap, cur, e, hg, hh, hle, hm, hs, ht⟩⟩ := h
  · exact absurd (List.length_eq_zero_iff.1 h0) hne
  · injection e with e1 e2 e3
    subst e1 e2 e3
    refine ⟨g, cur, rfl, rfl, hg, hh, hle, RAt.mk fun j u hu => ?_⟩
    have hj : j < xs.length * R.k := by rw [← R.flat_len]; exact (List.getElem?_eq_some_iff.1 hu).1
    have : (cur.toList.take (xs.length * R.k))[j]? = some u := by rw [ht]; exact hu
    rw [List.getElem?_take_of_lt hj, Array.getElem?_toList] at this
    simp [World.cell?, hh, this]
theorem ROwn.put {w : World} {base g c i j : Nat} {xs : List α} {y : α} {u : Value} (h : ROwn R et w base (.slice (some ⟨g, 0, none⟩) xs.length c) xs) (hi : i < xs.length) (hj : j < R.k) (hy : R.cells y = (R.cells xs[i]).set j u) :
    ROwn R et (w.setCell ⟨g, i * R.k + j, none⟩ u) base (.slice (some ⟨g, 0, none⟩) xs.length c) (xs.set i y) := by
  obtain ⟨hl, ⟨e, h0⟩ | ⟨g', cap, cur, e, hg, hh, hle, hm, hs, ht⟩⟩ := h
  · cases e
  · injection e with e1 e2 e3
    injection e1 with e1
    injection e1 with e1
    subst e1 e3
    unfold ROwn
    rw [List.length_set, Rec.flat_set hj xs i hi y hy]
    refine ⟨by rw [List.length_set]; exact hl, .inr ⟨g, c, cur.setIfInBounds (i * R.k + j) u, rfl, hg, ?_, hle, hm, by rw [Array.size_setIfInBounds]; exact hs, ?_⟩⟩
    · simp [World.setCell, Array.getElem?_modify, hh]
    · rw [Array.toList_setIfInBounds, List.take_set, ht]
theorem RAcc.put {w0 w : World} {g c i j : Nat} {xs : List α} {y : α} {u : Value} (h : RAcc R et w0 w (.slice (some ⟨g, 0, none⟩) xs.length c) xs) (hi : i < xs.length) (hj : j < R.k) (hy : R.cells y = (R.cells xs[i]).set j u) :
    RAcc R et w0 (w.setCell ⟨g, i * R.k + j, none⟩ u) (.slice (some ⟨g, 0, none⟩) xs.length c) (xs.set i y) := by
  refine ⟨h.own.put hi hj hy, h.below.setCell (p := ⟨g, _, none⟩) ?_ _⟩
  exact h.own.block g rfl
/-- Another list's record is put anew. -/
theorem RAcc.putOther {β : Type} {Q : Rec β} {et' : TypeId} {w0 w : World} {g i : Nat} {cur : Array Value} {v : Value} {xs : List β} {u : Value} (h : RAcc Q et' w0 w v xs) (hb : GBlk w g et cur) (hne : et ≠ et') (hB : w0.heap.size ≤ g) : RAcc Q et' w0 (w.setCell ⟨g, i, none⟩ u) v xs := h.set hb hne hB
end

theorem idxL_at {α : Type} {p : α → Bool} : ∀ {xs : List α} {k : Nat} (_ : idxL p xs = k) (hk : k < xs.length), p xs[k] = true
  | [], k, h, hk => absurd hk (Nat.not_lt_zero _)
  | x :: r, k, h, hk => by
    rw [show idxL p (x :: r) = if p x then 0 else if idxL p r < 0 then -1 else idxL p r + 1 from rfl] at h
    cases hx : p x
    · rw [hx] at h
      simp only [Bool.false_eq_true, if_false] at h
      split at h
      · omega
      · obtain ⟨k', rfl⟩ : ∃ k', k = k' + 1 := ⟨k - 1, by omega⟩
        simp only [List.getElem_cons_succ]
        exact idxL_at (by omega) (by simpa using hk)
    · rw [hx, if_pos rfl] at h
      obtain rfl : k = 0 := by omega
      exact hx

def zeroG : FileG := ⟨⟨#[]⟩, ⟨#[]⟩, [], [], [], []⟩
def FileG.with (f : FileG) (l : List ReqB) : FileG := ⟨f.mo, f.go, l, f.reps, f.excs, f.rets⟩
def lift (m : ModB) (r : ReqB) : ReqB := if sameP r m.1 then ((r.1.1, maxS r.1.2 m.2), r.2) else r
def raiseL (xs : List ReqB) (m : ModB) : List ReqB := if xs.any (fun a => sameP a m.1) then xs.map (lift m) else xs ++ [(m, false)]
def reqO (f : FileG) (m : ModB) : FileG × Int :=
  if chkE f = 0 then (if chkE (f.with [(m, false)]) = 0 then (f.with (raiseL f.reqs m), 0) else (zeroG, chkE (f.with [(m, false)]))) else (zeroG, chkE f)
theorem reqO_1 {f : FileG} {m : ModB} (h : ¬ chkE f = 0) : reqO f m = (zeroG, chkE f) := by simp [reqO, h]
theorem reqO_2 {f : FileG} {m : ModB} (h : chkE f = 0) (k : ¬ chkE (f.with [(m, false)]) = 0) : reqO f m = (zeroG, chkE (f.with [(m, false)])) := by simp [reqO, h, k]
theorem reqO_3 {f : FileG} {m : ModB} (h : chkE f = 0) (k : chkE (f.with [(m, false)]) = 0) : reqO f m = (f.with (raiseL f.reqs m), 0) := by simp [reqO, h, k]

/-- Each path once. -/
def Once (xs : List ReqB) : Prop := ∀ k (hk : k < xs.length), (xs.take k).any (fun a => sameP a xs[k].1.1) = false
theorem chk_reqs {f : FileG} (h : chkE f = 0) : ∀ k (hk : k < f.reqs.length), reqE f.reqs[k] (f.reqs.take k) = 0 := by
  have h1 := (allE_nought.1 h).1
  have h2 := (allE_nought.1 h1).1
  have h3 := (allE_nought.1 h2).1
  exact (allE_nought.1 h3).2
theorem reqE_once {x : ReqB} {xs : List ReqB} (h : reqE x xs = 0) : xs.any (fun a => sameP a x.1.1) = false := by
  rw [reqE, orL_two, orI_zero] at h
  cases e : xs.any (fun a => sameP a x.1.1)
  · rfl
  · rw [e] at h; exact absurd h.2 (by decide)
theorem chk_once {f : FileG} (h : chkE f = 0) : Once f.reqs := fun k hk => reqE_once (chk_reqs h k hk)
theorem sameP_eq {a : ReqB} {p : ByteArray} (h : sameP a p = true) : a.1.1.toList = p.toList := eq_of_beq h
theorem raise_set {xs : List ReqB} {m : ModB} (ho : Once xs) {k : Nat} (hk : k < xs.length) (h : idxL (fun a => sameP a m.1) xs = k) : raiseL xs m = xs.set k ((xs[k].1.1, maxS xs[k].1.2 m.2), xs[k].2) := by
  have hany : xs.any (fun a => sameP a m.1) = true := by rw [← idxL_any, h]; simp
  have hat : sameP xs[k] m.1 = true := idxL_at h hk
  rw [raiseL, if_pos hany]
  apply List.ext_getElem
  · simp
  · intro j h1 h2
    simp only [List.length_map] at h1
    rw [List.getElem_map, List.getElem_set]
    by_cases e : k = j
    · subst e
      rw [if_pos rfl, lift, if_pos hat]
    · rw [if_neg e, lift, if_neg]
      intro hs
      have e1 := sameP_eq hat
      have e2 := sameP_eq hs
      rcases Nat.lt_or_gt_of_ne e with hlt | hlt
      · have := List.any_eq_false.1 (ho j h1) xs[k] (List.mem_take_iff_getElem.2 ⟨k, by omega, rfl⟩)
        apply this
        simp only [sameP]
        rw [e1, ← e2]; simp
      · have := List.any_eq_false.1 (ho k hk) xs[j] (List.mem_take_iff_getElem.2 ⟨j, by omega, rfl⟩)
        apply this
        simp only [sameP]
        rw [e2, ← e1]; simp
theorem raise_new {xs : List ReqB} {m : ModB} (h : idxL (fun a => sameP a m.1) xs < 0) : raiseL xs m = xs ++ [(m, false)] := by
  have hany : xs.any (fun a => sameP a m.1) = false := by rw [← idxL_any]; simp; omega
  rw [raiseL, hany]; rfl
end Go.Proofs.YtmdlmjcejeejfaaGreatDoor
