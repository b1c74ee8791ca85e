/-
  The iterator over what stands between the dots of a text (semver.identifiers), and 'every' over it.
-/
import Derived.Test.YtmdlmjcejeejfaaGreatDoorP1
namespace Go.Proofs.YtmdlmjcejeejfaaGreatDoor
open Go.RowKit Go.Shelf
attribute [local go_sem] Oper.semAt_some

theorem grown_of_below {w w' : World} (h : Below w.heap.size w w') : w.grownBy w' none := ⟨h.os, h.tape, h.output, h.size, fun k hk _ => h.block k hk⟩
theorem keeps_of_below {w w' : World} (h : Below w.heap.size w w') : KeepsOthers w w' := KeepsOthers.of_grownBy (grown_of_below h) (by intro j o e; cases e)

def idsS (s : ByteArray) (h : s.size ≤ 20400) : List Str := (partsD 46 s).attachWith (fun x => x.size ≤ 20400) (fun _ hx => Nat.le_trans (partsD_size hx) h)
theorem idsS_map (s : ByteArray) (h : s.size ≤ 20400) : (idsS s h).map (·.1) = partsD 46 s := by simp [idsS]
theorem ids_prefix {a : List Str} {s : ByteArray} {h : s.size ≤ 20400} {r : List ByteArray} (e : a.map (·.1) ++ r = partsD 46 s) : a <+: idsS s h := by
  rw [← idsS_map s h] at e
  obtain ⟨b, c, hbc, hb, _⟩ := List.map_eq_append_iff.1 e.symm
  exact ⟨c, by rw [hbc, ← str_inj hb]⟩

theorem cutD_none (d : UInt8) (s : ByteArray) (w : World) (hs : s.size ≤ 20400) (h : Lib.indexByte s.data.toList d = -1) :
    Calls Tryz.prog 87 #[.string s, .string ⟨#[d]⟩] w fun e w' => e = .returned (.tuple #[.string s, .string ⟨#[]⟩, .bool false]) ∧ ∃ n, w' = w.drewN n := by
  have := cutD_any d s w hs
  rwa [cutD_no h] at this
theorem cutD_some (d : UInt8) (s : ByteArray) (w : World) (hs : s.size ≤ 20400) {k : Nat} (h : Lib.indexByte s.data.toList d = k) :
    Calls Tryz.prog 87 #[.string s, .string ⟨#[d]⟩] w fun e w' => e = .returned (.tuple #[.string (s.extract 0 k), .string (s.extract (k + 1) s.size), .bool true]) ∧ ∃ n, w' = w.drewN n := by
  have := cutD_any d s w hs
  rwa [cutD_yes h] at this

set_option maxHeartbeats 400000 in
theorem identifiers_any (s : ByteArray) (w : World) :
    Calls Tryz.prog 123 #[.string s] w fun e w' => e = .returned (.func (.func 172) #[] #[.pointer (some ⟨w.heap.size, 0, none⟩)]) ∧ w' = w.alloc (.cells #[.string s] 9) := by
  go_enter Tryz.func123, Tryz.ntmps123
  go_wp2
  go_ret
  exact ⟨rfl, rfl⟩

set_option maxRecDepth 100000 in
set_option maxHeartbeats 1000000 in
theorem identifiers1_in (n : Nat) (hn : 1 ≤ n) (l Bn : Nat) (s : ByteArray) (hs : s.size ≤ 20400) (J Jx : List Str → World → Prop)
    (hY : ∀ (pre : List Str) (x : Str) W, J pre W → pre.length < (partsD 46 s).length → YieldAt Fence.wide (n - 1) Tryz.prog l #[.string x.1] W fun e W' =>
      (e = .returned (.bool true) ∧ J (pre ++ [x]) W' ∧ True) ∨ (e = .returned (.bool false) ∧ Jx (pre ++ [x]) W'))
    (W : World) (hJ : AbidesFrom W.heap.size J) (hBn : W.cell? ⟨Bn, 0, none⟩ = some (.string s)) (h0 : J [] W) :
    CallsIn Fence.wide n Tryz.prog 172 #[.func (.yield l) #[] #[], .pointer (some ⟨Bn, 0, none⟩)] W fun e W' => (∃ v, e = .returned v) ∧
      ((∃ ys, ys = idsS s hs ∧ J ys W') ∨ (∃ pre, pre <+: idsS s hs ∧ Jx pre W')) := by
  refine callsIn_of_wp Tryz.func172 rfl trivial ?_ rfl
  simp only [Tryz.ntmps172, List.size_toArray, List.length_cons, List.length_nil, Nat.reduceAdd, Nat.reduceSub, Array.replicate_succ, Array.replicate_zero, List.push_toArray, List.append_toArray, List.nil_append, List.cons_append]
  gi_wp2
  gi_loopw [3, 4] (fun r m wr => ∃ (pre : List Str), J pre wr ∧ ((m = .bool true ∧ ∃ rest : ByteArray, r = .string rest ∧ rest.size ≤ 20400 ∧ pre.map (·.1) ++ partsD 46 rest = partsD 46 s) ∨ (m = .bool false ∧ pre.map (·.1) = partsD 46 s)))
    (fun r m _ => leftOf r m)
  case atStart => exact ⟨[], h0, .inl ⟨rfl, s, rfl, hs, rfl⟩⟩
  case round =>
    clear hBn
    obtain ⟨pre, hJs, ⟨rfl, rest, rfl, hrest, hp⟩ | ⟨rfl, hp⟩⟩ := hrel
    · have HP := Lib.hid hp
      have hpl : pre.length < (partsD 46 s).length := by
        rw [← HP.out, List.length_append, List.length_map]
        have := List.length_pos_iff.2 (sp_ne 46 rest.data.toList)
        simp only [partsD, List.length_map]; omega
      have hlen := Lib.hid hpl
      clear hp hpl
      rcases index_casesD 46 rest with h | ⟨k, h⟩
      · have C := fun w => cutD_none 46 rest w hrest h
        have HN := Lib.hid (partsD_none h)
        have HC := Lib.hid C
        clear h C
        gi_wp2_with fail
        refine ⟨trivial, ?_⟩
        refine (callsIn_wide.2 (HC.out _)).mono ?_
        rintro _ w1 ⟨rfl, n1, rfl⟩
        have hJ1 : J pre (wr.drewN n1) := hJ pre wr _ none hJs (grownBy_drewN _ _) (fun r e => by cases e)
        obtain ⟨fn, tmps, assign, body, hy, hR⟩ := hY pre ⟨rest, hrest⟩ (wr.drewN n1) hJ1 hlen.out
        dsimp only at hy
        gi_wp2
        refine hR.mono ?_
        rintro e W3 (⟨rfl, hJ3, _⟩ | ⟨rfl, hJx3⟩)
        · gi_wp2
          go_roundw
          case rel => exact ⟨pre ++ [⟨rest, hrest⟩], hJ3, .inr ⟨rfl, by rw [← HP.out, HN.out]; simp⟩⟩
          case measure => simp [leftOf]
        · gi_wp2
          refine bodyPost_ret (results_none rfl _ _ _) rfl ?_
          exact ⟨⟨_, rfl⟩, .inr ⟨pre ++ [⟨rest, hrest⟩], ids_prefix (r := []) (by rw [← HP.out, HN.out]; simp), hJx3⟩⟩
      · have C := fun w => cutD_some 46 rest w hrest h
        obtain ⟨hk, HN'⟩ := partsD_cut h
        have HN := Lib.hid HN'
        have HC := Lib.hid C
        clear h C HN'
        have hx1 : (rest.extract 0 k).size ≤ 20400 := Nat.le_trans (extract_size_le _ _ _) (by omega)
        have hx2 : (rest.extract (k + 1) rest.size).size ≤ rest.size - (k + 1) := extract_size_le _ _ _
        gi_wp2_with fail
        refine ⟨trivial, ?_⟩
        refine (callsIn_wide.2 (HC.out _)).mono ?_
        rintro _ w1 ⟨rfl, n1, rfl⟩
        have hJ1 : J pre (wr.drewN n1) := hJ pre wr _ none hJs (grownBy_drewN _ _) (fun r e => by cases e)
        obtain ⟨fn, tmps, assign, body, hy, hR⟩ := hY pre ⟨rest.extract 0 k, hx1⟩ (wr.drewN n1) hJ1 hlen.out
        dsimp only at hy
        gi_wp2
        refine hR.mono ?_
        rintro e W3 (⟨rfl, hJ3, _⟩ | ⟨rfl, hJx3⟩)
        · gi_wp2
          go_roundw
          case rel => exact ⟨pre ++ [⟨rest.extract 0 k, hx1⟩], hJ3, .inl ⟨rfl, _, rfl, by omega, by rw [← HP.out, HN.out]; simp⟩⟩
          case measure => simp only [leftOf]; omega
        · gi_wp2
          refine bodyPost_ret (results_none rfl _ _ _) rfl ?_
          exact ⟨⟨_, rfl⟩, .inr ⟨pre ++ [⟨rest.extract 0 k, hx1⟩], ids_prefix (r := partsD 46 (rest.extract (k + 1) rest.size)) (by rw [← HP.out, HN.out]; simp), hJx3⟩⟩
    · have HP := Lib.hid hp
      clear hp
      gi_wp2
      go_end0
      exact ⟨⟨_, rfl⟩, .inl ⟨pre, str_inj (by rw [idsS_map, HP.out]), hJs⟩⟩

theorem identifiers_stops (n : Nat) (hn : 1 ≤ n) (Bn : Nat) (s : ByteArray) (hs : s.size ≤ 20400) (w : World) (hBn : Bn < w.heap.size) (hc : w.cell? ⟨Bn, 0, none⟩ = some (.string s)) :
    SeqStopsK Fence.wide n Tryz.prog 172 #[.pointer (some ⟨Bn, 0, none⟩)] (fun x : Str => #[Value.string x.1]) (fun _ _ => True) (fun ys => ys = idsS s hs) (fun pre => pre <+: idsS s hs) (partsD 46 s).length w := fun l J Jx W hW hJ _ hY h0 =>
  identifiers1_in n hn l Bn s hs J Jx hY W hJ ((hW.cell (p := ⟨Bn, 0, none⟩) hBn).trans hc) h0

/-- A test of identifiers, as a function of the program. -/
structure IdTest (g : Nat) (p : List UInt8 → Bool) : Prop where
  enters : ∀ args w, (callFunc g args).run Tryz.prog w = .ok (.enter g args) w
  tells : ∀ (s : ByteArray) (w : World), s.size ≤ 20400 → Calls Tryz.prog g #[.string s] w fun e w' => e = .returned (.bool (p s.data.toList)) ∧ Below w.heap.size w w'
def everyD (s : ByteArray) (p : List UInt8 → Bool) : Bool := (sp 46 s.data.toList).all p
theorem everyD_parts (s : ByteArray) (p : List UInt8 → Bool) : everyD s p = (partsD 46 s).all fun x => p x.data.toList := by
  simp only [everyD, partsD, List.all_map]; rfl
theorem everyD_yes {s : ByteArray} {hs : s.size ≤ 20400} {p : List UInt8 → Bool} (h : ∀ y ∈ idsS s hs, p y.1.data.toList = true) : everyD s p = true := by
  rw [everyD_parts, ← idsS_map s hs, List.all_eq_true]
  intro x hx
  obtain ⟨y, hy, rfl⟩ := List.mem_map.1 hx
  exact h y hy
theorem everyD_no {s : ByteArray} {hs : s.size ≤ 20400} {p : List UInt8 → Bool} {pre : List Str} (hp : pre <+: idsS s hs) {y : Str} (hy : y ∈ pre) (h : p y.1.data.toList = false) : everyD s p = false := by
  rw [everyD_parts, ← idsS_map s hs, List.all_eq_false]
  exact ⟨y.1, List.mem_map.2 ⟨y, hp.subset hy, rfl⟩, by simp [h]⟩

set_option maxRecDepth 100000 in
set_option maxHeartbeats 2000000 in
theorem everyD_any (g : Nat) (p : List UInt8 → Bool) (hg : IdTest g p) (s : ByteArray) (hs : s.size ≤ 20400) (w : World) :
    Calls Tryz.prog 118 #[.string s, .func (.func g) #[] #[]] w fun e w' => e = .returned (.bool (everyD s p)) ∧ Below w.heap.size w w' := by
  have he := hg.enters
  have ht := Lib.hid hg.tells
  refine (callsIn_wide (n := 4)).1 ?_
  refine callsIn_of_wp_marks Tryz.func118 rfl trivial ?_ rfl
  simp only [Tryz.ntmps118, List.size_toArray, List.length_cons, List.length_nil, Nat.reduceAdd, Nat.reduceSub, Array.replicate_succ, Array.replicate_zero, List.push_toArray, List.append_toArray, List.nil_append, List.cons_append]
  gi_wp2_with (refine ⟨trivial, ?_⟩; gi_at_call 123; refine (callsIn_wide.2 (identifiers_any _ _)).mono ?_; rintro e w' ⟨rfl, rfl⟩)
  have c0 := Boxed.new w 119 (.func (.func g) #[] #[])
  have c1 := Boxed.new (w.alloc (.cells #[.func (.func g) #[] #[]] 119)) 4 (.bool false)
  have c2 := Boxed.new ((w.alloc (.cells #[.func (.func g) #[] #[]] 119)).alloc (.cells #[.bool false] 4)) 9 (.string s)
  simp only [World.size_alloc] at c1 c2
  have hB0 : Below w.heap.size w (((w.alloc (.cells #[.func (.func g) #[] #[]] 119)).alloc (.cells #[.bool false] 4)).alloc (.cells #[.string s] 9)) := (((Below.refl _ w).alloc (Nat.le_refl _) _).alloc (by simp) _).alloc (by simp; omega) _
  refine wpIn_rangeFunc_ownF rfl (by omega) (gf := 172) (lb := #[.pointer (some ⟨w.heap.size + 1 + 1, 0, none⟩)]) rfl trivial (enters_of Tryz.func172 (by kernel_rfl) rfl)
    (identifiers_stops _ (by omega) (w.heap.size + 1 + 1) s hs _ (by simp) c2.cell) (fun _ _ => trivial) (fun _ _ _ _ _ _ _ _ => trivial) (Below.refl _ _) (fun _ => rfl)
    (fun pre W => ((∀ y ∈ pre, p y.1.data.toList = true) ∧ W.cell? ⟨w.heap.size, 0, none⟩ = some (.func (.func g) #[] #[]) ∧ W.cell? ⟨w.heap.size + 1, 0, none⟩ = some (.bool false) ∧ W.frozen? ⟨w.heap.size + 1, 0, none⟩ = false ∧ w.heap.size + 3 ≤ W.heap.size) ∧ Below w.heap.size w W)
    (fun c pre W => (c = .ret ∧ (∃ y ∈ pre, p y.1.data.toList = false) ∧ W.cell? ⟨w.heap.size + 1, 0, none⟩ = some (.bool false)) ∧ Below w.heap.size w W)
    (OwnFrom.and (Own.from (fun s A B row hs hg hr => ⟨hs.1, cell_kept hs.2.1 hg hr, cell_kept hs.2.2.1 hg hr, (frozen_kept hs.2.2.1 hg hr).trans hs.2.2.2.1, Nat.le_trans hs.2.2.2.2 hg.size⟩) _) (ownFrom_below (Nat.le_refl _) (by simp; omega)))
    (fun c => OwnFrom.and (Own.from (fun s A B row hs hg hr => ⟨hs.1, hs.2.1, cell_kept hs.2.2 hg hr⟩) _) (ownFrom_below (Nat.le_refl _) (by simp; omega)))
    ⟨⟨by simp, ((c0.alloc _).alloc _).cell, (c1.alloc _).cell, (c1.alloc _).frozen, by simp⟩, hB0⟩
    (fun x => { tmps := #[.string s, .func (.func g) #[] #[], undef, .pointer (some ⟨w.heap.size, 0, none⟩), .pointer (some ⟨w.heap.size + 1, 0, none⟩), .string x.1, .string s, .func (.func 172) #[] #[.pointer (some ⟨w.heap.size + 1 + 1, 0, none⟩)], .string x.1, undef, undef, undef, undef], defers := [] }) ?assign ?body ?done ?stop
  case assign =>
    intro l x W K hK
    gi_wp2
    exact hK
  case body =>
    rintro l pre x W ⟨⟨hp, hcw, hcr, hfr, hsz⟩, hB⟩ _
    have HP := Lib.hid hp
    clear hp
    gi_wp2_with fail
    refine ⟨trivial, ?_⟩
    refine (CallsIn.inRound l (callsIn_wide.2 (ht.out _ _ x.2))).mono ?_
    rintro _ w' ⟨rfl, hb'⟩
    have hcw' := (hb'.cell (p := ⟨w.heap.size, 0, none⟩) (by simp; omega)).trans hcw
    have hcr' := (hb'.cell (p := ⟨w.heap.size + 1, 0, none⟩) (by simp; omega)).trans hcr
    have hfr' := (hb'.frozen (p := ⟨w.heap.size + 1, 0, none⟩) (by simp; omega)).trans hfr
    have hk' := keeps_of_below hb'
    have hB' := hB.trans (hb'.mono hB.size)
    have hsz' := Nat.le_trans hsz hb'.size
    clear hcw hcr hfr
    cases hx : p x.1.data.toList
    · gi_wp2
      exact ⟨hk'.trans (KeepsOthers.setCell _ _ _), ⟨rfl, ⟨x, List.mem_append.2 (.inr (by simp)), hx⟩, World.cell?_setCell_same' _ _ _ (by rw [hcr']; rfl)⟩, hB'.setCell (p := ⟨w.heap.size + 1, 0, none⟩) (by simp) _⟩
    · gi_wp2
      exact ⟨hk', trivial, ⟨fun y hy => (List.mem_append.1 hy).elim (HP.out y) (fun e => by simp at e; subst e; exact hx), hcw', hcr', hfr', hsz'⟩, hB'⟩
  case done =>
    rintro D ys W hD rfl ⟨⟨hne, _, hcr, hfr, _⟩, hB⟩ hK
    have HN := Lib.hid hne
    clear hne
    gi_wp2
    have hK' := (KeepsOthers.setCell W ⟨w.heap.size + 1, 0, none⟩ (.bool true)).same D _ hK rfl
    refine ⟨by simp, .inl ⟨_, _, rfl, run_takeDeferred hK', ?_⟩⟩
    have hc5 := cell_kept (World.cell?_setCell_same' W ⟨w.heap.size + 1, 0, none⟩ (.bool true) (by rw [hcr]; rfl)) (grownBy_putObj' _ D (.deferred none)) (fun r e => by cases e; exact ⟨_, hK', rfl⟩)
    refine ⟨.bool true, ?_, by rw [everyD_yes HN.out], (hB.setCell (p := ⟨w.heap.size + 1, 0, none⟩) (by simp) _).trans (belowK_b (w := w) (Nat.le_refl _) _ D _ _ (by simp at hD; omega) hK' rfl rfl)⟩
    simp [results, Tryz.f118, go_sem, hc5]
  case stop =>
    rintro D c pre W hD hpre ⟨⟨rfl, ⟨y, hy, hpy⟩, hcr⟩, hB⟩ hK
    have HN := Lib.hid (everyD_no hpre hy hpy)
    clear hpy hpre
    gi_wp2
    refine ⟨by simp, .inl ⟨_, _, rfl, run_takeDeferred hK, ?_⟩⟩
    have hc5 := cell_kept hcr (grownBy_putObj' _ D (.deferred none)) (fun r e => by cases e; exact ⟨_, hK, rfl⟩)
    refine ⟨.bool false, ?_, by rw [HN.out], hB.trans (belowK_b (w := w) (Nat.le_refl _) W D _ _ (by simp at hD; omega) hK rfl rfl)⟩
    simp [results, Tryz.f118, go_sem, hc5]
end Go.Proofs.YtmdlmjcejeejfaaGreatDoor
