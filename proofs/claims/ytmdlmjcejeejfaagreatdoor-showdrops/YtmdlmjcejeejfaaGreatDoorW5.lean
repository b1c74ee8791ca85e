/-
  What ranges over the elements: paths.every with a test of elements; paths.Valid, check, Module, Import.
-/
import Derived.Test.YtmdlmjcejeejfaaGreatDoorW4
namespace Go.Proofs.YtmdlmjcejeejfaaGreatDoor
open Go.RowKit Go.Shelf
attribute [local go_sem] Oper.semAt_some

/-- A test of elements, as a function of the program. -/
structure ElemTest (g : Nat) (p : ByteArray → Bool) : Prop where
  enters : ∀ args w, (callFunc g args).run Tryz.prog w = .ok (.enter g args) w
  tells : ∀ (s : ByteArray) (w : World), s.size ≤ 20400 → Calls Tryz.prog g #[.string s] w fun e w' => e = .returned (.bool (p s)) ∧ w = w'

theorem vetest : ElemTest 178 vElem := ⟨enters_of Tryz.func178 (by kernel_rfl) rfl, fun s w h => velem_any s h w⟩
def everyB (s : ByteArray) (p : ByteArray → Bool) : Bool := (elemsB s).all p
theorem every_yes {s : ByteArray} {hs : s.size ≤ 20400} {p : ByteArray → Bool} (h : ∀ y ∈ elemsS s hs, p y.1 = true) : everyB s p = true := by
  unfold everyB
  rw [← elemsS_map s hs, List.all_eq_true]
  intro x hx
  obtain ⟨y, hy, rfl⟩ := List.mem_map.1 hx
  exact h y hy
theorem every_no {s : ByteArray} {hs : s.size ≤ 20400} {p : ByteArray → Bool} {pre : List Str} (hp : pre <+: elemsS s hs) {y : Str} (hy : y ∈ pre) (h : p y.1 = false) : everyB s p = false := by
  unfold everyB
  rw [← elemsS_map s hs, List.all_eq_false]
  exact ⟨y.1, List.mem_map.2 ⟨y, hp.subset hy, rfl⟩, by simp [h]⟩

set_option maxRecDepth 100000 in
set_option maxHeartbeats 2000000 in
theorem every_any (g : Nat) (p : ByteArray → Bool) (hg : ElemTest g p) (s : ByteArray) (hs : s.size ≤ 20400) (w : World) :
    Calls Tryz.prog 139 #[.string s, .func (.func g) #[] #[]] w fun e w' => e = .returned (.bool (everyB s p)) ∧ Below w.heap.size w w' := by
  have he := hg.enters
  have ht := Lib.hid hg.tells
  refine (callsIn_wide (n := 4)).1 ?_
  refine callsIn_of_wp_marks Tryz.func139 rfl trivial ?_ rfl
  simp only [Tryz.ntmps139, List.size_toArray, List.length_cons, List.length_nil, Nat.reduceAdd, Nat.reduceSub, Array.replicate_succ, Array.replicate_zero, List.push_toArray, List.append_toArray, List.nil_append, List.cons_append]
  gi_wp2_with (refine ⟨trivial, ?_⟩; gi_at_call 109; refine (callsIn_wide.2 (elements_any _ _)).mono ?_; rintro e w' ⟨rfl, rfl⟩)
  have c0 := Boxed.new w 119 (.func (.func g) #[] #[])
  have c1 := Boxed.new (w.alloc (.cells #[.func (.func g) #[] #[]] 119)) 4 (.bool false)
  have c2 := Boxed.new ((w.alloc (.cells #[.func (.func g) #[] #[]] 119)).alloc (.cells #[.bool false] 4)) 9 (.string s)
  simp only [World.size_alloc] at c1 c2
  have hB0 : Below w.heap.size w (((w.alloc (.cells #[.func (.func g) #[] #[]] 119)).alloc (.cells #[.bool false] 4)).alloc (.cells #[.string s] 9)) := (((Below.refl _ w).alloc (Nat.le_refl _) _).alloc (by simp) _).alloc (by simp; omega) _
  refine wpIn_rangeFunc_ownF rfl (by omega) (gf := 162) (lb := #[.pointer (some ⟨w.heap.size + 1 + 1, 0, none⟩)]) rfl trivial (enters_of Tryz.func162 (by kernel_rfl) rfl)
    (elements_stops _ (by omega) (w.heap.size + 1 + 1) s hs _ (by simp) c2.cell) (fun _ _ => trivial) (fun _ _ _ _ _ _ _ _ => trivial) (Below.refl _ _) (fun _ => rfl)
    (fun pre W => ((∀ y ∈ pre, p y.1 = true) ∧ W.cell? ⟨w.heap.size, 0, none⟩ = some (.func (.func g) #[] #[]) ∧ W.cell? ⟨w.heap.size + 1, 0, none⟩ = some (.bool false) ∧ W.frozen? ⟨w.heap.size + 1, 0, none⟩ = false) ∧ Below w.heap.size w W)
    (fun c pre W => (c = .ret ∧ (∃ y ∈ pre, p y.1 = false) ∧ W.cell? ⟨w.heap.size + 1, 0, none⟩ = some (.bool false)) ∧ Below w.heap.size w W)
    (OwnFrom.and (Own.from (fun s A B row hs hg hr => ⟨hs.1, cell_kept hs.2.1 hg hr, cell_kept hs.2.2.1 hg hr, (frozen_kept hs.2.2.1 hg hr).trans hs.2.2.2⟩) _) (ownFrom_below (Nat.le_refl _) (by simp; omega)))
    (fun c => OwnFrom.and (Own.from (fun s A B row hs hg hr => ⟨hs.1, hs.2.1, cell_kept hs.2.2 hg hr⟩) _) (ownFrom_below (Nat.le_refl _) (by simp; omega)))
    ⟨⟨by simp, ((c0.alloc _).alloc _).cell, (c1.alloc _).cell, (c1.alloc _).frozen⟩, hB0⟩
    (fun x => { tmps := #[.string s, .func (.func g) #[] #[], undef, .pointer (some ⟨w.heap.size, 0, none⟩), .pointer (some ⟨w.heap.size + 1, 0, none⟩), .string x.1, .string s, .func (.func 162) #[] #[.pointer (some ⟨w.heap.size + 1 + 1, 0, none⟩)], .string x.1, undef, undef, undef, undef], defers := [] }) ?assign ?body ?done ?stop
  case assign =>
    intro l x W K hK
    gi_wp2
    exact hK
  case body =>
    rintro l pre x W ⟨⟨hp, hcw, hcr, hfr⟩, hB⟩ _
    have HP := Lib.hid hp
    clear hp
    gi_wp2_with fail
    refine ⟨trivial, ?_⟩
    refine (CallsIn.inRound l (callsIn_wide.2 (ht.out _ _ x.2))).mono ?_
    rintro _ w' ⟨rfl, rfl⟩
    cases hx : p x.1
    · gi_wp2
      exact ⟨KeepsOthers.setCell _ _ _, ⟨rfl, ⟨x, List.mem_append.2 (.inr (by simp)), hx⟩, World.cell?_setCell_same' _ _ _ (by rw [hcr]; rfl)⟩, hB.setCell (p := ⟨w.heap.size + 1, 0, none⟩) (by simp) _⟩
    · gi_wp2
      exact ⟨KeepsOthers.refl _, trivial, ⟨fun y hy => (List.mem_append.1 hy).elim (HP.out y) (fun e => by simp at e; subst e; exact hx), hcw, hcr, hfr⟩, hB⟩
  case done =>
    rintro D ys W hD rfl ⟨⟨hne, _, hcr, hfr⟩, hB⟩ hK
    have HN := Lib.hid hne
    clear hne
    gi_wp2
    have hK' := (KeepsOthers.setCell W ⟨w.heap.size + 1, 0, none⟩ (.bool true)).same D _ hK rfl
    refine ⟨by simp, .inl ⟨_, _, rfl, run_takeDeferred hK', ?_⟩⟩
    have hc5 := cell_kept (World.cell?_setCell_same' W ⟨w.heap.size + 1, 0, none⟩ (.bool true) (by rw [hcr]; rfl)) (grownBy_putObj' _ D (.deferred none)) (fun r e => by cases e; exact ⟨_, hK', rfl⟩)
    refine ⟨.bool true, ?_, by rw [every_yes HN.out], (hB.setCell (p := ⟨w.heap.size + 1, 0, none⟩) (by simp) _).trans (belowK_b (w := w) (Nat.le_refl _) _ D _ _ (by simp at hD; omega) hK' rfl rfl)⟩
    simp [results, Tryz.f139, go_sem, hc5]
  case stop =>
    rintro D c pre W hD hpre ⟨⟨rfl, ⟨y, hy, hpy⟩, hcr⟩, hB⟩ hK
    have HN := Lib.hid (every_no hpre hy hpy)
    clear hpy hpre
    gi_wp2
    refine ⟨by simp, .inl ⟨_, _, rfl, run_takeDeferred hK, ?_⟩⟩
    have hc5 := cell_kept hcr (grownBy_putObj' _ D (.deferred none)) (fun r e => by cases e; exact ⟨_, hK, rfl⟩)
    refine ⟨.bool false, ?_, by rw [HN.out], hB.trans (belowK_b (w := w) (Nat.le_refl _) W D _ _ (by simp at hD; omega) hK rfl rfl)⟩
    simp [results, Tryz.f139, go_sem, hc5]

def validB (s : ByteArray) : Bool := decide (1 ≤ s.size) && decide (s.size ≤ 60) && everyB s vElem
def checkN (s : ByteArray) (p : ByteArray → Bool) : Int := if validB s && everyB s p then 0 else 10
def firstB (s : ByteArray) : Bool := decide (0 ≤ Lib.indexByte (cutB s).1.data.toList 46) && !prefB (cutB s).1 ⟨#[45]⟩
def moduleN (s : ByteArray) : Int := if firstB s then checkN s mElem else 10

set_option maxHeartbeats 400000 in
theorem valid_any (s : ByteArray) (hs : s.size ≤ 20400) (w : World) :
    Calls Tryz.prog 138 #[.string s] w fun e w' => e = .returned (.bool (validB s)) ∧ Below w.heap.size w w' := by
  by_cases h1 : 1 ≤ s.size
  · by_cases h2 : s.size ≤ 60
    · go_enter Tryz.func138, Tryz.ntmps138
      go_wp2_with (go_at_call 139; refine (every_any _ _ vetest _ hs _).mono ?_; rintro e w' ⟨rfl, hb⟩)
      go_ret
      exact ⟨ret_bool (by simp [validB, h1, h2]), hb⟩
    · go_enter Tryz.func138, Tryz.ntmps138
      go_wp2
      go_ret
      exact ⟨ret_bool (by simp [validB, h2]), Below.refl _ _⟩
  · go_enter Tryz.func138, Tryz.ntmps138
    go_wp2
    go_ret
    exact ⟨ret_bool (by simp [validB, h1]), Below.refl _ _⟩

theorem cutB_size (s : ByteArray) : (cutB s).1.size ≤ s.size := by
  unfold cutB
  split
  · exact Nat.le_refl _
  · exact Nat.le_trans (extract_size_le _ _ _) (by omega)

theorem below_drewN {B : Nat} {w w' : World} (h : Below B w w') (n : Nat) : Below B w (w'.drewN n) := ⟨h.os, h.tape, h.output, h.size, h.block⟩
theorem below_drewN' {B : Nat} {w w' : World} {n : Nat} (h : Below B (w.drewN n) w') : Below B w w' := ⟨h.os, h.tape, h.output, h.size, h.block⟩

end Go.Proofs.YtmdlmjcejeejfaaGreatDoor
