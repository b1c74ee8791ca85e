/-
  The iterator over a text's elements (paths.elements), and what ranges over it: paths.every, slices.Collect, paths.Elems.
-/
import Derived.RangeFuncNested
import Derived.RangeFuncBound
import Derived.RangeFuncCalls
import Derived.RangeFuncLeaves
import Derived.RangeFuncBox
import Derived.Shelf.Abstract
import Derived.Shelf.RegionOpen
import Derived.WalkKit
import Derived.OwnWalkIn
import Derived.TacticsInMore
import Derived.LoopNIn
import Derived.LoopIn
import Derived.Maps.AppendAt
import Derived.Test.YtmdlmjcejeejfaaGreatDoorW3
namespace Go.Proofs.YtmdlmjcejeejfaaGreatDoor
open Go.RowKit Go.Shelf
attribute [local go_sem] Oper.semAt_some

abbrev Str := { x : ByteArray // x.size ≤ 20400 }
def elemsS (s : ByteArray) (h : s.size ≤ 20400) : List Str := (elemsB s).attachWith (fun x => x.size ≤ 20400) (fun _ hx => Nat.le_trans (elemsB_size hx) h)
theorem elemsS_map (s : ByteArray) (h : s.size ≤ 20400) : (elemsS s h).map (·.1) = elemsB s := by simp [elemsS]
theorem str_inj {a b : List Str} (h : a.map (·.1) = b.map (·.1)) : a = b := by
  induction a generalizing b with
  | nil => cases b <;> simp_all
  | cons x a ih =>
    cases b with
    | nil => simp at h
    | cons y b =>
      simp only [List.map_cons, List.cons.injEq] at h
      rw [Subtype.ext h.1, ih h.2]
theorem str_prefix {a : List Str} {s : ByteArray} {h : s.size ≤ 20400} {r : List ByteArray} (e : a.map (·.1) ++ r = elemsB s) : a <+: elemsS s h := by
  rw [← elemsS_map s h] at e
  obtain ⟨b, c, hbc, hb, _⟩ := List.map_eq_append_iff.1 e.symm
  exact ⟨c, by rw [hbc, ← str_inj hb]⟩
theorem grownBy_drewN (w : World) (n : Nat) : w.grownBy (w.drewN n) none := ⟨rfl, rfl, rfl, Nat.le_refl _, fun _ _ _ => rfl⟩

/-- How much is still to be cut. -/
def leftOf : Value → Value → Nat
  | .string r, .bool true => r.size + 1
  | _, _ => 0

set_option maxHeartbeats 400000 in
theorem elements_any (s : ByteArray) (w : World) :
    Calls Tryz.prog 109 #[.string s] w fun e w' => e = .returned (.func (.func 162) #[] #[.pointer (some ⟨w.heap.size, 0, none⟩)]) ∧ w' = w.alloc (.cells #[.string s] 9) := by
  go_enter Tryz.func109, Tryz.ntmps109
  go_wp2
  go_ret
  exact ⟨rfl, rfl⟩

theorem cut_no (s : ByteArray) (w : World) (hs : s.size ≤ 20400) (h : Lib.indexByte s.data.toList 47 = -1) :
    Calls Tryz.prog 87 #[.string s, .string ⟨#[47]⟩] w fun e w' => e = .returned (.tuple #[.string s, .string ⟨#[]⟩, .bool false]) ∧ ∃ n, w' = w.drewN n := by
  have := cut_any s w hs
  rwa [cutB_no h] at this
theorem cut_yes (s : ByteArray) (w : World) (hs : s.size ≤ 20400) {k : Nat} (h : Lib.indexByte s.data.toList 47 = k) :
    Calls Tryz.prog 87 #[.string s, .string ⟨#[47]⟩] w fun e w' => e = .returned (.tuple #[.string (s.extract 0 k), .string (s.extract (k + 1) s.size), .bool true]) ∧ ∃ n, w' = w.drewN n := by
  have := cut_any s w hs
  rwa [cutB_yes h] at this

theorem extract_size_le (s : ByteArray) (a b : Nat) : (s.extract a b).size ≤ s.size - a := by
  rw [← size_data, Lib.extract_data, List.length_take, List.length_drop, size_data]; omega

set_option maxRecDepth 100000 in
set_option maxHeartbeats 1000000 in
theorem elements1_in (n : Nat) (hn : 1 ≤ n) (l Bn : Nat) (s : ByteArray) (hs : s.size ≤ 20400) (J Jx : List Str → World → Prop)
    (hY : ∀ (pre : List Str) (x : Str) W, J pre W → pre.length < (elemsB s).length → YieldAt Fence.wide (n - 1) Tryz.prog l #[.string x.1] W fun e W' =>
      (e = .returned (.bool true) ∧ J (pre ++ [x]) W' ∧ True) ∨ (e = .returned (.bool false) ∧ Jx (pre ++ [x]) W'))
    (W : World) (hJ : AbidesFrom W.heap.size J) (hBn : W.cell? ⟨Bn, 0, none⟩ = some (.string s)) (h0 : J [] W) :
    CallsIn Fence.wide n Tryz.prog 162 #[.func (.yield l) #[] #[], .pointer (some ⟨Bn, 0, none⟩)] W fun e W' => (∃ v, e = .returned v) ∧
      ((∃ ys, ys = elemsS s hs ∧ J ys W') ∨ (∃ pre, pre <+: elemsS s hs ∧ Jx pre W')) := by
  refine callsIn_of_wp Tryz.func162 rfl trivial ?_ rfl
  simp only [Tryz.ntmps162, List.size_toArray, List.length_cons, List.length_nil, Nat.reduceAdd, Nat.reduceSub, Array.replicate_succ, Array.replicate_zero, List.push_toArray, List.append_toArray, List.nil_append, List.cons_append]
  by_cases hemp : s.toList = []
  · have H1 := Lib.hid (elemsB_nil hemp)
    gi_wp2
    refine bodyPost_ret (results_none rfl _ _ _) rfl ?_
    exact ⟨⟨_, rfl⟩, .inl ⟨[], (str_inj (by rw [elemsS_map, H1.out]; rfl)), h0⟩⟩
  · have hemp' : s.toList.isEmpty = false := by cases h : s.toList <;> simp_all
    have H1 := Lib.hid (elemsB_ne hemp)
    gi_wp2
    gi_loopw [3, 4] (fun r m wr => ∃ (pre : List Str), J pre wr ∧ ((m = .bool true ∧ ∃ rest : ByteArray, r = .string rest ∧ rest.size ≤ 20400 ∧ pre.map (·.1) ++ partsB rest = elemsB s) ∨ (m = .bool false ∧ pre.map (·.1) = elemsB s)))
      (fun r m _ => leftOf r m)
    case atStart => exact ⟨[], h0, .inl ⟨rfl, s, rfl, hs, by rw [H1.out]; rfl⟩⟩
    case round =>
      clear hemp hemp' hBn
      obtain ⟨pre, hJs, ⟨rfl, rest, rfl, hrest, hp⟩ | ⟨rfl, hp⟩⟩ := hrel
      · have HP := Lib.hid hp
        have hpl : pre.length < (elemsB s).length := by
          rw [← HP.out, List.length_append, List.length_map]
          have := List.length_pos_iff.2 (spl_ne rest.data.toList)
          simp only [partsB, List.length_map]; omega
        have hlen := Lib.hid hpl
        clear hp hpl
        rcases index_cases rest with h | ⟨k, h⟩
        · have C := fun w => cut_no rest w hrest h
          have HN := Lib.hid (partsB_none h)
          have HC := Lib.hid C
          clear h C
          gi_wp2_with fail
          refine ⟨trivial, ?_⟩
          refine (callsIn_wide.2 (HC.out _)).mono ?_
          rintro _ w1 ⟨rfl, n1, rfl⟩
          have hJ1 : J pre (wr.drewN n1) := hJ pre wr _ none hJs (grownBy_drewN _ _) (fun r e => by cases e)
          obtain ⟨fn, tmps, assign, body, hy, hR⟩ := hY pre ⟨rest, hrest⟩ (wr.drewN n1) hJ1 hlen.out
          dsimp only at hy
          gi_wp2
          refine hR.mono ?_
          rintro e W3 (⟨rfl, hJ3, _⟩ | ⟨rfl, hJx3⟩)
          · gi_wp2
            go_roundw
            case rel => exact ⟨pre ++ [⟨rest, hrest⟩], hJ3, .inr ⟨rfl, by rw [← HP.out, HN.out]; simp⟩⟩
            case measure => simp [leftOf]
          · gi_wp2
            refine bodyPost_ret (results_none rfl _ _ _) rfl ?_
            exact ⟨⟨_, rfl⟩, .inr ⟨pre ++ [⟨rest, hrest⟩], str_prefix (r := []) (by rw [← HP.out, HN.out]; simp), hJx3⟩⟩
        · have C := fun w => cut_yes rest w hrest h
          obtain ⟨hk, HN'⟩ := partsB_cut h
          have HN := Lib.hid HN'
          have HC := Lib.hid C
          clear h C HN'
          have hx1 : (rest.extract 0 k).size ≤ 20400 := Nat.le_trans (extract_size_le _ _ _) (by omega)
          have hx2 : (rest.extract (k + 1) rest.size).size ≤ rest.size - (k + 1) := extract_size_le _ _ _
          gi_wp2_with fail
          refine ⟨trivial, ?_⟩
          refine (callsIn_wide.2 (HC.out _)).mono ?_
          rintro _ w1 ⟨rfl, n1, rfl⟩
          have hJ1 : J pre (wr.drewN n1) := hJ pre wr _ none hJs (grownBy_drewN _ _) (fun r e => by cases e)
          obtain ⟨fn, tmps, assign, body, hy, hR⟩ := hY pre ⟨rest.extract 0 k, hx1⟩ (wr.drewN n1) hJ1 hlen.out
          dsimp only at hy
          gi_wp2
          refine hR.mono ?_
          rintro e W3 (⟨rfl, hJ3, _⟩ | ⟨rfl, hJx3⟩)
          · gi_wp2
            go_roundw
            case rel => exact ⟨pre ++ [⟨rest.extract 0 k, hx1⟩], hJ3, .inl ⟨rfl, _, rfl, by omega, by rw [← HP.out, HN.out]; simp⟩⟩
            case measure => simp only [leftOf]; omega
          · gi_wp2
            refine bodyPost_ret (results_none rfl _ _ _) rfl ?_
            exact ⟨⟨_, rfl⟩, .inr ⟨pre ++ [⟨rest.extract 0 k, hx1⟩], str_prefix (r := partsB (rest.extract (k + 1) rest.size)) (by rw [← HP.out, HN.out]; simp), hJx3⟩⟩
      · have HP := Lib.hid hp
        clear hp
        gi_wp2
        go_end0
        exact ⟨⟨_, rfl⟩, .inl ⟨pre, str_inj (by rw [elemsS_map, HP.out]), hJs⟩⟩

theorem elements_stops (n : Nat) (hn : 1 ≤ n) (Bn : Nat) (s : ByteArray) (hs : s.size ≤ 20400) (w : World) (hBn : Bn < w.heap.size) (hc : w.cell? ⟨Bn, 0, none⟩ = some (.string s)) :
    SeqStopsK Fence.wide n Tryz.prog 162 #[.pointer (some ⟨Bn, 0, none⟩)] (fun x : Str => #[Value.string x.1]) (fun _ _ => True) (fun ys => ys = elemsS s hs) (fun pre => pre <+: elemsS s hs) (elemsB s).length w := fun l J Jx W hW hJ _ hY h0 =>
  elements1_in n hn l Bn s hs J Jx hY W hJ ((hW.cell (p := ⟨Bn, 0, none⟩) hBn).trans hc) h0
end Go.Proofs.YtmdlmjcejeejfaaGreatDoor
