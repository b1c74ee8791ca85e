/-
  Comparing: integers, texts, the first that is no nought; identifiers as lists.
-/
import Derived.Test.YtmdlmjcejeejfaaGreatDoorP3
namespace Go.Proofs.YtmdlmjcejeejfaaGreatDoor
open Go.RowKit Go.Shelf
attribute [local go_sem] Oper.semAt_some

theorem icmp_1 {a b : Int} (h : a < b) : icmp a b = -1 := by simp [icmp, h]
theorem icmp_2 {a b : Int} (h : ¬ a < b) (k : b < a) : icmp a b = 1 := by simp [icmp, h, k]
theorem icmp_3 {a b : Int} (h : ¬ a < b) (k : ¬ b < a) : icmp a b = 0 := by simp [icmp, h, k]

set_option maxRecDepth 100000 in
set_option maxHeartbeats 400000 in
theorem ccmp_any (a b : Int) (w : World) :
    Calls Tryz.prog 72 #[.int .i64 a, .int .i64 b] w fun e w' => e = .returned (.int .i64 (icmp a b)) ∧ w = w' := by
  by_cases h : a < b
  · have H := Lib.hid (icmp_1 h)
    go_enter Tryz.func72, Tryz.ntmps72
    go_wp2
    go_ret
    exact ⟨ret_int H.out.symm, rfl⟩
  · by_cases k : b < a
    · have H := Lib.hid (icmp_2 h k)
      go_enter Tryz.func72, Tryz.ntmps72
      go_wp2
      go_ret
      exact ⟨ret_int H.out.symm, rfl⟩
    · have H := Lib.hid (icmp_3 h k)
      go_enter Tryz.func72, Tryz.ntmps72
      go_wp2
      go_ret
      exact ⟨ret_int H.out.symm, rfl⟩

theorem tcmp_1 {a b : ByteArray} (h : Op.bytesLess a.toList b.toList = true) : tcmp a.data.toList b.data.toList = -1 := by
  rw [Lib.toList_data, Lib.toList_data] at h; simp [tcmp, h]
theorem tcmp_2 {a b : ByteArray} (k : (a.toList == b.toList) = true) : tcmp a.data.toList b.data.toList = 0 := by
  rw [Lib.toList_data, Lib.toList_data] at k; exact tcmp_zero.2 (eq_of_beq k)
theorem tcmp_3 {a b : ByteArray} (h : Op.bytesLess a.toList b.toList = false) (k : (a.toList == b.toList) = false) : tcmp a.data.toList b.data.toList = 1 := by
  rw [Lib.toList_data, Lib.toList_data] at h k; simp [tcmp, h, ne_of_beq_false k]
theorem less_flip {a b : ByteArray} (h : Op.bytesLess a.toList b.toList = false) (k : (a.toList == b.toList) = false) : Op.bytesLess b.toList a.toList = true := by
  rw [bless_iff]
  have h1 : ¬ a.toList < b.toList := fun e => by rw [(bless_iff _ _).2 e] at h; cases h
  rcases blt_or (x := a.toList) (y := b.toList) (ne_of_beq_false k) with e | e
  · exact absurd e h1
  · exact e
set_option maxRecDepth 100000 in
set_option maxHeartbeats 400000 in
theorem scmpt_any (a b : ByteArray) (w : World) :
    Calls Tryz.prog 68 #[.string a, .string b] w fun e w' => e = .returned (.int .i64 (tcmp a.data.toList b.data.toList)) ∧ w = w' := by
  cases h : Op.bytesLess a.toList b.toList
  · cases k : (a.toList == b.toList)
    · have H := Lib.hid (tcmp_3 h k)
      have l := less_flip h k
      go_enter Tryz.func68, Tryz.ntmps68
      go_wp2
      go_ret
      exact ⟨ret_int H.out.symm, rfl⟩
    · have H := Lib.hid (tcmp_2 k)
      go_enter Tryz.func68, Tryz.ntmps68
      go_wp2
      go_ret
      exact ⟨ret_int H.out.symm, rfl⟩
  · have H := Lib.hid (tcmp_1 h)
    go_enter Tryz.func68, Tryz.ntmps68
    go_wp2
    go_ret
    exact ⟨ret_int H.out.symm, rfl⟩

/-- The first that is no nought. -/
def orL : List Int → Int
  | [] => 0
  | x :: r => orI x (orL r)
def OrAt (zs : List Int) (k : Nat) : Prop := orL zs = orL (zs.drop k)
theorem OrAt.on {zs : List Int} {k : Nat} (h : OrAt zs k) (hk : k < zs.length) (e : zs[k] = 0) : OrAt zs (k + 1) := by
  unfold OrAt; rw [h, List.drop_eq_getElem_cons hk, orL, e]; simp [orI]
theorem OrAt.stop {zs : List Int} {k : Nat} (h : OrAt zs k) (hk : k < zs.length) (e : ¬ zs[k] = 0) : orL zs = zs[k] := by
  rw [h, List.drop_eq_getElem_cons hk, orL, orI, if_neg e]
theorem OrAt.done {zs : List Int} {k : Nat} (h : OrAt zs k) (hk : zs.length ≤ k) : orL zs = 0 := by
  rw [h, List.drop_of_length_le hk]; rfl

set_option maxRecDepth 100000 in
set_option maxHeartbeats 800000 in
theorem cor_any (g cap : Nat) (zs : List Int) (hz : zs.length ≤ 1000) (w : World) (hc : ∀ i (h : i < zs.length), w.cell? ⟨g, i, none⟩ = some (.int .i64 zs[i])) :
    Calls Tryz.prog 30 #[.slice (some ⟨g, 0, none⟩) zs.length cap] w fun e w' => e = .returned (.int .i64 (orL zs)) ∧ w = w' := by
  have HC := Lib.hid hc
  clear hc
  go_enter Tryz.func30, Tryz.ntmps30
  go_wp2
  go_loop [8] (fun i => ∃ k : Nat, k ≤ zs.length ∧ i = .int .i64 k ∧ OrAt zs k) (fun i => zs.length - (intOf i).toNat)
  case atStart => exact ⟨0, Nat.zero_le _, rfl, rfl⟩
  case round =>
    obtain ⟨k, hk, rfl, ht⟩ := hrel
    have HT := Lib.hid ht
    clear ht
    by_cases hlt : k < zs.length
    · have q := HC.out k hlt
      cases e : (zs[k] == 0)
      · have H := Lib.hid (HT.out.stop hlt (ne_of_beq_false e))
        generalize zs[k] = z at *
        have e' : (z != 0) = true := by rw [bne, e]; rfl
        go_wp2
        go_ret
        exact ⟨ret_int H.out.symm, rfl⟩
      · have H := Lib.hid (HT.out.on hlt (eq_of_beq e))
        generalize zs[k] = z at *
        have e' : (z != 0) = false := by rw [bne, e]; rfl
        go_wp2
        go_round
        case rel => exact ⟨k + 1, by omega, by go_num, H.out⟩
        case measure => simp [intOf]; omega
    · have H := Lib.hid (HT.out.done (by omega))
      go_wp2
      go_ret
      exact ⟨ret_int H.out.symm, rfl⟩

set_option maxRecDepth 100000 in
set_option maxHeartbeats 2000000 in
theorem appids_any (s : ByteArray) (hs : s.size ≤ 20400) (Bn : Nat) (w : World) (hBn : Bn < w.heap.size) (hc : w.cell? ⟨Bn, 0, none⟩ = some (.string s)) :
    Calls Tryz.prog 161 #[.slice none 0 0, .func (.func 172) #[] #[.pointer (some ⟨Bn, 0, none⟩)]] w fun e W' => ∃ v, e = .returned v ∧ W'.ownsRow w.heap.size 9 1 v (partsD 46 s).length ((partsD 46 s).map Value.string) ∧ Below w.heap.size w W' := by
  obtain ⟨i0, hi, hz0, hz1, hz2⟩ := info_parts Tryz.info9
  have hcount := partsD_count 46 s
  refine (callsIn_wide (n := 4)).1 ?_
  refine callsIn_of_wp_marks Tryz.func161 rfl trivial ?_ rfl
  simp only [Tryz.ntmps161, List.size_toArray, List.length_cons, List.length_nil, Nat.reduceAdd, Nat.reduceSub, Array.replicate_succ, Array.replicate_zero, List.push_toArray, List.append_toArray, List.nil_append, List.cons_append]
  gi_wp2
  have bO := Boxed.new w 87 (.slice none 0 0)
  have hB0 : Below w.heap.size w (w.alloc (.cells #[.slice none 0 0] 87)) := (Below.refl _ w).alloc (Nat.le_refl _) _
  refine wpIn_rangeFunc_ownG rfl (by omega) (gf := 172) (lb := #[.pointer (some ⟨Bn, 0, none⟩)]) rfl trivial (enters_of Tryz.func172 (by kernel_rfl) rfl)
    (identifiers_stops _ (by omega) Bn s hs _ (by simp; omega) ((hB0.cell (p := ⟨Bn, 0, none⟩) hBn).trans hc)) (fun _ _ => trivial) (fun _ _ _ _ _ _ _ _ => trivial) (Below.refl _ _) (fun _ => rfl)
    (fun pre W => (∃ v, Boxed W w.heap.size 87 v ∧ W.ownsRow w.heap.size 9 1 v pre.length (pre.map fun x => Value.string x.1) ∧ True) ∧ Below w.heap.size w W)
    (fun _ _ _ => False)
    (OwnFrom.and (Own.from (holdsRow_own w.heap.size w.heap.size 87 9 1 (fun pre : List Str => pre.length) (fun pre => pre.map fun x => Value.string x.1) (fun pre v => True)) _) (ownFrom_below (Nat.le_refl _) (by simp)))
    (fun _ _ _ _ _ hs _ _ => hs)
    ⟨⟨_, bO, World.ownsRow_nil _ _ _ _, trivial⟩, hB0⟩
    (fun x => { tmps := #[.slice none 0 0, .func (.func 172) #[] #[.pointer (some ⟨Bn, 0, none⟩)], .pointer (some ⟨w.heap.size, 0, none⟩), undef, .slice none 0 0, .string x.1, .func (.func 172) #[] #[.pointer (some ⟨Bn, 0, none⟩)], .string x.1, undef, undef, undef, undef, undef], defers := [] }) ?assign ?body ?done ?stop
  case assign =>
    intro l x W K hK
    gi_wp2
    exact hK
  case body =>
    rintro l pre x W ⟨⟨v, hv, hrow, _⟩, hB⟩ hlt
    have hcv := hv.cell
    gi_wp2_with (gi_at_builtin; refine wpListIn_append_own _ rfl _ _ 87 rfl w.heap.size 9 i0 (.string ⟨#[]⟩) 1 16 Tryz.underlying87 hi hz0 hz1 hz2 rfl (by decide) _ _ _ rfl (hrow.alloc _) ⟨W.heap.size, 0, none⟩ 1 1 [.string x.1] rfl rfl (cell_one_new _ _ _) (by simp [Value.oneCell']) (by unfold maxLen; omega) (by omega) (by have := hB.size; simp; omega) ?_; intro v' w1 hown' hgrow _; obtain ⟨g', cap', rfl⟩ := ownsRow_succ hown'; obtain ⟨hv1, hv2, hr2, hk2, hb2⟩ := hv.appended (by decide) hrow hB.size (Nat.le_refl _) hown' hgrow; have hc1 := hv1.cell; have hf1 := hv1.frozen)
    exact ⟨hk2.from _, trivial, ⟨_, hv2, by simpa using hr2, trivial⟩, hB.trans hb2⟩
  case done =>
    rintro D ys W hD rfl ⟨⟨v, hv, hrow, _⟩, hB⟩ hK
    have hcv := hv.cell
    have e1 : (idsS s hs).length = (partsD 46 s).length := by rw [← idsS_map s hs, List.length_map]
    have e2 : ((idsS s hs).map fun x => Value.string x.1) = (partsD 46 s).map Value.string := by rw [← idsS_map s hs, List.map_map]; rfl
    rw [e1, e2] at hrow
    clear e1 e2
    gi_wp2
    refine ⟨by simp, .inl ⟨_, _, rfl, run_takeDeferred hK, ?_⟩⟩
    exact ⟨_, results_tmp rfl _ _ _, v, rfl, ownsRow_putObj hrow _ hK rfl, hB.trans (belowK_b (w := w) (Nat.le_refl _) W D _ _ (by simp at hD; omega) hK rfl rfl)⟩
  case stop =>
    rintro D c pre W _ _ h _
    exact h.elim

set_option maxHeartbeats 400000 in
theorem collids_any (s : ByteArray) (hs : s.size ≤ 20400) (Bn : Nat) (w : World) (hBn : Bn < w.heap.size) (hc : w.cell? ⟨Bn, 0, none⟩ = some (.string s)) :
    Calls Tryz.prog 108 #[.func (.func 172) #[] #[.pointer (some ⟨Bn, 0, none⟩)]] w (RowOut w (partsD 46 s)) := by
  go_enter Tryz.func108, Tryz.ntmps108
  go_wp2_with fail
  refine (appids_any s hs Bn _ hBn hc).mono ?_
  rintro _ w1 ⟨v, rfl, hown, hb⟩
  go_wp2
  go_ret
  exact ⟨v, rfl, Row.of_owns hown, hb⟩

end Go.Proofs.YtmdlmjcejeejfaaGreatDoor
