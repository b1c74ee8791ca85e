/-
  Lists of texts: paths.Elems (slices.Collect over the iterator), the document's Elems, whether two lists are the same.
-/
import Derived.Test.YtmdlmjcejeejfaaGreatDoorW5
namespace Go.Proofs.YtmdlmjcejeejfaaGreatDoor
open Go.RowKit Go.Shelf
attribute [local go_sem] Oper.semAt_some

theorem Tryz.info9 : (Tryz.prog.info? 9).map (fun i => (i.zero, i.size, i.bytes)) = some (some (.string ⟨#[]⟩), 1, 16) := by kernel_rfl

/-- A list of texts, as a slice that can be read. -/
def Row (w : World) (v : Value) (xs : List ByteArray) : Prop :=
  ∃ a cap, v = .slice a xs.length cap ∧ (xs ≠ [] → ∃ g, a = some ⟨g, 0, none⟩ ∧ g < w.heap.size ∧ ∀ i (h : i < xs.length), w.cell? ⟨g, i, none⟩ = some (.string xs[i]))

theorem Row.below {w w' : World} {v : Value} {xs : List ByteArray} (h : Row w v xs) (hb : Below w.heap.size w w') : Row w' v xs := by
  obtain ⟨a, cap, rfl, hc⟩ := h
  refine ⟨a, cap, rfl, fun hne => ?_⟩
  obtain ⟨g, rfl, hg, hcell⟩ := hc hne
  exact ⟨g, rfl, Nat.lt_of_lt_of_le hg hb.size, fun i h => (hb.cell (p := ⟨g, i, none⟩) hg).trans (hcell i h)⟩

theorem Row.of_owns {w : World} {base : Nat} {v : Value} {xs : List ByteArray} (h : w.ownsRow base 9 1 v xs.length (xs.map Value.string)) : Row w v xs := by
  obtain ⟨_, ⟨rfl, h0⟩ | ⟨g, cap, cur, rfl, hg, hh, hle, _, hcs, ht⟩⟩ := h
  · have : xs = [] := List.length_eq_zero_iff.1 h0
    subst this
    exact ⟨none, 0, rfl, fun h => absurd rfl h⟩
  · refine ⟨_, cap, rfl, fun hne => ⟨g, rfl, (Array.getElem?_eq_some_iff.1 hh).1, fun i hi => ?_⟩⟩
    have hci : i < cur.size := by omega
    have e : cur[i]? = some (.string xs[i]) := by
      have : (cur.toList.take (xs.length * 1))[i]? = (xs.map Value.string)[i]? := by rw [ht]
      rw [List.getElem?_take_of_lt (by omega), Array.getElem?_toList] at this
      rw [this, List.getElem?_map, List.getElem?_eq_getElem hi]; rfl
    simp [World.cell?, hh, e]

set_option maxRecDepth 100000 in
set_option maxHeartbeats 2000000 in
theorem appseq_any (s : ByteArray) (hs : s.size ≤ 20400) (Bn : Nat) (w : World) (hBn : Bn < w.heap.size) (hc : w.cell? ⟨Bn, 0, none⟩ = some (.string s)) :
    Calls Tryz.prog 161 #[.slice none 0 0, .func (.func 162) #[] #[.pointer (some ⟨Bn, 0, none⟩)]] w fun e W' => ∃ v, e = .returned v ∧ W'.ownsRow w.heap.size 9 1 v (elemsB s).length ((elemsB s).map Value.string) ∧ Below w.heap.size w W' := by
  obtain ⟨i0, hi, hz0, hz1, hz2⟩ := info_parts Tryz.info9
  have hcount := elemsB_count s
  refine (callsIn_wide (n := 4)).1 ?_
  refine callsIn_of_wp_marks Tryz.func161 rfl trivial ?_ rfl
  simp only [Tryz.ntmps161, List.size_toArray, List.length_cons, List.length_nil, Nat.reduceAdd, Nat.reduceSub, Array.replicate_succ, Array.replicate_zero, List.push_toArray, List.append_toArray, List.nil_append, List.cons_append]
  gi_wp2
  have bO := Boxed.new w 87 (.slice none 0 0)
  have hB0 : Below w.heap.size w (w.alloc (.cells #[.slice none 0 0] 87)) := (Below.refl _ w).alloc (Nat.le_refl _) _
  refine wpIn_rangeFunc_ownG rfl (by omega) (gf := 162) (lb := #[.pointer (some ⟨Bn, 0, none⟩)]) rfl trivial (enters_of Tryz.func162 (by kernel_rfl) rfl)
    (elements_stops _ (by omega) Bn s hs _ (by simp; omega) ((hB0.cell (p := ⟨Bn, 0, none⟩) hBn).trans hc)) (fun _ _ => trivial) (fun _ _ _ _ _ _ _ _ => trivial) (Below.refl _ _) (fun _ => rfl)
    (fun pre W => (∃ v, Boxed W w.heap.size 87 v ∧ W.ownsRow w.heap.size 9 1 v pre.length (pre.map fun x => Value.string x.1) ∧ True) ∧ Below w.heap.size w W)
    (fun _ _ _ => False)
    (OwnFrom.and (Own.from (holdsRow_own w.heap.size w.heap.size 87 9 1 (fun pre : List Str => pre.length) (fun pre => pre.map fun x => Value.string x.1) (fun pre v => True)) _) (ownFrom_below (Nat.le_refl _) (by simp)))
    (fun _ _ _ _ _ hs _ _ => hs)
    ⟨⟨_, bO, World.ownsRow_nil _ _ _ _, trivial⟩, hB0⟩
    (fun x => { tmps := #[.slice none 0 0, .func (.func 162) #[] #[.pointer (some ⟨Bn, 0, none⟩)], .pointer (some ⟨w.heap.size, 0, none⟩), undef, .slice none 0 0, .string x.1, .func (.func 162) #[] #[.pointer (some ⟨Bn, 0, none⟩)], .string x.1, undef, undef, undef, undef, undef], defers := [] }) ?assign ?body ?done ?stop
  case assign =>
    intro l x W K hK
    gi_wp2
    exact hK
  case body =>
    rintro l pre x W ⟨⟨v, hv, hrow, _⟩, hB⟩ hlt
    have hcv := hv.cell
    gi_wp2_with (gi_at_builtin; refine wpListIn_append_own _ rfl _ _ 87 rfl w.heap.size 9 i0 (.string ⟨#[]⟩) 1 16 Tryz.underlying87 hi hz0 hz1 hz2 rfl (by decide) _ _ _ rfl (hrow.alloc _) ⟨W.heap.size, 0, none⟩ 1 1 [.string x.1] rfl rfl (cell_one_new _ _ _) (by simp [Value.oneCell']) (by unfold maxLen; omega) (by omega) (by have := hB.size; simp; omega) ?_; intro v' w1 hown' hgrow _; obtain ⟨g', cap', rfl⟩ := ownsRow_succ hown'; obtain ⟨hv1, hv2, hr2, hk2, hb2⟩ := hv.appended (by decide) hrow hB.size (Nat.le_refl _) hown' hgrow; have hc1 := hv1.cell; have hf1 := hv1.frozen)
    exact ⟨hk2.from _, trivial, ⟨_, hv2, by simpa using hr2, trivial⟩, hB.trans hb2⟩
  case done =>
    rintro D ys W hD rfl ⟨⟨v, hv, hrow, _⟩, hB⟩ hK
    have hcv := hv.cell
    have e1 : (elemsS s hs).length = (elemsB s).length := by rw [← elemsS_map s hs, List.length_map]
    have e2 : ((elemsS s hs).map fun x => Value.string x.1) = (elemsB s).map Value.string := by rw [← elemsS_map s hs, List.map_map]; rfl
    rw [e1, e2] at hrow
    clear e1 e2
    gi_wp2
    refine ⟨by simp, .inl ⟨_, _, rfl, run_takeDeferred hK, ?_⟩⟩
    exact ⟨_, results_tmp rfl _ _ _, v, rfl, ownsRow_putObj hrow _ hK rfl, hB.trans (belowK_b (w := w) (Nat.le_refl _) W D _ _ (by simp at hD; omega) hK rfl rfl)⟩
  case stop =>
    rintro D c pre W _ _ h _
    exact h.elim

/-- A call that hands back a new list of texts, and turns nothing that lay. -/
def RowOut (w : World) (xs : List ByteArray) (e : Ending) (w' : World) : Prop := ∃ v, e = .returned v ∧ Row w' v xs ∧ Below w.heap.size w w'

set_option maxHeartbeats 400000 in
theorem collect_any (s : ByteArray) (hs : s.size ≤ 20400) (Bn : Nat) (w : World) (hBn : Bn < w.heap.size) (hc : w.cell? ⟨Bn, 0, none⟩ = some (.string s)) :
    Calls Tryz.prog 108 #[.func (.func 162) #[] #[.pointer (some ⟨Bn, 0, none⟩)]] w (RowOut w (elemsB s)) := by
  go_enter Tryz.func108, Tryz.ntmps108
  go_wp2_with fail
  refine (appseq_any s hs Bn _ hBn hc).mono ?_
  rintro _ w1 ⟨v, rfl, hown, hb⟩
  go_wp2
  go_ret
  exact ⟨v, rfl, Row.of_owns hown, hb⟩

set_option maxHeartbeats 400000 in
theorem elems_any (s : ByteArray) (hs : s.size ≤ 20400) (w : World) :
    Calls Tryz.prog 66 #[.string s] w (RowOut w (elemsB s)) := by
  have c0 := (Boxed.new w 9 (.string s)).cell
  go_enter Tryz.func66, Tryz.ntmps66
  go_wp2_with fail
  refine (elements_any _ _).mono ?_
  rintro _ w1 ⟨rfl, rfl⟩
  go_wp2_with fail
  refine (collect_any s hs w.heap.size _ (by simp) c0).mono ?_
  rintro _ w1 ⟨v, rfl, hrow, hb⟩
  go_wp2
  go_ret
  exact ⟨v, rfl, hrow, ((Below.refl _ w).alloc (Nat.le_refl _) _).trans (hb.mono (by simp))⟩

theorem seg_step {l : List UInt8} {f k : Nat} (hf : f ≤ k) (hk : l[k]? = some 47) (hn : ∀ j, f ≤ j → j < k → l[j]? ≠ some 47) : spl (l.drop f) = (l.drop f).take (k - f) :: spl (l.drop (k + 1)) := by
  have h1 : (l.drop f)[k - f]? = some 47 := by rw [List.getElem?_drop, show f + (k - f) = k by omega, hk]
  have h2 : ∀ c ∈ (l.drop f).take (k - f), c ≠ 47 := by
    intro c hc e
    obtain ⟨j, hj⟩ := List.mem_iff_getElem?.1 hc
    rw [List.getElem?_take] at hj
    split at hj
    · rw [List.getElem?_drop] at hj
      exact hn (f + j) (by omega) (by omega) (by rw [hj, e])
    · cases hj
  conv => lhs; rw [take_slash h1, spl_slash h2]
  rw [List.drop_drop, show f + (k - f + 1) = k + 1 by omega]
theorem seg_end {l : List UInt8} {f : Nat} (hn : ∀ j, f ≤ j → l[j]? ≠ some 47) : spl (l.drop f) = [l.drop f] := by
  refine spl_none ?_
  intro c hc e
  obtain ⟨j, hj⟩ := List.mem_iff_getElem?.1 hc
  rw [List.getElem?_drop] at hj
  exact hn (f + j) (by omega) (by rw [hj, e])

/-- How far the document's Elems has come: the elements that it has told, where the next one begins, where it looks. -/
def Told (s : ByteArray) (f k : Nat) (acc : List ByteArray) : Prop :=
  (k ≤ s.size ∧ f ≤ k ∧ acc ++ (spl (s.data.toList.drop f)).map mkB = partsB s ∧ ∀ j, f ≤ j → j < k → s.data.toList[j]? ≠ some 47) ∨ (k = s.size + 1 ∧ acc = partsB s)
theorem Told.start (s : ByteArray) : Told s 0 0 [] := .inl ⟨Nat.zero_le _, Nat.le_refl _, rfl, fun _ _ h => absurd h (Nat.not_lt_zero _)⟩
theorem Told.on {s : ByteArray} {f k : Nat} {acc : List ByteArray} (h : Told s f k acc) (hk : k < s.size) (hc : ((s[k].toNat : Int) == 47) = false) : Told s f (k + 1) acc := by
  rcases h with ⟨h1, h2, h3, h4⟩ | ⟨h1, _⟩
  · refine .inl ⟨by omega, by omega, h3, fun j hj1 hj2 => ?_⟩
    by_cases e : j = k
    · subst e
      rw [get_data s j hk]
      intro e
      have := Option.some.inj e
      rw [this] at hc
      simp at hc
    · exact h4 j hj1 (by omega)
  · omega
theorem Told.cut {s : ByteArray} {f k : Nat} {acc : List ByteArray} (h : Told s f k acc) (hk : k < s.size) (hc : ((s[k].toNat : Int) == 47) = true) : Told s (k + 1) (k + 1) (acc ++ [s.extract f k]) := by
  rcases h with ⟨h1, h2, h3, h4⟩ | ⟨h1, _⟩
  · have e : s[k] = 47 := by
      have := eq_of_beq hc
      apply UInt8.toNat.inj
      show s[k].toNat = 47
      omega
    refine .inl ⟨by omega, by omega, ?_, fun j hj1 hj2 => by omega⟩
    rw [← h3, seg_step h2 (by rw [get_data s k hk, e]) h4, Lib.extract_eq]
    simp [mkB]
  · omega
theorem Told.last {s : ByteArray} {f k : Nat} {acc : List ByteArray} (h : Told s f k acc) (hk : k = s.size) : Told s (k + 1) (k + 1) (acc ++ [s.extract f k]) := by
  rcases h with ⟨h1, h2, h3, h4⟩ | ⟨h1, _⟩
  · refine .inr ⟨by omega, ?_⟩
    rw [← h3, seg_end, Lib.extract_eq, hk, List.take_of_length_le (by rw [List.length_drop, size_data]; omega)]
    · simp [mkB]
    · intro j hj
      by_cases hjk : j < k
      · exact h4 j hj hjk
      · rw [List.getElem?_eq_none (by rw [size_data]; omega)]; simp
  · omega
theorem Told.done {s : ByteArray} {f k : Nat} {acc : List ByteArray} (h : Told s f k acc) (hk : s.size < k) : acc = partsB s := by
  rcases h with ⟨h1, _⟩ | ⟨_, h⟩
  · omega
  · exact h
theorem Told.from_le {s : ByteArray} {f k : Nat} {acc : List ByteArray} (h : Told s f k acc) (hk : k ≤ s.size) : f ≤ k := by
  rcases h with ⟨_, h, _⟩ | ⟨h1, _⟩
  · exact h
  · omega
theorem Told.count {s : ByteArray} {f k : Nat} {acc : List ByteArray} (h : Told s f k acc) : acc.length ≤ s.size + 1 := by
  have hc : (partsB s).length ≤ s.size + 1 := by
    have := spl_count s.data.toList; rw [size_data] at this; simpa [partsB] using this
  rcases h with ⟨_, _, h, _⟩ | ⟨_, h⟩
  · rw [← h, List.length_append] at hc; omega
  · rw [h]; exact hc

theorem owns_empty (w : World) : (w.alloc (.cells #[] 9)).ownsRow w.heap.size 9 1 (.slice (some ⟨w.heap.size, 0, none⟩) 0 0) 0 [] := by
  refine ⟨rfl, .inr ⟨w.heap.size, 0, #[], rfl, Nat.le_refl _, ?_, Nat.le_refl _, Nat.zero_le _, rfl, rfl⟩⟩
  exact World.alloc_heap_new w _

theorem owns_block {w : World} {base e size n : Nat} {v : Value} {xs : List Value} (h : w.ownsRow base e size v n xs) : ∀ k, v.ownBlock = some k → base ≤ k := by
  obtain ⟨_, ⟨rfl, _⟩ | ⟨g, cap, cur, rfl, hg, _⟩⟩ := h
  · intro k hk; simp [Value.ownBlock] at hk
  · intro k hk; simp [Value.ownBlock] at hk; omega
theorem owns_snoc {w : World} {base : Nat} {v : Value} {xs : List ByteArray} {x : ByteArray} (h : w.ownsRow base 9 1 v (xs.length + 1) (xs.map Value.string ++ [Value.string x])) : w.ownsRow base 9 1 v (xs ++ [x]).length ((xs ++ [x]).map Value.string) := by
  simpa using h

set_option maxRecDepth 100000 in
set_option maxHeartbeats 1000000 in
theorem relems_any (s : ByteArray) (hs : s.size ≤ 20400) (w : World) :
    Calls Tryz.prog 129 #[.string s] w (RowOut w (elemsB s)) := by
  obtain ⟨i0, hi, hz0, hz1, hz2⟩ := info_parts Tryz.info9
  by_cases hemp : s.toList = []
  · have H1 := Lib.hid (elemsB_nil hemp)
    go_enter Tryz.func129, Tryz.ntmps129
    go_wp2
    go_ret
    exact ⟨_, rfl, by rw [H1.out]; exact ⟨_, 0, rfl, fun h => absurd rfl h⟩, (Below.refl _ _).alloc (Nat.le_refl _) _⟩
  · have hemp' : s.toList.isEmpty = false := by cases h : s.toList <;> simp_all
    have H1 := Lib.hid (elemsB_ne hemp)
    go_enter Tryz.func129, Tryz.ntmps129
    go_wp2
    clear hemp hemp'
    go_loopw [3, 4, 5] (fun l f i wr => ∃ (fr k : Nat) (acc : List ByteArray), k ≤ s.size + 1 ∧ f = .int .i64 fr ∧ i = .int .i64 k ∧ Told s fr k acc ∧ wr.ownsRow w.heap.size 9 1 l acc.length (acc.map Value.string) ∧ Below w.heap.size w wr)
      (fun _ _ i _ => s.size + 1 - (intOf i).toNat)
    case atStart => exact ⟨0, 0, [], Nat.zero_le _, rfl, rfl, Told.start s, owns_empty w, (Below.refl _ _).alloc (Nat.le_refl _) _⟩
    case round =>
      obtain ⟨fr, k, acc, hk, rfl, rfl, hT, hrow, hB⟩ := hrel
      have hcount := hT.count
      have hblk := Lib.hid (owns_block hrow)
      by_cases hend : k = s.size + 1
      · subst hend
        have HT := Lib.hid (hT.done (by omega))
        clear hT
        go_wp2
        go_ret
        exact ⟨_, rfl, by rw [H1.out, ← HT.out]; exact Row.of_owns hrow, hB⟩
      · by_cases hlast : k = s.size
        · have hfr := hT.from_le (by omega)
          have HT := Lib.hid (hT.last hlast)
          subst hlast
          clear hT
          go_wp2_with (at_builtin; refine wpList_append_own _ rfl _ _ 87 rfl w.heap.size 9 i0 (.string ⟨#[]⟩) 1 16 Tryz.underlying87 hi hz0 hz1 hz2 rfl (by decide) _ acc.length (acc.map Value.string) rfl (hrow.alloc _) ⟨wr.heap.size, 0, none⟩ 1 1 [.string (s.extract fr s.size)] rfl rfl (cell_one_new _ _ _) (by simp [Value.oneCell']) (by unfold maxLen; omega) (by omega) (by have := hB.size; simp; omega) ?_; intro v' w1 hown' hgrow _)
          go_roundw
          case rel => exact ⟨s.size + 1, s.size + 1, acc ++ [s.extract fr s.size], by omega, by go_num, by go_num, HT.out, owns_snoc hown', (hB.alloc hB.size _).grown hgrow (by have := hB.size; simp; omega) hblk.out⟩
          case measure => simp [intOf]
        · have hlt : k < s.size := by omega
          have hb1 : ((k : Int) == (s.size : Int)) = false := by simp; omega
          have hfr := hT.from_le (by omega)
          cases hc : ((s[k].toNat : Int) == 47)
          · have HT := Lib.hid (hT.on hlt hc)
            clear hT
            go_wp2
            go_roundw
            case rel => exact ⟨fr, k + 1, acc, by omega, rfl, by go_num, HT.out, hrow, hB⟩
            case measure => simp [intOf]; omega
          · have HT := Lib.hid (hT.cut hlt hc)
            clear hT
            go_wp2_with (at_builtin; refine wpList_append_own _ rfl _ _ 87 rfl w.heap.size 9 i0 (.string ⟨#[]⟩) 1 16 Tryz.underlying87 hi hz0 hz1 hz2 rfl (by decide) _ acc.length (acc.map Value.string) rfl (hrow.alloc _) ⟨wr.heap.size, 0, none⟩ 1 1 [.string (s.extract fr k)] rfl rfl (cell_one_new _ _ _) (by simp [Value.oneCell']) (by unfold maxLen; omega) (by omega) (by have := hB.size; simp; omega) ?_; intro v' w1 hown' hgrow _)
            go_roundw
            case rel => exact ⟨k + 1, k + 1, acc ++ [s.extract fr k], by omega, by go_num, by go_num, HT.out, owns_snoc hown', (hB.alloc hB.size _).grown hgrow (by have := hB.size; simp; omega) hblk.out⟩
            case measure => simp [intOf]; omega

theorem Row.at {w : World} {a : Option Addr} {n cap : Nat} {xs : List ByteArray} (h : Row w (.slice a n cap) xs) : n = xs.length ∧ (xs ≠ [] → ∃ g, a = some ⟨g, 0, none⟩ ∧ g < w.heap.size ∧ ∀ i (h : i < xs.length), w.cell? ⟨g, i, none⟩ = some (.string xs[i])) := by
  obtain ⟨a', cap', e, hc⟩ := h
  cases e
  exact ⟨rfl, hc⟩

theorem drewN_drewN (w : World) (n m : Nat) : (w.drewN n).drewN m = w.drewN (n + m) := by simp [World.drewN, Nat.add_assoc]
def sameB (xs ys : List ByteArray) : Bool := decide (xs = ys)
theorem take_succ_of {xs : List ByteArray} {k : Nat} (h : k < xs.length) : xs.take (k + 1) = xs.take k ++ [xs[k]] := List.take_succ_eq_append_getElem h
theorem same_on {xs ys : List ByteArray} {k : Nat} (h : xs.take k = ys.take k) (hx : k < xs.length) (hy : k < ys.length) (e : xs[k] = ys[k]) : xs.take (k + 1) = ys.take (k + 1) := by
  rw [take_succ_of hx, take_succ_of hy, h, e]
theorem same_no {xs ys : List ByteArray} {k : Nat} (hx : k < xs.length) (hy : k < ys.length) (e : ¬ xs[k] = ys[k]) : sameB xs ys = false := by
  unfold sameB
  refine decide_eq_false ?_
  rintro rfl
  exact e rfl
theorem same_end {xs ys : List ByteArray} {k : Nat} (h : xs.take k = ys.take k) (hl : xs.length = ys.length) (hk : xs.length ≤ k) : sameB xs ys = true := by
  unfold sameB
  rw [List.take_of_length_le hk, List.take_of_length_le (by omega)] at h
  exact decide_eq_true h
theorem same_len {xs ys : List ByteArray} (hl : ¬ xs.length = ys.length) : sameB xs ys = false := by
  unfold sameB
  exact decide_eq_false (fun e => hl (by rw [e]))
theorem toList_inj {a b : ByteArray} : a.toList = b.toList ↔ a = b := by
  rw [Lib.toList_data, Lib.toList_data]
  refine ⟨fun h => ?_, fun h => by rw [h]⟩
  have := congrArg mkB h
  rwa [mkB_data, mkB_data] at this

end Go.Proofs.YtmdlmjcejeejfaaGreatDoor
