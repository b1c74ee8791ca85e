/-
  The sorted list: where a path stands in it (slices.BinarySearchFunc), tree.Find.
-/
import Derived.Test.YteffoajheolpmaaF1
import Derived.Deep.RegionHeld3
import Derived.Deep.RegionWith
namespace Go.Proofs.Yteffoajheolpmaa
open Go.RowKit Go.Shelf

/-- A sorted list lies in that block. -/
def SBox (w : World) (B : Nat) (v : Value) : Prop := B < w.heap.size ∧ w.cell? ⟨B, 0, none⟩ = some v ∧ w.cell? ⟨B, 1, none⟩ = some (.func (.func 59) #[] #[]) ∧ w.cell? ⟨B, 2, none⟩ = some (.func (.func 60) #[] #[])
theorem SBox.below {w w' : World} {B : Nat} {v : Value} (h : SBox w B v) (hb : Below w.heap.size w w') : SBox w' B v :=
  ⟨Nat.lt_of_lt_of_le h.1 hb.size, (hb.cell (p := ⟨B, 0, none⟩) h.1).trans h.2.1, (hb.cell (p := ⟨B, 1, none⟩) h.1).trans h.2.2.1, (hb.cell (p := ⟨B, 2, none⟩) h.1).trans h.2.2.2⟩

theorem cell_new (w : World) (cs : Array Value) (t i : Nat) : (w.alloc (.cells cs t)).cell? ⟨w.heap.size, i, none⟩ = cs[i]? := by
  have := World.alloc_heap_new w (.cells cs t)
  rw [World.cell?, this]; rfl

theorem below_drew {B : Nat} {w w' : World} (h : Below B w w') : Below B w w'.drew := ⟨h.os, h.tape, h.output, h.size, h.block⟩

def IntOut (n : Int) (w : World) (e : Ending) (w' : World) : Prop := e = .returned (.int .i64 n) ∧ Below w.heap.size w w'

set_option maxRecDepth 100000 in
set_option maxHeartbeats 1000000 in
theorem find1_any (f : FileB) (q : ByteArray) (B : Nat) (v : Value) (w : World) (hs : SBox w B v) (h1 : f.1.size ≤ 20300) (h2 : q.size ≤ 20300) :
    Calls Try.prog 68 #[fileV f, .string q, .pointer (some ⟨B, 0, none⟩)] w (IntOut (compareN f.1 q) w) := by
  obtain ⟨p, d⟩ := f
  have hb0 : Below w.heap.size w (w.alloc (.cells #[.string p, .string d] 32)) := (Below.refl _ _).alloc (Nat.le_refl _) _
  obtain ⟨-, hc0, hc1, hc2⟩ := hs.below hb0
  have hB := hs.1
  have k0 := cell_new w #[.string p, .string d] 32 0
  have k1 := cell_new w #[.string p, .string d] 32 1
  change _ = some (Value.string p) at k0
  change _ = some (Value.string d) at k1
  unfold fileV
  go_enter Try.func68, Try.ntmps68
  go_wp2
  go_region_held3 (fun w' => w'.cell? ⟨B, 1, none⟩ = some (.func (.func 59) #[] #[]) ∧ w'.cell? ⟨B, 2, none⟩ = some (.func (.func 60) #[] #[]) ∧ w'.cell? ⟨w.heap.size, 0, none⟩ = some (.string p) ∧ w'.cell? ⟨w.heap.size, 1, none⟩ = some (.string d)) (first | go_keep | (go_split_ands; refine ⟨?_, ?_, ?_, ?_⟩ <;> (rw [hb.cell (by simp; omega)]; assumption)))
    (first | (go_at_call 59; refine (pathOf_any (p, d) _).mono ?_; rintro e w' ⟨rfl, rfl⟩) | (go_at_call 60; refine (compare_any _ _ (by omega) (by omega) _).mono ?_; rintro e w1 ⟨rfl, hb⟩))
  go_wp2
  go_ret
  exact ⟨rfl, (below_drew (hb0.alloc (by simp) _)).trans (hb.mono (by simp; omega))⟩

def Up (xs : List FileB) : Prop := xs.Pairwise fun a b => compareN a.1 b.1 = -1
def placeN (xs : List FileB) (q : ByteArray) : Nat := (xs.filter fun f => decide (compareN f.1 q < 0)).length
def hasP (xs : List FileB) (q : ByteArray) : Bool := xs.any fun f => decide (compareN f.1 q = 0)
theorem cmp_neg (a b : ByteArray) : compareN b a = -compareN a b := cmpE_neg _ _
theorem cmp_self (a : ByteArray) : compareN a a = 0 := cmpE_self _
theorem cmp_range (a b : ByteArray) : compareN a b = -1 ∨ compareN a b = 0 ∨ compareN a b = 1 := cmpE_range _ _
theorem cmp_lt {a b c : ByteArray} (h : compareN a b < 0) (k : compareN b c ≤ 0) : compareN a c < 0 := by
  have h1 : compareN a c ≤ 0 := cmpE_trans _ _ _ (Int.le_of_lt h) k
  by_cases e : compareN a c = 0
  · have := compareN_eq e
    subst this
    rw [cmp_neg] at k
    omega
  · omega
theorem cmp_lt' {a b c : ByteArray} (h : compareN a b ≤ 0) (k : compareN b c < 0) : compareN a c < 0 := by
  have h1 : compareN a c ≤ 0 := cmpE_trans _ _ _ h (Int.le_of_lt k)
  by_cases e : compareN a c = 0
  · have := compareN_eq e
    subst this
    rw [cmp_neg] at k
    omega
  · omega

/-- What a search has found out: all ahead of i are lower, none from j on is. -/
def Seek (xs : List FileB) (q : ByteArray) (i j : Nat) : Prop := i ≤ j ∧ j ≤ xs.length ∧ (∀ f ∈ xs.take i, compareN f.1 q < 0) ∧ ∀ f ∈ xs.drop j, ¬ compareN f.1 q < 0
theorem Seek.start (xs : List FileB) (q : ByteArray) : Seek xs q 0 xs.length := ⟨Nat.zero_le _, Nat.le_refl _, by simp, by simp⟩
theorem up_at {xs : List FileB} (h : Up xs) {i j : Nat} (hij : i < j) (hj : j < xs.length) : compareN xs[i].1 xs[j].1 = -1 := (List.pairwise_iff_getElem.1 h) i j (by omega) hj hij
theorem Seek.low {xs : List FileB} {q : ByteArray} {i j m : Nat} (h : Seek xs q i j) (hu : Up xs) (h1 : i ≤ m) (h2 : m < j) (hm : m < xs.length) (e : compareN xs[m].1 q < 0) : Seek xs q (m + 1) j := by
  refine ⟨h2, h.2.1, fun f hf => ?_, h.2.2.2⟩
  obtain ⟨k, hk, rfl⟩ := List.mem_iff_getElem.1 hf
  rw [List.length_take] at hk
  rw [List.getElem_take]
  by_cases hkm : k = m
  · subst hkm; exact e
  · have := up_at hu (i := k) (j := m) (by omega) hm
    exact cmp_lt (by omega) (Int.le_of_lt e)
theorem Seek.high {xs : List FileB} {q : ByteArray} {i j m : Nat} (h : Seek xs q i j) (hu : Up xs) (h1 : i ≤ m) (hm : m < xs.length) (e : ¬ compareN xs[m].1 q < 0) : Seek xs q i m := by
  refine ⟨h1, by omega, h.2.2.1, fun f hf hc => ?_⟩
  obtain ⟨k, hk, rfl⟩ := List.mem_iff_getElem.1 hf
  rw [List.length_drop] at hk
  rw [List.getElem_drop] at hc
  by_cases hkm : k = 0
  · subst hkm; exact e hc
  · have := up_at hu (i := m) (j := m + k) (by omega) (by omega)
    exact e (cmp_lt (b := xs[m + k].1) (by omega) (Int.le_of_lt hc))
theorem Seek.place {xs : List FileB} {q : ByteArray} {i : Nat} (h : Seek xs q i i) : placeN xs q = i := by
  unfold placeN
  have e : xs.filter (fun f => decide (compareN f.1 q < 0)) = xs.take i := by
    conv => lhs; rw [← List.take_append_drop i xs]
    rw [List.filter_append, List.filter_eq_self.2 (fun f hf => decide_eq_true (h.2.2.1 f hf)), List.filter_eq_nil_iff.2 (fun f hf => by simpa using h.2.2.2 f hf), List.append_nil]
  rw [e, List.length_take]
  have := h.2.1
  omega
theorem Seek.has {xs : List FileB} {q : ByteArray} {i : Nat} (h : Seek xs q i i) (hu : Up xs) (hi : i < xs.length) : hasP xs q = decide (compareN xs[i].1 q = 0) := by
  unfold hasP
  by_cases e : compareN xs[i].1 q = 0
  · rw [decide_eq_true e, List.any_eq_true]
    exact ⟨xs[i], List.getElem_mem hi, decide_eq_true e⟩
  · rw [decide_eq_false e, List.any_eq_false]
    intro f hf hc
    simp only [decide_eq_true_eq] at hc
    obtain ⟨k, hk, rfl⟩ := List.mem_iff_getElem.1 hf
    by_cases h1 : k < i
    · have := h.2.2.1 xs[k] (by rw [List.mem_iff_getElem]; exact ⟨k, by rw [List.length_take]; omega, by rw [List.getElem_take]⟩)
      omega
    · by_cases h2 : k = i
      · subst h2; exact e hc
      · have h3 := up_at hu (i := i) (j := k) (by omega) hk
        have h4 := h.2.2.2 xs[i] (by rw [List.mem_iff_getElem]; exact ⟨0, by rw [List.length_drop]; omega, by rw [List.getElem_drop]; rfl⟩)
        exact h4 (cmp_lt (b := xs[k].1) (by omega) (by omega))
theorem Seek.none {xs : List FileB} {q : ByteArray} {i : Nat} (h : Seek xs q i i) (hi : ¬ i < xs.length) : hasP xs q = false := by
  unfold hasP
  rw [List.any_eq_false]
  intro f hf hc
  simp only [decide_eq_true_eq] at hc
  have := h.2.2.1 f (by rw [List.take_of_length_le (by omega)]; exact hf)
  omega

def FindOut (xs : List FileB) (q : ByteArray) (w : World) (e : Ending) (w' : World) : Prop := e = .returned (.tuple #[.int .i64 (placeN xs q), .bool (hasP xs q)]) ∧ Below w.heap.size w w'

set_option maxRecDepth 100000 in
set_option maxHeartbeats 1000000 in
theorem bsearch_any (xs : List FileB) (v u : Value) (q : ByteArray) (B : Nat) (w : World) (hv : FRow w v xs) (hs : SBox w B u) (h1 : Short xs) (h2 : q.size ≤ 20300) (hm : xs.length ≤ 1000) (hu : Up xs) :
    Calls Try.prog 67 #[v, .string q, .func (.func 68) #[] #[.pointer (some ⟨B, 0, none⟩)]] w (FindOut xs q w) := by
  have HV := Lib.hid hv
  obtain ⟨a, c, rfl, hl, -⟩ := hv
  have H1 := Lib.hid h1
  have HS := Lib.hid hs
  have HU := Lib.hid hu
  clear h1 hs hu
  go_enter Try.func67, Try.ntmps67
  go_wp2
  go_loopw [9, 10] (fun i j wr => ∃ k l : Nat, i = .int .i64 k ∧ j = .int .i64 l ∧ Seek xs q k l ∧ Below w.heap.size w wr) (fun i j _ => (intOf j - intOf i).toNat)
  case atStart => exact ⟨0, xs.length, rfl, rfl, Seek.start xs q, Below.refl _ _⟩
  case round =>
    obtain ⟨k, l, rfl, rfl, ht, hb⟩ := hrel
    have hkl := ht.1
    have hll := ht.2.1
    have HT := Lib.hid ht
    clear ht
    have hz := hb.size
    by_cases hlt : k < l
    · have hm1 : k ≤ (k + l) / 2 := by omega
      have hm2 : (k + l) / 2 < l := by omega
      have hm3 : (k + l) / 2 < xs.length := by omega
      obtain ⟨a', c', e', hl', hcl⟩ := HV.out.below hb
      cases e'
      obtain ⟨g, o, rfl, hg, hcell⟩ := hcl (by intro e; rw [e] at hm3; simp at hm3)
      obtain ⟨q1, q2⟩ := hcell ((k + l) / 2) hm3
      have hsh := H1.out _ (List.getElem_mem hm3)
      have HLo := Lib.hid (fun h => HT.out.low HU.out hm1 hm2 hm3 h)
      have HHi := Lib.hid (fun h => HT.out.high HU.out hm1 hm3 h)
      clear hcell hcl
      generalize xs[(k + l) / 2] = x at *
      obtain ⟨x1, x2⟩ := x
      go_wp2_with fail
      refine (find1_any (x1, x2) q B _ _ (HS.out.below hb) hsh h2).mono ?_
      rintro _ w1 ⟨rfl, hb1⟩
      replace hb := hb.trans (hb1.mono hz)
      by_cases hcmp : compareN x1 q < 0
      · have HP := Lib.hid (HLo.out hcmp)
        go_wp2
        go_roundw
        case rel => exact ⟨(k + l) / 2 + 1, l, by go_num, rfl, HP.out, hb⟩
        case measure => simp [intOf]; omega
      · have HP := Lib.hid (HHi.out (by omega))
        go_wp2
        go_roundw
        case rel => exact ⟨k, (k + l) / 2, rfl, by go_num, HP.out, hb⟩
        case measure => simp [intOf]; omega
    · obtain rfl : k = l := by omega
      have HP := Lib.hid HT.out.place
      by_cases hend : k < xs.length
      · obtain ⟨a', c', e', hl', hcl⟩ := HV.out.below hb
        cases e'
        obtain ⟨g, o, rfl, hg, hcell⟩ := hcl (by intro e; rw [e] at hend; simp at hend)
        obtain ⟨q1, q2⟩ := hcell k hend
        have hsh := H1.out _ (List.getElem_mem hend)
        have HH := Lib.hid (HT.out.has HU.out hend)
        clear hcell hcl
        generalize xs[k] = x at *
        obtain ⟨x1, x2⟩ := x
        go_wp2_with fail
        refine (find1_any (x1, x2) q B _ _ (HS.out.below hb) hsh h2).mono ?_
        rintro _ w1 ⟨rfl, hb1⟩
        replace hb := hb.trans (hb1.mono hz)
        by_cases hcmp : compareN x1 q = 0
        · have hcb : (compareN x1 q == 0) = true := by simp [hcmp]
          have HC := Lib.hid hcmp
          clear hcmp
          go_wp2
          go_ret2
          exact ⟨by rw [HP.out, HH.out]; simp [HC.out], hb⟩
        · have hcb : (compareN x1 q == 0) = false := by simp [hcmp]
          have HC := Lib.hid hcmp
          clear hcmp
          go_wp2
          go_ret2
          exact ⟨by rw [HP.out, HH.out]; simp [HC.out], hb⟩
      · have HH := Lib.hid (HT.out.none hend)
        go_wp2
        go_ret2
        exact ⟨by rw [HP.out, HH.out]; rfl, hb⟩

set_option maxRecDepth 100000 in
set_option maxHeartbeats 1000000 in
theorem find_any (xs : List FileB) (v : Value) (q : ByteArray) (w : World) (hv : FRow w v xs) (h1 : Short xs) (h2 : q.size ≤ 20300) (hm : xs.length ≤ 1000) (hu : Up xs) :
    Calls Try.prog 48 #[sortV v, .string q] w (FindOut xs q w) := by
  have hb0 : Below w.heap.size w (w.alloc (.cells #[v, .func (.func 59) #[] #[], .func (.func 60) #[] #[]] 54)) := (Below.refl _ _).alloc (Nat.le_refl _) _
  have hs : SBox (w.alloc (.cells #[v, .func (.func 59) #[] #[], .func (.func 60) #[] #[]] 54)) w.heap.size v := ⟨by simp, cell_new _ _ _ 0, cell_new _ _ _ 1, cell_new _ _ _ 2⟩
  have HX := Lib.hid (bsearch_any xs v v q w.heap.size _ (hv.below hb0) hs h1 h2 hm hu)
  obtain ⟨a, c, rfl, hl, -⟩ := hv
  clear h1 hs hu
  unfold sortV
  go_enter Try.func48, Try.ntmps48
  go_wp2_with fail
  refine HX.out.mono ?_
  rintro _ w1 ⟨rfl, hb⟩
  go_wp2
  go_ret2
  exact ⟨rfl, hb0.trans (hb.mono hb0.size)⟩
end Go.Proofs.Yteffoajheolpmaa
