/-
  Small functions over files: within, inside, what is wrong with one file, whether a path clashes with a list's.
-/
import Derived.Test.YteffoajheolpmaaF0
import Derived.Laws.EntriesVeiled
namespace Go.Proofs.Yteffoajheolpmaa
open Go.RowKit Go.Shelf

def wB (p d : ByteArray) : Bool := (withinB p d).2
def insideB (p d : ByteArray) : Bool := (withinB p d).2 && !((withinB p d).1.toList == [])
def checkFileN (f : FileB) : Int := if validB f.1 then (if 4000 < f.2.size then 2 else 0) else 10
def clashB (p q : ByteArray) : Bool := !(p.toList == q.toList) && (wB p q || wB q p)

theorem valid_all (s : ByteArray) (w : World) (hs : s.size ≤ maxLen) :
    Calls Try.prog 63 #[.string s] w fun e w' => e = .returned (.bool (validB s)) ∧ Below w.heap.size w w' := by
  by_cases h : s.size ≤ 20400
  · exact valid_any s h w
  · have HJ := Lib.hid (show validB s = false by simp [validB]; omega)
    have h2 : ¬ s.size ≤ 60 := by omega
    unfold maxLen at hs
    go_enter Try.func63, Try.ntmps63
    go_wp2
    go_ret
    exact ⟨ret_bool HJ.out.symm, Below.refl _ _⟩
theorem rvalid_all (s : ByteArray) (w : World) (hs : s.size ≤ maxLen) :
    Calls Try.prog 27 #[.string s] w fun e w' => e = .returned (.bool (validB s)) ∧ Below w.heap.size w w' := by
  by_cases h : s.size ≤ 20400
  · exact rvalid_any s h w
  · have HJ := Lib.hid (show validB s = false by simp [validB]; omega)
    have h2 : ¬ s.size ≤ 60 := by omega
    unfold maxLen at hs
    go_enter Try.func27, Try.ntmps27
    go_wp2
    go_ret
    exact ⟨ret_bool HJ.out.symm, Below.refl _ _⟩

set_option maxRecDepth 100000 in
set_option maxHeartbeats 400000 in
theorem twithin_any (p d : ByteArray) (w : World) (hd : d.size ≤ 20300) :
    Calls Try.prog 64 #[.string p, .string d] w fun e w' => e = .returned (.bool (wB p d)) ∧ w = w' := by
  go_enter Try.func64, Try.ntmps64
  go_wp2_with (go_at_call 54; refine (within_any _ _ _ hd).mono ?_; rintro e w' ⟨rfl, rfl⟩)
  go_ret
  exact ⟨rfl, rfl⟩

theorem inside_1 {p d : ByteArray} (h : (withinB p d).2 = false) : insideB p d = false := by simp [insideB, h]
theorem inside_2 {p d : ByteArray} (h : (withinB p d).2 = true) : insideB p d = !((withinB p d).1.toList == []) := by simp [insideB, h]

set_option maxRecDepth 100000 in
set_option maxHeartbeats 400000 in
theorem inside_any (p d : ByteArray) (w : World) (hd : d.size ≤ 20300) :
    Calls Try.prog 44 #[.string p, .string d] w fun e w' => e = .returned (.bool (insideB p d)) ∧ w = w' := by
  cases h1 : (withinB p d).2
  · have HJ := Lib.hid (inside_1 h1)
    go_enter Try.func44, Try.ntmps44
    go_wp2_with (go_at_call 56; refine (rwithin_any _ _ _ hd).mono ?_; rintro e w' ⟨rfl, rfl⟩)
    go_ret
    exact ⟨ret_bool HJ.out.symm, rfl⟩
  · have HJ := Lib.hid (inside_2 h1)
    go_enter Try.func44, Try.ntmps44
    go_wp2_with (go_at_call 56; refine (rwithin_any _ _ _ hd).mono ?_; rintro e w' ⟨rfl, rfl⟩)
    all_goals
      go_ret
      exact ⟨ret_bool (by rw [HJ.out]; simp_all), rfl⟩

set_option maxRecDepth 100000 in
set_option maxHeartbeats 400000 in
theorem checkFile_any (f : FileB) (w : World) (h1 : f.1.size ≤ maxLen) (h2 : f.2.size ≤ maxLen) :
    Calls Try.prog 41 #[fileV f] w fun e w' => e = .returned (.int .i64 (checkFileN f)) ∧ Below w.heap.size w w' := by
  obtain ⟨p, d⟩ := f
  unfold fileV
  cases hv : validB p
  · have HJ := Lib.hid (show checkFileN (p, d) = 10 by simp [checkFileN, hv])
    have hb0 : Below w.heap.size w (w.alloc (.cells #[.string p, .string d] 32)) := (Below.refl _ _).alloc (Nat.le_refl _) _
    go_enter Try.func41, Try.ntmps41
    go_wp2_with (go_at_call 63; refine (valid_all _ _ h1).mono ?_; rintro e w1 ⟨rfl, hb⟩)
    go_ret
    exact ⟨ret_int HJ.out.symm, hb0.trans (hb.mono hb0.size)⟩
  · by_cases hd : 4000 < d.size
    · have HJ := Lib.hid (show checkFileN (p, d) = 2 by simp [checkFileN, hv, hd])
      go_enter Try.func41, Try.ntmps41
      have hb0 : Below w.heap.size w (w.alloc (.cells #[.string p, .string d] 32)) := (Below.refl _ _).alloc (Nat.le_refl _) _
      go_wp2_with (go_at_call 63; refine (valid_all _ _ h1).mono ?_; rintro e w1 ⟨rfl, hb⟩; have q1 := hb.cell (p := ⟨w.heap.size, 1, none⟩) (by simp))
      go_ret
      exact ⟨ret_int HJ.out.symm, hb0.trans (hb.mono hb0.size)⟩
    · have HJ := Lib.hid (show checkFileN (p, d) = 0 by simp [checkFileN, hv, hd])
      go_enter Try.func41, Try.ntmps41
      have hb0 : Below w.heap.size w (w.alloc (.cells #[.string p, .string d] 32)) := (Below.refl _ _).alloc (Nat.le_refl _) _
      go_wp2_with (go_at_call 63; refine (valid_all _ _ h1).mono ?_; rintro e w1 ⟨rfl, hb⟩; have q1 := hb.cell (p := ⟨w.heap.size, 1, none⟩) (by simp))
      go_ret
      exact ⟨ret_int HJ.out.symm, hb0.trans (hb.mono hb0.size)⟩

set_option maxRecDepth 100000 in
set_option maxHeartbeats 400000 in
theorem pathOf_any (f : FileB) (w : World) :
    Calls Try.prog 59 #[fileV f] w fun e w' => e = .returned (.string f.1) ∧ w' = w.alloc (.cells #[.string f.1, .string f.2] 32) := by
  unfold fileV
  go_enter Try.func59, Try.ntmps59
  go_wp2
  go_ret
  exact ⟨rfl, rfl⟩

/-- A sorted list, as a value. -/
def sortV (v : Value) : Value := .agg #[v, .func (.func 59) #[] #[], .func (.func 60) #[] #[]]
def SortOut (v : Value) (w : World) (e : Ending) (w' : World) : Prop := e = .returned (sortV v) ∧ Below w.heap.size w w'

set_option maxRecDepth 100000 in
set_option maxHeartbeats 400000 in
theorem byPath_any (a : Option Addr) (n c : Nat) (w : World) :
    Calls Try.prog 39 #[.slice a n c] w (SortOut (.slice a n c) w) := by
  go_enter Try.func39, Try.ntmps39
  go_wp2
  exact bodyPost_ret (v := sortV (.slice a n c)) (by simp [results, Try.results39, go_sem, sortV]) rfl ⟨rfl, (Below.refl _ _).alloc (Nat.le_refl _) _⟩

theorem clash_1 {p q : ByteArray} (h : (p.toList == q.toList) = true) : clashB p q = false := by simp only [clashB, h]; rfl
theorem clash_2 {p q : ByteArray} (h : (p.toList == q.toList) = false) (k : wB p q = true) : clashB p q = true := by simp only [clashB, h, k]; rfl
theorem clash_3 {p q : ByteArray} (h : (p.toList == q.toList) = false) (k : wB p q = false) : clashB p q = wB q p := by simp only [clashB, h, k]; rfl

set_option maxRecDepth 100000 in
set_option maxHeartbeats 400000 in
theorem clash1_any (f : FileB) (q : ByteArray) (B : Nat) (w : World) (hB : B < w.heap.size) (hc : w.cell? ⟨B, 0, none⟩ = some (.string q)) (h1 : f.1.size ≤ 20300) (h2 : q.size ≤ 20300) :
    Calls Try.prog 66 #[fileV f, .pointer (some ⟨B, 0, none⟩)] w fun e w' => e = .returned (.bool (clashB f.1 q)) ∧ w' = w.alloc (.cells #[.string f.1, .string f.2] 32) := by
  unfold fileV
  obtain ⟨p, d⟩ := f
  have hc' : (w.alloc (.cells #[.string p, .string d] 32)).cell? ⟨B, 0, none⟩ = some (.string q) := (((Below.refl w.heap.size w).alloc (Nat.le_refl _) _).cell (p := ⟨B, 0, none⟩) hB).trans hc
  cases h : (p.toList == q.toList)
  · have h' : (p.toList != q.toList) = true := by simp [bne, h]
    cases k : wB p q
    · have HJ := Lib.hid (clash_3 h k)
      go_enter Try.func66, Try.ntmps66
      go_wp2_with (go_at_call 64; refine (twithin_any _ _ _ (by assumption)).mono ?_; rintro e w' ⟨rfl, rfl⟩)
      go_ret
      exact ⟨ret_bool HJ.out.symm, rfl⟩
    · have HJ := Lib.hid (clash_2 h k)
      go_enter Try.func66, Try.ntmps66
      go_wp2_with (go_at_call 64; refine (twithin_any _ _ _ (by assumption)).mono ?_; rintro e w' ⟨rfl, rfl⟩)
      go_ret
      exact ⟨ret_bool HJ.out.symm, rfl⟩
  · have h' : (p.toList != q.toList) = false := by simp [bne, h]
    have HJ := Lib.hid (clash_1 h)
    go_enter Try.func66, Try.ntmps66
    go_wp2
    go_ret
    exact ⟨ret_bool HJ.out.symm, rfl⟩

theorem any_on {xs : List FileB} {p : FileB → Bool} {k : Nat} (h : (xs.take k).any p = false) (hk : k < xs.length) (e : p xs[k] = false) : (xs.take (k + 1)).any p = false := by
  rw [List.take_succ_eq_append_getElem hk, List.any_append, h]; simp [e]
theorem any_yes {xs : List FileB} {p : FileB → Bool} {k : Nat} (hk : k < xs.length) (e : p xs[k] = true) : xs.any p = true := by
  rw [List.any_eq_true]; exact ⟨xs[k], List.getElem_mem hk, e⟩
theorem any_end {xs : List FileB} {p : FileB → Bool} {k : Nat} (h : (xs.take k).any p = false) (hk : xs.length ≤ k) : xs.any p = false := by
  rwa [List.take_of_length_le hk] at h

/-- All paths short. -/
def Short (xs : List FileB) : Prop := ∀ f ∈ xs, f.1.size ≤ 20300
def clashesB (xs : List FileB) (q : ByteArray) : Bool := xs.any fun f => clashB f.1 q
def IdxOut (b : Bool) (w : World) (e : Ending) (w' : World) : Prop := ∃ n : Int, e = .returned (.int .i64 n) ∧ decide (0 ≤ n) = b ∧ Below w.heap.size w w'

set_option maxRecDepth 100000 in
set_option maxHeartbeats 1000000 in
theorem indexFunc_any (xs : List FileB) (v : Value) (q : ByteArray) (B : Nat) (w : World) (hv : FRow w v xs) (hB : B < w.heap.size) (hc : w.cell? ⟨B, 0, none⟩ = some (.string q)) (h1 : Short xs) (h2 : q.size ≤ 20300) (hm : xs.length ≤ 1000) :
    Calls Try.prog 77 #[v, .func (.func 66) #[] #[.pointer (some ⟨B, 0, none⟩)]] w (IdxOut (clashesB xs q) w) := by
  have HV := Lib.hid hv
  obtain ⟨a, c, rfl, hl, -⟩ := hv
  have H1 := Lib.hid h1
  have HQ := Lib.hid hc
  clear h1 hc
  go_enter Try.func77, Try.ntmps77
  go_wp2
  go_loopw [8] (fun i wr => ∃ k : Nat, k ≤ xs.length ∧ i = .int .i64 k ∧ ((xs.take k).any fun f => clashB f.1 q) = false ∧ Below w.heap.size w wr) (fun i _ => xs.length - (intOf i).toNat)
  case atStart => exact ⟨0, Nat.zero_le _, rfl, rfl, Below.refl _ _⟩
  case round =>
    obtain ⟨k, hk, rfl, ht, hb⟩ := hrel
    have HT := Lib.hid ht
    clear ht
    by_cases hlt : k < xs.length
    · obtain ⟨a', c', e', hl', hcl⟩ := HV.out.below hb
      cases e'
      obtain ⟨g, o, rfl, hg, hcell⟩ := hcl (by intro e; rw [e] at hlt; simp at hlt)
      obtain ⟨q1, q2⟩ := hcell k hlt
      have hs := H1.out _ (List.getElem_mem hlt)
      have HN := Lib.hid (fun h => any_yes (p := fun f => clashB f.1 q) hlt h)
      have HY := Lib.hid (fun h => any_on HT.out hlt h)
      have hq : wr.cell? ⟨B, 0, none⟩ = some (.string q) := (hb.cell (p := ⟨B, 0, none⟩) hB).trans HQ.out
      have hz := hb.size
      clear hcell hcl
      generalize xs[k] = x at *
      obtain ⟨x1, x2⟩ := x
      go_wp2_with fail
      refine (clash1_any (x1, x2) q B _ (by omega) hq hs h2).mono ?_
      rintro _ w1 ⟨rfl, rfl⟩
      cases hcl : clashB x1 q
      · have HP := Lib.hid (HY.out hcl)
        go_wp2
        go_roundw
        case rel => exact ⟨k + 1, by omega, by go_num, HP.out, hb.alloc hz _⟩
        case measure => simp [intOf]; omega
      · have HP := Lib.hid (HN.out hcl)
        go_wp2
        go_ret
        exact ⟨k, rfl, by unfold clashesB; rw [HP.out]; simp, hb.alloc hz _⟩
    · have HP := Lib.hid (any_end HT.out (by omega))
      go_wp2
      go_ret
      exact ⟨-1, rfl, by unfold clashesB; rw [HP.out]; simp, hb⟩

def BoolOut (b : Bool) (w : World) (e : Ending) (w' : World) : Prop := e = .returned (.bool b) ∧ Below w.heap.size w w'

set_option maxRecDepth 100000 in
set_option maxHeartbeats 400000 in
theorem contains_any (xs : List FileB) (v : Value) (q : ByteArray) (B : Nat) (w : World) (hv : FRow w v xs) (hB : B < w.heap.size) (hc : w.cell? ⟨B, 0, none⟩ = some (.string q)) (h1 : Short xs) (h2 : q.size ≤ 20300) (hm : xs.length ≤ 1000) :
    Calls Try.prog 65 #[v, .func (.func 66) #[] #[.pointer (some ⟨B, 0, none⟩)]] w (BoolOut (clashesB xs q) w) := by
  have HX := Lib.hid (indexFunc_any xs v q B w hv hB hc h1 h2 hm)
  obtain ⟨a, c, rfl, hl, -⟩ := hv
  clear hc h1
  go_enter Try.func65, Try.ntmps65
  go_wp2_with fail
  refine HX.out.mono ?_
  rintro _ w1 ⟨n, rfl, hn, hb⟩
  have HN := Lib.hid hn
  clear hn
  go_wp2
  all_goals
    go_ret
    exact ⟨ret_bool (by rw [← HN.out]), hb⟩

set_option maxRecDepth 100000 in
set_option maxHeartbeats 400000 in
theorem clashes_any (xs : List FileB) (v : Value) (q : ByteArray) (w : World) (hv : FRow w v xs) (h1 : Short xs) (h2 : q.size ≤ 20300) (hm : xs.length ≤ 1000) :
    Calls Try.prog 46 #[v, .string q] w (BoolOut (clashesB xs q) w) := by
  have hb0 : Below w.heap.size w (w.alloc (.cells #[.string q] 9)) := (Below.refl _ _).alloc (Nat.le_refl _) _
  have c0 := (Boxed.new w 9 (.string q)).cell
  have HX := Lib.hid (contains_any xs v q w.heap.size _ (hv.below hb0) (by simp) c0 h1 h2 hm)
  obtain ⟨a, c, rfl, hl, -⟩ := hv
  clear c0 h1
  go_enter Try.func46, Try.ntmps46
  go_wp2_with fail
  refine HX.out.mono ?_
  rintro _ w1 ⟨rfl, hb⟩
  go_wp2
  go_ret
  exact ⟨rfl, hb0.trans (hb.mono hb0.size)⟩
end Go.Proofs.Yteffoajheolpmaa
