/-
  What is wrong with a tree of files: tree.Check and the document's own.
-/
import Derived.Test.YtcbpkbemnaondaaGreatDoorN13
import Derived.Test.YtcbpkbemnaondaaGreatDoorZE5
set_option linter.unusedVariables false
namespace Go.Proofs.YtcbpkbemnaondaaGreatDoor
open Go.RowKit Go.Shelf

set_option maxHeartbeats 400000 in
theorem here_any (s : ByteArray) (w : World) :
    Calls Tryz.prog 164 #[.string s] w fun e w' => e = .returned (.bool (hereB s)) ∧ w = w' := by
  go_enter Tryz.func164, Tryz.ntmps164
  go_wp2
  all_goals
    go_ret
    exact ⟨ret_bool (by simp [hereB, *]), rfl⟩


set_option maxHeartbeats 400000 in
theorem pwithin_any (s d : ByteArray) (w : World) (hb : d.size ≤ 20300) :
    Calls Tryz.prog 150 #[.string s, .string d] w fun e w' => e = .returned (.tuple #[.string (withinB s d).1, .bool (withinB s d).2]) ∧ w = w' := by
  cases h1 : hereB d
  · cases h2 : (s.toList == d.toList)
    · cases h3 : prefB s (d ++ ⟨#[47]⟩)
      · have J := Lib.hid (withinB_4 h1 h2 h3)
        go_enter Tryz.func150, Tryz.ntmps150
        go_wp2_with (first | (go_at_call 164; refine (here_any _ _).mono ?_; rintro e w' ⟨rfl, rfl⟩) | (go_at_call 120; refine (cutp_any _ _ _).mono ?_; rintro e w' ⟨rfl, rfl⟩))
        go_ret2
        exact ⟨ret_sb (a := (⟨#[]⟩, false)) J.out.symm, rfl⟩
      · have J := Lib.hid (withinB_3 h1 h2 h3)
        go_enter Tryz.func150, Tryz.ntmps150
        go_wp2_with (first | (go_at_call 164; refine (here_any _ _).mono ?_; rintro e w' ⟨rfl, rfl⟩) | (go_at_call 120; refine (cutp_any _ _ _).mono ?_; rintro e w' ⟨rfl, rfl⟩))
        go_ret2
        refine ⟨?_, rfl⟩
        rw [J.out]
        simp
    · have J := Lib.hid (withinB_2 h1 h2)
      go_enter Tryz.func150, Tryz.ntmps150
      go_wp2_with (go_at_call 164; refine (here_any _ _).mono ?_; rintro e w' ⟨rfl, rfl⟩)
      go_ret2
      exact ⟨ret_sb (a := (⟨#[]⟩, true)) J.out.symm, rfl⟩
  · have J := Lib.hid (withinB_1 (s := s) h1)
    go_enter Tryz.func150, Tryz.ntmps150
    go_wp2_with (go_at_call 164; refine (here_any _ _).mono ?_; rintro e w' ⟨rfl, rfl⟩)
    go_ret2
    exact ⟨ret_sb (a := (s, true)) J.out.symm, rfl⟩



set_option maxHeartbeats 400000 in
theorem prwithin_any (s d : ByteArray) (w : World) (hb : d.size ≤ 20300) :
    Calls Tryz.prog 94 #[.string s, .string d] w fun e w' => e = .returned (.tuple #[.string (withinB s d).1, .bool (withinB s d).2]) ∧ w = w' := by
  go_enter Tryz.func94, Tryz.ntmps94
  go_wp2
  · go_ret2; exact ⟨ret_sb (a := (s, true)) (withinB_1 (hereB_yes ‹_›)).symm, rfl⟩
  · go_ret2; exact ⟨ret_sb (a := (s, true)) (withinB_1 (hereB_yes2 ‹_›)).symm, rfl⟩
  · go_ret2; exact ⟨ret_sb (a := (⟨#[]⟩, true)) (withinB_2 (hereB_no ‹_›) ‹_›).symm, rfl⟩
  · go_ret2; exact ⟨ret_sb (a := (s.extract (d.size + 1) s.size, true)) (withinB_3 (hereB_no ‹_›) ‹_› (prefB_yes ‹_› ‹_›)).symm, rfl⟩
  · go_ret2; exact ⟨ret_sb (a := (⟨#[]⟩, false)) (withinB_4 (hereB_no ‹_›) ‹_› (prefB_no1 ‹_›)).symm, rfl⟩
  · go_ret2; exact ⟨ret_sb (a := (⟨#[]⟩, false)) (withinB_4 (hereB_no ‹_›) ‹_› (prefB_no2 ‹_›)).symm, rfl⟩


def wB (p d : ByteArray) : Bool := (withinB p d).2
def insideB (p d : ByteArray) : Bool := (withinB p d).2 && !((withinB p d).1.toList == [])
def checkFileN (f : FileB) : Int := if validB f.1 then (if 4000 < f.2.size then 2 else 0) else 10


theorem valid_all (s : ByteArray) (w : World) (hs : s.size ≤ maxLen) :
    Calls Tryz.prog 80 #[.string s] w fun e w' => e = .returned (.bool (validB s)) ∧ Below w.heap.size w w' := by
  by_cases h : s.size ≤ 20400
  · exact valid_any s h w
  · have HJ := Lib.hid (show validB s = false by simp [validB]; omega)
    have h2 : ¬ s.size ≤ 60 := by omega
    unfold maxLen at hs
    go_enter Tryz.func80, Tryz.ntmps80
    go_wp2
    go_ret
    exact ⟨ret_bool HJ.out.symm, Below.refl _ _⟩
theorem rvalid_all (s : ByteArray) (w : World) (hs : s.size ≤ maxLen) :
    Calls Tryz.prog 58 #[.string s] w fun e w' => e = .returned (.bool (validB s)) ∧ Below w.heap.size w w' := by
  by_cases h : s.size ≤ 20400
  · exact rvalid_any s h w
  · have HJ := Lib.hid (show validB s = false by simp [validB]; omega)
    have h2 : ¬ s.size ≤ 60 := by omega
    unfold maxLen at hs
    go_enter Tryz.func58, Tryz.ntmps58
    go_wp2
    go_ret
    exact ⟨ret_bool HJ.out.symm, Below.refl _ _⟩

set_option maxRecDepth 100000 in
set_option maxHeartbeats 400000 in
theorem twithin_any (p d : ByteArray) (w : World) (hd : d.size ≤ 20300) :
    Calls Tryz.prog 130 #[.string p, .string d] w fun e w' => e = .returned (.bool (wB p d)) ∧ w = w' := by
  go_enter Tryz.func130, Tryz.ntmps130
  go_wp2_with (go_at_call 150; refine (pwithin_any _ _ _ hd).mono ?_; rintro e w' ⟨rfl, rfl⟩)
  go_ret
  exact ⟨rfl, rfl⟩

theorem inside_1 {p d : ByteArray} (h : (withinB p d).2 = false) : insideB p d = false := by simp [insideB, h]
theorem inside_2 {p d : ByteArray} (h : (withinB p d).2 = true) : insideB p d = !((withinB p d).1.toList == []) := by simp [insideB, h]

set_option maxRecDepth 100000 in
set_option maxHeartbeats 400000 in
theorem inside_any (p d : ByteArray) (w : World) (hd : d.size ≤ 20300) :
    Calls Tryz.prog 60 #[.string p, .string d] w fun e w' => e = .returned (.bool (insideB p d)) ∧ w = w' := by
  cases h1 : (withinB p d).2
  · have HJ := Lib.hid (inside_1 h1)
    go_enter Tryz.func60, Tryz.ntmps60
    go_wp2_with (go_at_call 94; refine (prwithin_any _ _ _ hd).mono ?_; rintro e w' ⟨rfl, rfl⟩)
    go_ret
    exact ⟨ret_bool HJ.out.symm, rfl⟩
  · have HJ := Lib.hid (inside_2 h1)
    go_enter Tryz.func60, Tryz.ntmps60
    go_wp2_with (go_at_call 94; refine (prwithin_any _ _ _ hd).mono ?_; rintro e w' ⟨rfl, rfl⟩)
    all_goals
      go_ret
      exact ⟨ret_bool (by rw [HJ.out]; simp_all), rfl⟩

set_option maxRecDepth 100000 in
set_option maxHeartbeats 400000 in
theorem checkFile_any (f : FileB) (w : World) (h1 : f.1.size ≤ maxLen) (h2 : f.2.size ≤ maxLen) :
    Calls Tryz.prog 87 #[.agg #[.string f.1, .string f.2]] w fun e w' => e = .returned (.int .i64 (checkFileN f)) ∧ Below w.heap.size w w' := by
  obtain ⟨p, d⟩ := f
  cases hv : validB p
  · have HJ := Lib.hid (show checkFileN (p, d) = 10 by simp [checkFileN, hv])
    have hb0 : Below w.heap.size w (w.alloc (.cells #[.string p, .string d] 56)) := (Below.refl _ _).alloc (Nat.le_refl _) _
    go_enter Tryz.func87, Tryz.ntmps87
    go_wp2_with (go_at_call 80; refine (valid_all _ _ h1).mono ?_; rintro e w1 ⟨rfl, hb⟩)
    go_ret
    exact ⟨ret_int HJ.out.symm, hb0.trans (hb.mono hb0.size)⟩
  · by_cases hd : 4000 < d.size
    · have HJ := Lib.hid (show checkFileN (p, d) = 2 by simp [checkFileN, hv, hd])
      go_enter Tryz.func87, Tryz.ntmps87
      have hb0 : Below w.heap.size w (w.alloc (.cells #[.string p, .string d] 56)) := (Below.refl _ _).alloc (Nat.le_refl _) _
      go_wp2_with (go_at_call 80; refine (valid_all _ _ h1).mono ?_; rintro e w1 ⟨rfl, hb⟩; have q1 := hb.cell (p := ⟨w.heap.size, 1, none⟩) (by simp))
      go_ret
      exact ⟨ret_int HJ.out.symm, hb0.trans (hb.mono hb0.size)⟩
    · have HJ := Lib.hid (show checkFileN (p, d) = 0 by simp [checkFileN, hv, hd])
      go_enter Tryz.func87, Tryz.ntmps87
      have hb0 : Below w.heap.size w (w.alloc (.cells #[.string p, .string d] 56)) := (Below.refl _ _).alloc (Nat.le_refl _) _
      go_wp2_with (go_at_call 80; refine (valid_all _ _ h1).mono ?_; rintro e w1 ⟨rfl, hb⟩; have q1 := hb.cell (p := ⟨w.heap.size, 1, none⟩) (by simp))
      go_ret
      exact ⟨ret_int HJ.out.symm, hb0.trans (hb.mono hb0.size)⟩


theorem within_inside {p d : ByteArray} (hp : validB p = true) (hd : validB d = true) (hne : ¬ p = d) : wB p d = insideB p d := by
  have h0 := valid_here hd
  have h1 : (p.toList == d.toList) = false := by
    rw [beq_eq_false_iff_ne]; intro e; exact hne (toList_inj.1 e)
  unfold wB insideB
  cases h2 : prefB p (d ++ slashB)
  · rw [withinB_4 h0 h1 h2]; rfl
  · rw [withinB_3 h0 h1 h2]
    have he := pref_app h2
    have hsz : (d ++ slashB).size = d.size + 1 := by rw [size_app]; rfl
    rw [hsz] at he
    obtain ⟨_, h4⟩ := valid_pieces hp he
    simp only [Bool.true_and]
    symm
    rw [Bool.not_eq_true', beq_eq_false_iff_ne]
    intro e
    rw [hereB_yes e] at h4
    cases h4

theorem checkFile_1 {f : FileB} (h : validB f.1 = false) : checkFileN f = 10 := by simp [checkFileN, h]
theorem checkFile_2 {f : FileB} (h : validB f.1 = true) (k : 4000 < f.2.size) : checkFileN f = 2 := by simp [checkFileN, h, k]
theorem checkFile_3 {f : FileB} (h : validB f.1 = true) (k : ¬ 4000 < f.2.size) : checkFileN f = 0 := by simp [checkFileN, h, k]
theorem checkFile_n {f : FileB} {n : Int} (h : checkFileN f = n) (w : World) (h1 : f.1.size ≤ maxLen) (h2 : f.2.size ≤ maxLen) :
    Calls Tryz.prog 87 #[.agg #[.string f.1, .string f.2]] w fun e w' => e = .returned (.int .i64 n) ∧ Below w.heap.size w w' := by rw [← h]; exact checkFile_any f w h1 h2

def BoolOut (b : Bool) (w : World) (e : Ending) (w' : World) : Prop := e = .returned (.bool b) ∧ Below w.heap.size w w'

def FBox (w : World) (B : Nat) (f : FileB) : Prop := B < w.heap.size ∧ w.cell? ⟨B, 0, none⟩ = some (.string f.1) ∧ w.cell? ⟨B, 1, none⟩ = some (.string f.2)
theorem FBox.below {w w' : World} {B : Nat} {f : FileB} (h : FBox w B f) (hb : Below w.heap.size w w') : FBox w' B f :=
  ⟨Nat.lt_of_lt_of_le h.1 hb.size, (hb.cell (p := ⟨B, 0, none⟩) h.1).trans h.2.1, (hb.cell (p := ⟨B, 1, none⟩) h.1).trans h.2.2⟩
theorem FBox.alloc {w : World} {B : Nat} {f : FileB} (h : FBox w B f) (o : Obj) : FBox (w.alloc o) B f := h.below ((Below.refl _ w).alloc (Nat.le_refl _) _)
theorem FBox.new (w : World) (p d : ByteArray) : FBox (w.alloc (.cells #[.string p, .string d] 56)) w.heap.size (p, d) := ⟨by simp, cell_newR _ _ _ 0, cell_newR _ _ _ 1⟩

theorem below_drew {B : Nat} {w w' : World} (h : Below B w w') : Below B w w'.drew := ⟨h.os, h.tape, h.output, h.size, h.block⟩
def followsB (p a : ByteArray) : Bool := decide (compareN a p < 0) && !wB p a
theorem follows_1 {p a : ByteArray} (h : compareN a p < 0) (k : wB p a = false) : followsB p a = true := by simp [followsB, h, k]
theorem follows_2 {p a : ByteArray} (k : wB p a = true) : followsB p a = false := by simp [followsB, k]
theorem follows_3 {p a : ByteArray} (h : ¬ compareN a p < 0) : followsB p a = false := by simp [followsB]; omega

set_option maxRecDepth 100000 in
set_option maxHeartbeats 400000 in
theorem follows_any (p a : ByteArray) (w : World) (hp : p.size ≤ 20300) (ha : a.size ≤ 20300) :
    Calls Tryz.prog 88 #[.string p, .string a] w (BoolOut (followsB p a) w) := by
  by_cases h : compareN a p < 0
  · cases k : wB p a
    · have HJ := Lib.hid (follows_1 h k)
      go_enter Tryz.func88, Tryz.ntmps88
      go_wp2_with fail
      refine (compare_any _ _ (by omega) (by omega) _).mono ?_
      rintro _ w1 ⟨rfl, hb⟩
      go_wp2_with fail
      refine (twithin_any _ _ _ ha).mono ?_
      rintro _ w2 ⟨rfl, rfl⟩
      go_wp2
      go_ret
      exact ⟨ret_bool HJ.out.symm, hb⟩
    · have HJ := Lib.hid (follows_2 k)
      go_enter Tryz.func88, Tryz.ntmps88
      go_wp2_with fail
      refine (compare_any _ _ (by omega) (by omega) _).mono ?_
      rintro _ w1 ⟨rfl, hb⟩
      go_wp2_with fail
      refine (twithin_any _ _ _ ha).mono ?_
      rintro _ w2 ⟨rfl, rfl⟩
      go_wp2
      go_ret
      exact ⟨ret_bool HJ.out.symm, hb⟩
  · have HJ := Lib.hid (follows_3 h)
    go_enter Tryz.func88, Tryz.ntmps88
    go_wp2_with fail
    refine (compare_any _ _ (by omega) (by omega) _).mono ?_
    rintro _ w1 ⟨rfl, hb⟩
    go_wp2
    go_ret
    exact ⟨ret_bool HJ.out.symm, hb⟩
theorem follows_b {p a : ByteArray} {b : Bool} (h : followsB p a = b) (w : World) (hp : p.size ≤ 20300) (ha : a.size ≤ 20300) :
    Calls Tryz.prog 88 #[.string p, .string a] w (BoolOut b w) := by rw [← h]; exact follows_any p a w hp ha

/-- The first file that is bad, by a test that sees the one ahead. -/
def checkGo (bad : Option FileB → FileB → Int) : Option FileB → List FileB → Option (Int × ByteArray)
  | _, [] => none
  | prev, x :: r => if bad prev x = 0 then checkGo bad (some x) r else some (bad prev x, x.1)
def manyB (xs : List FileB) : Int × ByteArray := if 60 < xs.length then (2, ⟨#[]⟩) else (0, ⟨#[]⟩)
def checkB (bad : Option FileB → FileB → Int) (xs : List FileB) : Int × ByteArray :=
  match checkGo bad none xs with
  | some p => p
  | none => manyB xs
def badT (prev : Option FileB) (x : FileB) : Int :=
  if checkFileN x = 0 then (match prev with | none => 0 | some p => if followsB x.1 p.1 then 0 else 4) else checkFileN x
def prevF (xs : List FileB) (k : Nat) : Option FileB := if k = 0 then none else xs[k - 1]?

def CheckAt (bad : Option FileB → FileB → Int) (xs : List FileB) (k : Nat) : Prop := checkGo bad none xs = checkGo bad (prevF xs k) (xs.drop k)
theorem CheckAt.start (bad : Option FileB → FileB → Int) (xs : List FileB) : CheckAt bad xs 0 := rfl
theorem prevF_succ {xs : List FileB} {k : Nat} (hk : k < xs.length) : prevF xs (k + 1) = some xs[k] := by
  unfold prevF
  rw [if_neg (by omega), Nat.add_sub_cancel, List.getElem?_eq_getElem hk]
theorem CheckAt.on {bad : Option FileB → FileB → Int} {xs : List FileB} {k : Nat} (h : CheckAt bad xs k) (hk : k < xs.length) (e : bad (prevF xs k) xs[k] = 0) : CheckAt bad xs (k + 1) := by
  unfold CheckAt at h ⊢
  rw [h, List.drop_eq_getElem_cons hk, checkGo, if_pos e, prevF_succ hk]
theorem CheckAt.stop {bad : Option FileB → FileB → Int} {xs : List FileB} {k : Nat} {n : Int} (h : CheckAt bad xs k) (hk : k < xs.length) (e : bad (prevF xs k) xs[k] = n) (hn : ¬ n = 0) : checkB bad xs = (n, xs[k].1) := by
  unfold CheckAt at h
  unfold checkB
  rw [h, List.drop_eq_getElem_cons hk, checkGo, if_neg (by rw [e]; exact hn), e]
theorem CheckAt.done {bad : Option FileB → FileB → Int} {xs : List FileB} {k : Nat} (h : CheckAt bad xs k) (hk : xs.length ≤ k) : checkB bad xs = manyB xs := by
  unfold CheckAt at h
  unfold checkB
  rw [h, List.drop_of_length_le hk, checkGo]
theorem manyB_1 {xs : List FileB} (h : 60 < xs.length) : manyB xs = (2, ⟨#[]⟩) := by simp [manyB, h]
theorem manyB_2 {xs : List FileB} (h : ¬ 60 < xs.length) : manyB xs = (0, ⟨#[]⟩) := by simp only [manyB, h, if_false]
theorem badT_1 {prev : Option FileB} {x : FileB} {n : Int} (h : checkFileN x = n) (hn : ¬ n = 0) : badT prev x = n := by unfold badT; rw [h, if_neg hn]
theorem badT_2 {x : FileB} (h : checkFileN x = 0) : badT none x = 0 := by rw [badT, if_pos h]
theorem badT_3 {x p : FileB} (h : checkFileN x = 0) (k : followsB x.1 p.1 = true) : badT (some p) x = 0 := by simp only [badT, h, if_true, k]
theorem badT_4 {x p : FileB} (h : checkFileN x = 0) (k : followsB x.1 p.1 = false) : badT (some p) x = 4 := by simp only [badT, h, if_true, k, Bool.false_eq_true, if_false]

theorem prev_valid {o : Option FileB} {x y : FileB} (h : o = some x) (hv : validB x.1 = true) (h' : o = some y) : validB y.1 = true := by
  rw [h] at h'; injection h' with h'; rw [← h']; exact hv

theorem rblk_cells {w : World} {R : Nat} (h : w.heap[R]? = some (.cells #[.int .i64 0, .string ⟨#[]⟩, .int .i64 0] 34 (0, 0))) :
    (w.cell? ⟨R, 0, none⟩ = some (.int .i64 0) ∧ w.cell? ⟨R, 1, none⟩ = some (.string ⟨#[]⟩) ∧ w.cell? ⟨R, 2, none⟩ = some (.int .i64 0)) ∧ w.frozen? ⟨R, 0, none⟩ = false ∧ w.frozen? ⟨R, 1, none⟩ = false ∧ w.frozen? ⟨R, 2, none⟩ = false := by
  refine ⟨⟨?_, ?_, ?_⟩, ?_, ?_, ?_⟩ <;> simp [World.cell?, World.frozen?, h]

theorem below_set3 {w W : World} (h : Below w.heap.size w W) (u0 u1 u2 : Value) : Below w.heap.size w (((W.setCell ⟨w.heap.size, 0, none⟩ u0).setCell ⟨w.heap.size, 1, none⟩ u1).setCell ⟨w.heap.size, 2, none⟩ u2) :=
  ((h.setCell (p := ⟨w.heap.size, 0, none⟩) (Nat.le_refl _) _).setCell (p := ⟨w.heap.size, 1, none⟩) (Nat.le_refl _) _).setCell (p := ⟨w.heap.size, 2, none⟩) (Nat.le_refl _) _

def FaultOut (f : Int × ByteArray) (w : World) (e : Ending) (w' : World) : Prop := e = .returned (.agg #[.int .i64 f.1, .string f.2, .int .i64 0]) ∧ Below w.heap.size w w'

theorem checkFile_zero {f : FileB} (h : checkFileN f = 0) : validB f.1 = true ∧ f.2.size ≤ 4000 := by
  cases h1 : validB f.1
  · rw [checkFile_1 h1] at h; cases h
  · by_cases h2 : 4000 < f.2.size
    · rw [checkFile_2 h1 h2] at h; cases h
    · exact ⟨rfl, by omega⟩

set_option maxRecDepth 100000 in
set_option maxHeartbeats 2000000 in
theorem tcheck_any (xs : List FileB) (v : Value) (w : World) (hv : RRow fileR w v xs) (hs : ∀ f ∈ xs, f.1.size ≤ maxLen ∧ f.2.size ≤ maxLen) (hm : xs.length ≤ 20000) :
    Calls Tryz.prog 53 #[v] w (FaultOut (checkB badT xs) w) := by
  have HV := Lib.hid hv
  have HS := Lib.hid hs
  obtain ⟨a, c, rfl, hl, -⟩ := hv
  clear hs
  obtain ⟨w0, hw0⟩ : ∃ w0, w0 = w.alloc (.cells #[.int .i64 0, .string ⟨#[]⟩, .int .i64 0] 34) := ⟨_, rfl⟩
  have hb0 : Below w.heap.size w w0 := by rw [hw0]; exact (Below.refl _ _).alloc (Nat.le_refl _) _
  have hz0 : w0.heap.size = w.heap.size + 1 := by rw [hw0]; simp
  have hR : w0.heap[w.heap.size]? = some (.cells #[.int .i64 0, .string ⟨#[]⟩, .int .i64 0] 34 (0, 0)) := by rw [hw0]; exact World.alloc_heap_new w _
  have HRb := Lib.hid hR
  have HZ := Lib.hid hz0
  have hz0' : w.heap.size < w0.heap.size := by omega
  have HW0 := Lib.hid hw0
  clear hR hz0
  go_enter Tryz.func53, Tryz.ntmps53
  go_wp2
  rw [← hw0]
  clear hw0
  go_loopw [8] (fun i wr => ∃ k : Nat, k ≤ xs.length ∧ i = .int .i64 k ∧ CheckAt badT xs k ∧ (∀ y, prevF xs k = some y → validB y.1 = true) ∧ Below w0.heap.size w0 wr) (fun i _ => xs.length - (intOf i).toNat)
  case atStart => exact ⟨0, Nat.zero_le _, rfl, CheckAt.start _ _, (fun y h => by cases h), Below.refl _ _⟩
  case round =>
    obtain ⟨k, hk, rfl, hat, hpv, hb⟩ := hrel
    have HA := Lib.hid hat
    have HPv := Lib.hid hpv
    have hbw := hb0.trans (hb.mono hb0.size)
    have hzr := hb.size
    clear hat hpv
    by_cases hlt : k < xs.length
    · obtain ⟨a', c'', e', hl', hcl⟩ := HV.out
      cases e'
      obtain ⟨g, o, rfl, hg, hcell⟩ := hcl (by intro e; rw [e] at hlt; simp at hlt)
      have HAt := Lib.hid hcell
      have HQ := Lib.hid (fun w' (h : Below w.heap.size w w') => And.intro ((h.cell (p := ⟨g, _, none⟩) hg).trans (file_at hcell k hlt).1) ((h.cell (p := ⟨g, _, none⟩) hg).trans (file_at hcell k hlt).2))
      obtain ⟨q1, q2⟩ := HQ.out _ hbw
      obtain ⟨hs1, hs2⟩ := HS.out _ (List.getElem_mem hlt)
      clear hcell hcl
      have HOn := Lib.hid (fun e => HA.out.on hlt e)
      have HSt := Lib.hid (fun n (e : badT (prevF xs k) xs[k] = n) hn => HA.out.stop hlt e hn)
      by_cases hcf : checkFileN xs[k] = 0
      · have hvx := (checkFile_zero hcf).1
        have hvs := (valid_size hvx).2
        have HCF := Lib.hid hcf
        have HVx := Lib.hid hvx
        clear hcf hvx
        by_cases hk0 : k = 0
        · subst hk0
          have HP := Lib.hid (HOn.out (badT_2 HCF.out))
          have HVx' := Lib.hid (fun y (h : prevF xs (0 + 1) = some y) => prev_valid (prevF_succ hlt) HVx.out h)
          simp only [Nat.zero_mul, Nat.add_zero] at q1 q2
          generalize xs[0] = x at *
          obtain ⟨x1, x2⟩ := x
          have HBX := Lib.hid (FBox.new wr x1 x2)
          go_wp2_with fail
          refine (checkFile_n (f := (x1, x2)) HCF.out _ hs1 hs2).mono ?_
          rintro _ w1 ⟨rfl, hb1⟩
          obtain ⟨-, y0, y1⟩ := HBX.out.below hb1
          change _ = some (Value.string x1) at y0
          have hb' := (hb.alloc hb.size (.cells #[.string x1, .string x2] 56)).trans (hb1.mono (by simp; omega))
          have hbw' := hb0.trans (hb'.mono hb0.size)
          have hz1 : wr.heap.size < w1.heap.size := by have := hb1.size; simp at this; omega
          clear hb1 q1 q2
          go_wp2
          go_quiet (fail)
          go_wp2
          go_roundw
          case rel => exact ⟨1, by omega, by go_num, HP.out, HVx'.out, below_drewN hb' _⟩
          case measure => simp [intOf]; omega
        · obtain ⟨j, rfl⟩ : ∃ j, k = j + 1 := ⟨k - 1, by omega⟩
          have hjl : j < xs.length := by omega
          have hvy : validB xs[j].1 = true := HPv.out _ (prevF_succ hjl)
          have hys := (valid_size hvy).2
          have HVx' := Lib.hid (fun y (h : prevF xs (j + 1 + 1) = some y) => prev_valid (prevF_succ hlt) HVx.out h)
          have HPr := Lib.hid (prevF_succ hjl)
          have HQj := Lib.hid (fun w' (h : Below w.heap.size w w') => (h.cell (p := ⟨g, _, none⟩) hg).trans (file_at HAt.out j hjl).1)
          have ij2 : IntKind.i64.wrap (j : Int) = (j : Int) := IntWalk.i64_in _ (by omega)
          have ij3 : (0 : Int) ≤ (j : Int) := by omega
          have ij4 : (j : Int) < (xs.length : Int) := by omega
          have ij5 : (0 : Int) < (j : Int) + 1 := by omega
          clear hk0 hvy
          cases hfo : followsB xs[j + 1].1 xs[j].1
          · have HP := Lib.hid (HSt.out 4 (by rw [HPr.out]; exact badT_4 HCF.out hfo) (by decide))
            generalize xs[j] = y at *
            obtain ⟨yp, yd⟩ := y
            generalize xs[j + 1] = x at *
            obtain ⟨x1, x2⟩ := x
            have HBX := Lib.hid (FBox.new wr x1 x2)
            go_wp2_with fail
            refine (checkFile_n (f := (x1, x2)) HCF.out _ hs1 hs2).mono ?_
            rintro _ w1 ⟨rfl, hb1⟩
            obtain ⟨-, y0, y1⟩ := HBX.out.below hb1
            change _ = some (Value.string x1) at y0
            have hb' := (hb.alloc hb.size (.cells #[.string x1, .string x2] 56)).trans (hb1.mono (by simp; omega))
            have hbw' := hb0.trans (hb'.mono hb0.size)
            have hz1 : wr.heap.size < w1.heap.size := by have := hb1.size; simp at this; omega
            clear hb1 q1 q2
            have z0 := HQj.out _ hbw'
            go_wp2
            go_region_held3 (fun w' => w'.cell? ⟨wr.heap.size, 0, none⟩ = some (.string x1) ∧ w'.cell? ⟨g, o + j * 2, none⟩ = some (.string yp))
              (first | go_keep | (go_split_ands; refine ⟨?_, ?_⟩ <;> (rw [hb2.cell (by simp; omega)]; assumption)))
              (first | (go_at_call 88; refine (follows_b hfo _ (by omega) (by omega)).mono ?_; rintro e w2 ⟨rfl, hb2⟩))
            have hb2' := (below_drew hb').trans (hb2.mono hb'.size)
            obtain ⟨⟨r0, r1, r2⟩, r3, r4, r5⟩ := rblk_cells ((hb2'.block _ hz0').trans HRb.out)
            rename_i hheld
            have y0' := hheld.1
            have hbw2 := hb0.trans (hb2'.mono hb0.size)
            clear hheld
            go_wp2
            exact bodyPost_ret (v := .agg #[.int .i64 4, .string x1, .int .i64 0]) (by simp [results, Tryz.results53, go_sem, r0, r1, r2]) rfl ⟨by rw [HP.out], below_set3 hbw2 _ _ _⟩
          · have HP := Lib.hid (HOn.out (by rw [HPr.out]; exact badT_3 HCF.out hfo))
            generalize xs[j] = y at *
            obtain ⟨yp, yd⟩ := y
            generalize xs[j + 1] = x at *
            obtain ⟨x1, x2⟩ := x
            have HBX := Lib.hid (FBox.new wr x1 x2)
            go_wp2_with fail
            refine (checkFile_n (f := (x1, x2)) HCF.out _ hs1 hs2).mono ?_
            rintro _ w1 ⟨rfl, hb1⟩
            obtain ⟨-, y0, y1⟩ := HBX.out.below hb1
            change _ = some (Value.string x1) at y0
            have hb' := (hb.alloc hb.size (.cells #[.string x1, .string x2] 56)).trans (hb1.mono (by simp; omega))
            have hbw' := hb0.trans (hb'.mono hb0.size)
            have hz1 : wr.heap.size < w1.heap.size := by have := hb1.size; simp at this; omega
            clear hb1 q1 q2
            have z0 := HQj.out _ hbw'
            go_wp2
            go_region_held3 (fun w' => w'.cell? ⟨wr.heap.size, 0, none⟩ = some (.string x1) ∧ w'.cell? ⟨g, o + j * 2, none⟩ = some (.string yp))
              (first | go_keep | (go_split_ands; refine ⟨?_, ?_⟩ <;> (rw [hb2.cell (by simp; omega)]; assumption)))
              (first | (go_at_call 88; refine (follows_b hfo _ (by omega) (by omega)).mono ?_; rintro e w2 ⟨rfl, hb2⟩))
            go_wp2
            go_roundw
            case rel => exact ⟨j + 1 + 1, by omega, by go_num, HP.out, HVx'.out, (below_drew hb').trans (hb2.mono hb'.size)⟩
            case measure => simp [intOf]; omega
      · have HP := Lib.hid (HSt.out _ (badT_1 rfl hcf) hcf)
        generalize xs[k] = x at *
        obtain ⟨x1, x2⟩ := x
        have hcf' : (checkFileN (x1, x2) == 0) = false := by simp [hcf]
        have hcf'' : (checkFileN (x1, x2) != 0) = true := by simp [hcf]
        clear hcf
        have HBX := Lib.hid (FBox.new wr x1 x2)
        go_wp2_with fail
        refine (checkFile_any (x1, x2) _ hs1 hs2).mono ?_
        rintro _ w1 ⟨rfl, hb1⟩
        obtain ⟨-, y0, y1⟩ := HBX.out.below hb1
        change _ = some (Value.string x1) at y0
        have hb' := (hb.alloc hb.size (.cells #[.string x1, .string x2] 56)).trans (hb1.mono (by simp; omega))
        obtain ⟨⟨r0, r1, r2⟩, r3, r4, r5⟩ := rblk_cells ((hb'.block _ hz0').trans HRb.out)
        have hbw' := hb0.trans (hb'.mono hb0.size)
        clear hb1 q1 q2
        generalize checkFileN (x1, x2) = n at *
        go_wp2
        go_quiet (fail)
        go_wp2
        exact bodyPost_ret (v := .agg #[.int .i64 n, .string x1, .int .i64 0]) (by simp [results, Tryz.results53, go_sem, r0, r1, r2]) rfl ⟨by rw [HP.out], below_set3 (below_drewN hbw' _) _ _ _⟩
    · have HP := Lib.hid (HA.out.done (by omega))
      obtain ⟨⟨r0, r1, r2⟩, r3, r4, r5⟩ := rblk_cells ((hb.block _ hz0').trans HRb.out)
      by_cases h60 : 60 < xs.length
      · have HM := Lib.hid (manyB_1 h60)
        go_wp2
        exact bodyPost_ret (v := .agg #[.int .i64 2, .string ⟨#[]⟩, .int .i64 0]) (by simp [results, Tryz.results53, go_sem, r0, r1, r2]) rfl ⟨by rw [HP.out, HM.out], below_set3 hbw _ _ _⟩
      · have HM := Lib.hid (manyB_2 h60)
        go_wp2
        exact bodyPost_ret (v := .agg #[.int .i64 0, .string ⟨#[]⟩, .int .i64 0]) (by simp [results, Tryz.results53, go_sem, r0, r1, r2]) rfl ⟨by rw [HP.out, HM.out], below_set3 hbw _ _ _⟩

def lowB (x p : ByteArray) : Bool := decide (0 ≤ compareN p x) || insideB x p
def badR (prev : Option FileB) (x : FileB) : Int :=
  if checkFileN x = 0 then (match prev with | none => 0 | some p => if lowB x.1 p.1 then 4 else 0) else checkFileN x
theorem badR_1 {prev : Option FileB} {x : FileB} {n : Int} (h : checkFileN x = n) (hn : ¬ n = 0) : badR prev x = n := by unfold badR; rw [h, if_neg hn]
theorem badR_2 {x : FileB} (h : checkFileN x = 0) : badR none x = 0 := by rw [badR, if_pos h]
theorem badR_3 {x p : FileB} (h : checkFileN x = 0) (k : lowB x.1 p.1 = false) : badR (some p) x = 0 := by simp only [badR, h, if_true, k, Bool.false_eq_true, if_false]
theorem badR_4 {x p : FileB} (h : checkFileN x = 0) (k : lowB x.1 p.1 = true) : badR (some p) x = 4 := by simp only [badR, h, if_true, k]
theorem low_follows {x p : ByteArray} (hx : validB x = true) (hp : validB p = true) : lowB x p = !followsB x p := by
  unfold lowB followsB
  by_cases h : compareN p x < 0
  · have hne : ¬ x = p := fun e => by rw [e, compareN_cmp.self] at h; omega
    rw [within_inside hx hp hne, decide_eq_true h, decide_eq_false (by omega)]; simp
  · rw [decide_eq_false h, decide_eq_true (by omega)]; simp
theorem bad_same {prev : Option FileB} {x : FileB} (hp : ∀ p, prev = some p → validB p.1 = true) : badT prev x = badR prev x := by
  by_cases h : checkFileN x = 0
  · have hx := (checkFile_zero h).1
    cases prev with
    | none => rw [badT_2 h, badR_2 h]
    | some p =>
      have hl := low_follows hx (hp p rfl)
      cases hf : followsB x.1 p.1
      · rw [badT_4 h hf, badR_4 h (by rw [hl, hf]; rfl)]
      · rw [badT_3 h hf, badR_3 h (by rw [hl, hf]; rfl)]
  · rw [badT_1 rfl h, badR_1 rfl h]
theorem go_same : ∀ (xs : List FileB) (prev : Option FileB), (∀ p, prev = some p → validB p.1 = true) → checkGo badT prev xs = checkGo badR prev xs
  | [], _, _ => rfl
  | x :: xs, prev, hp => by
    unfold checkGo
    rw [bad_same hp]
    by_cases h : badR prev x = 0
    · rw [if_pos h, if_pos h]
      refine go_same xs (some x) fun p e => ?_
      injection e with e
      subst e
      by_cases hc : checkFileN x = 0
      · exact (checkFile_zero hc).1
      · rw [badR_1 rfl hc] at h; exact absurd h hc
    · rw [if_neg h, if_neg h]
theorem check_same (xs : List FileB) : checkB badT xs = checkB badR xs := by
  unfold checkB
  rw [go_same xs none fun p e => by cases e]
theorem low_1 {x p : ByteArray} (h : 0 ≤ compareN p x) : lowB x p = true := by simp [lowB, h]
theorem low_2 {x p : ByteArray} (h : ¬ 0 ≤ compareN p x) : lowB x p = insideB x p := by simp [lowB, h]
theorem inside_b {p d : ByteArray} {b : Bool} (h : insideB p d = b) (w : World) (hd : d.size ≤ 20300) : Calls Tryz.prog 60 #[.string p, .string d] w fun e w' => e = .returned (.bool b) ∧ w = w' := by
  rw [← h]; exact inside_any p d w hd
theorem rvalid_c {s : ByteArray} {b : Bool} (h : validB s = b) (w : World) (hs : s.size ≤ maxLen) :
    Calls Tryz.prog 58 #[.string s] w (BoolOut b w) := by rw [← h]; exact rvalid_all s w hs

set_option maxRecDepth 100000 in
set_option maxHeartbeats 2000000 in
theorem rcheck_any (xs : List FileB) (v : Value) (w : World) (hv : RRow fileR w v xs) (hs : ∀ f ∈ xs, f.1.size ≤ maxLen ∧ f.2.size ≤ maxLen) (hm : xs.length ≤ 20000) :
    Calls Tryz.prog 30 #[v] w (FaultOut (checkB badR xs) w) := by
  have HV := Lib.hid hv
  have HS := Lib.hid hs
  obtain ⟨a, c, rfl, hl, -⟩ := hv
  clear hs
  obtain ⟨w0, hw0⟩ : ∃ w0, w0 = w.alloc (.cells #[.int .i64 0, .string ⟨#[]⟩, .int .i64 0] 34) := ⟨_, rfl⟩
  have hb0 : Below w.heap.size w w0 := by rw [hw0]; exact (Below.refl _ _).alloc (Nat.le_refl _) _
  have hz0 : w0.heap.size = w.heap.size + 1 := by rw [hw0]; simp
  have hR : w0.heap[w.heap.size]? = some (.cells #[.int .i64 0, .string ⟨#[]⟩, .int .i64 0] 34 (0, 0)) := by rw [hw0]; exact World.alloc_heap_new w _
  have HRb := Lib.hid hR
  have hz0' : w.heap.size < w0.heap.size := by omega
  clear hR hz0
  go_enter Tryz.func30, Tryz.ntmps30
  go_wp2
  rw [← hw0]
  clear hw0
  go_loopw [3] (fun i wr => ∃ k : Nat, k ≤ xs.length ∧ i = .int .i64 k ∧ CheckAt badR xs k ∧ (∀ y, prevF xs k = some y → validB y.1 = true) ∧ Below w0.heap.size w0 wr) (fun i _ => xs.length - (intOf i).toNat)
  case atStart => exact ⟨0, Nat.zero_le _, rfl, CheckAt.start _ _, (fun y h => by cases h), Below.refl _ _⟩
  case round =>
    obtain ⟨k, hk, rfl, hat, hpv, hb⟩ := hrel
    have HA := Lib.hid hat
    have HPv := Lib.hid hpv
    have hbw := hb0.trans (hb.mono hb0.size)
    clear hat hpv
    by_cases hlt : k < xs.length
    · obtain ⟨a', c'', e', hl', hcl⟩ := HV.out
      cases e'
      obtain ⟨g, o, rfl, hg, hcell⟩ := hcl (by intro e; rw [e] at hlt; simp at hlt)
      have HAt := Lib.hid hcell
      have HQ := Lib.hid (fun w' (h : Below w.heap.size w w') => And.intro ((h.cell (p := ⟨g, _, none⟩) hg).trans (file_at hcell k hlt).1) ((h.cell (p := ⟨g, _, none⟩) hg).trans (file_at hcell k hlt).2))
      obtain ⟨q1, q2⟩ := HQ.out _ hbw
      obtain ⟨hs1, hs2⟩ := HS.out _ (List.getElem_mem hlt)
      clear hcell hcl
      have HOn := Lib.hid (fun e => HA.out.on hlt e)
      have HSt := Lib.hid (fun n (e : badR (prevF xs k) xs[k] = n) hn => HA.out.stop hlt e hn)
      cases hvx : validB xs[k].1
      · have HP := Lib.hid (HSt.out 10 (badR_1 (checkFile_1 hvx) (by decide)) (by decide))
        generalize xs[k] = x at *
        obtain ⟨x1, x2⟩ := x
        go_wp2_with fail
        refine (rvalid_c hvx _ hs1).mono ?_
        rintro _ w1 ⟨rfl, hb1⟩
        have hb' := hb.trans (hb1.mono hb.size)
        obtain ⟨⟨r0, r1, r2⟩, r3, r4, r5⟩ := rblk_cells ((hb'.block _ hz0').trans HRb.out)
        go_wp2
        exact bodyPost_ret (v := .agg #[.int .i64 10, .string x1, .int .i64 0]) (by simp [results, Tryz.results30, go_sem, r0, r1, r2]) rfl ⟨by rw [HP.out], below_set3 (hb0.trans (hb'.mono hb0.size)) _ _ _⟩
      · by_cases hd : 4000 < xs[k].2.size
        · have HP := Lib.hid (HSt.out 2 (badR_1 (checkFile_2 hvx hd) (by decide)) (by decide))
          generalize xs[k] = x at *
          obtain ⟨x1, x2⟩ := x
          have hd' : 4000 < x2.size := hd
          go_wp2_with fail
          refine (rvalid_c hvx _ hs1).mono ?_
          rintro _ w1 ⟨rfl, hb1⟩
          have hb' := hb.trans (hb1.mono hb.size)
          obtain ⟨⟨r0, r1, r2⟩, r3, r4, r5⟩ := rblk_cells ((hb'.block _ hz0').trans HRb.out)
          obtain ⟨q1', q2'⟩ := HQ.out _ (hb0.trans (hb'.mono hb0.size))
          clear q1 q2
          go_wp2
          exact bodyPost_ret (v := .agg #[.int .i64 2, .string x1, .int .i64 0]) (by simp [results, Tryz.results30, go_sem, r0, r1, r2]) rfl ⟨by rw [HP.out], below_set3 (hb0.trans (hb'.mono hb0.size)) _ _ _⟩
        · have HCF := Lib.hid (checkFile_3 hvx hd)
          have hvs := (valid_size hvx).2
          have HVx := Lib.hid (fun y (h : prevF xs (k + 1) = some y) => prev_valid (prevF_succ hlt) hvx h)
          by_cases hk0 : k = 0
          · subst hk0
            have HP := Lib.hid (HOn.out (badR_2 HCF.out))
            simp only [Nat.zero_mul, Nat.add_zero] at q1 q2
            have HQ0 := Lib.hid (fun w' (h : Below w.heap.size w w') => show w'.cell? ⟨g, o + 1, none⟩ = some (.string xs[0].2) by have := (HQ.out w' h).2; simpa using this)
            generalize xs[0] = x at *
            obtain ⟨x1, x2⟩ := x
            have hd' : ¬ 4000 < x2.size := hd
            go_wp2_with fail
            refine (rvalid_c hvx _ hs1).mono ?_
            rintro _ w1 ⟨rfl, hb1⟩
            have hb' := hb.trans (hb1.mono hb.size)
            have q2' := HQ0.out _ (hb0.trans (hb'.mono hb0.size))
            clear q1 q2
            go_wp2
            go_roundw
            case rel => exact ⟨1, by omega, by go_num, HP.out, HVx.out, hb'⟩
            case measure => simp [intOf]; omega
          · obtain ⟨j, rfl⟩ : ∃ j, k = j + 1 := ⟨k - 1, by omega⟩
            have hjl : j < xs.length := by omega
            have hys := (valid_size (HPv.out _ (prevF_succ hjl))).2
            have HPr := Lib.hid (prevF_succ hjl)
            have HQj := Lib.hid (fun w' (h : Below w.heap.size w w') => (h.cell (p := ⟨g, _, none⟩) hg).trans (file_at HAt.out j hjl).1)
            clear hk0
            by_cases hcm : 0 ≤ compareN xs[j].1 xs[j + 1].1
            · have HP := Lib.hid (HSt.out 4 (by rw [HPr.out]; exact badR_4 HCF.out (low_1 hcm)) (by decide))
              generalize xs[j] = y at *
              obtain ⟨y1, y2⟩ := y
              generalize xs[j + 1] = x at *
              obtain ⟨x1, x2⟩ := x
              have hd' : ¬ 4000 < x2.size := hd
              go_wp2_with fail
              refine (rvalid_c hvx _ hs1).mono ?_
              rintro _ w1 ⟨rfl, hb1⟩
              have hb' := hb.trans (hb1.mono hb.size)
              obtain ⟨q1', q2'⟩ := HQ.out _ (hb0.trans (hb'.mono hb0.size))
              have z1 := HQj.out _ (hb0.trans (hb'.mono hb0.size))
              clear q1 q2
              go_wp2_with fail
              refine (prcompare_any _ _ (by omega) (by omega) _).mono ?_
              rintro _ w2 ⟨rfl, hb2⟩
              have hb'' := hb'.trans (hb2.mono hb'.size)
              obtain ⟨⟨r0, r1, r2⟩, r3, r4, r5⟩ := rblk_cells ((hb''.block _ hz0').trans HRb.out)
              go_wp2
              exact bodyPost_ret (v := .agg #[.int .i64 4, .string x1, .int .i64 0]) (by simp [results, Tryz.results30, go_sem, r0, r1, r2]) rfl ⟨by rw [HP.out], below_set3 (hb0.trans (hb''.mono hb0.size)) _ _ _⟩
            · have hlo := low_2 hcm
              cases hin : insideB xs[j + 1].1 xs[j].1
              · have HP := Lib.hid (HOn.out (by rw [HPr.out]; exact badR_3 HCF.out (by rw [hlo, hin])))
                generalize xs[j] = y at *
                obtain ⟨y1, y2⟩ := y
                generalize xs[j + 1] = x at *
                obtain ⟨x1, x2⟩ := x
                have hd' : ¬ 4000 < x2.size := hd
                clear hlo
                go_wp2_with fail
                refine (rvalid_c hvx _ hs1).mono ?_
                rintro _ w1 ⟨rfl, hb1⟩
                have hb' := hb.trans (hb1.mono hb.size)
                obtain ⟨q1', q2'⟩ := HQ.out _ (hb0.trans (hb'.mono hb0.size))
                have z1 := HQj.out _ (hb0.trans (hb'.mono hb0.size))
                clear q1 q2
                go_wp2_with fail
                refine (prcompare_any _ _ (by omega) (by omega) _).mono ?_
                rintro _ w2 ⟨rfl, hb2⟩
                have hb'' := hb'.trans (hb2.mono hb'.size)
                have z2 := HQj.out _ (hb0.trans (hb''.mono hb0.size))
                go_wp2_with fail
                refine (inside_b hin _ (by omega)).mono ?_
                rintro _ w3 ⟨rfl, rfl⟩
                go_wp2
                go_roundw
                case rel => exact ⟨j + 1 + 1, by omega, by go_num, HP.out, HVx.out, hb''⟩
                case measure => simp [intOf]; omega
              · have HP := Lib.hid (HSt.out 4 (by rw [HPr.out]; exact badR_4 HCF.out (by rw [hlo, hin])) (by decide))
                generalize xs[j] = y at *
                obtain ⟨y1, y2⟩ := y
                generalize xs[j + 1] = x at *
                obtain ⟨x1, x2⟩ := x
                have hd' : ¬ 4000 < x2.size := hd
                clear hlo
                go_wp2_with fail
                refine (rvalid_c hvx _ hs1).mono ?_
                rintro _ w1 ⟨rfl, hb1⟩
                have hb' := hb.trans (hb1.mono hb.size)
                obtain ⟨q1', q2'⟩ := HQ.out _ (hb0.trans (hb'.mono hb0.size))
                have z1 := HQj.out _ (hb0.trans (hb'.mono hb0.size))
                clear q1 q2
                go_wp2_with fail
                refine (prcompare_any _ _ (by omega) (by omega) _).mono ?_
                rintro _ w2 ⟨rfl, hb2⟩
                have hb'' := hb'.trans (hb2.mono hb'.size)
                have z2 := HQj.out _ (hb0.trans (hb''.mono hb0.size))
                obtain ⟨⟨r0, r1, r2⟩, r3, r4, r5⟩ := rblk_cells ((hb''.block _ hz0').trans HRb.out)
                go_wp2_with fail
                refine (inside_b hin _ (by omega)).mono ?_
                rintro _ w3 ⟨rfl, rfl⟩
                go_wp2
                exact bodyPost_ret (v := .agg #[.int .i64 4, .string x1, .int .i64 0]) (by simp [results, Tryz.results30, go_sem, r0, r1, r2]) rfl ⟨by rw [HP.out], below_set3 (hb0.trans (hb''.mono hb0.size)) _ _ _⟩
    · have HP := Lib.hid (HA.out.done (by omega))
      obtain ⟨⟨r0, r1, r2⟩, r3, r4, r5⟩ := rblk_cells ((hb.block _ hz0').trans HRb.out)
      by_cases h60 : 60 < xs.length
      · have HM := Lib.hid (manyB_1 h60)
        go_wp2
        exact bodyPost_ret (v := .agg #[.int .i64 2, .string ⟨#[]⟩, .int .i64 0]) (by simp [results, Tryz.results30, go_sem, r0, r1, r2]) rfl ⟨by rw [HP.out, HM.out], below_set3 hbw _ _ _⟩
      · have HM := Lib.hid (manyB_2 h60)
        go_wp2
        exact bodyPost_ret (v := .agg #[.int .i64 0, .string ⟨#[]⟩, .int .i64 0]) (by simp [results, Tryz.results30, go_sem, r0, r1, r2]) rfl ⟨by rw [HP.out, HM.out], below_set3 hbw _ _ _⟩

end Go.Proofs.YtcbpkbemnaondaaGreatDoor

/-
  Entries as a law's argument, with their files told; an entry with a list of files of its own; the first entry of a module, whole.
-/
set_option linter.unusedVariables false
namespace Go.Proofs.YtcbpkbemnaondaaGreatDoor
open Go.ChangeShapes Go.WideShapes Go.ChangeAt Go.RowKit Go.Deep Go.Joins
open Go.ChangeMaps (open_string shut_string)

/-- The entries' files, told. -/
def FiledW (w : World) (xs : List EntB) (φ : EntB → List FileB) : Prop := ∀ x ∈ xs, RRow fileR w x.f (φ x) ∧ (φ x).length ≤ maxLen ∧ ∀ f ∈ φ x, f.1.size ≤ maxLen ∧ f.2.size ≤ maxLen
theorem FiledW.below {w w' : World} {xs : List EntB} {φ : EntB → List FileB} (h : FiledW w xs φ) (hb : Below w.heap.size w w') : FiledW w' xs φ := fun x hx => by
  obtain ⟨h1, h2, h3⟩ := h x hx
  exact ⟨h1.below hb, h2, h3⟩
theorem FiledW.filed {w : World} {xs : List EntB} {φ : EntB → List FileB} (h : FiledW w xs φ) : Filed w xs := fun x hx => ⟨φ x, (h x hx).1, (h x hx).2.1⟩
theorem FiledW.len {w : World} {xs : List EntB} {φ : EntB → List FileB} (h : FiledW w xs φ) {x : EntB} (hx : x ∈ xs) : (φ x).length = x.n := by
  obtain ⟨A, c, e, _⟩ := (h x hx).1
  simp only [EntB.f, Value.slice.injEq] at e
  exact e.2.1.symm

section
variable {H : Type} {enc : TypeId × Value → H} {W : World}
def entOK2 (enc : TypeId × Value → H) (W : World) (y : EntB) (x : DataW H × List MemPlace) : Prop :=
  y.p.size ≤ maxLen ∧ y.v.size ≤ maxLen ∧ y.g.size ≤ maxLen ∧ (∃ fs, RRow fileR W y.f fs ∧ fs.length ≤ maxLen ∧ ∀ f ∈ fs, f.1.size ≤ maxLen ∧ f.2.size ≤ maxLen) ∧
  ∃ z : DataW H × List MemPlace, x = (.agg [modD (y.p, y.v), litS y.g, z.1], z.2) ∧ ∀ W', Below W.heap.size W W' → ∃ n, DataW.trod enc Tryz.prog W' 0 (fun b => decide (b < W.heap.size)) true n 27 [y.f] = some z
theorem entRD2 : RDataW enc Tryz.prog entR 29 W (entOK2 enc W) where
  opens := by
    intro fuel cs x h
    obtain ⟨xs, n, _, rfl, hl, hlen, hall⟩ := DataW.trod_struct Tryz.underlying29 h
    rw [cells34] at hl
    obtain ⟨c0, c1, c2, c3, rfl⟩ := len4 hl
    obtain ⟨x0, x1, x2, rfl⟩ := len3 hlen
    have h0 := hall 0 _ rfl
    have h1 := hall 1 _ rfl
    have h2 := hall 2 _ rfl
    simp [cells9, cells23, cells32] at h0 h1 h2
    obtain ⟨m, e, rfl, hm⟩ := modRD.opens h0
    obtain ⟨s, rfl, rfl, hs⟩ := str_opens h1
    obtain ⟨fs, hR, hf, hok, hsh⟩ := open_recs fileRD Tryz.underlying27 h2
    simp only [modR, List.cons.injEq, and_true] at e
    obtain ⟨rfl, rfl⟩ := e
    obtain ⟨A, C, rfl⟩ := hR.form
    exact ⟨⟨m.1, m.2, s, A, fs.length, C⟩, rfl, hm.1, hm.2, hs, ⟨fs, hR, hf, fun f h => hok f h⟩, x2, by simp [litS], hsh⟩
  shuts := by
    rintro y x ⟨hp, hv, hg, _, z, rfl, hz⟩ W' hb
    obtain ⟨n0, h0⟩ := modRD.shuts (enc := enc) (y := (y.p, y.v)) ⟨hp, hv⟩ W' 0 (fun b => decide (b < W.heap.size))
    obtain ⟨n1, h1⟩ := str_shuts (enc := enc) hg W' 0 (fun b => decide (b < W.heap.size))
    obtain ⟨n2, h2⟩ := hz W' hb
    have h0' := DataW.trod_le (show n0 ≤ max n0 (max n1 n2) by omega) h0
    have h1' := DataW.trod_le (show n1 ≤ max n0 (max n1 n2) by omega) h1
    have h2' := DataW.trod_le (show n2 ≤ max n0 (max n1 n2) by omega) h2
    refine ⟨max n0 (max n1 n2) + 1, ?_⟩
    simp only [modR] at h0'
    have := trod_struct_mk (enc := enc) (w := W') (base := 0) (spare := fun b => decide (b < W.heap.size)) (held := true) (n := max n0 (max n1 n2)) (cs := [.string y.p, .string y.v, .string y.g, y.f]) (xs := [(modD (y.p, y.v), []), (litS y.g, []), z]) Tryz.underlying29 (by rw [cells34]; rfl) (by simp [cells9, cells23, cells32, h0', h1', h2']; rfl)
    simp only [List.map_cons, List.map_nil, List.flatMap_cons, List.flatMap_nil, List.nil_append, List.append_nil] at this
    exact this
  cellsOf := cells34

set_option maxRecDepth 100000 in
theorem open_ents2 {r : Reach} {b0 : Nat} {v : Value} {d : DataW H} {p : List MemPlace} (hval : Value.okWide Tryz.prog W r b0 22 v) (h : DataW.Trod enc Tryz.prog W 0 (fun _ => true) true 22 v d p) :
    ∃ (xs : List EntB) (φ : EntB → List FileB), RRow entR W v xs ∧ xs.length ≤ maxLen ∧ FiledW W xs φ ∧ (∀ x ∈ xs, x.p.size ≤ maxLen ∧ x.v.size ≤ maxLen) ∧ ∀ W', Below W.heap.size W W' → DataW.Trod enc Tryz.prog W' 0 (fun b => decide (b < W.heap.size)) true 22 v d p := by
  obtain ⟨a, len, cap, rfl⟩ := okWide_slice Tryz.underlying22 hval
  obtain ⟨fuel, hf⟩ := h
  obtain ⟨xs, h1, h2, h3, h4⟩ := open_recsW entRD2 Tryz.underlying22 (by simpa [Value.cells] using hf)
  have hf2 : ∀ x ∈ xs, ∃ fs, RRow fileR W x.f fs ∧ fs.length ≤ maxLen ∧ ∀ f ∈ fs, f.1.size ≤ maxLen ∧ f.2.size ≤ maxLen := fun x hx => by
    obtain ⟨z, hz⟩ := h3 x hx
    exact hz.2.2.2.1
  classical
  refine ⟨xs, fun x => if hx : x ∈ xs then Classical.choose (hf2 x hx) else [], h1, h2, fun x hx => ?_, fun x hx => ?_, fun W' hb => ?_⟩
  · simp only [hx, dite_true]
    exact Classical.choose_spec (hf2 x hx)
  · obtain ⟨z, hz⟩ := h3 x hx
    exact ⟨hz.1, hz.2.1⟩
  · obtain ⟨n, hn⟩ := h4 W' hb
    exact ⟨n, by simpa [Value.cells] using hn⟩
end
end Go.Proofs.YtcbpkbemnaondaaGreatDoor

/-
  An entry with a list of files of its own, whole.
-/
namespace Go.Proofs.YtcbpkbemnaondaaGreatDoor
open Go.RowKit Go.Shelf

theorem ROwn.set {α : Type} {R : Rec α} {et : TypeId} {w : World} {base : Nat} {v : Value} {xs : List α} (h : ROwn R et w base v xs) {B : Nat} (hB : B < base) (i : Nat) (u : Value) : ROwn R et (w.setCell ⟨B, i, none⟩ u) base v xs :=
  h.same fun k _ e => Below.heap_setCell w ⟨B, i, none⟩ u k (by have := h.block k e; simp; omega)
set_option maxRecDepth 100000 in
set_option maxHeartbeats 1000000 in
theorem cloneW_any (fs : List FileB) (v : Value) (w : World) (h : RRow fileR w v fs) (hl : fs.length ≤ 20000) :
    Calls Tryz.prog 52 #[v] w fun e w' => ∃ A c, e = .returned (.slice A fs.length c) ∧ ROwn fileR 56 w' w.heap.size (.slice A fs.length c) fs ∧ Below w.heap.size w w' := by
  have hnil : ∀ (w : World) (a : Option Addr) (n c : Nat), (binOp .eql 27 (.slice a n c) (.slice none 0 0)).run Tryz.prog w = .ok (.bool a.isNone) w := fun w a n c => Lib.run_eql_slice_nil w 27 _ a n c 0 0 Tryz.underlying27
  have h0 := h
  obtain ⟨a, c, rfl, hc, hr⟩ := h
  have HH := Lib.hid h0
  clear h0
  rcases a with _ | ad
  · have hfs : fs = [] := by
      apply Classical.byContradiction
      intro hne
      obtain ⟨g, o, e, _⟩ := hr hne
      cases e
    subst hfs
    clear hr
    go_enter Tryz.func52, Tryz.ntmps52
    go_wp2
    go_ret
    exact ⟨none, 0, rfl, ROwn.nil _ _, Below.refl _ _⟩
  · clear hr
    have ha := RAcc.start (R := fileR) (et := 56) w
    have hrow := HH.out.below ((Below.refl _ w).alloc (Nat.le_refl _) (.cells #[] 56))
    have HA := Lib.hid ha
    have HR := Lib.hid hrow
    clear ha hrow
    go_enter Tryz.func52, Tryz.ntmps52
    go_wp2_with (first
      | (at_builtin; refine wpList_racc fileTy rfl _ _ rfl HA.out rfl HR.out rfl (by simp; omega) ?_; intro A' c' zs w' hg)
      | go_in)
    go_ret
    obtain ⟨rfl, hacc, _⟩ := hg
    exact ⟨A', c', rfl, hacc.own, hacc.below⟩

set_option maxRecDepth 100000 in
set_option maxHeartbeats 1000000 in
theorem copiedW_any (p v g : ByteArray) (F : Value) (fs : List FileB) (w : World) (h : RRow fileR w F fs) (hl : fs.length ≤ 20000) :
    Calls Tryz.prog 26 #[.agg #[.string p, .string v, .string g, F]] w fun e w' => ∃ A c, e = .returned (.agg #[.string p, .string v, .string g, .slice A fs.length c]) ∧ ROwn fileR 56 w' w.heap.size (.slice A fs.length c) fs ∧ Below w.heap.size w w' := by
  obtain ⟨A0, C0, rfl⟩ := h.form
  have hb0 := ((Below.refl w.heap.size w).alloc (Nat.le_refl _) (.cells #[.string p, .string v, .string g, .slice A0 fs.length C0] 29)).alloc (by simp) (.cells zeroE 29)
  have g1 := (GBlk.new w 29 #[.string p, .string v, .string g, .slice A0 fs.length C0]).alloc (.cells zeroE 29)
  have g2 := GBlk.new (w.alloc (.cells #[.string p, .string v, .string g, .slice A0 fs.length C0] 29)) 29 zeroE
  have hs : (w.alloc (.cells #[.string p, .string v, .string g, .slice A0 fs.length C0] 29)).heap.size = w.heap.size + 1 := by simp
  rw [hs] at g2
  have hr := h.below hb0
  clear h
  unfold zeroE at *
  generalize hW : (w.alloc (.cells #[.string p, .string v, .string g, .slice A0 fs.length C0] 29)).alloc (.cells #[.string ⟨#[]⟩, .string ⟨#[]⟩, .string ⟨#[]⟩, .slice none 0 0] 29) = W at *
  have c3 := g1.cell 3
  simp only [List.getElem?_toArray, List.getElem?_cons_succ, List.getElem?_cons_zero] at c3
  go_enter Tryz.func26, Tryz.ntmps26
  go_wp2_with fail
  refine (cloneW_any fs _ W hr hl).mono ?_
  rintro _ w1 ⟨A, c, rfl, hrow, hb1⟩
  have hWs : w.heap.size + 2 = W.heap.size := by rw [← hW]; simp
  have hrow2 : ROwn fileR 56 (w1.setCell ⟨w.heap.size, 3, none⟩ (.slice A fs.length c)) W.heap.size (.slice A fs.length c) fs := hrow.set (by omega) 3 _
  have G1 := g1.below hb1
  have G2 := g2.below hb1
  have hB := hb0.trans (hb1.mono hb0.size)
  clear c3 g1 g2 hr hb1
  have y3 := G1.frozen 3
  have x3 : w1.cell? ⟨w.heap.size, 3, none⟩ = some (.slice A0 fs.length C0) := G1.cell 3
  go_upto_region 2 with fail
  clear x3 y3
  have S1 := G1.set 3 (.slice A fs.length c)
  have S2 := G2.setOther (B' := w.heap.size) (i := 3) (u := .slice A fs.length c) (by omega)
  have hB2 := hB.setCell (p := ⟨w.heap.size, 3, none⟩) (Nat.le_refl _) (.slice A fs.length c)
  clear G1 G2 hB hrow
  generalize w1.setCell ⟨w.heap.size, 3, none⟩ (.slice A fs.length c) = w2 at *
  have x0 : w2.cell? ⟨w.heap.size, 0, none⟩ = some (.string p) := S1.cell 0
  have x1 : w2.cell? ⟨w.heap.size, 1, none⟩ = some (.string v) := S1.cell 1
  have x2 : w2.cell? ⟨w.heap.size, 2, none⟩ = some (.string g) := S1.cell 2
  have x3 : w2.cell? ⟨w.heap.size, 3, none⟩ = some (.slice A fs.length c) := S1.cell 3
  have z0 : w2.cell? ⟨w.heap.size + 1, 0, none⟩ = some (.string ⟨#[]⟩) := S2.cell 0
  have z1 : w2.cell? ⟨w.heap.size + 1, 1, none⟩ = some (.string ⟨#[]⟩) := S2.cell 1
  have z2 : w2.cell? ⟨w.heap.size + 1, 2, none⟩ = some (.string ⟨#[]⟩) := S2.cell 2
  have z3 : w2.cell? ⟨w.heap.size + 1, 3, none⟩ = some (.slice none 0 0) := S2.cell 3
  have f0 := S2.frozen 0
  have f1 := S2.frozen 1
  have f2 := S2.frozen 2
  have f3 := S2.frozen 3
  have R := S2.four (.string p) (.string v) (.string g) (.slice A fs.length c)
  have hB3 := below_four hB2 (Nat.le_succ w.heap.size) (.string p) (.string v) (.string g) (.slice A fs.length c)
  have HO := Lib.hid (((((hrow2.set (B := w.heap.size + 1) (by omega) 0 (.string p)).set (B := w.heap.size + 1) (by omega) 1 (.string v)).set (B := w.heap.size + 1) (by omega) 2 (.string g)).set (B := w.heap.size + 1) (by omega) 3 (.slice A fs.length c)).lower (base' := w.heap.size) (by omega))
  clear hrow2 hWs
  have HR := Lib.hid R
  have HB3 := Lib.hid hB3
  clear R hB3 S1 S2 hB2
  go_wp2
  have y0 := HR.out.cell 0
  have y1 := HR.out.cell 1
  have y2 := HR.out.cell 2
  have y3 := HR.out.cell 3
  simp only [List.getElem?_toArray, List.getElem?_cons_succ, List.getElem?_cons_zero] at y0 y1 y2 y3
  exact bodyPost_ret (v := .agg #[.string p, .string v, .string g, .slice A fs.length c]) (by simp [results, Tryz.results26, go_sem, y0, y1, y2, y3]) rfl ⟨A, c, rfl, HO.out, HB3.out⟩

/-- What a search for a module tells: the first entry that has it, whole; or nothing at all. -/
def FindW (xs : List EntB) (φ : EntB → List FileB) (p v : ByteArray) (w : World) (e : Ending) (w' : World) : Prop :=
  ∃ (b : Bool) (p' v' g' : ByteArray) (A : Option Addr) (c : Nat) (fs : List FileB), e = .returned (.tuple #[.agg #[.string p', .string v', .string g', .slice A fs.length c], .bool b]) ∧ RRow fileR w' (.slice A fs.length c) fs ∧ Below w.heap.size w w' ∧
    ((b = true ∧ ∃ k, ∃ h : k < xs.length, NotYet xs (p, v) k ∧ xs[k].m = (p, v) ∧ p' = xs[k].p ∧ v' = xs[k].v ∧ g' = xs[k].g ∧ fs = φ xs[k]) ∨ (b = false ∧ NotYet xs (p, v) xs.length ∧ p' = ⟨#[]⟩ ∧ v' = ⟨#[]⟩ ∧ g' = ⟨#[]⟩ ∧ fs = []))
set_option maxRecDepth 100000 in
set_option maxHeartbeats 2000000 in
theorem findW_any (xs : List EntB) (V : Value) (p v : ByteArray) (w : World) (hV : RRow entR w V xs) (hL : LightE xs) (φ : EntB → List FileB) (hF : FiledW w xs φ) :
    Calls Tryz.prog 8 #[V, .agg #[.string p, .string v]] w (FindW xs φ p v w) := by
  have hb0 := ((Below.refl w.heap.size w).alloc (Nat.le_refl _) (.cells #[.string p, .string v] 24)).alloc (by simp) (.cells zeroE 29)
  have g1 := (GBlk.new w 24 #[.string p, .string v]).alloc (.cells zeroE 29)
  have g2 := GBlk.new (w.alloc (.cells #[.string p, .string v] 24)) 29 zeroE
  have hs : (w.alloc (.cells #[.string p, .string v] 24)).heap.size = w.heap.size + 1 := by simp
  rw [hs] at g2
  have HV := Lib.hid (hV.below hb0)
  have HF := Lib.hid (hF.below hb0)
  have HL := Lib.hid hL.2
  have h50 := hL.1
  obtain ⟨a, c, rfl, hl, -⟩ := hV
  clear hL hF
  unfold zeroE at *
  go_enter Tryz.func8, Tryz.ntmps8
  go_wp2
  generalize (w.alloc (.cells #[.string p, .string v] 24)).alloc (.cells #[.string ⟨#[]⟩, .string ⟨#[]⟩, .string ⟨#[]⟩, .slice none 0 0] 29) = W at *
  have HB0 := Lib.hid hb0
  have HG1 := Lib.hid g1
  have HG2 := Lib.hid g2
  clear hb0 g1 g2
  go_loopw [10] (fun i wr => ∃ k : Nat, k ≤ xs.length ∧ i = .int .i64 k ∧ NotYet xs (p, v) k ∧ Below W.heap.size W wr) (fun i _ => xs.length - (intOf i).toNat)
  case atStart => exact ⟨0, Nat.zero_le _, rfl, (fun i hi h => absurd h (Nat.not_lt_zero _)), Below.refl _ _⟩
  case round =>
    obtain ⟨k, hk, rfl, hN, hB⟩ := hrel
    have HN := Lib.hid hN
    clear hN
    have G1 := HG1.out.below hB
    have G2 := HG2.out.below hB
    by_cases hlt : k < xs.length
    · obtain ⟨a', c', e, -, hsp⟩ := HV.out.below hB
      simp only [Value.slice.injEq] at e
      obtain ⟨rfl, -, rfl⟩ := e
      obtain ⟨g, o, rfl, hg, hat⟩ := hsp (ne_of_lt hlt)
      obtain ⟨q1, q2, q3, q4⟩ := ent_at hat k hlt
      obtain ⟨s1, s2, -, s4⟩ := HL.out _ (List.getElem_mem hlt)
      obtain ⟨hfs, -, -⟩ := HF.out xs[k] (List.getElem_mem hlt)
      have HQ := Lib.hid (@NotYet.snoc xs (p, v) k HN.out hlt)
      have HX := Lib.hid (fun (e : xs[k].m = (p, v)) => show ∃ k', ∃ h : k' < xs.length, NotYet xs (p, v) k' ∧ xs[k'].m = (p, v) ∧ xs[k].p = xs[k'].p ∧ xs[k].v = xs[k'].v ∧ xs[k].g = xs[k'].g ∧ φ xs[k] = φ xs[k'] from ⟨k, hlt, HN.out, e, rfl, rfl, rfl, rfl⟩)
      clear hat hsp HN
      generalize φ xs[k] = fs at *
      generalize xs[k] = x at *
      have E0 := Lib.hid (@mod_ne1 x p v)
      have E1 := Lib.hid (@mod_ne2 x p v)
      have E2 := Lib.hid (@mod_eq x p v)
      obtain ⟨xp, xv, xg, xa, xn, xc⟩ := x
      dsimp only at q1 q2 q3 q4 s1 s2 s4 E0 E1 E2
      have hfs' := hfs.below hB
      obtain ⟨A, C, e⟩ := hfs.form
      simp only [EntB.f, Value.slice.injEq] at e
      obtain ⟨rfl, rfl, rfl⟩ := e
      dsimp only [EntB.f] at hfs'
      clear hfs
      have m0 : wr.cell? ⟨w.heap.size, 0, none⟩ = some (.string p) := G1.cell 0
      have m1 : wr.cell? ⟨w.heap.size, 1, none⟩ = some (.string v) := G1.cell 1
      have n0 : (wr.alloc (.cells #[.string xp, .string xv, .string xg, .slice xa fs.length xc] 29)).cell? ⟨w.heap.size, 0, none⟩ = some (.string p) := (G1.alloc _).cell 0
      have n1 : (wr.alloc (.cells #[.string xp, .string xv, .string xg, .slice xa fs.length xc] 29)).cell? ⟨w.heap.size, 1, none⟩ = some (.string v) := (G1.alloc _).cell 1
      have hB2 := hB.alloc hB.size (.cells #[.string xp, .string xv, .string xg, .slice xa fs.length xc] 29)
      have G3 := G2.alloc (.cells #[.string xp, .string xv, .string xg, .slice xa fs.length xc] 29)
      have hfs2 := hfs'.below ((Below.refl _ wr).alloc (Nat.le_refl _) (.cells #[.string xp, .string xv, .string xg, .slice xa fs.length xc] 29))
      have HB2 := Lib.hid hB2
      have HG3 := Lib.hid G3
      have HFS := Lib.hid hfs2
      clear hB2 G3 hfs2 G2 hfs'
      cases hp : (xp.toList == p.toList)
      · have HY := Lib.hid (HQ.out (E0.out hp))
        clear HQ E0 E1 E2 HX
        go_wp2
        go_roundw
        case rel => exact ⟨k + 1, by omega, by go_num, HY.out, HB2.out⟩
        case measure => simp [intOf]; omega
      · cases hq : (xv.toList == v.toList)
        · have HY := Lib.hid (HQ.out (E1.out hq))
          clear HQ E0 E1 E2 HX
          go_wp2
          go_roundw
          case rel => exact ⟨k + 1, by omega, by go_num, HY.out, HB2.out⟩
          case measure => simp [intOf]; omega
        · have HZ := Lib.hid (HX.out (E2.out hp hq))
          have HP := Lib.hid (Prod.mk.inj (E2.out hp hq))
          clear HQ E0 E1 E2 HX
          go_wp2_with fail
          refine (copiedW_any xp xv xg _ fs _ HFS.out (by omega)).mono ?_
          rintro _ w3 ⟨A3, c3, rfl, hown3, hb3⟩
          have G4 := HG3.out.below hb3
          have hB3 := HB2.out.trans (hb3.mono HB2.out.size)
          have hB4 := HB0.out.trans (hB3.mono HB0.out.size)
          clear hb3 hB3 HG3 HFS n0 n1 m0 m1
          have z0 : w3.cell? ⟨w.heap.size + 1, 0, none⟩ = some (.string ⟨#[]⟩) := G4.cell 0
          have z1 : w3.cell? ⟨w.heap.size + 1, 1, none⟩ = some (.string ⟨#[]⟩) := G4.cell 1
          have z2 : w3.cell? ⟨w.heap.size + 1, 2, none⟩ = some (.string ⟨#[]⟩) := G4.cell 2
          have z3 : w3.cell? ⟨w.heap.size + 1, 3, none⟩ = some (.slice none 0 0) := G4.cell 3
          have f0 := G4.frozen 0
          have f1 := G4.frozen 1
          have f2 := G4.frozen 2
          have f3 := G4.frozen 3
          have hs3 := HB2.out.size
          have hs4 := HG2.out.lt
          have HO := Lib.hid ((((hown3.set (B := w.heap.size + 1) (by omega) 0 (.string xp)).set (B := w.heap.size + 1) (by omega) 1 (.string xv)).set (B := w.heap.size + 1) (by omega) 2 (.string xg)).set (B := w.heap.size + 1) (by omega) 3 (.slice A3 fs.length c3)).row
          clear hown3 hs3 hs4
          have HR := Lib.hid (G4.four (.string xp) (.string xv) (.string xg) (.slice A3 fs.length c3))
          have HE := Lib.hid (below_four hB4 (Nat.le_succ w.heap.size) (.string xp) (.string xv) (.string xg) (.slice A3 fs.length c3))
          clear G4 hB4
          go_wp2
          have y0 := HR.out.cell 0
          have y1 := HR.out.cell 1
          have y2 := HR.out.cell 2
          have y3 := HR.out.cell 3
          simp only [List.getElem?_toArray, List.getElem?_cons_succ, List.getElem?_cons_zero] at y0 y1 y2 y3
          exact bodyPost_ret (v := .tuple #[.agg #[.string xp, .string xv, .string xg, .slice A3 fs.length c3], .bool true]) (by simp [results, Tryz.results8, go_sem, y0, y1, y2, y3]) rfl ⟨true, xp, xv, xg, _, _, fs, rfl, HO.out, HE.out, .inl ⟨rfl, HZ.out⟩⟩
    · obtain rfl : k = xs.length := by omega
      have HZ := Lib.hid HN.out
      have hB4 := HB0.out.trans (hB.mono HB0.out.size)
      have z0 : wr.cell? ⟨w.heap.size + 1, 0, none⟩ = some (.string ⟨#[]⟩) := G2.cell 0
      have z1 : wr.cell? ⟨w.heap.size + 1, 1, none⟩ = some (.string ⟨#[]⟩) := G2.cell 1
      have z2 : wr.cell? ⟨w.heap.size + 1, 2, none⟩ = some (.string ⟨#[]⟩) := G2.cell 2
      have z3 : wr.cell? ⟨w.heap.size + 1, 3, none⟩ = some (.slice none 0 0) := G2.cell 3
      have f0 := G2.frozen 0
      have f1 := G2.frozen 1
      have f2 := G2.frozen 2
      have f3 := G2.frozen 3
      have HR := Lib.hid (G2.four (.string ⟨#[]⟩) (.string ⟨#[]⟩) (.string ⟨#[]⟩) (.slice none 0 0))
      have HE := Lib.hid (below_four hB4 (Nat.le_succ w.heap.size) (.string ⟨#[]⟩) (.string ⟨#[]⟩) (.string ⟨#[]⟩) (.slice none 0 0))
      clear G1 G2 hB4 hB
      go_wp2
      have y0 := HR.out.cell 0
      have y1 := HR.out.cell 1
      have y2 := HR.out.cell 2
      have y3 := HR.out.cell 3
      simp only [List.getElem?_toArray, List.getElem?_cons_succ, List.getElem?_cons_zero] at y0 y1 y2 y3
      exact bodyPost_ret (v := .tuple #[.agg #[.string ⟨#[]⟩, .string ⟨#[]⟩, .string ⟨#[]⟩, .slice none 0 0], .bool false]) (by simp [results, Tryz.results8, go_sem, y0, y1, y2, y3]) rfl ⟨false, ⟨#[]⟩, ⟨#[]⟩, ⟨#[]⟩, none, 0, [], rfl, RRow.nil _, HE.out, .inr ⟨rfl, HZ.out, rfl, rfl, rfl, rfl⟩⟩

set_option maxRecDepth 100000 in
set_option maxHeartbeats 2000000 in
theorem rfindW_any (xs : List EntB) (V : Value) (p v : ByteArray) (w : World) (hV : RRow entR w V xs) (hL : LightE xs) (φ : EntB → List FileB) (hF : FiledW w xs φ) :
    Calls Tryz.prog 9 #[V, .agg #[.string p, .string v]] w (FindW xs φ p v w) := by
  have hb0 := ((Below.refl w.heap.size w).alloc (Nat.le_refl _) (.cells #[.string p, .string v] 24)).alloc (by simp) (.cells zeroE 29)
  have g1 := (GBlk.new w 24 #[.string p, .string v]).alloc (.cells zeroE 29)
  have g2 := GBlk.new (w.alloc (.cells #[.string p, .string v] 24)) 29 zeroE
  have hs : (w.alloc (.cells #[.string p, .string v] 24)).heap.size = w.heap.size + 1 := by simp
  rw [hs] at g2
  have HV := Lib.hid (hV.below hb0)
  have HF := Lib.hid (hF.below hb0)
  have HFo := Lib.hid hF
  have HL := Lib.hid hL.2
  have h50 := hL.1
  obtain ⟨a, c, rfl, hl, -⟩ := hV
  clear hL hF
  unfold zeroE at *
  go_enter Tryz.func9, Tryz.ntmps9
  go_wp2
  generalize (w.alloc (.cells #[.string p, .string v] 24)).alloc (.cells #[.string ⟨#[]⟩, .string ⟨#[]⟩, .string ⟨#[]⟩, .slice none 0 0] 29) = W at *
  have HB0 := Lib.hid hb0
  have HG1 := Lib.hid g1
  have HG2 := Lib.hid g2
  clear hb0 g1 g2
  go_loopw [6] (fun i wr => ∃ k : Nat, k ≤ xs.length ∧ i = .int .i64 k ∧ NotYet xs (p, v) k ∧ Below W.heap.size W wr) (fun i _ => xs.length - (intOf i).toNat)
  case atStart => exact ⟨0, Nat.zero_le _, rfl, (fun i hi h => absurd h (Nat.not_lt_zero _)), Below.refl _ _⟩
  case round =>
    obtain ⟨k, hk, rfl, hN, hB⟩ := hrel
    have HN := Lib.hid hN
    clear hN
    have G1 := HG1.out.below hB
    have G2 := HG2.out.below hB
    by_cases hlt : k < xs.length
    · obtain ⟨a', c', e, -, hsp⟩ := HV.out.below hB
      simp only [Value.slice.injEq] at e
      obtain ⟨rfl, -, rfl⟩ := e
      obtain ⟨g, o, rfl, hg, hat⟩ := hsp (ne_of_lt hlt)
      obtain ⟨q1, q2, q3, q4⟩ := ent_at hat k hlt
      obtain ⟨s1, s2, -, s4⟩ := HL.out _ (List.getElem_mem hlt)
      obtain ⟨hfs, -, -⟩ := HF.out xs[k] (List.getElem_mem hlt)
      have HQ := Lib.hid (@NotYet.snoc xs (p, v) k HN.out hlt)
      have HX := Lib.hid (fun (e : xs[k].m = (p, v)) => show ∃ k', ∃ h : k' < xs.length, NotYet xs (p, v) k' ∧ xs[k'].m = (p, v) ∧ xs[k].p = xs[k'].p ∧ xs[k].v = xs[k'].v ∧ xs[k].g = xs[k'].g ∧ φ xs[k] = φ xs[k'] from ⟨k, hlt, HN.out, e, rfl, rfl, rfl, rfl⟩)
      clear hat hsp HN
      have HFx := Lib.hid (HFo.out xs[k] (List.getElem_mem hlt)).1
      generalize φ xs[k] = fs at *
      generalize xs[k] = x at *
      have E0 := Lib.hid (@mod_ne1 x p v)
      have E1 := Lib.hid (@mod_ne2 x p v)
      have E2 := Lib.hid (@mod_eq x p v)
      obtain ⟨xp, xv, xg, xa, xn, xc⟩ := x
      dsimp only at q1 q2 q3 q4 s1 s2 s4 E0 E1 E2
      have hfs' := hfs.below hB
      obtain ⟨A, C, e⟩ := hfs.form
      simp only [EntB.f, Value.slice.injEq] at e
      obtain ⟨rfl, rfl, rfl⟩ := e
      dsimp only [EntB.f] at hfs'
      clear hfs
      have m0 : wr.cell? ⟨w.heap.size, 0, none⟩ = some (.string p) := G1.cell 0
      have m1 : wr.cell? ⟨w.heap.size, 1, none⟩ = some (.string v) := G1.cell 1
      have HB2 := Lib.hid hB
      have HG3 := Lib.hid G2
      clear G2 hfs'
      cases hp : (xp.toList == p.toList)
      · have HY := Lib.hid (HQ.out (E0.out hp))
        clear HQ E0 E1 E2 HX
        go_wp2
        go_region
        go_wp2
        go_roundw
        case rel => exact ⟨k + 1, by omega, by go_num, HY.out, HB2.out.drew⟩
        case measure => simp [intOf]; omega
      · cases hq : (xv.toList == v.toList)
        · have HY := Lib.hid (HQ.out (E1.out hq))
          clear HQ E0 E1 E2 HX
          go_wp2
          go_region
          go_wp2
          go_roundw
          case rel => exact ⟨k + 1, by omega, by go_num, HY.out, HB2.out.drew⟩
          case measure => simp [intOf]; omega
        · have HZ := Lib.hid (HX.out (E2.out hp hq))
          have HP := Lib.hid (Prod.mk.inj (E2.out hp hq))
          clear HQ E0 E1 E2 HX
          go_wp2
          go_region
          have G4 := HG3.out
          have hB4 := HB0.out.trans (HB2.out.mono HB0.out.size)
          clear HG3 HB2 m0 m1
          have z0 : wr.cell? ⟨w.heap.size + 1, 0, none⟩ = some (.string ⟨#[]⟩) := G4.cell 0
          have z1 : wr.cell? ⟨w.heap.size + 1, 1, none⟩ = some (.string ⟨#[]⟩) := G4.cell 1
          have z2 : wr.cell? ⟨w.heap.size + 1, 2, none⟩ = some (.string ⟨#[]⟩) := G4.cell 2
          have z3 : wr.cell? ⟨w.heap.size + 1, 3, none⟩ = some (.slice none 0 0) := G4.cell 3
          have f0 := G4.frozen 0
          have f1 := G4.frozen 1
          have f2 := G4.frozen 2
          have f3 := G4.frozen 3
          have HR := Lib.hid (G4.four (.string xp) (.string xv) (.string xg) (.slice xa fs.length xc))
          have HE := Lib.hid (below_four hB4 (Nat.le_succ w.heap.size) (.string xp) (.string xv) (.string xg) (.slice xa fs.length xc))
          clear G4 hB4
          go_wp2
          have y0 := HR.out.cell 0
          have y1 := HR.out.cell 1
          have y2 := HR.out.cell 2
          have y3 := HR.out.cell 3
          simp only [List.getElem?_toArray, List.getElem?_cons_succ, List.getElem?_cons_zero] at y0 y1 y2 y3
          exact bodyPost_ret (v := .tuple #[.agg #[.string xp, .string xv, .string xg, .slice xa fs.length xc], .bool true]) (by simp [results, Tryz.results9, go_sem, y0, y1, y2, y3]) rfl ⟨true, xp, xv, xg, _, _, fs, rfl, HFx.out.below HE.out.drew, HE.out.drew, .inl ⟨rfl, HZ.out⟩⟩
    · obtain rfl : k = xs.length := by omega
      have HZ := Lib.hid HN.out
      have hB4 := HB0.out.trans (hB.mono HB0.out.size)
      have z0 : wr.cell? ⟨w.heap.size + 1, 0, none⟩ = some (.string ⟨#[]⟩) := G2.cell 0
      have z1 : wr.cell? ⟨w.heap.size + 1, 1, none⟩ = some (.string ⟨#[]⟩) := G2.cell 1
      have z2 : wr.cell? ⟨w.heap.size + 1, 2, none⟩ = some (.string ⟨#[]⟩) := G2.cell 2
      have z3 : wr.cell? ⟨w.heap.size + 1, 3, none⟩ = some (.slice none 0 0) := G2.cell 3
      have f0 := G2.frozen 0
      have f1 := G2.frozen 1
      have f2 := G2.frozen 2
      have f3 := G2.frozen 3
      have HR := Lib.hid (G2.four (.string ⟨#[]⟩) (.string ⟨#[]⟩) (.string ⟨#[]⟩) (.slice none 0 0))
      have HE := Lib.hid (below_four hB4 (Nat.le_succ w.heap.size) (.string ⟨#[]⟩) (.string ⟨#[]⟩) (.string ⟨#[]⟩) (.slice none 0 0))
      clear G1 G2 hB4 hB
      go_wp2
      have y0 := HR.out.cell 0
      have y1 := HR.out.cell 1
      have y2 := HR.out.cell 2
      have y3 := HR.out.cell 3
      simp only [List.getElem?_toArray, List.getElem?_cons_succ, List.getElem?_cons_zero] at y0 y1 y2 y3
      exact bodyPost_ret (v := .tuple #[.agg #[.string ⟨#[]⟩, .string ⟨#[]⟩, .string ⟨#[]⟩, .slice none 0 0], .bool false]) (by simp [results, Tryz.results9, go_sem, y0, y1, y2, y3]) rfl ⟨false, ⟨#[]⟩, ⟨#[]⟩, ⟨#[]⟩, none, 0, [], rfl, RRow.nil _, HE.out, .inr ⟨rfl, HZ.out, rfl, rfl, rfl, rfl⟩⟩
end Go.Proofs.YtcbpkbemnaondaaGreatDoor

/-
  Whether two lists of files, two entries, two lists of entries are the same: the document's own.
-/
set_option linter.unusedVariables false
namespace Go.Proofs.YtcbpkbemnaondaaGreatDoor
open Go.RowKit Go.Shelf

def sameF (xs ys : List FileB) : Bool := decide (xs = ys)
theorem sameF_on {xs ys : List FileB} {k : Nat} (h : xs.take k = ys.take k) (hx : k < xs.length) (hy : k < ys.length) (e : xs[k] = ys[k]) : xs.take (k + 1) = ys.take (k + 1) := by
  rw [List.take_succ_eq_append_getElem hx, List.take_succ_eq_append_getElem hy, h, e]
theorem sameF_no {xs ys : List FileB} {k : Nat} (hx : k < xs.length) (hy : k < ys.length) (e : ¬ xs[k] = ys[k]) : sameF xs ys = false := by
  unfold sameF
  refine decide_eq_false ?_
  rintro rfl
  exact e rfl
theorem sameF_end {xs ys : List FileB} {k : Nat} (h : xs.take k = ys.take k) (hl : xs.length = ys.length) (hk : xs.length ≤ k) : sameF xs ys = true := by
  unfold sameF
  rw [List.take_of_length_le hk, List.take_of_length_le (by omega)] at h
  exact decide_eq_true h
theorem sameF_len {xs ys : List FileB} (hl : ¬ xs.length = ys.length) : sameF xs ys = false := by
  unfold sameF
  exact decide_eq_false (fun e => hl (by rw [e]))

def SameOut (b : Bool) (w : World) (e : Ending) (w' : World) : Prop := e = .returned (.bool b) ∧ ∃ n, w' = w.drewN n

set_option maxRecDepth 100000 in
set_option maxHeartbeats 1000000 in
theorem rsameF_any (xs ys : List FileB) (v u : Value) (w : World) (hv : RRow fileR w v xs) (hu : RRow fileR w u ys) (hx : xs.length ≤ 20000) :
    Calls Tryz.prog 36 #[v, u] w (SameOut (sameF xs ys) w) := by
  obtain ⟨a, c, rfl, hlc, hc⟩ := hv
  obtain ⟨b, d, rfl, hld, hd⟩ := hu
  by_cases hl : xs.length = ys.length
  · have hb1 : ((xs.length : Int) == (ys.length : Int)) = true := by simp [hl]
    have hb2 : ((xs.length : Int) != (ys.length : Int)) = false := by simp [hl]
    have HL := Lib.hid hl
    have HC := Lib.hid hc
    have HD := Lib.hid hd
    clear hl hc hd
    go_enter Tryz.func36, Tryz.ntmps36
    go_wp2
    go_loopw [5] (fun i wr => ∃ k n : Nat, k ≤ xs.length ∧ i = .int .i64 k ∧ xs.take k = ys.take k ∧ wr = w.drewN n) (fun i _ => xs.length - (intOf i).toNat)
    case atStart => exact ⟨0, 0, Nat.zero_le _, rfl, rfl, rfl⟩
    case round =>
      obtain ⟨k, n, hk, rfl, ht, rfl⟩ := hrel
      have HT := Lib.hid ht
      clear ht
      by_cases hlt : k < xs.length
      · have hlt2 : k < ys.length := by rw [← HL.out]; exact hlt
        obtain ⟨g, o, rfl, hg, hcell⟩ := HC.out (by intro e; rw [e] at hlt; simp at hlt)
        obtain ⟨g2, o2, rfl, hg2, hcell2⟩ := HD.out (by intro e; rw [e] at hlt2; simp at hlt2)
        obtain ⟨q1, q2⟩ := file_at hcell k hlt
        obtain ⟨q3, q4⟩ := file_at hcell2 k hlt2
        have HY := Lib.hid (sameF_on HT.out hlt hlt2)
        have HN := Lib.hid (sameF_no hlt hlt2)
        clear hcell hcell2
        generalize xs[k] = x at *
        generalize ys[k] = y at *
        obtain ⟨x1, x2⟩ := x
        obtain ⟨y1, y2⟩ := y
        by_cases e1 : x1 = y1
        · subst e1
          by_cases e2 : x2 = y2
          · subst e2
            have HP := Lib.hid (HY.out rfl)
            go_wp2
            go_region
            all_goals
              go_wp2
              go_roundw
              case rel => exact ⟨k + 1, _, by omega, by go_num, HP.out, rfl⟩
              case measure => simp [intOf]; omega
          · have e3 : ¬ x2.toList = y2.toList := fun h => e2 (toList_inj.1 h)
            have HP := Lib.hid (HN.out (fun h => e2 (Prod.mk.inj h).2))
            clear e2
            go_wp2
            go_region
            all_goals
              go_wp2
              go_ret
              exact ⟨ret_bool HP.out.symm, _, rfl⟩
        · have e3 : ¬ x1.toList = y1.toList := fun h => e1 (toList_inj.1 h)
          have HP := Lib.hid (HN.out (fun h => e1 (Prod.mk.inj h).1))
          clear e1
          go_wp2
          go_region
          all_goals
            go_wp2
            go_ret
            exact ⟨ret_bool HP.out.symm, _, rfl⟩
      · go_wp2
        go_ret
        exact ⟨ret_bool (sameF_end HT.out HL.out (by omega)).symm, _, rfl⟩
  · have hb1 : ((xs.length : Int) == (ys.length : Int)) = false := by simp; omega
    have HL := Lib.hid (sameF_len hl)
    go_enter Tryz.func36, Tryz.ntmps36
    go_wp2
    go_ret
    exact ⟨ret_bool HL.out.symm, 0, rfl⟩

/-- Two lists, one by one. -/
inductive All2 {α β : Type} (r : α → β → Prop) : List α → List β → Prop
  | nil : All2 r [] []
  | cons {x : α} {y : β} {xs : List α} {ys : List β} : r x y → All2 r xs ys → All2 r (x :: xs) (y :: ys)
section
variable {α β : Type} {r : α → β → Prop}
theorem All2.len {xs : List α} {ys : List β} (h : All2 r xs ys) : xs.length = ys.length := by
  induction h with
  | nil => rfl
  | cons _ _ ih => simp [ih]
theorem All2.get {xs : List α} {ys : List β} (h : All2 r xs ys) : ∀ i (h1 : i < xs.length) (h2 : i < ys.length), r xs[i] ys[i] := by
  induction h with
  | nil => intro i h1; simp at h1
  | cons h _ ih =>
    intro i h1 h2
    cases i with
    | zero => exact h
    | succ i => exact ih i (by simpa using h1) (by simpa using h2)
theorem All2.app {xs us : List α} {ys vs : List β} (h : All2 r xs ys) (k : All2 r us vs) : All2 r (xs ++ us) (ys ++ vs) := by
  induction h with
  | nil => exact k
  | cons h _ ih => exact .cons h ih
theorem All2.snoc {xs : List α} {ys : List β} {x : α} {y : β} (h : All2 r xs ys) (k : r x y) : All2 r (xs ++ [x]) (ys ++ [y]) := h.app (.cons k .nil)
theorem All2.mono {s : α → β → Prop} {xs : List α} {ys : List β} (h : All2 r xs ys) (k : ∀ x y, r x y → s x y) : All2 s xs ys := by
  induction h with
  | nil => exact .nil
  | cons h _ ih => exact .cons (k _ _ h) ih
theorem All2.of_get {xs : List α} : ∀ {ys : List β}, xs.length = ys.length → (∀ i (h1 : i < xs.length) (h2 : i < ys.length), r xs[i] ys[i]) → All2 r xs ys := by
  induction xs with
  | nil => intro ys h _; rw [List.length_eq_zero_iff.1 h.symm]; exact .nil
  | cons x xs ih =>
    intro ys h k
    cases ys with
    | nil => simp at h
    | cons y ys => exact .cons (k 0 (by simp) (by simp)) (ih (by simpa using h) fun i h1 h2 => k (i + 1) (by simpa using h1) (by simpa using h2))
variable {c : α → α → Int} {d : β → β → Int}
theorem All2.ins (hc : ∀ x y u v, r x y → r u v → c x u = d y v) {x : α} {y : β} (hx : r x y) {xs : List α} {ys : List β} (h : All2 r xs ys) : All2 r (insC c x xs) (insC d y ys) := by
  induction h with
  | nil => exact .cons hx .nil
  | cons h k ih =>
    rename_i u v us vs
    unfold insC
    rw [hc _ _ _ _ hx h]
    split
    · exact .cons hx (.cons h k)
    · exact .cons h ih
theorem All2.sort (hc : ∀ x y u v, r x y → r u v → c x u = d y v) {xs : List α} {ys : List β} (h : All2 r xs ys) : All2 r (sortC c xs) (sortC d ys) := by
  unfold sortC
  have key : ∀ {xs : List α} {ys : List β}, All2 r xs ys → ∀ {a : List α} {b : List β}, All2 r a b → All2 r (xs.foldl (fun acc f => insC c f acc) a) (ys.foldl (fun acc f => insC d f acc) b) := by
    intro xs ys h
    induction h with
    | nil => intro a b hab; exact hab
    | cons hx _ ih => intro a b hab; exact ih (All2.ins hc hx hab)
  exact key h .nil
end

/-- One entry says what the other one does, its files those. -/
def LikeR (w : World) (y : EntB) (z : EntB × List FileB) : Prop := y.p = z.1.p ∧ y.v = z.1.v ∧ y.g = z.1.g ∧ RRow fileR w y.f z.2
set_option maxRecDepth 100000 in
set_option maxHeartbeats 2000000 in
theorem rsameE_any (p v g : ByteArray) (F U : Value) (fs : List FileB) (w : World) (hF : RRow fileR w F fs) (hU : RRow fileR w U fs) (hl : fs.length ≤ 20000) :
    Calls Tryz.prog 15 #[.agg #[.string p, .string v, .string g, F], .agg #[.string p, .string v, .string g, U]] w (BoolOut true w) := by
  obtain ⟨A, C, rfl⟩ := hF.form
  obtain ⟨B, D, rfl⟩ := hU.form
  have hb0 := ((Below.refl w.heap.size w).alloc (Nat.le_refl _) (.cells #[.string p, .string v, .string g, .slice A fs.length C] 29)).alloc (by simp) (.cells #[.string p, .string v, .string g, .slice B fs.length D] 29)
  have HB0 := Lib.hid hb0
  have HF := Lib.hid (hF.below hb0)
  have HU := Lib.hid (hU.below hb0)
  clear hF hU hb0
  go_enter Tryz.func15, Tryz.ntmps15
  go_wp2_with (go_at_call 36; refine (rsameF_any fs fs _ _ _ HF.out HU.out hl).mono ?_; rintro e w1 ⟨rfl, q, rfl⟩)
  go_ret
  exact ⟨ret_bool (by simp [sameF]), below_drewN HB0.out _⟩

/-- Two entries that say the same, files and all. -/
def LikeP (w : World) (y z : EntB) : Prop := y.p = z.p ∧ y.v = z.v ∧ y.g = z.g ∧ ∃ fs, RRow fileR w y.f fs ∧ RRow fileR w z.f fs ∧ fs.length ≤ 20000
theorem LikeP.below {w w' : World} {y z : EntB} (h : LikeP w y z) (hb : Below w.heap.size w w') : LikeP w' y z := by
  obtain ⟨h1, h2, h3, fs, h4, h5, h6⟩ := h
  exact ⟨h1, h2, h3, fs, h4.below hb, h5.below hb, h6⟩

set_option maxRecDepth 100000 in
set_option maxHeartbeats 2000000 in
theorem ralike_any (ys zs : List EntB) (V U : Value) (w : World) (hV : RRow entR w V ys) (hU : RRow entR w U zs) (h : All2 (LikeP w) ys zs) (hl : ys.length ≤ 1000) :
    Calls Tryz.prog 12 #[V, U] w (BoolOut true w) := by
  have hlen := h.len
  have HA := Lib.hid h.get
  have HV := Lib.hid hV
  have HU := Lib.hid hU
  obtain ⟨a, c, rfl, hlc, -⟩ := hV
  obtain ⟨b, d, rfl, hld, -⟩ := hU
  have hb1 : ((ys.length : Int) == (zs.length : Int)) = true := by simp [hlen]
  have hb2 : ((ys.length : Int) != (zs.length : Int)) = false := by simp [hlen]
  have HLn := Lib.hid hlen
  clear h hlen
  go_enter Tryz.func12, Tryz.ntmps12
  go_wp2
  go_loopw [5] (fun i wr => ∃ k : Nat, k ≤ ys.length ∧ i = .int .i64 k ∧ Below w.heap.size w wr) (fun i _ => ys.length - (intOf i).toNat)
  case atStart => exact ⟨0, Nat.zero_le _, rfl, Below.refl _ _⟩
  case round =>
    obtain ⟨k, hk, rfl, hB⟩ := hrel
    by_cases hlt : k < ys.length
    · have hlt2 : k < zs.length := by rw [← HLn.out]; exact hlt
      obtain ⟨a', c', e, -, hsp⟩ := HV.out.below hB
      simp only [Value.slice.injEq] at e
      obtain ⟨rfl, -, rfl⟩ := e
      obtain ⟨g, o, rfl, hg, hat⟩ := hsp (ne_of_lt hlt)
      obtain ⟨q1, q2, q3, q4⟩ := ent_at hat k hlt
      obtain ⟨a', c', e, -, hsp2⟩ := HU.out.below hB
      simp only [Value.slice.injEq] at e
      obtain ⟨rfl, -, rfl⟩ := e
      obtain ⟨g2, o2, rfl, hg2, hat2⟩ := hsp2 (ne_of_lt hlt2)
      obtain ⟨r1, r2, r3, r4⟩ := ent_at hat2 k hlt2
      have hL := (HA.out k hlt hlt2).below hB
      have ik0 : (0 : Int) ≤ (k : Int) := by omega
      have ik1 : (k : Int) < (ys.length : Int) := by omega
      have ik2 : (k : Int) < (zs.length : Int) := by omega
      clear hat hsp hat2 hsp2
      generalize ys[k] = y at *
      generalize zs[k] = z at *
      obtain ⟨yp, yv, yg, ya, yn, yc⟩ := y
      obtain ⟨zp, zv, zg, za, zn, zc⟩ := z
      obtain ⟨rfl, rfl, rfl, fs, f1, f2, f3⟩ := hL
      obtain ⟨A1, C1, e1⟩ := f1.form
      obtain ⟨A2, C2, e2⟩ := f2.form
      simp only [EntB.f, Value.slice.injEq] at e1 e2
      obtain ⟨rfl, rfl, rfl⟩ := e1
      obtain ⟨rfl, rfl, rfl⟩ := e2
      dsimp only [EntB.f] at q1 q2 q3 q4 r1 r2 r3 r4 f1 f2
      have K0 := Lib.hid (show wr.drew.cell? ⟨g, o + k * 4, none⟩ = some (.string yp) ∧ wr.drew.cell? ⟨g, o + k * 4 + 1, none⟩ = some (.string yv) ∧ wr.drew.cell? ⟨g, o + k * 4 + 2, none⟩ = some (.string yg) ∧ wr.drew.cell? ⟨g, o + k * 4 + 3, none⟩ = some (.slice ya fs.length yc) ∧ wr.drew.cell? ⟨g2, o2 + k * 4, none⟩ = some (.string yp) ∧ wr.drew.cell? ⟨g2, o2 + k * 4 + 1, none⟩ = some (.string yv) ∧ wr.drew.cell? ⟨g2, o2 + k * 4 + 2, none⟩ = some (.string yg) ∧ wr.drew.cell? ⟨g2, o2 + k * 4 + 3, none⟩ = some (.slice za fs.length zc) from ⟨q1, q2, q3, q4, r1, r2, r3, r4⟩)
      have F1 := Lib.hid f1
      have F2 := Lib.hid f2
      clear f1 f2
      go_wp2
      go_region_held3 (fun w' => w'.cell? ⟨g, o + k * 4, none⟩ = some (.string yp) ∧ w'.cell? ⟨g, o + k * 4 + 1, none⟩ = some (.string yv) ∧ w'.cell? ⟨g, o + k * 4 + 2, none⟩ = some (.string yg) ∧ w'.cell? ⟨g, o + k * 4 + 3, none⟩ = some (.slice ya fs.length yc) ∧ w'.cell? ⟨g2, o2 + k * 4, none⟩ = some (.string yp) ∧ w'.cell? ⟨g2, o2 + k * 4 + 1, none⟩ = some (.string yv) ∧ w'.cell? ⟨g2, o2 + k * 4 + 2, none⟩ = some (.string yg) ∧ w'.cell? ⟨g2, o2 + k * 4 + 3, none⟩ = some (.slice za fs.length zc))
        (first | with_reducible exact K0.out | go_keep | with_reducible exact K2.out)
        (first | (go_at_call 15; refine (rsameE_any yp yv yg _ _ fs _ (F1.out.below (below_drewN (Below.refl _ _) 1)) (F2.out.below (below_drewN (Below.refl _ _) 1)) f3).mono ?_; rintro e w2 ⟨rfl, hb2'⟩; have hb2 := below_drewN' (n := 1) hb2'; have K2 := Lib.hid (show w2.cell? ⟨g, o + k * 4, none⟩ = some (.string yp) ∧ w2.cell? ⟨g, o + k * 4 + 1, none⟩ = some (.string yv) ∧ w2.cell? ⟨g, o + k * 4 + 2, none⟩ = some (.string yg) ∧ w2.cell? ⟨g, o + k * 4 + 3, none⟩ = some (.slice ya fs.length yc) ∧ w2.cell? ⟨g2, o2 + k * 4, none⟩ = some (.string yp) ∧ w2.cell? ⟨g2, o2 + k * 4 + 1, none⟩ = some (.string yv) ∧ w2.cell? ⟨g2, o2 + k * 4 + 2, none⟩ = some (.string yg) ∧ w2.cell? ⟨g2, o2 + k * 4 + 3, none⟩ = some (.slice za fs.length zc) from ⟨(hb2.cell (p := ⟨g, _, none⟩) hg).trans q1, (hb2.cell (p := ⟨g, _, none⟩) hg).trans q2, (hb2.cell (p := ⟨g, _, none⟩) hg).trans q3, (hb2.cell (p := ⟨g, _, none⟩) hg).trans q4, (hb2.cell (p := ⟨g2, _, none⟩) hg2).trans r1, (hb2.cell (p := ⟨g2, _, none⟩) hg2).trans r2, (hb2.cell (p := ⟨g2, _, none⟩) hg2).trans r3, (hb2.cell (p := ⟨g2, _, none⟩) hg2).trans r4⟩)))
      rename_i hheld
      clear hheld
      have hB2 := hB.trans (hb2.mono hB.size)
      go_wp2
      go_roundw
      case rel => exact ⟨k + 1, by omega, by go_num, hB2⟩
      case measure => simp [intOf]; omega
    · have hkz : ¬ (k : Int) < (ys.length : Int) := by omega
      go_wp2
      go_ret
      exact ⟨rfl, hB⟩
end Go.Proofs.YtcbpkbemnaondaaGreatDoor

/-
  cache.Sort: copies of the entries in the order of their modules.
-/
set_option linter.unusedVariables false
namespace Go.Proofs.YtcbpkbemnaondaaGreatDoor
open Go.RowKit Go.Shelf

def entO : Ordr EntB := ⟨entC, entC_cmp⟩
def okE (x : EntB) : Prop := x.p.size ≤ 20400 ∧ x.v.size ≤ 20400
set_option maxRecDepth 100000 in
set_option maxHeartbeats 1000000 in
theorem ecmp_any : CmpOKE entO okE := by
  intro x1 x2 x3 xa xn xc z1 z2 z3 za zn zc w hx hz
  obtain ⟨hx1, hx2⟩ := hx
  obtain ⟨hz1, hz2⟩ := hz
  dsimp only at hx1 hx2 hz1 hz2
  have HE := Lib.hid (show modCmp (x1, x2) (z1, z2) = entO.c ⟨x1, x2, x3, xa, xn, xc⟩ ⟨z1, z2, z3, za, zn, zc⟩ from rfl)
  have hb0 := ((Below.refl w.heap.size w).alloc (Nat.le_refl _) (.cells #[.string x1, .string x2, .string x3, .slice xa xn xc] 29)).alloc (by simp) (.cells #[.string z1, .string z2, .string z3, .slice za zn zc] 29)
  have HB0 := Lib.hid hb0
  go_enter Tryz.func33, Tryz.ntmps33
  go_wp2_with (go_at_call 34; refine (order_any _ _ _ _ hx1 hx2 hz1 hz2 _).mono ?_; rintro e w1 ⟨rfl, hb1⟩)
  go_ret
  exact ⟨ret_int HE.out, HB0.out.trans (hb1.mono HB0.out.size)⟩

/-- An entry says what the other one does; its files, a list of its own, say those. -/
def LikeO (φ : EntB → List FileB) (w : World) (y x : EntB) : Prop := y.p = x.p ∧ y.v = x.v ∧ y.g = x.g ∧ ROwn fileR 56 w 0 y.f (φ x)
theorem LikeO.kept {φ : EntB → List FileB} {w w' : World} {y x : EntB} (h : LikeO φ w y x) {base : Nat} {V : Value} {cs : List EntB} (ho : ROwn entR 29 w base V cs) (hf : ∀ b, b < w.heap.size → V.ownBlock ≠ some b → w'.heap[b]? = w.heap[b]?) : LikeO φ w' y x := by
  obtain ⟨h1, h2, h3, h4⟩ := h
  refine ⟨h1, h2, h3, h4.same fun k hk e => hf k hk fun e2 => ?_⟩
  rcases ho.apart h4 (by decide) with h | h
  · rw [e2] at h; cases h
  · exact h (by rw [e, e2])
theorem LikeO.below {φ : EntB → List FileB} {w w' : World} {y x : EntB} (h : LikeO φ w y x) (hb : Below w.heap.size w w') : LikeO φ w' y x := ⟨h.1, h.2.1, h.2.2.1, h.2.2.2.below hb⟩
def SortW (φ : EntB → List FileB) (xs : List EntB) (w : World) (e : Ending) (w' : World) : Prop := ∃ (ys : List EntB) (A : Option Addr) (c : Nat), e = .returned (.slice A ys.length c) ∧ RRow entR w' (.slice A ys.length c) ys ∧ Below w.heap.size w w' ∧ All2 (LikeO φ w') ys (sortE xs)

set_option maxRecDepth 100000 in
set_option maxHeartbeats 4000000 in
theorem csort_any (xs : List EntB) (V : Value) (w : World) (hV : RRow entR w V xs) (hL : LightE xs) (φ : EntB → List FileB) (hF : FiledW w xs φ) :
    Calls Tryz.prog 13 #[V] w (SortW φ xs w) := by
  have HV := Lib.hid hV
  have HF := Lib.hid hF
  have HL := Lib.hid hL.2
  have h50 := hL.1
  obtain ⟨a, c, rfl, hl, -⟩ := hV
  clear hL hF
  obtain ⟨i0, hi, hz0, hz1, hz2⟩ := info_parts entTy.info
  obtain ⟨W, hmk, hown, hgr⟩ := run_make_own (P := Tryz.prog) w w.heap.size 22 29 i0 _ 4 Tryz.underlying22 hi hz0 hz1 .i64 .i64 xs.length (by rw [hz2]; omega) (by unfold maxLen; omega) (Nat.le_refl _)
  have HA0 := Lib.hid (show RAcc entR 29 w W (.slice (some ⟨w.heap.size, 0, none⟩) 0 xs.length) [] from ⟨hown, ⟨hgr.os, hgr.tape, hgr.output, hgr.size, fun k hk => hgr.block k hk (by simp)⟩⟩)
  clear hown hgr hi hz0 hz1 hz2
  go_enter Tryz.func13, Tryz.ntmps13
  go_wp2
  go_loopw [3, 11] (fun V i wr => ∃ (k : Nat) (cs : List EntB) (A : Option Addr) (c' : Nat), k ≤ xs.length ∧ i = .int .i64 k ∧ V = .slice A cs.length c' ∧ RAcc entR 29 w wr (.slice A cs.length c') cs ∧ All2 (LikeO φ wr) cs (xs.take k)) (fun _ i _ => xs.length - (intOf i).toNat)
  case atStart => exact ⟨0, [], _, _, Nat.zero_le _, rfl, rfl, HA0.out, .nil⟩
  case round =>
    obtain ⟨k, cs, A, c', hk, rfl, rfl, hacc, hall⟩ := hrel
    have hcl : cs.length ≤ 1000 := by have := hall.len; rw [List.length_take] at this; omega
    by_cases hlt : k < xs.length
    · have hB := hacc.below
      obtain ⟨a', c'', e, -, hsp⟩ := HV.out.below hB
      simp only [Value.slice.injEq] at e
      obtain ⟨rfl, -, rfl⟩ := e
      obtain ⟨g, o, rfl, hg, hat⟩ := hsp (ne_of_lt hlt)
      obtain ⟨q1, q2, q3, q4⟩ := ent_at hat k hlt
      obtain ⟨s1, s2, s3, s4⟩ := HL.out _ (List.getElem_mem hlt)
      obtain ⟨f1, f2, f3⟩ := HF.out xs[k] (List.getElem_mem hlt)
      have f4 := HF.out.len (List.getElem_mem hlt)
      have HAcc := Lib.hid hacc
      have HSn := Lib.hid (fun (wz : World) (h : All2 (LikeO φ wz) cs (xs.take k)) (y : EntB) (hy : LikeO φ wz y xs[k]) => show All2 (LikeO φ wz) (cs ++ [y]) (xs.take (k + 1)) by rw [List.take_succ_eq_append_getElem hlt]; exact h.snoc hy)
      have HLk := Lib.hid (fun (wz : World) (y : EntB) (h : y.p = xs[k].p ∧ y.v = xs[k].v ∧ y.g = xs[k].g ∧ ROwn fileR 56 wz 0 y.f (φ xs[k])) => show LikeO φ wz y xs[k] from h)
      have HAll := Lib.hid hall
      have kx : (k : Int) < (xs.length : Int) := by omega
      clear hat hsp hacc hall
      generalize hx : xs[k] = x at *
      clear hx
      generalize hfs : φ x = fs at HLk f1 f2 f3 f4
      obtain ⟨xp, xv, xg, xa, xn, xc⟩ := x
      dsimp only [EntB.m, EntB.f] at q1 q2 q3 q4 s1 s2 s3 s4 f1 f4 HLk
      subst f4
      clear hfs
      have HBx := Lib.hid (hB.alloc hB.size (.cells #[.string xp, .string xv, .string xg, .slice xa fs.length xc] 29))
      have HF1 := Lib.hid (f1.below HBx.out)
      have HBw := Lib.hid ((Below.refl wr.heap.size wr).alloc (Nat.le_refl _) (.cells #[.string xp, .string xv, .string xg, .slice xa fs.length xc] 29))
      clear hB f1
      go_wp2_with fail
      refine (copiedW_any xp xv xg _ fs _ HF1.out (by omega)).mono ?_
      rintro _ w1 ⟨A1, c1, rfl, hown1, hb1⟩
      have hbw := HBw.out.trans (hb1.mono HBw.out.size)
      have HA1 := Lib.hid (HAcc.out.call hbw)
      have HL1 := Lib.hid (HAll.out.mono (fun y z h => h.below hbw))
      have HO1 := Lib.hid (hown1.lower (Nat.zero_le _))
      clear HAcc HAll hown1 hb1 hbw
      go_wp2_with (first
        | (at_builtin; refine wpList_racc entTy rfl _ _ rfl (HA1.out.alloc _) rfl (RRow.oneB (R := entR) 29 ⟨xp, xv, xg, A1, fs.length, c1⟩ #[.string xp, .string xv, .string xg, .slice A1 fs.length c1] rfl) rfl (by simp; omega) ?_; intro A3 c3 cs3 w3 hgr)
        | go_in)
      have hba : Below w1.heap.size w1 (w1.alloc (.cells #[.string xp, .string xv, .string xg, .slice A1 fs.length c1] 29)) := (Below.refl _ _).alloc (Nat.le_refl _) _
      have hlist := hgr.list
      subst hlist
      have HL3 := Lib.hid (HSn.out w3 ((HL1.out.mono (fun y z h => h.below hba)).mono (fun y z h => h.kept (HA1.out.alloc _).own hgr.far)) ⟨xp, xv, xg, A1, fs.length, c1⟩ ((HLk.out (w1.alloc (.cells #[.string xp, .string xv, .string xg, .slice A1 fs.length c1] 29)) _ ⟨rfl, rfl, rfl, HO1.out.below hba⟩).kept (HA1.out.alloc _).own hgr.far))
      have HA3 := Lib.hid hgr.acc
      clear hgr hba
      go_roundw
      case rel => exact ⟨k + 1, _, A3, c3, by omega, by go_num, rfl, HA3.out, HL3.out⟩
      case measure => simp [intOf]; omega
    · obtain rfl : k = xs.length := by omega
      rw [List.take_length] at hall
      have hB := hacc.below
      have hS := All2.sort (c := entC) (d := entC) (fun x y u v h1 h2 => by unfold entC EntB.m; rw [h1.1, h1.2.1, h2.1, h2.2.1]) hall
      have hE : Each okE cs := fun y hy => by
        obtain ⟨i, hi, rfl⟩ := List.getElem_of_mem hy
        have hl := hall.len
        have h1 := hall.get i hi (by omega)
        obtain ⟨s1, s2, -, -⟩ := HL.out _ (List.getElem_mem (show i < xs.length by omega))
        exact ⟨by rw [h1.1]; omega, by rw [h1.2.1]; omega⟩
      have HS := Lib.hid hS
      have HE := Lib.hid hE
      have HB := Lib.hid hB
      have HLn := Lib.hid hall.len
      have HO := Lib.hid hacc.own
      clear hS hE hB hall
      rcases hacc.own with ⟨h0, ⟨e, hz⟩ | ⟨g, cap, cur, e, hg, hh, hr⟩⟩
      · simp only [Value.slice.injEq] at e
        obtain ⟨rfl, -, rfl⟩ := e
        have hn : cs = [] := List.length_eq_zero_iff.1 hz
        subst hn
        simp only [List.length_nil] at *
        have HR := Lib.hid (show SortW φ xs w (.returned (.slice none 0 0)) wr from ⟨[], none, 0, rfl, RRow.nil _, HB.out, HS.out⟩)
        clear hacc h0 HO
        go_wp2_with fail
        refine (stableF_noneE _ _).mono ?_
        rintro _ w2 ⟨rfl, rfl⟩
        go_wp2
        go_ret
        exact HR.out
      · simp only [Value.slice.injEq] at e
        obtain ⟨rfl, -, rfl⟩ := e
        have hW : Work entR 29 wr g c' cs.length wr cs := ⟨rfl, hacc.own.lower (Nat.zero_le _), World.grownBy.refl _ _⟩
        have HX := Lib.hid (stableF_anyE entO okE ecmp_any wr g c' cs.length wr cs hW HE.out hcl)
        have HG := Lib.hid hg
        clear hacc h0 hW hh hr hg
        go_wp2_with fail
        refine HX.out.mono ?_
        rintro _ w2 ⟨rfl, ys, r1, r2, hw2⟩
        have hys := sort_is r1 r2
        have HR := Lib.hid (show SortW φ xs w (.returned (.slice (some ⟨g, 0, none⟩) ys.length c')) w2 from by
          refine ⟨ys, _, _, rfl, ?_, HB.out.grown hw2.far HB.out.size (fun k e => by cases e; exact HG.out), ?_⟩
          · rw [hw2.len]; exact hw2.own.row
          · rw [hys]
            exact HS.out.mono (fun y z h => h.kept HO.out (fun b hb hne => hw2.far.block b hb (fun e => hne (by cases e; rfl))))
          )
        have HY := Lib.hid hw2.len
        clear r1 r2 hw2 hys HX
        rw [HY.out] at HR
        go_wp2
        go_ret
        exact HR.out
end Go.Proofs.YtcbpkbemnaondaaGreatDoor

/-
  What is wrong with an entry, and with entries: cache.Check.
-/
set_option linter.unusedVariables false
namespace Go.Proofs.YtcbpkbemnaondaaGreatDoor
open Go.RowKit Go.Shelf

def checkEN (m : ModB) (g : ByteArray) (fs : List FileB) : Int := orL [knownN m, unl (decide ((g.size : Int) ≤ 4000)) 2, (checkB badT fs).1]

set_option maxRecDepth 100000 in
theorem fault_E (w : World) (a c : Int) (b : ByteArray) : (Instr.field 34 (.agg #[.int .i64 a, .string b, .int .i64 c]) 0).run Tryz.prog w = .ok (.int .i64 a) w := by
  kernel_rfl

set_option maxRecDepth 100000 in
set_option maxHeartbeats 2000000 in
theorem checkEntry_any (p v g : ByteArray) (F : Value) (fs : List FileB) (w : World) (hp : p.size ≤ 20400) (hv : v.size ≤ 20400) (hg : g.size ≤ maxLen) (hr : RRow fileR w F fs) (hs : ∀ f ∈ fs, f.1.size ≤ maxLen ∧ f.2.size ≤ maxLen) (hm : fs.length ≤ 20000) :
    Calls Tryz.prog 27 #[.agg #[.string p, .string v, .string g, F]] w (IntOut (checkEN (p, v) g fs) w) := by
  obtain ⟨A, C, rfl⟩ := hr.form
  have hb0 := (Below.refl w.heap.size w).alloc (Nat.le_refl _) (.cells #[.string p, .string v, .string g, .slice A fs.length C] 29)
  have g1 := GBlk.new w 29 #[.string p, .string v, .string g, .slice A fs.length C]
  have hz : w.heap.size < (w.alloc (.cells #[.string p, .string v, .string g, .slice A fs.length C] 29)).heap.size := by simp
  have HR := Lib.hid (hr.below hb0)
  have HS := Lib.hid hs
  have HQ := Lib.hid (show orL [knownN (p, v), unl (decide ((g.size : Int) ≤ 4000)) 2, (checkB badT fs).1] = checkEN (p, v) g fs from rfl)
  clear hr hs
  unfold maxLen at hg
  have hfe := fault_E
  go_enter Tryz.func27, Tryz.ntmps27
  go_wp2
  generalize w.alloc (.cells #[.string p, .string v, .string g, .slice A fs.length C] 29) = W at *
  have c0 : W.cell? ⟨w.heap.size, 0, none⟩ = some (.string p) := g1.cell 0
  have c1 : W.cell? ⟨w.heap.size, 1, none⟩ = some (.string v) := g1.cell 1
  have c2 : W.cell? ⟨w.heap.size, 2, none⟩ = some (.string g) := g1.cell 2
  have c3 : W.cell? ⟨w.heap.size, 3, none⟩ = some (.slice A fs.length C) := g1.cell 3
  clear g1
  have L0 := Lib.hid (show ∀ w', Below W.heap.size W w' → w'.cell? ⟨w.heap.size, 0, none⟩ = some (.string p) ∧ w'.cell? ⟨w.heap.size, 1, none⟩ = some (.string v) ∧ w'.cell? ⟨w.heap.size, 2, none⟩ = some (.string g) ∧ w'.cell? ⟨w.heap.size, 3, none⟩ = some (.slice A fs.length C) from fun w' h => ⟨(h.cell (p := ⟨w.heap.size, 0, none⟩) hz).trans c0, (h.cell (p := ⟨w.heap.size, 1, none⟩) hz).trans c1, (h.cell (p := ⟨w.heap.size, 2, none⟩) hz).trans c2, (h.cell (p := ⟨w.heap.size, 3, none⟩) hz).trans c3⟩)
  go_region_held3 (fun w' => w'.cell? ⟨w.heap.size, 0, none⟩ = some (.string p) ∧ w'.cell? ⟨w.heap.size, 1, none⟩ = some (.string v) ∧ w'.cell? ⟨w.heap.size, 2, none⟩ = some (.string g) ∧ w'.cell? ⟨w.heap.size, 3, none⟩ = some (.slice A fs.length C))
    (first
      | go_keep
      | with_reducible exact K6.out
      | with_reducible exact K4.out)
    (first
      | (go_at_call 25; refine (known_any _ _ hp hv _).mono ?_; rintro e w4 ⟨rfl, hb4'⟩; have hb4 := below_drewN' (n := 1) hb4'; have K4 := Lib.hid (L0.out _ hb4))
      | (go_at_call 46; refine (unless_any _ _ _).mono ?_; rintro e w' ⟨rfl, rfl⟩)
      | (go_at_call 53; refine (tcheck_any fs _ _ (HR.out.below hb4) HS.out hm).mono ?_; rintro e w6 ⟨rfl, hb6⟩; have K6 := Lib.hid (L0.out _ (hb4.trans (hb6.mono hb4.size))))
      | (go_at_call 48; refine (first_any _ _ [knownN (p, v), unl (decide ((g.size : Int) ≤ 4000)) 2, (checkB badT fs).1] (by simp) _ (ints_cells _ _ _ _ (by rfl))).mono ?_; rintro e w' ⟨rfl, rfl⟩))
  have hb6' := hb4.trans (hb6.mono hb4.size)
  go_wp2
  go_ret
  exact ⟨ret_int HQ.out, (hb0.trans (hb6'.mono hb0.size)).alloc (hb0.trans (hb6'.mono hb0.size)).size _⟩
end Go.Proofs.YtcbpkbemnaondaaGreatDoor

/-
  cache.Check.
-/
namespace Go.Proofs.YtcbpkbemnaondaaGreatDoor
open Go.RowKit Go.Shelf

/-- What is wrong with the entry at k, if those ahead of it are well. -/
def badE (φ : EntB → List FileB) (xs : List EntB) (k : Nat) : Int :=
  match xs[k]? with
  | none => 0
  | some x => if checkEN x.m x.g (φ x) = 0 then (if inM ((xs.take k).map EntB.m) x.m then 4 else 0) else checkEN x.m x.g (φ x)
def GoodTo (φ : EntB → List FileB) (xs : List EntB) (k : Nat) : Prop := ∀ i, i < k → badE φ xs i = 0
theorem GoodTo.snoc {φ : EntB → List FileB} {xs : List EntB} {k : Nat} (h : GoodTo φ xs k) (e : badE φ xs k = 0) : GoodTo φ xs (k + 1) := fun i hi => by
  by_cases hik : i = k
  · subst hik; exact e
  · exact h i (by omega)
/-- What a check of entries tells. -/
def ChkIs (φ : EntB → List FileB) (xs : List EntB) (f : Int × ByteArray) : Prop :=
  (∃ k, ∃ h : k < xs.length, GoodTo φ xs k ∧ ¬ badE φ xs k = 0 ∧ f = (badE φ xs k, atB xs[k].m)) ∨ (GoodTo φ xs xs.length ∧ f = if 40 < xs.length then (2, ⟨#[]⟩) else (0, ⟨#[]⟩))
theorem ChkIs.same {φ : EntB → List FileB} {xs : List EntB} {f g : Int × ByteArray} (h : ChkIs φ xs f) (k : ChkIs φ xs g) : f = g := by
  rcases h with ⟨i, hi, h1, h2, rfl⟩ | ⟨h1, rfl⟩ <;> rcases k with ⟨j, hj, k1, k2, rfl⟩ | ⟨k1, rfl⟩
  · have : i = j := by
      rcases Nat.lt_trichotomy i j with h | h | h
      · exact absurd (k1 i h) h2
      · exact h
      · exact absurd (h1 j h) k2
    subst this; rfl
  · exact absurd (k1 i hi) h2
  · exact absurd (h1 j hj) k2
  · rfl
theorem ChkIs.none {φ : EntB → List FileB} {xs : List EntB} {f : Int × ByteArray} (h : ChkIs φ xs f) : f.1 = 0 ↔ GoodTo φ xs xs.length ∧ ¬ 40 < xs.length := by
  rcases h with ⟨i, hi, h1, h2, rfl⟩ | ⟨h1, rfl⟩
  · exact ⟨fun h => absurd h h2, fun h => absurd (h.1 i hi) h2⟩
  · by_cases h : 40 < xs.length <;> simp [h, h1]
theorem badE_at {φ : EntB → List FileB} {xs : List EntB} {k : Nat} (h : k < xs.length) : badE φ xs k = if checkEN xs[k].m xs[k].g (φ xs[k]) = 0 then (if inM ((xs.take k).map EntB.m) xs[k].m then 4 else 0) else checkEN xs[k].m xs[k].g (φ xs[k]) := by
  unfold badE
  rw [List.getElem?_eq_getElem h]
theorem badE_1 {φ : EntB → List FileB} {xs : List EntB} {k : Nat} (h : k < xs.length) {n : Int} (e : checkEN xs[k].m xs[k].g (φ xs[k]) = n) (hn : ¬ n = 0) : badE φ xs k = n := by rw [badE_at h, e, if_neg hn]
theorem badE_2 {φ : EntB → List FileB} {xs : List EntB} {k : Nat} (h : k < xs.length) (e : checkEN xs[k].m xs[k].g (φ xs[k]) = 0) (k2 : inM ((xs.take k).map EntB.m) xs[k].m = true) : badE φ xs k = 4 := by rw [badE_at h, if_pos e, if_pos k2]
theorem badE_3 {φ : EntB → List FileB} {xs : List EntB} {k : Nat} (h : k < xs.length) (e : checkEN xs[k].m xs[k].g (φ xs[k]) = 0) (k2 : inM ((xs.take k).map EntB.m) xs[k].m = false) : badE φ xs k = 0 := by rw [badE_at h, if_pos e, k2]; rfl

set_option maxRecDepth 100000 in
set_option maxHeartbeats 4000000 in
theorem centries_any (xs : List EntB) (V : Value) (w : World) (hV : RRow entR w V xs) (hL : LightE xs) (φ : EntB → List FileB) (hF : FiledW w xs φ) :
    Calls Tryz.prog 10 #[V] w (fun e w' => ∃ f : Int × ByteArray, ChkIs φ xs f ∧ FaultOut f w e w') := by
  have hmm := @run_makeMap Tryz.prog
  have HV := Lib.hid hV
  have HF := Lib.hid hF
  have HL := Lib.hid hL.2
  have h50 := hL.1
  obtain ⟨a, c, rfl, hl, -⟩ := hV
  clear hL hF
  have hb0 := ((Below.refl w.heap.size w).alloc (Nat.le_refl _) (.cells #[.int .i64 0, .string ⟨#[]⟩, .int .i64 0] 34)).alloc (by simp) (.map #[] 0)
  have g0 := (GBlk.new w 34 #[.int .i64 0, .string ⟨#[]⟩, .int .i64 0]).alloc (.map #[] 0)
  have s0 : SetAt ((w.alloc (.cells #[.int .i64 0, .string ⟨#[]⟩, .int .i64 0] 34)).alloc (.map #[] 0)) (w.alloc (.cells #[.int .i64 0, .string ⟨#[]⟩, .int .i64 0] 34)).heap.size [] := ⟨World.ownsMap_made _ _ _ _, by simp⟩
  have hs : (w.alloc (.cells #[.int .i64 0, .string ⟨#[]⟩, .int .i64 0] 34)).heap.size = w.heap.size + 1 := by simp
  have hz0 : w.heap.size + 2 ≤ ((w.alloc (.cells #[.int .i64 0, .string ⟨#[]⟩, .int .i64 0] 34)).alloc (.map #[] 0)).heap.size := by simp
  rw [hs] at s0
  have HB0 := Lib.hid hb0
  have HG0 := Lib.hid g0
  have HS0 := Lib.hid s0
  have HZ0 := Lib.hid hz0
  clear hb0 g0 s0 hs hz0
  go_enter Tryz.func10, Tryz.ntmps10
  go_wp2
  go_loopw [10] (fun i wr => ∃ k : Nat, k ≤ xs.length ∧ i = .int .i64 k ∧ GoodTo φ xs k ∧ SetAt wr (w.heap.size + 1) ((xs.take k).map EntB.m) ∧ GBlk wr w.heap.size 34 #[.int .i64 0, .string ⟨#[]⟩, .int .i64 0] ∧ Below w.heap.size w wr ∧ w.heap.size + 2 ≤ wr.heap.size) (fun i _ => xs.length - (intOf i).toNat)
  case atStart => exact ⟨0, Nat.zero_le _, rfl, (fun i h => absurd h (Nat.not_lt_zero _)), HS0.out, HG0.out, HB0.out, HZ0.out⟩
  case round =>
    obtain ⟨k, hk, rfl, hG, hS, hR, hB, hz⟩ := hrel
    have HG := Lib.hid hG
    clear hG
    by_cases hlt : k < xs.length
    · obtain ⟨a', c', e, -, hsp⟩ := HV.out.below hB
      simp only [Value.slice.injEq] at e
      obtain ⟨rfl, -, rfl⟩ := e
      obtain ⟨g, o, rfl, hg, hat⟩ := hsp (ne_of_lt hlt)
      obtain ⟨q1, q2, q3, q4⟩ := ent_at hat k hlt
      obtain ⟨s1, s2, s3, s4⟩ := HL.out _ (List.getElem_mem hlt)
      obtain ⟨f1, f2, f3⟩ := HF.out xs[k] (List.getElem_mem hlt)
      have f4 := HF.out.len (List.getElem_mem hlt)
      have HTk := Lib.hid (show (xs.take (k + 1)).map EntB.m = (xs.take k).map EntB.m ++ [xs[k].m] by rw [List.take_succ_eq_append_getElem hlt, List.map_append]; rfl)
      have hSl : ((xs.take k).map EntB.m).length ≤ 1000 := by rw [List.length_map, List.length_take]; omega
      have HSl := Lib.hid hSl
      have HE1 := Lib.hid (fun n => badE_1 (φ := φ) (n := n) hlt)
      have HE2 := Lib.hid (badE_2 (φ := φ) hlt)
      have HE3 := Lib.hid (badE_3 (φ := φ) hlt)
      have HSt := Lib.hid (fun n (e : badE φ xs k = n) (hn : ¬ n = 0) => show ChkIs φ xs (n, atB xs[k].m) from .inl ⟨k, hlt, HG.out, by rw [e]; exact hn, by rw [e]⟩)
      have HOn := Lib.hid (fun (e : badE φ xs k = 0) => HG.out.snoc e)
      clear hat hsp hSl
      generalize (xs.take k).map EntB.m = S at *
      generalize φ xs[k] = fs at *
      generalize xs[k] = x at *
      obtain ⟨xp, xv, xg, xa, xn, xc⟩ := x
      dsimp only [EntB.m, EntB.f] at q1 q2 q3 q4 s1 s2 s3 s4 f1 f4 HTk HE1 HE2 HE3 HSt
      subst f4
      have HBx := Lib.hid (hB.alloc hB.size (.cells #[.string xp, .string xv, .string xg, .slice xa fs.length xc] 29))
      have HX := Lib.hid (GBlk.new wr 29 #[.string xp, .string xv, .string xg, .slice xa fs.length xc])
      have HRx := Lib.hid (hR.alloc (.cells #[.string xp, .string xv, .string xg, .slice xa fs.length xc] 29))
      have HSx := Lib.hid (hS.below ((Below.refl _ wr).alloc (Nat.le_refl _) (.cells #[.string xp, .string xv, .string xg, .slice xa fs.length xc] 29)))
      have HZx := Lib.hid (show w.heap.size + 2 ≤ wr.heap.size ∧ wr.heap.size < (wr.alloc (.cells #[.string xp, .string xv, .string xg, .slice xa fs.length xc] 29)).heap.size from ⟨hz, by simp⟩)
      have HFx := Lib.hid (f1.below HBx.out)
      have HF3 := Lib.hid f3
      clear hS hR hB hz f1 f3
      go_wp2_with fail
      refine (checkEntry_any xp xv xg _ fs _ (by omega) (by omega) (by unfold maxLen; omega) HFx.out HF3.out (by omega)).mono ?_
      rintro _ w1 ⟨rfl, hb1⟩
      have HB1 := Lib.hid (HBx.out.trans (hb1.mono HBx.out.size))
      have HX1 := Lib.hid (HX.out.below hb1)
      have HR1 := Lib.hid (HRx.out.below hb1)
      have HS1 := Lib.hid (HSx.out.below hb1)
      have HZ1 := Lib.hid (show w.heap.size + 2 ≤ wr.heap.size ∧ wr.heap.size < w1.heap.size from ⟨HZx.out.1, Nat.lt_of_lt_of_le HZx.out.2 hb1.size⟩)
      clear hb1 HBx HX HRx HSx HZx HFx HF3
      by_cases hn : checkEN (xp, xv) xg fs = 0
      · rw [hn]
        have d0 : w1.cell? ⟨wr.heap.size, 0, none⟩ = some (.string xp) := HX1.out.cell 0
        have d1 : w1.cell? ⟨wr.heap.size, 1, none⟩ = some (.string xv) := HX1.out.cell 1
        have HSeen := Lib.hid (fun w' (h : SetAt w' (w.heap.size + 1) S) => seen_any (w.heap.size + 1) S xp xv (by unfold maxLen; omega) (by unfold maxLen; omega) w' h HSl.out)
        cases hin : inM S (xp, xv)
        · have hA : addM S (xp, xv) = S ++ [(xp, xv)] := by simp [addM, hin]
          have HP := Lib.hid (HOn.out (HE3.out hn hin))
          rw [hin, hA] at HSeen
          clear hn hin hA
          go_wp2_with fail
          refine (HSeen.out _ HS1.out).mono ?_
          rintro _ w3 ⟨rfl, hS3, hg3⟩
          have hb3 := HB1.out.grown hg3 (by have := HZ1.out; omega) (fun b e => by cases e; omega)
          have HR3 := Lib.hid (show GBlk w3 w.heap.size 34 #[.int .i64 0, .string ⟨#[]⟩, .int .i64 0] from (hg3.block _ (by have := HZ1.out; omega) (by simp)).trans HR1.out)
          have HZ3 := Lib.hid (Nat.le_trans (Nat.le_trans HZ1.out.1 (Nat.le_of_lt HZ1.out.2)) hg3.size)
          have HS3 := Lib.hid hS3
          have HB3 := Lib.hid hb3
          clear hS3 hb3 hg3 d0 d1
          go_wp2
          go_roundw
          case rel => exact ⟨k + 1, by omega, by go_num, HP.out, by rw [HTk.out]; exact HS3.out, HR3.out, HB3.out, HZ3.out⟩
          case measure => simp [intOf]; omega
        · have HC := Lib.hid (HSt.out 4 (HE2.out hn hin) (by decide))
          rw [hin] at HSeen
          clear hn hin
          go_wp2_with fail
          refine (HSeen.out _ HS1.out).mono ?_
          rintro _ w3 ⟨rfl, hS3, hg3⟩
          have hb3 := HB1.out.grown hg3 (by have := HZ1.out; omega) (fun b e => by cases e; omega)
          have hr3 : GBlk w3 w.heap.size 34 #[.int .i64 0, .string ⟨#[]⟩, .int .i64 0] := (hg3.block _ (by have := HZ1.out; omega) (by simp)).trans HR1.out
          have HR3 := Lib.hid hr3
          have HB3 := Lib.hid hb3
          have e0 := (cells_kept hg3 HZ1.out.2 (by have := HZ1.out; simp; omega) 0).trans d0
          have e1 := (cells_kept hg3 HZ1.out.2 (by have := HZ1.out; simp; omega) 1).trans d1
          clear hS3 hb3 hg3 d0 d1 hr3
          go_wp2_with fail
          refine (at_any xp xv (by omega) (by omega) _).mono ?_
          rintro _ w2 ⟨rfl, hb2⟩
          have hbw := HB3.out.trans (hb2.mono HB3.out.size)
          obtain ⟨⟨r0, r1, r2⟩, r3, r4, r5⟩ := rblk_cells (HR3.out.below hb2)
          go_wp2
          exact bodyPost_ret (v := .agg #[.int .i64 4, .string (atB (xp, xv)), .int .i64 0]) (by simp [results, Tryz.results10, go_sem, r0, r1, r2]) rfl ⟨(4, atB (xp, xv)), HC.out, rfl, below_set3 hbw _ _ _⟩
      · have HC := Lib.hid (HSt.out _ (HE1.out _ rfl hn) hn)
        generalize checkEN (xp, xv) xg fs = n at *
        have hn1 : (n == 0) = false := by simp [hn]
        have hn2 : (n != 0) = true := by simp [hn]
        clear hn
        have d0 : w1.cell? ⟨wr.heap.size, 0, none⟩ = some (.string xp) := HX1.out.cell 0
        have d1 : w1.cell? ⟨wr.heap.size, 1, none⟩ = some (.string xv) := HX1.out.cell 1
        go_wp2_with fail
        refine (at_any xp xv (by omega) (by omega) _).mono ?_
        rintro _ w2 ⟨rfl, hb2⟩
        have hbw := HB1.out.trans (hb2.mono HB1.out.size)
        obtain ⟨⟨r0, r1, r2⟩, r3, r4, r5⟩ := rblk_cells (HR1.out.below hb2)
        go_wp2
        exact bodyPost_ret (v := .agg #[.int .i64 n, .string (atB (xp, xv)), .int .i64 0]) (by simp [results, Tryz.results10, go_sem, r0, r1, r2]) rfl ⟨(n, atB (xp, xv)), HC.out, rfl, below_set3 hbw _ _ _⟩
    · obtain rfl : k = xs.length := by omega
      have hG := HG.out
      obtain ⟨⟨r0, r1, r2⟩, r3, r4, r5⟩ := rblk_cells hR
      by_cases h40 : 40 < xs.length
      · have HC := Lib.hid (show ChkIs φ xs (2, ⟨#[]⟩) from .inr ⟨hG, by rw [if_pos h40]⟩)
        clear hG
        go_wp2
        exact bodyPost_ret (v := .agg #[.int .i64 2, .string ⟨#[]⟩, .int .i64 0]) (by simp [results, Tryz.results10, go_sem, r0, r1, r2]) rfl ⟨(2, ⟨#[]⟩), HC.out, rfl, below_set3 hB _ _ _⟩
      · have HC := Lib.hid (show ChkIs φ xs (0, ⟨#[]⟩) from .inr ⟨hG, by rw [if_neg h40]⟩)
        clear hG
        go_wp2
        exact bodyPost_ret (v := .agg #[.int .i64 0, .string ⟨#[]⟩, .int .i64 0]) (by simp [results, Tryz.results10, go_sem, r0, r1, r2]) rfl ⟨(0, ⟨#[]⟩), HC.out, rfl, below_set3 hB _ _ _⟩
end Go.Proofs.YtcbpkbemnaondaaGreatDoor

/-
  The document's own Check of entries.
-/
set_option linter.unusedVariables false
namespace Go.Proofs.YtcbpkbemnaondaaGreatDoor
open Go.RowKit Go.Shelf

/-- How far the look for an earlier one has come. -/
def InnerAt (xs : List EntB) (xm : ModB) (n0 : Int) (k2 : Nat) (m : Int) : Prop := m = if n0 = 0 then (if inM ((xs.take k2).map EntB.m) xm then 4 else 0) else n0
theorem InnerAt.start (xs : List EntB) (xm : ModB) (n0 : Int) : InnerAt xs xm n0 0 n0 := by
  unfold InnerAt
  by_cases h : n0 = 0
  · rw [if_pos h, h]; rfl
  · rw [if_neg h]
theorem inM_snoc {xs : List EntB} {k : Nat} (h : k < xs.length) (xm : ModB) : inM ((xs.take (k + 1)).map EntB.m) xm = (inM ((xs.take k).map EntB.m) xm || decide (xs[k].m = xm)) := by
  rw [List.take_succ_eq_append_getElem h, List.map_append]
  unfold inM
  rw [List.any_append]; simp
theorem InnerAt.keep {xs : List EntB} {xm : ModB} {n0 : Int} {k : Nat} {m : Int} (h : InnerAt xs xm n0 k m) (hk : k < xs.length) (hm : ¬ m = 0) : InnerAt xs xm n0 (k + 1) m := by
  unfold InnerAt at h ⊢
  by_cases e : n0 = 0
  · rw [if_pos e] at h ⊢
    rw [inM_snoc hk]
    cases h2 : inM ((xs.take k).map EntB.m) xm
    · rw [h2] at h; exact absurd h hm
    · rw [h2] at h; simpa using h
  · rw [if_neg e] at h ⊢; exact h
theorem InnerAt.hit {xs : List EntB} {xm : ModB} {n0 : Int} {k : Nat} (h : InnerAt xs xm n0 k 0) (hk : k < xs.length) (e : xs[k].m = xm) : InnerAt xs xm n0 (k + 1) 4 := by
  unfold InnerAt at h ⊢
  by_cases e0 : n0 = 0
  · rw [if_pos e0, inM_snoc hk, e]; simp
  · rw [if_neg e0] at h; exact absurd h.symm e0
theorem InnerAt.miss {xs : List EntB} {xm : ModB} {n0 : Int} {k : Nat} (h : InnerAt xs xm n0 k 0) (hk : k < xs.length) (e : ¬ xs[k].m = xm) : InnerAt xs xm n0 (k + 1) 0 := by
  unfold InnerAt at h ⊢
  by_cases e0 : n0 = 0
  · rw [if_pos e0] at h
    rw [if_pos e0, inM_snoc hk, decide_eq_false e]
    simpa using h
  · rw [if_neg e0] at h; exact absurd h.symm e0
theorem InnerAt.done {φ : EntB → List FileB} {xs : List EntB} {k : Nat} {m : Int} (hk : k < xs.length) (h : InnerAt xs xs[k].m (checkEN xs[k].m xs[k].g (φ xs[k])) k m) : badE φ xs k = m := by
  rw [badE_at hk]; exact h.symm
theorem checkEN_1 {m : ModB} {g : ByteArray} {fs : List FileB} (h : ¬ knownN m = 0) : checkEN m g fs = knownN m := or3_1 h
theorem checkEN_2 {m : ModB} {g : ByteArray} {fs : List FileB} (h : knownN m = 0) (k : 4000 < g.size) : checkEN m g fs = 2 := by
  unfold checkEN
  have e : unl (decide ((g.size : Int) ≤ 4000)) 2 = 2 := by rw [decide_eq_false (by omega)]; rfl
  rw [e]; exact or3_2 h (by decide)
theorem checkEN_3 {m : ModB} {g : ByteArray} {fs : List FileB} (h : knownN m = 0) (k : ¬ 4000 < g.size) : checkEN m g fs = (checkB badR fs).1 := by
  unfold checkEN
  have e : unl (decide ((g.size : Int) ≤ 4000)) 2 = 0 := by rw [decide_eq_true (by omega)]; rfl
  rw [e, ← check_same]; exact or3_3 h rfl
theorem rknown_n {p v : ByteArray} {n : Int} (h : knownN (p, v) = n) (w : World) (hp : p.size ≤ 20400) (hv : v.size ≤ 20400) :
    Calls Tryz.prog 29 #[.agg #[.string p, .string v]] w fun e w' => e = .returned (.int .i64 n) ∧ Below w.heap.size w w' := by rw [← h]; exact rknown_any p v hp hv w

set_option maxRecDepth 100000 in
set_option maxHeartbeats 4000000 in
theorem rcentries_any (xs : List EntB) (V : Value) (w : World) (hV : RRow entR w V xs) (hL : LightE xs) (φ : EntB → List FileB) (hF : FiledW w xs φ) :
    Calls Tryz.prog 11 #[V] w (fun e w' => ∃ f : Int × ByteArray, ChkIs φ xs f ∧ FaultOut f w e w') := by
  have hfe := fault_E
  have HV := Lib.hid hV
  have HF := Lib.hid hF
  have HL := Lib.hid hL.2
  have h50 := hL.1
  obtain ⟨a, c, rfl, hl, -⟩ := hV
  clear hL hF
  have hb0 := (Below.refl w.heap.size w).alloc (Nat.le_refl _) (.cells #[.int .i64 0, .string ⟨#[]⟩, .int .i64 0] 34)
  have g0 := GBlk.new w 34 #[.int .i64 0, .string ⟨#[]⟩, .int .i64 0]
  have HB0 := Lib.hid hb0
  have HG0 := Lib.hid g0
  clear hb0 g0
  go_enter Tryz.func11, Tryz.ntmps11
  go_wp2
  go_loopw [3] (fun i wr => ∃ k : Nat, k ≤ xs.length ∧ i = .int .i64 k ∧ GoodTo φ xs k ∧ GBlk wr w.heap.size 34 #[.int .i64 0, .string ⟨#[]⟩, .int .i64 0] ∧ Below w.heap.size w wr) (fun i _ => xs.length - (intOf i).toNat)
  case atStart => exact ⟨0, Nat.zero_le _, rfl, (fun i h => absurd h (Nat.not_lt_zero _)), HG0.out, HB0.out⟩
  case round =>
    obtain ⟨k, hk, rfl, hG, hR, hB⟩ := hrel
    have HG := Lib.hid hG
    clear hG
    by_cases hlt : k < xs.length
    · obtain ⟨a', c', e, -, hsp⟩ := HV.out
      simp only [Value.slice.injEq] at e
      obtain ⟨rfl, -, rfl⟩ := e
      obtain ⟨g, o, rfl, hg, hat⟩ := hsp (ne_of_lt hlt)
      have HAt := Lib.hid hat
      have HQ := Lib.hid (show ∀ w', Below w.heap.size w w' → w'.cell? ⟨g, o + k * 4, none⟩ = some (.string xs[k].p) ∧ w'.cell? ⟨g, o + k * 4 + 1, none⟩ = some (.string xs[k].v) ∧ w'.cell? ⟨g, o + k * 4 + 2, none⟩ = some (.string xs[k].g) ∧ w'.cell? ⟨g, o + k * 4 + 3, none⟩ = some (.slice xs[k].a xs[k].n xs[k].c) from fun w' h => ⟨(h.cell (p := ⟨g, _, none⟩) hg).trans (ent_at hat k hlt).1, (h.cell (p := ⟨g, _, none⟩) hg).trans (ent_at hat k hlt).2.1, (h.cell (p := ⟨g, _, none⟩) hg).trans (ent_at hat k hlt).2.2.1, (h.cell (p := ⟨g, _, none⟩) hg).trans (ent_at hat k hlt).2.2.2⟩)
      have HQj := Lib.hid (show ∀ j (hj : j < xs.length), ∀ w', Below w.heap.size w w' → w'.cell? ⟨g, o + j * 4, none⟩ = some (.string xs[j].p) ∧ w'.cell? ⟨g, o + j * 4 + 1, none⟩ = some (.string xs[j].v) from fun j hj w' h => ⟨(h.cell (p := ⟨g, _, none⟩) hg).trans (ent_at hat j hj).1, (h.cell (p := ⟨g, _, none⟩) hg).trans (ent_at hat j hj).2.1⟩)
      obtain ⟨s1, s2, s3, s4⟩ := HL.out _ (List.getElem_mem hlt)
      obtain ⟨f1, f2, f3⟩ := HF.out xs[k] (List.getElem_mem hlt)
      have f4 := HF.out.len (List.getElem_mem hlt)
      have HDn := Lib.hid (fun m => InnerAt.done (φ := φ) (m := m) hlt)
      have HSt := Lib.hid (fun n (e : badE φ xs k = n) (hn : ¬ n = 0) => show ChkIs φ xs (n, atB xs[k].m) from .inl ⟨k, hlt, HG.out, by rw [e]; exact hn, by rw [e]⟩)
      have HOn := Lib.hid (fun (e : badE φ xs k = 0) => HG.out.snoc e)
      have HIs := Lib.hid (InnerAt.start xs xs[k].m (checkEN xs[k].m xs[k].g (φ xs[k])))
      have HIk := Lib.hid (fun j m => @InnerAt.keep xs xs[k].m (checkEN xs[k].m xs[k].g (φ xs[k])) j m)
      have HIh := Lib.hid (fun j => @InnerAt.hit xs xs[k].m (checkEN xs[k].m xs[k].g (φ xs[k])) j)
      have HIm := Lib.hid (fun j => @InnerAt.miss xs xs[k].m (checkEN xs[k].m xs[k].g (φ xs[k])) j)
      have hkx : (k : Int) < (xs.length : Int) := by omega
      clear hat hsp
      generalize hx : xs[k] = x at *
      clear hx
      generalize φ x = fs at *
      obtain ⟨xp, xv, xg, xa, xn, xc⟩ := x
      dsimp only [EntB.m, EntB.f] at s1 s2 s3 s4 f1 f4 HDn HSt HIs HIk HIh HIm HQ
      subst f4
      obtain ⟨q1, q2, q3, q4⟩ := HQ.out _ hB
      have HR := Lib.hid hR
      have HB := Lib.hid hB
      have HF1 := Lib.hid f1
      have HF3 := Lib.hid f3
      clear hR f1 f3
      by_cases hn : knownN (xp, xv) = 0
      · by_cases hg4 : 4000 < xg.size
        · have HE := Lib.hid (checkEN_2 (fs := fs) hn hg4)
          rw [HE.out] at HDn HIs HIk HIh HIm
          have HK := Lib.hid hn
          clear hn
          go_wp2_with fail
          refine (rknown_n HK.out _ (by omega) (by omega)).mono ?_
          rintro _ w1 ⟨rfl, hb1⟩
          have HB1 := Lib.hid (HB.out.trans (hb1.mono HB.out.size))
          have HR1 := Lib.hid (HR.out.below hb1)
          have q3' := (HQ.out _ HB1.out).2.2.1
          clear hb1 hB q1 q2 q3 q4 HB HR
          go_wp2
          (try rw [show decide ((4000 : Int) < (xg.size : Int)) = true from decide_eq_true (by omega)])
          go_loopw [4, 5] (fun s4 s5 wi => ∃ (j q : Nat) (m : Int), j ≤ k ∧ s5 = .int .i64 j ∧ s4 = .int .i64 m ∧ InnerAt xs (xp, xv) 2 j m ∧ wi = w1.drewN q) (fun _ s5 _ => k - (intOf s5).toNat)
          case atStart => exact ⟨0, 0, _, Nat.zero_le _, rfl, rfl, HIs.out, rfl⟩
          case round =>
            obtain ⟨j, q, m, hjk, rfl, rfl, hin, rfl⟩ := hrel
            by_cases hjl : j < k
            · have hjx : j < xs.length := by omega
              have HJ := Lib.hid (HIk.out j m hin hjx)
              have HJh := Lib.hid (HIh.out j)
              have HJm := Lib.hid (HIm.out j)
              have HI := Lib.hid hin
              have hjxi : (j : Int) < (xs.length : Int) := by omega
              have hji : (j : Int) < (k : Int) := by omega
              clear hin
              by_cases hm : m = 0
              · subst hm
                obtain ⟨y1, y2⟩ := HQj.out j hjx _ (below_drewN HB1.out q)
                obtain ⟨z1, z2, -, -⟩ := HQ.out _ (below_drewN HB1.out q)
                have E0 := Lib.hid (@mod_ne1 xs[j] xp xv)
                have E1 := Lib.hid (@mod_ne2 xs[j] xp xv)
                have E2 := Lib.hid (@mod_eq xs[j] xp xv)
                have HM := Lib.hid (HJm.out HI.out hjx)
                have HH := Lib.hid (HJh.out HI.out hjx)
                generalize xs[j] = y at *
                obtain ⟨yp, yv, yg, ya, yn, yc⟩ := y
                dsimp only at y1 y2 E0 E1 E2
                have K0 := Lib.hid (show (w1.drewN q).drew.cell? ⟨g, o + j * 4, none⟩ = some (.string yp) ∧ (w1.drewN q).drew.cell? ⟨g, o + j * 4 + 1, none⟩ = some (.string yv) ∧ (w1.drewN q).drew.cell? ⟨g, o + k * 4, none⟩ = some (.string xp) ∧ (w1.drewN q).drew.cell? ⟨g, o + k * 4 + 1, none⟩ = some (.string xv) from ⟨y1, y2, z1, z2⟩)
                cases hp : (yp.toList == xp.toList)
                · have HY := Lib.hid (HM.out (E0.out hp))
                  clear E0 E1 E2 HM HH
                  go_wp2
                  go_region_held3 (fun w' => w'.cell? ⟨g, o + j * 4, none⟩ = some (.string yp) ∧ w'.cell? ⟨g, o + j * 4 + 1, none⟩ = some (.string yv) ∧ w'.cell? ⟨g, o + k * 4, none⟩ = some (.string xp) ∧ w'.cell? ⟨g, o + k * 4 + 1, none⟩ = some (.string xv)) (first | with_reducible exact K0.out | go_keep) (fail)
                  go_wp2
                  go_roundw
                  case rel => exact ⟨j + 1, _, 0, by omega, by go_num, rfl, HY.out, rfl⟩
                  case measure => simp [intOf]; omega
                · cases hv : (yv.toList == xv.toList)
                  · have HY := Lib.hid (HM.out (E1.out hv))
                    clear E0 E1 E2 HM HH
                    go_wp2
                    go_region_held3 (fun w' => w'.cell? ⟨g, o + j * 4, none⟩ = some (.string yp) ∧ w'.cell? ⟨g, o + j * 4 + 1, none⟩ = some (.string yv) ∧ w'.cell? ⟨g, o + k * 4, none⟩ = some (.string xp) ∧ w'.cell? ⟨g, o + k * 4 + 1, none⟩ = some (.string xv)) (first | with_reducible exact K0.out | go_keep) (fail)
                    go_wp2
                    go_roundw
                    case rel => exact ⟨j + 1, _, 0, by omega, by go_num, rfl, HY.out, rfl⟩
                    case measure => simp [intOf]; omega
                  · have HY := Lib.hid (HH.out (E2.out hp hv))
                    clear E0 E1 E2 HM HH
                    go_wp2
                    go_region_held3 (fun w' => w'.cell? ⟨g, o + j * 4, none⟩ = some (.string yp) ∧ w'.cell? ⟨g, o + j * 4 + 1, none⟩ = some (.string yv) ∧ w'.cell? ⟨g, o + k * 4, none⟩ = some (.string xp) ∧ w'.cell? ⟨g, o + k * 4 + 1, none⟩ = some (.string xv)) (first | with_reducible exact K0.out | go_keep) (fail)
                    go_wp2
                    go_roundw
                    case rel => exact ⟨j + 1, _, 4, by omega, by go_num, rfl, HY.out, rfl⟩
                    case measure => simp [intOf]; omega
              · have HY := Lib.hid (HJ.out hm)
                have hm1 : (m == 0) = false := by simp [hm]
                clear hm
                go_wp2
                go_quiet (fail)
                go_wp2
                go_roundw
                case rel => exact ⟨j + 1, _, m, by omega, by go_num, rfl, HY.out, rfl⟩
                case measure => simp [intOf]; omega
            · obtain rfl : j = k := by omega
              have HI := Lib.hid hin
              clear hin
              by_cases hm : m = 0
              · subst hm
                have HP := Lib.hid (HOn.out (HDn.out 0 HI.out))
                go_wp2
                go_roundw
                case rel => exact ⟨j + 1, by omega, by go_num, HP.out, HR1.out.drewN q, below_drewN HB1.out q⟩
                case measure => simp [intOf]; omega
              · have HC := Lib.hid (HSt.out m (HDn.out m HI.out) hm)
                have hm1 : (m == 0) = false := by simp [hm]
                have hm2 : (m != 0) = true := by simp [hm]
                obtain ⟨z1, z2, -, -⟩ := HQ.out _ (below_drewN HB1.out q)
                clear hm
                go_wp2_with fail
                refine (rat_any xp xv (by omega) (by omega) _).mono ?_
                rintro _ w2 ⟨rfl, hb2⟩
                have hbw := HB1.out.trans ((below_drewN' hb2).mono HB1.out.size)
                obtain ⟨⟨r0, r1, r2⟩, r3, r4, r5⟩ := rblk_cells ((HR1.out.drewN q).below hb2)
                go_wp2
                exact bodyPost_ret (v := .agg #[.int .i64 m, .string (atB (xp, xv)), .int .i64 0]) (by simp [results, Tryz.results11, go_sem, r0, r1, r2]) rfl ⟨(m, atB (xp, xv)), HC.out, rfl, below_set3 hbw _ _ _⟩
        · have HE := Lib.hid (checkEN_3 (fs := fs) hn hg4)
          rw [HE.out] at HDn HIs HIk HIh HIm
          have HK := Lib.hid hn
          clear hn
          go_wp2_with fail
          refine (rknown_n HK.out _ (by omega) (by omega)).mono ?_
          rintro _ w0 ⟨rfl, hb1⟩
          have hB' := HB.out.trans (hb1.mono HB.out.size)
          obtain ⟨q1, q2, q3, q4⟩ := HQ.out _ hB'
          have HB' := Lib.hid hB'
          have HR' := Lib.hid (HR.out.below hb1)
          clear hb1 hB' HB HR
          go_wp2_with fail
          refine (rcheck_any fs _ _ (HF1.out.below HB'.out) HF3.out (by omega)).mono ?_
          rintro _ w1 ⟨rfl, hb1⟩
          have HB := HB'
          have HR := HR'
          clear HB' HR'
          have HB1 := Lib.hid (HB.out.trans (hb1.mono HB.out.size))
          have HR1 := Lib.hid (HR.out.below hb1)
          have q3' := (HQ.out _ HB1.out).2.2.1
          clear hb1 hB q1 q2 q3 q4 HB HR
          go_wp2
          (try rw [show decide ((4000 : Int) < (xg.size : Int)) = false from decide_eq_false (by omega)])
          go_loopw [4, 5] (fun s4 s5 wi => ∃ (j q : Nat) (m : Int), j ≤ k ∧ s5 = .int .i64 j ∧ s4 = .int .i64 m ∧ InnerAt xs (xp, xv) (checkB badR fs).1 j m ∧ wi = w1.drewN q) (fun _ s5 _ => k - (intOf s5).toNat)
          case atStart => exact ⟨0, 0, _, Nat.zero_le _, rfl, rfl, HIs.out, rfl⟩
          case round =>
            obtain ⟨j, q, m, hjk, rfl, rfl, hin, rfl⟩ := hrel
            by_cases hjl : j < k
            · have hjx : j < xs.length := by omega
              have HJ := Lib.hid (HIk.out j m hin hjx)
              have HJh := Lib.hid (HIh.out j)
              have HJm := Lib.hid (HIm.out j)
              have HI := Lib.hid hin
              have hjxi : (j : Int) < (xs.length : Int) := by omega
              have hji : (j : Int) < (k : Int) := by omega
              clear hin
              by_cases hm : m = 0
              · subst hm
                obtain ⟨y1, y2⟩ := HQj.out j hjx _ (below_drewN HB1.out q)
                obtain ⟨z1, z2, -, -⟩ := HQ.out _ (below_drewN HB1.out q)
                have E0 := Lib.hid (@mod_ne1 xs[j] xp xv)
                have E1 := Lib.hid (@mod_ne2 xs[j] xp xv)
                have E2 := Lib.hid (@mod_eq xs[j] xp xv)
                have HM := Lib.hid (HJm.out HI.out hjx)
                have HH := Lib.hid (HJh.out HI.out hjx)
                generalize xs[j] = y at *
                obtain ⟨yp, yv, yg, ya, yn, yc⟩ := y
                dsimp only at y1 y2 E0 E1 E2
                have K0 := Lib.hid (show (w1.drewN q).drew.cell? ⟨g, o + j * 4, none⟩ = some (.string yp) ∧ (w1.drewN q).drew.cell? ⟨g, o + j * 4 + 1, none⟩ = some (.string yv) ∧ (w1.drewN q).drew.cell? ⟨g, o + k * 4, none⟩ = some (.string xp) ∧ (w1.drewN q).drew.cell? ⟨g, o + k * 4 + 1, none⟩ = some (.string xv) from ⟨y1, y2, z1, z2⟩)
                cases hp : (yp.toList == xp.toList)
                · have HY := Lib.hid (HM.out (E0.out hp))
                  clear E0 E1 E2 HM HH
                  go_wp2
                  go_region_held3 (fun w' => w'.cell? ⟨g, o + j * 4, none⟩ = some (.string yp) ∧ w'.cell? ⟨g, o + j * 4 + 1, none⟩ = some (.string yv) ∧ w'.cell? ⟨g, o + k * 4, none⟩ = some (.string xp) ∧ w'.cell? ⟨g, o + k * 4 + 1, none⟩ = some (.string xv)) (first | with_reducible exact K0.out | go_keep) (fail)
                  go_wp2
                  go_roundw
                  case rel => exact ⟨j + 1, _, 0, by omega, by go_num, rfl, HY.out, rfl⟩
                  case measure => simp [intOf]; omega
                · cases hv : (yv.toList == xv.toList)
                  · have HY := Lib.hid (HM.out (E1.out hv))
                    clear E0 E1 E2 HM HH
                    go_wp2
                    go_region_held3 (fun w' => w'.cell? ⟨g, o + j * 4, none⟩ = some (.string yp) ∧ w'.cell? ⟨g, o + j * 4 + 1, none⟩ = some (.string yv) ∧ w'.cell? ⟨g, o + k * 4, none⟩ = some (.string xp) ∧ w'.cell? ⟨g, o + k * 4 + 1, none⟩ = some (.string xv)) (first | with_reducible exact K0.out | go_keep) (fail)
                    go_wp2
                    go_roundw
                    case rel => exact ⟨j + 1, _, 0, by omega, by go_num, rfl, HY.out, rfl⟩
                    case measure => simp [intOf]; omega
                  · have HY := Lib.hid (HH.out (E2.out hp hv))
                    clear E0 E1 E2 HM HH
                    go_wp2
                    go_region_held3 (fun w' => w'.cell? ⟨g, o + j * 4, none⟩ = some (.string yp) ∧ w'.cell? ⟨g, o + j * 4 + 1, none⟩ = some (.string yv) ∧ w'.cell? ⟨g, o + k * 4, none⟩ = some (.string xp) ∧ w'.cell? ⟨g, o + k * 4 + 1, none⟩ = some (.string xv)) (first | with_reducible exact K0.out | go_keep) (fail)
                    go_wp2
                    go_roundw
                    case rel => exact ⟨j + 1, _, 4, by omega, by go_num, rfl, HY.out, rfl⟩
                    case measure => simp [intOf]; omega
              · have HY := Lib.hid (HJ.out hm)
                have hm1 : (m == 0) = false := by simp [hm]
                clear hm
                go_wp2
                go_quiet (fail)
                go_wp2
                go_roundw
                case rel => exact ⟨j + 1, _, m, by omega, by go_num, rfl, HY.out, rfl⟩
                case measure => simp [intOf]; omega
            · obtain rfl : j = k := by omega
              have HI := Lib.hid hin
              clear hin
              by_cases hm : m = 0
              · subst hm
                have HP := Lib.hid (HOn.out (HDn.out 0 HI.out))
                go_wp2
                go_roundw
                case rel => exact ⟨j + 1, by omega, by go_num, HP.out, HR1.out.drewN q, below_drewN HB1.out q⟩
                case measure => simp [intOf]; omega
              · have HC := Lib.hid (HSt.out m (HDn.out m HI.out) hm)
                have hm1 : (m == 0) = false := by simp [hm]
                have hm2 : (m != 0) = true := by simp [hm]
                obtain ⟨z1, z2, -, -⟩ := HQ.out _ (below_drewN HB1.out q)
                clear hm
                go_wp2_with fail
                refine (rat_any xp xv (by omega) (by omega) _).mono ?_
                rintro _ w2 ⟨rfl, hb2⟩
                have hbw := HB1.out.trans ((below_drewN' hb2).mono HB1.out.size)
                obtain ⟨⟨r0, r1, r2⟩, r3, r4, r5⟩ := rblk_cells ((HR1.out.drewN q).below hb2)
                go_wp2
                exact bodyPost_ret (v := .agg #[.int .i64 m, .string (atB (xp, xv)), .int .i64 0]) (by simp [results, Tryz.results11, go_sem, r0, r1, r2]) rfl ⟨(m, atB (xp, xv)), HC.out, rfl, below_set3 hbw _ _ _⟩
      · have HE := Lib.hid (checkEN_1 (g := xg) (fs := fs) hn)
        rw [HE.out] at HDn HIs HIk HIh HIm
        clear HE
        obtain ⟨n, hN⟩ : ∃ n, knownN (xp, xv) = n := ⟨_, rfl⟩
        rw [hN] at hn HDn HIs HIk HIh HIm
        have hn1 : (n == 0) = false := by simp [hn]
        have HK := Lib.hid hN
        clear hN
        go_wp2_with fail
        refine (rknown_n HK.out _ (by omega) (by omega)).mono ?_
        rintro _ w1 ⟨rfl, hb1⟩
        have HB1 := Lib.hid (HB.out.trans (hb1.mono HB.out.size))
        have HR1 := Lib.hid (HR.out.below hb1)
        have q3' := (HQ.out _ HB1.out).2.2.1
        clear hb1 hB q1 q2 q3 q4 HB HR
        go_wp2
        skip
        go_loopw [4, 5] (fun s4 s5 wi => ∃ (j q : Nat) (m : Int), j ≤ k ∧ s5 = .int .i64 j ∧ s4 = .int .i64 m ∧ InnerAt xs (xp, xv) n j m ∧ wi = w1.drewN q) (fun _ s5 _ => k - (intOf s5).toNat)
        case atStart => exact ⟨0, 0, _, Nat.zero_le _, rfl, rfl, HIs.out, rfl⟩
        case round =>
          obtain ⟨j, q, m, hjk, rfl, rfl, hin, rfl⟩ := hrel
          by_cases hjl : j < k
          · have hjx : j < xs.length := by omega
            have HJ := Lib.hid (HIk.out j m hin hjx)
            have HJh := Lib.hid (HIh.out j)
            have HJm := Lib.hid (HIm.out j)
            have HI := Lib.hid hin
            have hjxi : (j : Int) < (xs.length : Int) := by omega
            have hji : (j : Int) < (k : Int) := by omega
            clear hin
            by_cases hm : m = 0
            · subst hm
              obtain ⟨y1, y2⟩ := HQj.out j hjx _ (below_drewN HB1.out q)
              obtain ⟨z1, z2, -, -⟩ := HQ.out _ (below_drewN HB1.out q)
              have E0 := Lib.hid (@mod_ne1 xs[j] xp xv)
              have E1 := Lib.hid (@mod_ne2 xs[j] xp xv)
              have E2 := Lib.hid (@mod_eq xs[j] xp xv)
              have HM := Lib.hid (HJm.out HI.out hjx)
              have HH := Lib.hid (HJh.out HI.out hjx)
              generalize xs[j] = y at *
              obtain ⟨yp, yv, yg, ya, yn, yc⟩ := y
              dsimp only at y1 y2 E0 E1 E2
              have K0 := Lib.hid (show (w1.drewN q).drew.cell? ⟨g, o + j * 4, none⟩ = some (.string yp) ∧ (w1.drewN q).drew.cell? ⟨g, o + j * 4 + 1, none⟩ = some (.string yv) ∧ (w1.drewN q).drew.cell? ⟨g, o + k * 4, none⟩ = some (.string xp) ∧ (w1.drewN q).drew.cell? ⟨g, o + k * 4 + 1, none⟩ = some (.string xv) from ⟨y1, y2, z1, z2⟩)
              cases hp : (yp.toList == xp.toList)
              · have HY := Lib.hid (HM.out (E0.out hp))
                clear E0 E1 E2 HM HH
                go_wp2
                go_region_held3 (fun w' => w'.cell? ⟨g, o + j * 4, none⟩ = some (.string yp) ∧ w'.cell? ⟨g, o + j * 4 + 1, none⟩ = some (.string yv) ∧ w'.cell? ⟨g, o + k * 4, none⟩ = some (.string xp) ∧ w'.cell? ⟨g, o + k * 4 + 1, none⟩ = some (.string xv)) (first | with_reducible exact K0.out | go_keep) (fail)
                go_wp2
                go_roundw
                case rel => exact ⟨j + 1, _, 0, by omega, by go_num, rfl, HY.out, rfl⟩
                case measure => simp [intOf]; omega
              · cases hv : (yv.toList == xv.toList)
                · have HY := Lib.hid (HM.out (E1.out hv))
                  clear E0 E1 E2 HM HH
                  go_wp2
                  go_region_held3 (fun w' => w'.cell? ⟨g, o + j * 4, none⟩ = some (.string yp) ∧ w'.cell? ⟨g, o + j * 4 + 1, none⟩ = some (.string yv) ∧ w'.cell? ⟨g, o + k * 4, none⟩ = some (.string xp) ∧ w'.cell? ⟨g, o + k * 4 + 1, none⟩ = some (.string xv)) (first | with_reducible exact K0.out | go_keep) (fail)
                  go_wp2
                  go_roundw
                  case rel => exact ⟨j + 1, _, 0, by omega, by go_num, rfl, HY.out, rfl⟩
                  case measure => simp [intOf]; omega
                · have HY := Lib.hid (HH.out (E2.out hp hv))
                  clear E0 E1 E2 HM HH
                  go_wp2
                  go_region_held3 (fun w' => w'.cell? ⟨g, o + j * 4, none⟩ = some (.string yp) ∧ w'.cell? ⟨g, o + j * 4 + 1, none⟩ = some (.string yv) ∧ w'.cell? ⟨g, o + k * 4, none⟩ = some (.string xp) ∧ w'.cell? ⟨g, o + k * 4 + 1, none⟩ = some (.string xv)) (first | with_reducible exact K0.out | go_keep) (fail)
                  go_wp2
                  go_roundw
                  case rel => exact ⟨j + 1, _, 4, by omega, by go_num, rfl, HY.out, rfl⟩
                  case measure => simp [intOf]; omega
            · have HY := Lib.hid (HJ.out hm)
              have hm1 : (m == 0) = false := by simp [hm]
              clear hm
              go_wp2
              go_quiet (fail)
              go_wp2
              go_roundw
              case rel => exact ⟨j + 1, _, m, by omega, by go_num, rfl, HY.out, rfl⟩
              case measure => simp [intOf]; omega
          · obtain rfl : j = k := by omega
            have HI := Lib.hid hin
            clear hin
            by_cases hm : m = 0
            · subst hm
              have HP := Lib.hid (HOn.out (HDn.out 0 HI.out))
              go_wp2
              go_roundw
              case rel => exact ⟨j + 1, by omega, by go_num, HP.out, HR1.out.drewN q, below_drewN HB1.out q⟩
              case measure => simp [intOf]; omega
            · have HC := Lib.hid (HSt.out m (HDn.out m HI.out) hm)
              have hm1 : (m == 0) = false := by simp [hm]
              have hm2 : (m != 0) = true := by simp [hm]
              obtain ⟨z1, z2, -, -⟩ := HQ.out _ (below_drewN HB1.out q)
              clear hm
              go_wp2_with fail
              refine (rat_any xp xv (by omega) (by omega) _).mono ?_
              rintro _ w2 ⟨rfl, hb2⟩
              have hbw := HB1.out.trans ((below_drewN' hb2).mono HB1.out.size)
              obtain ⟨⟨r0, r1, r2⟩, r3, r4, r5⟩ := rblk_cells ((HR1.out.drewN q).below hb2)
              go_wp2
              exact bodyPost_ret (v := .agg #[.int .i64 m, .string (atB (xp, xv)), .int .i64 0]) (by simp [results, Tryz.results11, go_sem, r0, r1, r2]) rfl ⟨(m, atB (xp, xv)), HC.out, rfl, below_set3 hbw _ _ _⟩
    · obtain rfl : k = xs.length := by omega
      have hG := HG.out
      obtain ⟨⟨r0, r1, r2⟩, r3, r4, r5⟩ := rblk_cells hR
      by_cases h40 : 40 < xs.length
      · have HC := Lib.hid (show ChkIs φ xs (2, ⟨#[]⟩) from .inr ⟨hG, by rw [if_pos h40]⟩)
        clear hG
        go_wp2
        exact bodyPost_ret (v := .agg #[.int .i64 2, .string ⟨#[]⟩, .int .i64 0]) (by simp [results, Tryz.results11, go_sem, r0, r1, r2]) rfl ⟨(2, ⟨#[]⟩), HC.out, rfl, below_set3 hB _ _ _⟩
      · have HC := Lib.hid (show ChkIs φ xs (0, ⟨#[]⟩) from .inr ⟨hG, by rw [if_neg h40]⟩)
        clear hG
        go_wp2
        exact bodyPost_ret (v := .agg #[.int .i64 0, .string ⟨#[]⟩, .int .i64 0]) (by simp [results, Tryz.results11, go_sem, r0, r1, r2]) rfl ⟨(0, ⟨#[]⟩), HC.out, rfl, below_set3 hB _ _ _⟩
end Go.Proofs.YtcbpkbemnaondaaGreatDoor

/-
  The laws' walks: CacheChecks.
-/
set_option linter.unusedVariables false
namespace Go.Proofs.YtcbpkbemnaondaaGreatDoor
open Go.RowKit Go.Shelf

/-- What a search comes to. -/
def Found (xs : List EntB) (φ : EntB → List FileB) (m : ModB) (b : Bool) (p' v' g' : ByteArray) (fs : List FileB) : Prop :=
  (b = true ∧ ∃ k, ∃ h : k < xs.length, NotYet xs m k ∧ xs[k].m = m ∧ p' = xs[k].p ∧ v' = xs[k].v ∧ g' = xs[k].g ∧ fs = φ xs[k]) ∨ (b = false ∧ NotYet xs m xs.length ∧ p' = ⟨#[]⟩ ∧ v' = ⟨#[]⟩ ∧ g' = ⟨#[]⟩ ∧ fs = [])
theorem Found.same {xs : List EntB} {φ : EntB → List FileB} {m : ModB} {b c : Bool} {p v g q u h : ByteArray} {fs gs : List FileB} (H : Found xs φ m b p v g fs) (K : Found xs φ m c q u h gs) : b = c ∧ p = q ∧ v = u ∧ g = h ∧ fs = gs := by
  rcases H with ⟨rfl, i, hi, n1, e1, rfl, rfl, rfl, rfl⟩ | ⟨rfl, n1, rfl, rfl, rfl, rfl⟩ <;> rcases K with ⟨rfl, j, hj, n2, e2, rfl, rfl, rfl, rfl⟩ | ⟨rfl, n2, rfl, rfl, rfl, rfl⟩
  · have : i = j := by
      rcases Nat.lt_trichotomy i j with h | h | h
      · exact absurd e1 (n2 i hi h)
      · exact h
      · exact absurd e2 (n1 j hj h)
    subst this
    exact ⟨rfl, rfl, rfl, rfl, rfl⟩
  · exact absurd e1 (n2 i hi hi)
  · exact absurd e2 (n1 j hj hj)
  · exact ⟨rfl, rfl, rfl, rfl, rfl⟩

theorem Found.len {xs : List EntB} {φ : EntB → List FileB} {m : ModB} {b : Bool} {p v g : ByteArray} {fs : List FileB} (H : Found xs φ m b p v g fs) {w : World} (hF : FiledW w xs φ) (hL : LightE xs) : fs.length ≤ 20000 := by
  rcases H with ⟨_, i, hi, _, _, _, _, _, rfl⟩ | ⟨_, _, _, _, _, rfl⟩
  · have := hF.len (List.getElem_mem hi)
    have := (hL.2 _ (List.getElem_mem hi)).2.2.2
    omega
  · simp
theorem likeP_of {xs ys : List EntB} {φ : EntB → List FileB} {w : World} (h : All2 (LikeO φ w) ys (sortE xs)) (hF : FiledW w xs φ) (hL : LightE xs) : All2 (LikeP w) ys (sortE xs) :=
  All2.of_get h.len fun i h1 h2 => by
    obtain ⟨k1, k2, k3, k4⟩ := h.get i h1 h2
    have hm : (sortE xs)[i] ∈ xs := (sortE_perm xs).mem_iff.1 (List.getElem_mem h2)
    have := hF.len hm
    have := (hL.2 _ hm).2.2.2
    exact ⟨k1, k2, k3, _, k4.row, (hF _ hm).1, by omega⟩
theorem all_like_below {xs ys : List EntB} {w w' : World} (h : All2 (LikeP w) ys xs) (hb : Below w.heap.size w w') : All2 (LikeP w') ys xs := h.mono fun _ _ k => k.below hb

set_option maxRecDepth 100000 in
set_option maxHeartbeats 4000000 in
theorem checks_walk (xs : List EntB) (V : Value) (mp mv : ByteArray) (w : World) (hV : RRow entR w V xs) (hm : xs.length ≤ maxLen) (φ : EntB → List FileB) (hF : FiledW w xs φ) :
    Calls Tryz.prog 3 #[V, .agg #[.string mp, .string mv]] w fun e w' => e = .returned (.bool true) ∧ Below w.heap.size w w' := by
  have hb0 := (Below.refl w.heap.size w).alloc (Nat.le_refl _) (.cells #[.string mp, .string mv] 24)
  have g0 := GBlk.new w 24 #[.string mp, .string mv]
  have HV := Lib.hid hV
  have HF := Lib.hid hF
  have HH := Lib.hid (heavy_any xs V _ (hV.below hb0) hm (hF.below hb0).filed)
  have HB0 := Lib.hid hb0
  have HG0 := Lib.hid g0
  obtain ⟨a, c, rfl, hl, -⟩ := hV
  clear hF hb0 g0
  go_enter Tryz.func3, Tryz.ntmps3
  go_wp2_with fail
  refine HH.out.mono ?_
  rintro _ w1 ⟨b, n1, rfl, hLt, rfl⟩
  have hb1 : Below w.heap.size w ((w.alloc (.cells #[.string mp, .string mv] 24)).drewN n1) := below_drewN HB0.out n1
  have d0 : ((w.alloc (.cells #[.string mp, .string mv] 24)).drewN n1).cell? ⟨w.heap.size, 0, none⟩ = some (.string mp) := HG0.out.cell 0
  have d1 : ((w.alloc (.cells #[.string mp, .string mv] 24)).drewN n1).cell? ⟨w.heap.size, 1, none⟩ = some (.string mv) := HG0.out.cell 1
  have hg1 : GBlk ((w.alloc (.cells #[.string mp, .string mv] 24)).drewN n1) w.heap.size 24 #[.string mp, .string mv] := HG0.out.drewN n1
  clear HH
  generalize (w.alloc (.cells #[.string mp, .string mv] 24)).drewN n1 = W at *
  cases b
  case true =>
    go_wp2_with fail
    refine (shown_any _).mono ?_
    rintro _ w2 ⟨rfl, hb2⟩
    go_wp2
    go_ret
    exact ⟨rfl, hb1.trans (hb2.mono hb1.size)⟩
  have hL := hLt rfl
  clear hLt
  by_cases hp : mp.size ≤ 1024
  case neg =>
    go_wp2_with fail
    refine (shown_any _).mono ?_
    rintro _ w2 ⟨rfl, hb2⟩
    go_wp2
    go_ret
    exact ⟨rfl, hb1.trans (hb2.mono hb1.size)⟩
  by_cases hv : mv.size ≤ 1024
  case neg =>
    go_wp2_with fail
    refine (shown_any _).mono ?_
    rintro _ w2 ⟨rfl, hb2⟩
    go_wp2
    go_ret
    exact ⟨rfl, hb1.trans (hb2.mono hb1.size)⟩
  go_wp2_with fail
  refine (shown_any _).mono ?_
  rintro _ w2 ⟨rfl, hb2⟩
  have hB2 := hb1.trans (hb2.mono hb1.size)
  have hg2 := hg1.below hb2
  have HB2 := Lib.hid hB2
  have HG2 := Lib.hid hg2
  have HL := Lib.hid hL
  clear hb1 hb2 hL hB2 hg1 hg2 d0 d1 HB0 HG0
  have e0 : w2.cell? ⟨w.heap.size, 0, none⟩ = some (.string mp) := HG2.out.cell 0
  have e1 : w2.cell? ⟨w.heap.size, 1, none⟩ = some (.string mv) := HG2.out.cell 1
  go_wp2_with fail
  refine (findW_any xs _ mp mv _ (HV.out.below HB2.out) HL.out φ (HF.out.below HB2.out)).mono ?_
  rintro _ w3 ⟨b1, p1, v1, g1, A1, c1, fs1, rfl, hr1, hb3, hf1⟩
  have HB3 := Lib.hid ((HB2.out.trans (hb3.mono HB2.out.size)).alloc (HB2.out.trans (hb3.mono HB2.out.size)).size (.cells #[.string p1, .string v1, .string g1, .slice A1 fs1.length c1] 29))
  have HG3 := Lib.hid ((HG2.out.below hb3).alloc (.cells #[.string p1, .string v1, .string g1, .slice A1 fs1.length c1] 29))
  have HE3 := Lib.hid (GBlk.new w3 29 #[.string p1, .string v1, .string g1, .slice A1 fs1.length c1])
  have HR1 := Lib.hid (hr1.below ((Below.refl _ w3).alloc (Nat.le_refl _) (.cells #[.string p1, .string v1, .string g1, .slice A1 fs1.length c1] 29)))
  have HF1 := Lib.hid (show Found xs φ (mp, mv) b1 p1 v1 g1 fs1 from hf1)
  have e0 : (w3.alloc (.cells #[.string p1, .string v1, .string g1, .slice A1 fs1.length c1] 29)).cell? ⟨w.heap.size, 0, none⟩ = some (.string mp) := HG3.out.cell 0
  have e1 : (w3.alloc (.cells #[.string p1, .string v1, .string g1, .slice A1 fs1.length c1] 29)).cell? ⟨w.heap.size, 1, none⟩ = some (.string mv) := HG3.out.cell 1
  clear hr1 hb3 hf1 HB2 HG2
  go_wp2_with fail
  generalize w3.alloc (.cells #[.string p1, .string v1, .string g1, .slice A1 fs1.length c1] 29) = w4 at *
  refine (rfindW_any xs _ mp mv _ (HV.out.below HB3.out) HL.out φ (HF.out.below HB3.out)).mono ?_
  rintro _ w5 ⟨b2, p2, v2, g2, A2, c2, fs2, rfl, hr2, hb5, hf2⟩
  obtain ⟨rfl, rfl, rfl, rfl, rfl⟩ := HF1.out.same (show Found xs φ (mp, mv) b2 p2 v2 g2 fs2 from hf2)
  have HB5 := Lib.hid ((HB3.out.trans (hb5.mono HB3.out.size)).alloc (HB3.out.trans (hb5.mono HB3.out.size)).size (.cells #[.string p1, .string v1, .string g1, .slice A2 fs1.length c2] 29))
  have HG5 := Lib.hid ((HG3.out.below hb5).alloc (.cells #[.string p1, .string v1, .string g1, .slice A2 fs1.length c2] 29))
  have HE5 := Lib.hid ((HE3.out.below hb5).alloc (.cells #[.string p1, .string v1, .string g1, .slice A2 fs1.length c2] 29))
  have HE6 := Lib.hid (GBlk.new w5 29 #[.string p1, .string v1, .string g1, .slice A2 fs1.length c2])
  have HR5 := Lib.hid ((HR1.out.below hb5).below ((Below.refl _ w5).alloc (Nat.le_refl _) (.cells #[.string p1, .string v1, .string g1, .slice A2 fs1.length c2] 29)))
  have HR6 := Lib.hid (hr2.below ((Below.refl _ w5).alloc (Nat.le_refl _) (.cells #[.string p1, .string v1, .string g1, .slice A2 fs1.length c2] 29)))
  have hlen := HF1.out.len (HF.out) HL.out
  clear hr2 hb5 hf2 e0 e1 HB3 HG3 HE3 HR1
  go_wp2
  generalize w5.alloc (.cells #[.string p1, .string v1, .string g1, .slice A2 fs1.length c2] 29) = W6 at *
  have L0 := Lib.hid (show ∀ w', Below W6.heap.size W6 w' → w'.cell? ⟨w.heap.size, 0, none⟩ = some (.string mp) ∧ w'.cell? ⟨w3.heap.size, 0, none⟩ = some (.string p1) ∧ w'.cell? ⟨w3.heap.size, 1, none⟩ = some (.string v1) ∧ w'.cell? ⟨w3.heap.size, 2, none⟩ = some (.string g1) ∧ w'.cell? ⟨w3.heap.size, 3, none⟩ = some (.slice A1 fs1.length c1) ∧ w'.cell? ⟨w5.heap.size, 0, none⟩ = some (.string p1) ∧ w'.cell? ⟨w5.heap.size, 1, none⟩ = some (.string v1) ∧ w'.cell? ⟨w5.heap.size, 2, none⟩ = some (.string g1) ∧ w'.cell? ⟨w5.heap.size, 3, none⟩ = some (.slice A2 fs1.length c2) from fun w' h => ⟨(HG5.out.below h).cell 0, (HE5.out.below h).cell 0, (HE5.out.below h).cell 1, (HE5.out.below h).cell 2, (HE5.out.below h).cell 3, (HE6.out.below h).cell 0, (HE6.out.below h).cell 1, (HE6.out.below h).cell 2, (HE6.out.below h).cell 3⟩)
  have K0 := Lib.hid (L0.out W6.drew (below_drewN (Below.refl _ _) 1))
  have HVx := Lib.hid (fun w' (h : Below W6.heap.size W6 w') => HV.out.below (HB5.out.trans (h.mono HB5.out.size)))
  have HFx := Lib.hid (fun w' (h : Below W6.heap.size W6 w') => HF.out.below (HB5.out.trans (h.mono HB5.out.size)))
  have HVe := Lib.hid (fun zs (h : Vers mp xs zs) => h.unique (versL_is mp xs))
  have HS50 := Lib.hid (show (sortE xs).length ≤ 50 by rw [(sortE_perm xs).length_eq]; exact HL.out.1)
  go_region_held3 (fun w' => w'.cell? ⟨w.heap.size, 0, none⟩ = some (.string mp) ∧ w'.cell? ⟨w3.heap.size, 0, none⟩ = some (.string p1) ∧ w'.cell? ⟨w3.heap.size, 1, none⟩ = some (.string v1) ∧ w'.cell? ⟨w3.heap.size, 2, none⟩ = some (.string g1) ∧ w'.cell? ⟨w3.heap.size, 3, none⟩ = some (.slice A1 fs1.length c1) ∧ w'.cell? ⟨w5.heap.size, 0, none⟩ = some (.string p1) ∧ w'.cell? ⟨w5.heap.size, 1, none⟩ = some (.string v1) ∧ w'.cell? ⟨w5.heap.size, 2, none⟩ = some (.string g1) ∧ w'.cell? ⟨w5.heap.size, 3, none⟩ = some (.slice A2 fs1.length c2))
    (first | with_reducible exact K15.out | with_reducible exact K14.out | with_reducible exact K13.out | with_reducible exact K12.out | with_reducible exact K11.out | with_reducible exact K10.out | with_reducible exact K9.out | with_reducible exact K8.out | with_reducible exact K7.out | with_reducible exact K0.out | go_keep)
    (first
      | (go_at_call 10; refine (centries_any xs _ _ (HVx.out _ (below_drewN (Below.refl _ _) 1)) HL.out φ (HFx.out _ (below_drewN (Below.refl _ _) 1))).mono ?_; rintro e w7 ⟨⟨n7, s7⟩, hc7, rfl, hb7'⟩; have b7 := below_drewN' (n := 1) hb7'; have HC7 := Lib.hid hc7; have K7 := Lib.hid (L0.out _ b7))
      | (go_at_call 11; refine (rcentries_any xs _ _ (HVx.out _ b7) HL.out φ (HFx.out _ b7)).mono ?_; rintro e w8 ⟨f8, hc8, rfl, hb8'⟩; obtain rfl := HC7.out.same hc8; have b8 := b7.trans (hb8'.mono b7.size); have K8 := Lib.hid (L0.out _ b8))
      | (go_at_call 13; refine (csort_any xs _ _ (HVx.out _ b8) HL.out φ (HFx.out _ b8)).mono ?_; rintro e w9 ⟨ys, Ay, cy, rfl, hry, hb9', hly⟩; have b9 := b8.trans (hb9'.mono b8.size); have HRy := Lib.hid hry; have HLy := Lib.hid (likeP_of hly (HFx.out _ b9) HL.out); have K9 := Lib.hid (L0.out _ b9); clear hry hly)
      | (go_at_call 14; refine (rsort_any xs _ _ (HVx.out _ b9) HL.out).mono ?_; rintro e w10 ⟨Az, cz, rfl, hoz, hb10'⟩; have b10 := b9.trans (hb10'.mono b9.size); have HRz := Lib.hid hoz.row; have HLz := Lib.hid (all_like_below HLy.out hb10'); have HRy2 := Lib.hid (HRy.out.below hb10'); have K10 := Lib.hid (L0.out _ b10); clear hoz)
      | (go_at_call 12; refine (ralike_any ys (sortE xs) _ _ _ HRy2.out HRz.out HLz.out (by have h1 := HLz.out.len; have h2 := HS50.out; omega)).mono ?_; rintro e w11 ⟨rfl, hb11'⟩; have b11 := b10.trans (hb11'.mono b10.size); have K11 := Lib.hid (L0.out _ b11))
      | (go_at_call 15; refine (rsameE_any p1 v1 g1 _ _ fs1 _ (HR5.out.below b11) (HR6.out.below b11) hlen).mono ?_; rintro e w12 ⟨rfl, hb12'⟩; have b12 := b11.trans (hb12'.mono b11.size); have K12 := Lib.hid (L0.out _ b12))
      | (go_at_call 17; refine (versions_any xs _ mp _ (HVx.out _ b12) HL.out).mono ?_; rintro e w13 ⟨Vz, zs, rfl, hrz, hperm, hris, hb13'⟩; have b13 := b12.trans (hb13'.mono b12.size); have HZ := Lib.hid (HVe.out zs (Vers.of hperm hris)); have HRv := Lib.hid hrz; have K13 := Lib.hid (L0.out _ b13); clear hrz hperm hris)
      | (go_at_call 18; refine (rversions_any xs _ mp _ (HVx.out _ b13) HL.out).mono ?_; rintro e w14 ⟨Au, cu, rfl, hru, hb14'⟩; have b14 := b13.trans (hb14'.mono b13.size); have HRu := Lib.hid hru; have HRv2 := Lib.hid (HRv.out.below hb14'); have K14 := Lib.hid (L0.out _ b14); clear hru)
      | (go_at_call 16; refine (same_any (versL mp (sortE xs)) _ _ _ (by rw [← HZ.out]; exact HRv2.out) HRu.out (by have h1 := versL_len mp (sortE xs) _ (Nat.le_refl _); rw [List.take_length] at h1; have h2 := HS50.out; omega)).mono ?_; rintro e w15 ⟨rfl, q15, rfl⟩; have b15 := below_drewN b14 q15; have K15 := Lib.hid (L0.out _ b15)))
  have hBw := HB5.out.trans (b15.mono HB5.out.size)
  go_wp2
  go_ret
  exact ⟨rfl, hBw⟩
end Go.Proofs.YtcbpkbemnaondaaGreatDoor
