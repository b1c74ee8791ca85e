/-
  tree.Check.
-/
import Derived.Test.YteffoajheolpmaaF8
namespace Go.Proofs.Yteffoajheolpmaa
open Go.RowKit Go.Shelf

def followsB (p a : ByteArray) : Bool := decide (compareN a p < 0) && !wB p a
theorem follows_1 {p a : ByteArray} (h : compareN a p < 0) (k : wB p a = false) : followsB p a = true := by simp [followsB, h, k]
theorem follows_2 {p a : ByteArray} (k : wB p a = true) : followsB p a = false := by simp [followsB, k]
theorem follows_3 {p a : ByteArray} (h : ¬ compareN a p < 0) : followsB p a = false := by simp [followsB]; omega

set_option maxRecDepth 100000 in
set_option maxHeartbeats 400000 in
theorem follows_any (p a : ByteArray) (w : World) (hp : p.size ≤ 20300) (ha : a.size ≤ 20300) :
    Calls Try.prog 42 #[.string p, .string a] w (BoolOut (followsB p a) w) := by
  by_cases h : compareN a p < 0
  · cases k : wB p a
    · have HJ := Lib.hid (follows_1 h k)
      go_enter Try.func42, Try.ntmps42
      go_wp2_with fail
      refine (compare_any _ _ (by omega) (by omega) _).mono ?_
      rintro _ w1 ⟨rfl, hb⟩
      go_wp2_with fail
      refine (twithin_any _ _ _ ha).mono ?_
      rintro _ w2 ⟨rfl, rfl⟩
      go_wp2
      go_ret
      exact ⟨ret_bool HJ.out.symm, hb⟩
    · have HJ := Lib.hid (follows_2 k)
      go_enter Try.func42, Try.ntmps42
      go_wp2_with fail
      refine (compare_any _ _ (by omega) (by omega) _).mono ?_
      rintro _ w1 ⟨rfl, hb⟩
      go_wp2_with fail
      refine (twithin_any _ _ _ ha).mono ?_
      rintro _ w2 ⟨rfl, rfl⟩
      go_wp2
      go_ret
      exact ⟨ret_bool HJ.out.symm, hb⟩
  · have HJ := Lib.hid (follows_3 h)
    go_enter Try.func42, Try.ntmps42
    go_wp2_with fail
    refine (compare_any _ _ (by omega) (by omega) _).mono ?_
    rintro _ w1 ⟨rfl, hb⟩
    go_wp2
    go_ret
    exact ⟨ret_bool HJ.out.symm, hb⟩
theorem follows_b {p a : ByteArray} {b : Bool} (h : followsB p a = b) (w : World) (hp : p.size ≤ 20300) (ha : a.size ≤ 20300) :
    Calls Try.prog 42 #[.string p, .string a] w (BoolOut b w) := by rw [← h]; exact follows_any p a w hp ha

/-- The first file that is bad, by a test that sees the one ahead. -/
def checkGo (bad : Option FileB → FileB → Int) : Option FileB → List FileB → Option (Int × ByteArray)
  | _, [] => none
  | prev, x :: r => if bad prev x = 0 then checkGo bad (some x) r else some (bad prev x, x.1)
def manyB (xs : List FileB) : Int × ByteArray := if 60 < xs.length then (2, ⟨#[]⟩) else (0, ⟨#[]⟩)
def checkB (bad : Option FileB → FileB → Int) (xs : List FileB) : Int × ByteArray :=
  match checkGo bad none xs with
  | some p => p
  | none => manyB xs
def badT (prev : Option FileB) (x : FileB) : Int :=
  if checkFileN x = 0 then (match prev with | none => 0 | some p => if followsB x.1 p.1 then 0 else 4) else checkFileN x
def prevF (xs : List FileB) (k : Nat) : Option FileB := if k = 0 then none else xs[k - 1]?

def CheckAt (bad : Option FileB → FileB → Int) (xs : List FileB) (k : Nat) : Prop := checkGo bad none xs = checkGo bad (prevF xs k) (xs.drop k)
theorem CheckAt.start (bad : Option FileB → FileB → Int) (xs : List FileB) : CheckAt bad xs 0 := rfl
theorem prevF_succ {xs : List FileB} {k : Nat} (hk : k < xs.length) : prevF xs (k + 1) = some xs[k] := by
  unfold prevF
  rw [if_neg (by omega), Nat.add_sub_cancel, List.getElem?_eq_getElem hk]
theorem CheckAt.on {bad : Option FileB → FileB → Int} {xs : List FileB} {k : Nat} (h : CheckAt bad xs k) (hk : k < xs.length) (e : bad (prevF xs k) xs[k] = 0) : CheckAt bad xs (k + 1) := by
  unfold CheckAt at h ⊢
  rw [h, List.drop_eq_getElem_cons hk, checkGo, if_pos e, prevF_succ hk]
theorem CheckAt.stop {bad : Option FileB → FileB → Int} {xs : List FileB} {k : Nat} {n : Int} (h : CheckAt bad xs k) (hk : k < xs.length) (e : bad (prevF xs k) xs[k] = n) (hn : ¬ n = 0) : checkB bad xs = (n, xs[k].1) := by
  unfold CheckAt at h
  unfold checkB
  rw [h, List.drop_eq_getElem_cons hk, checkGo, if_neg (by rw [e]; exact hn), e]
theorem CheckAt.done {bad : Option FileB → FileB → Int} {xs : List FileB} {k : Nat} (h : CheckAt bad xs k) (hk : xs.length ≤ k) : checkB bad xs = manyB xs := by
  unfold CheckAt at h
  unfold checkB
  rw [h, List.drop_of_length_le hk, checkGo]
theorem manyB_1 {xs : List FileB} (h : 60 < xs.length) : manyB xs = (2, ⟨#[]⟩) := by simp [manyB, h]
theorem manyB_2 {xs : List FileB} (h : ¬ 60 < xs.length) : manyB xs = (0, ⟨#[]⟩) := by simp only [manyB, h, if_false]
theorem badT_1 {prev : Option FileB} {x : FileB} {n : Int} (h : checkFileN x = n) (hn : ¬ n = 0) : badT prev x = n := by unfold badT; rw [h, if_neg hn]
theorem badT_2 {x : FileB} (h : checkFileN x = 0) : badT none x = 0 := by rw [badT, if_pos h]
theorem badT_3 {x p : FileB} (h : checkFileN x = 0) (k : followsB x.1 p.1 = true) : badT (some p) x = 0 := by simp only [badT, h, if_true, k]
theorem badT_4 {x p : FileB} (h : checkFileN x = 0) (k : followsB x.1 p.1 = false) : badT (some p) x = 4 := by simp only [badT, h, if_true, k, Bool.false_eq_true, if_false]

theorem prev_valid {o : Option FileB} {x y : FileB} (h : o = some x) (hv : validB x.1 = true) (h' : o = some y) : validB y.1 = true := by
  rw [h] at h'; injection h' with h'; rw [← h']; exact hv

theorem rblk_cells {w : World} {R : Nat} (h : w.heap[R]? = some (.cells #[.int .i64 0, .string ⟨#[]⟩, .int .i64 0] 28 (0, 0))) :
    (w.cell? ⟨R, 0, none⟩ = some (.int .i64 0) ∧ w.cell? ⟨R, 1, none⟩ = some (.string ⟨#[]⟩) ∧ w.cell? ⟨R, 2, none⟩ = some (.int .i64 0)) ∧ w.frozen? ⟨R, 0, none⟩ = false ∧ w.frozen? ⟨R, 1, none⟩ = false ∧ w.frozen? ⟨R, 2, none⟩ = false := by
  refine ⟨⟨?_, ?_, ?_⟩, ?_, ?_, ?_⟩ <;> simp [World.cell?, World.frozen?, h]

theorem below_set3 {w W : World} (h : Below w.heap.size w W) (u0 u1 u2 : Value) : Below w.heap.size w (((W.setCell ⟨w.heap.size, 0, none⟩ u0).setCell ⟨w.heap.size, 1, none⟩ u1).setCell ⟨w.heap.size, 2, none⟩ u2) :=
  ((h.setCell (p := ⟨w.heap.size, 0, none⟩) (Nat.le_refl _) _).setCell (p := ⟨w.heap.size, 1, none⟩) (Nat.le_refl _) _).setCell (p := ⟨w.heap.size, 2, none⟩) (Nat.le_refl _) _

def FaultOut (f : Int × ByteArray) (w : World) (e : Ending) (w' : World) : Prop := e = .returned (.agg #[.int .i64 f.1, .string f.2, .int .i64 0]) ∧ Below w.heap.size w w'

theorem checkFile_zero {f : FileB} (h : checkFileN f = 0) : validB f.1 = true ∧ f.2.size ≤ 4000 := by
  cases h1 : validB f.1
  · rw [checkFile_1 h1] at h; cases h
  · by_cases h2 : 4000 < f.2.size
    · rw [checkFile_2 h1 h2] at h; cases h
    · exact ⟨rfl, by omega⟩

set_option maxRecDepth 100000 in
set_option maxHeartbeats 2000000 in
theorem tcheck_any (xs : List FileB) (v : Value) (w : World) (hv : FRow w v xs) (hs : ∀ f ∈ xs, f.1.size ≤ maxLen ∧ f.2.size ≤ maxLen) (hm : xs.length ≤ 1000) :
    Calls Try.prog 15 #[v] w (FaultOut (checkB badT xs) w) := by
  have HV := Lib.hid hv
  have HS := Lib.hid hs
  obtain ⟨a, c, rfl, hl, -⟩ := hv
  clear hs
  obtain ⟨w0, hw0⟩ : ∃ w0, w0 = w.alloc (.cells #[.int .i64 0, .string ⟨#[]⟩, .int .i64 0] 28) := ⟨_, rfl⟩
  have hb0 : Below w.heap.size w w0 := by rw [hw0]; exact (Below.refl _ _).alloc (Nat.le_refl _) _
  have hz0 : w0.heap.size = w.heap.size + 1 := by rw [hw0]; simp
  have hR : w0.heap[w.heap.size]? = some (.cells #[.int .i64 0, .string ⟨#[]⟩, .int .i64 0] 28 (0, 0)) := by rw [hw0]; exact World.alloc_heap_new w _
  have HRb := Lib.hid hR
  have HZ := Lib.hid hz0
  have hz0' : w.heap.size < w0.heap.size := by omega
  have HW0 := Lib.hid hw0
  clear hR hz0
  go_enter Try.func15, Try.ntmps15
  go_wp2
  rw [← hw0]
  clear hw0
  go_loopw [8] (fun i wr => ∃ k : Nat, k ≤ xs.length ∧ i = .int .i64 k ∧ CheckAt badT xs k ∧ (∀ y, prevF xs k = some y → validB y.1 = true) ∧ Below w0.heap.size w0 wr) (fun i _ => xs.length - (intOf i).toNat)
  case atStart => exact ⟨0, Nat.zero_le _, rfl, CheckAt.start _ _, (fun y h => by cases h), Below.refl _ _⟩
  case round =>
    obtain ⟨k, hk, rfl, hat, hpv, hb⟩ := hrel
    have HA := Lib.hid hat
    have HPv := Lib.hid hpv
    have hbw := hb0.trans (hb.mono hb0.size)
    have hzr := hb.size
    clear hat hpv
    by_cases hlt : k < xs.length
    · obtain ⟨a', c'', e', hl', hcl⟩ := HV.out
      cases e'
      obtain ⟨g, o, rfl, hg, hcell⟩ := hcl (by intro e; rw [e] at hlt; simp at hlt)
      have HAt := Lib.hid hcell
      have HQ := Lib.hid (fun w' (h : Below w.heap.size w w') => And.intro ((h.cell (p := ⟨g, _, none⟩) hg).trans (hcell k hlt).1) ((h.cell (p := ⟨g, _, none⟩) hg).trans (hcell k hlt).2))
      obtain ⟨q1, q2⟩ := HQ.out _ hbw
      obtain ⟨hs1, hs2⟩ := HS.out _ (List.getElem_mem hlt)
      clear hcell hcl
      have HOn := Lib.hid (fun e => HA.out.on hlt e)
      have HSt := Lib.hid (fun n (e : badT (prevF xs k) xs[k] = n) hn => HA.out.stop hlt e hn)
      by_cases hcf : checkFileN xs[k] = 0
      · have hvx := (checkFile_zero hcf).1
        have hvs := (valid_size hvx).2
        have HCF := Lib.hid hcf
        have HVx := Lib.hid hvx
        clear hcf hvx
        by_cases hk0 : k = 0
        · subst hk0
          have HP := Lib.hid (HOn.out (badT_2 HCF.out))
          have HVx' := Lib.hid (fun y (h : prevF xs (0 + 1) = some y) => prev_valid (prevF_succ hlt) HVx.out h)
          simp only [Nat.zero_mul, Nat.add_zero] at q1 q2
          generalize xs[0] = x at *
          obtain ⟨x1, x2⟩ := x
          have HBX := Lib.hid (FBox.new wr x1 x2)
          go_wp2_with fail
          refine (checkFile_n (f := (x1, x2)) HCF.out _ hs1 hs2).mono ?_
          rintro _ w1 ⟨rfl, hb1⟩
          obtain ⟨-, y0, y1⟩ := HBX.out.below hb1
          change _ = some (Value.string x1) at y0
          have hb' := (hb.alloc hb.size (.cells #[.string x1, .string x2] 32)).trans (hb1.mono (by simp; omega))
          have hbw' := hb0.trans (hb'.mono hb0.size)
          have hz1 : wr.heap.size < w1.heap.size := by have := hb1.size; simp at this; omega
          clear hb1 q1 q2
          go_wp2
          go_quiet (fail)
          go_wp2
          go_roundw
          case rel => exact ⟨1, by omega, by go_num, HP.out, HVx'.out, below_drewN hb' _⟩
          case measure => simp [intOf]; omega
        · obtain ⟨j, rfl⟩ : ∃ j, k = j + 1 := ⟨k - 1, by omega⟩
          have hjl : j < xs.length := by omega
          have hvy : validB xs[j].1 = true := HPv.out _ (prevF_succ hjl)
          have hys := (valid_size hvy).2
          have HVx' := Lib.hid (fun y (h : prevF xs (j + 1 + 1) = some y) => prev_valid (prevF_succ hlt) HVx.out h)
          have HPr := Lib.hid (prevF_succ hjl)
          have HQj := Lib.hid (fun w' (h : Below w.heap.size w w') => (h.cell (p := ⟨g, _, none⟩) hg).trans (HAt.out j hjl).1)
          have ij2 : IntKind.i64.wrap (j : Int) = (j : Int) := IntWalk.i64_in _ (by omega)
          have ij3 : (0 : Int) ≤ (j : Int) := by omega
          have ij4 : (j : Int) < (xs.length : Int) := by omega
          have ij5 : (0 : Int) < (j : Int) + 1 := by omega
          clear hk0 hvy
          cases hfo : followsB xs[j + 1].1 xs[j].1
          · have HP := Lib.hid (HSt.out 4 (by rw [HPr.out]; exact badT_4 HCF.out hfo) (by decide))
            generalize xs[j] = y at *
            obtain ⟨yp, yd⟩ := y
            generalize xs[j + 1] = x at *
            obtain ⟨x1, x2⟩ := x
            have HBX := Lib.hid (FBox.new wr x1 x2)
            go_wp2_with fail
            refine (checkFile_n (f := (x1, x2)) HCF.out _ hs1 hs2).mono ?_
            rintro _ w1 ⟨rfl, hb1⟩
            obtain ⟨-, y0, y1⟩ := HBX.out.below hb1
            change _ = some (Value.string x1) at y0
            have hb' := (hb.alloc hb.size (.cells #[.string x1, .string x2] 32)).trans (hb1.mono (by simp; omega))
            have hbw' := hb0.trans (hb'.mono hb0.size)
            have hz1 : wr.heap.size < w1.heap.size := by have := hb1.size; simp at this; omega
            clear hb1 q1 q2
            have z0 := HQj.out _ hbw'
            go_wp2
            go_region_held3 (fun w' => w'.cell? ⟨wr.heap.size, 0, none⟩ = some (.string x1) ∧ w'.cell? ⟨g, o + j * 2, none⟩ = some (.string yp))
              (first | go_keep | (go_split_ands; refine ⟨?_, ?_⟩ <;> (rw [hb2.cell (by simp; omega)]; assumption)))
              (first | (go_at_call 42; refine (follows_b hfo _ (by omega) (by omega)).mono ?_; rintro e w2 ⟨rfl, hb2⟩))
            have hb2' := (below_drew hb').trans (hb2.mono hb'.size)
            obtain ⟨⟨r0, r1, r2⟩, r3, r4, r5⟩ := rblk_cells ((hb2'.block _ hz0').trans HRb.out)
            rename_i hheld
            have y0' := hheld.1
            have hbw2 := hb0.trans (hb2'.mono hb0.size)
            clear hheld
            go_wp2
            exact bodyPost_ret (v := .agg #[.int .i64 4, .string x1, .int .i64 0]) (by simp [results, Try.results15, go_sem, r0, r1, r2]) rfl ⟨by rw [HP.out], below_set3 hbw2 _ _ _⟩
          · have HP := Lib.hid (HOn.out (by rw [HPr.out]; exact badT_3 HCF.out hfo))
            generalize xs[j] = y at *
            obtain ⟨yp, yd⟩ := y
            generalize xs[j + 1] = x at *
            obtain ⟨x1, x2⟩ := x
            have HBX := Lib.hid (FBox.new wr x1 x2)
            go_wp2_with fail
            refine (checkFile_n (f := (x1, x2)) HCF.out _ hs1 hs2).mono ?_
            rintro _ w1 ⟨rfl, hb1⟩
            obtain ⟨-, y0, y1⟩ := HBX.out.below hb1
            change _ = some (Value.string x1) at y0
            have hb' := (hb.alloc hb.size (.cells #[.string x1, .string x2] 32)).trans (hb1.mono (by simp; omega))
            have hbw' := hb0.trans (hb'.mono hb0.size)
            have hz1 : wr.heap.size < w1.heap.size := by have := hb1.size; simp at this; omega
            clear hb1 q1 q2
            have z0 := HQj.out _ hbw'
            go_wp2
            go_region_held3 (fun w' => w'.cell? ⟨wr.heap.size, 0, none⟩ = some (.string x1) ∧ w'.cell? ⟨g, o + j * 2, none⟩ = some (.string yp))
              (first | go_keep | (go_split_ands; refine ⟨?_, ?_⟩ <;> (rw [hb2.cell (by simp; omega)]; assumption)))
              (first | (go_at_call 42; refine (follows_b hfo _ (by omega) (by omega)).mono ?_; rintro e w2 ⟨rfl, hb2⟩))
            go_wp2
            go_roundw
            case rel => exact ⟨j + 1 + 1, by omega, by go_num, HP.out, HVx'.out, (below_drew hb').trans (hb2.mono hb'.size)⟩
            case measure => simp [intOf]; omega
      · have HP := Lib.hid (HSt.out _ (badT_1 rfl hcf) hcf)
        generalize xs[k] = x at *
        obtain ⟨x1, x2⟩ := x
        have hcf' : (checkFileN (x1, x2) == 0) = false := by simp [hcf]
        have hcf'' : (checkFileN (x1, x2) != 0) = true := by simp [hcf]
        clear hcf
        have HBX := Lib.hid (FBox.new wr x1 x2)
        go_wp2_with fail
        refine (checkFile_any (x1, x2) _ hs1 hs2).mono ?_
        rintro _ w1 ⟨rfl, hb1⟩
        obtain ⟨-, y0, y1⟩ := HBX.out.below hb1
        change _ = some (Value.string x1) at y0
        have hb' := (hb.alloc hb.size (.cells #[.string x1, .string x2] 32)).trans (hb1.mono (by simp; omega))
        obtain ⟨⟨r0, r1, r2⟩, r3, r4, r5⟩ := rblk_cells ((hb'.block _ hz0').trans HRb.out)
        have hbw' := hb0.trans (hb'.mono hb0.size)
        clear hb1 q1 q2
        generalize checkFileN (x1, x2) = n at *
        go_wp2
        go_quiet (fail)
        go_wp2
        exact bodyPost_ret (v := .agg #[.int .i64 n, .string x1, .int .i64 0]) (by simp [results, Try.results15, go_sem, r0, r1, r2]) rfl ⟨by rw [HP.out], below_set3 (below_drewN hbw' _) _ _ _⟩
    · have HP := Lib.hid (HA.out.done (by omega))
      obtain ⟨⟨r0, r1, r2⟩, r3, r4, r5⟩ := rblk_cells ((hb.block _ hz0').trans HRb.out)
      by_cases h60 : 60 < xs.length
      · have HM := Lib.hid (manyB_1 h60)
        go_wp2
        exact bodyPost_ret (v := .agg #[.int .i64 2, .string ⟨#[]⟩, .int .i64 0]) (by simp [results, Try.results15, go_sem, r0, r1, r2]) rfl ⟨by rw [HP.out, HM.out], below_set3 hbw _ _ _⟩
      · have HM := Lib.hid (manyB_2 h60)
        go_wp2
        exact bodyPost_ret (v := .agg #[.int .i64 0, .string ⟨#[]⟩, .int .i64 0]) (by simp [results, Try.results15, go_sem, r0, r1, r2]) rfl ⟨by rw [HP.out, HM.out], below_set3 hbw _ _ _⟩
end Go.Proofs.Yteffoajheolpmaa
