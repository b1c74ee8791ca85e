/-
  The merge of one file ahead of a sorted part (slices' symMerge).
-/
import Derived.Test.YteffoajheolpmaaF23
import Derived.Test.YteffoajheolpmaaT10
namespace Go.Proofs.Yteffoajheolpmaa
open Go.RowKit Go.Shelf

def MergeOut (w0 : World) (g c n B : Nat) (u : Value) (P A S : List FileB) (e : Ending) (w' : World) : Prop := e = .returned (.tuple #[]) ∧ ∃ ys, Parted P A S ys ∧ Short ys ∧ Work w0 g c n B u w' ys

set_option maxRecDepth 100000 in
set_option maxHeartbeats 4000000 in
theorem merge_first (w0 : World) (g c n B : Nat) (u : Value) (w : World) (P : List FileB) (x : FileB) (C S : List FileB) (hw : Work w0 g c n B u w (P ++ [x] ++ C ++ S)) (hs : Short (P ++ [x] ++ C ++ S)) (hc : Rises C) (a m b : Nat) (ha : a = P.length) (hm : m = P.length + 1) (hb : b = P.length + 1 + C.length) (hn : n ≤ 1000) :
    Calls Try.prog 84 #[.slice (some ⟨g, 0, none⟩) n c, .int .i64 a, .int .i64 m, .int .i64 b, cmpV B] w (MergeOut w0 g c n B u P (x :: C) S) := by
  obtain ⟨x1, x2⟩ := x
  have hlen := hw.len
  simp only [List.length_append, List.length_singleton] at hlen
  have hbn : b ≤ n := by omega
  have HW := Lib.hid hw
  have HSh := Lib.hid hs
  have HMo := Lib.hid (first_mono (P := P) (x := (x1, x2)) (S := S) hc)
  have HCu := Lib.hid (fun e => first_cut (P := P) (x := (x1, x2)) (S := S) (e := e) hc)
  have HU0 := Lib.hid (show UpAt P (x1, x2) C S 0 (P ++ [(x1, x2)] ++ C ++ S) by simp [UpAt])
  have sx : x1.size ≤ 20300 := hs (x1, x2) (by simp)
  have qx : (P ++ [(x1, x2)] ++ C ++ S)[a]? = some (x1, x2) := by rw [ha]; simp
  have HX := Lib.hid (fun w' (h : Work w0 g c n B u w' (P ++ [(x1, x2)] ++ C ++ S)) => h.cell qx)
  have HA := Lib.hid ha
  have HM := Lib.hid hm
  have HB := Lib.hid hb
  have hcl : b = m + C.length := by omega
  have HCL := Lib.hid hcl
  have hma : m = a + 1 := by omega
  have HMA := Lib.hid hma
  have hmb : m ≤ b := by omega
  have han : a < n := by omega
  have hti : (m : Int) - (a : Int) = 1 := by omega
  have han' : (a : Int) < (n : Int) := by omega
  have HXS := Lib.hid (fun q => some_at (xs := P ++ [(x1, x2)] ++ C ++ S) (q := q))
  have HL := Lib.hid (show (P ++ [(x1, x2)] ++ C ++ S).length = n from hw.len)
  rw [← hm] at HMo HCu
  clear hw hlen ha hb hm hs hcl hma qx hc
  generalize hxs : P ++ [(x1, x2)] ++ C ++ S = xs at *
  have HQ := Lib.hid hxs
  clear hxs
  unfold cmpV
  go_enter Try.func84, Try.ntmps84
  go_wp2
  go_loopw [10, 11] (fun i j wr => ∃ (k l : Nat), i = .int .i64 k ∧ j = .int .i64 l ∧ Sk (fun q => compareN (keyAt xs q) x1 < 0) m (m + C.length) k l ∧ Work w0 g c n B u wr xs) (fun i j _ => (intOf j - intOf i).toNat)
  case atStart => exact ⟨m, b, rfl, rfl, by rw [HCL.out]; exact Sk.start _ (by omega), HW.out⟩
  case round =>
    obtain ⟨k, l, rfl, rfl, hsk, hwk⟩ := hrel
    have hk1 := hsk.a
    have hk2 := hsk.b
    have hk3 := hsk.c
    rw [← HCL.out] at hk3
    by_cases hlt : k < l
    · obtain ⟨h, hh⟩ : ∃ h, (k + l) / 2 = h := ⟨_, rfl⟩
      obtain ⟨z1, z2, qz, ez⟩ := HXS.out ((k + l) / 2) (by rw [HL.out]; omega)
      obtain ⟨q1, q2⟩ := hwk.cell qz
      obtain ⟨q3, q4⟩ := HX.out _ hwk
      have sz : z1.size ≤ 20300 := HSh.out (z1, z2) (List.mem_of_getElem? qz)
      have hgz := (Array.getElem?_eq_some_iff.1 hwk.block.choose_spec.1).1
      have hb1 : (k + l) / 2 < n := by omega
      have hb3 : (0 : Int) ≤ ((k : Int) + (l : Int)) / 2 := by omega
      have hb4 : ((k : Int) + (l : Int)) / 2 < (n : Int) := by omega
      have hb5 : (0 : Int) ≤ (a : Int) := by omega
      have hb6 : (((k : Int) + (l : Int)) / 2).toNat = (k + l) / 2 := by omega
      have HUp := Lib.hid (fun e => hsk.up HMo.out (h := (k + l) / 2) (by omega) (by omega) e)
      have HDn := Lib.hid (fun e => hsk.down HMo.out (h := (k + l) / 2) (by omega) (by omega) e)
      simp only [← ez] at HUp HDn
      clear hsk qz ez hh
      by_cases hcm : compareN z1 x1 < 0
      · go_wp2
        go_region_held3 (fun w' => w'.cell? ⟨g, (k + l) / 2 * 2, none⟩ = some (.string z1) ∧ w'.cell? ⟨g, (k + l) / 2 * 2 + 1, none⟩ = some (.string z2) ∧ w'.cell? ⟨g, a * 2, none⟩ = some (.string x1) ∧ w'.cell? ⟨g, a * 2 + 1, none⟩ = some (.string x2))
          (first | go_keep | (go_split_ands; refine ⟨?_, ?_, ?_, ?_⟩ <;> (rw [hb2.cell hgz]; assumption)))
          (first | (go_at_call 62; refine (arr1_any (z1, z2) (x1, x2) B u _ (hwk.drew.box) sz sx).mono ?_; rintro e w2 ⟨rfl, hb2⟩))
        rename_i hheld
        clear hheld
        have hw2 := hwk.drew.call hb2
        have HP := Lib.hid (HUp.out hcm)
        clear hb2 q1 q2 q3 q4 hgz hwk
        go_wp2
        go_roundw
        case rel => exact ⟨(k + l) / 2 + 1, l, by go_num, rfl, HP.out, hw2⟩
        case measure => simp [intOf]; omega
      · go_wp2
        go_region_held3 (fun w' => w'.cell? ⟨g, (k + l) / 2 * 2, none⟩ = some (.string z1) ∧ w'.cell? ⟨g, (k + l) / 2 * 2 + 1, none⟩ = some (.string z2) ∧ w'.cell? ⟨g, a * 2, none⟩ = some (.string x1) ∧ w'.cell? ⟨g, a * 2 + 1, none⟩ = some (.string x2))
          (first | go_keep | (go_split_ands; refine ⟨?_, ?_, ?_, ?_⟩ <;> (rw [hb2.cell hgz]; assumption)))
          (first | (go_at_call 62; refine (arr1_any (z1, z2) (x1, x2) B u _ (hwk.drew.box) sz sx).mono ?_; rintro e w2 ⟨rfl, hb2⟩))
        rename_i hheld
        clear hheld
        have hw2 := hwk.drew.call hb2
        have HP := Lib.hid (HDn.out hcm)
        clear hb2 q1 q2 q3 q4 hgz hwk
        go_wp2
        go_roundw
        case rel => exact ⟨k, (k + l) / 2, rfl, by go_num, HP.out, hw2⟩
        case measure => simp [intOf]; omega
    · obtain rfl : k = l := by omega
      obtain ⟨e, rfl⟩ : ∃ e, k = m + e := ⟨k - m, by omega⟩
      have HR := Lib.hid (HCu.out e hsk)
      have hsub : ((m + e : Nat) : Int) - 1 = ((a + e : Nat) : Int) := by have := HMA.out; omega
      obtain ⟨ke, hke⟩ : ∃ ke, m + e = ke := ⟨_, rfl⟩
      have hae : a + e + 1 = ke := by have := HMA.out; omega
      have heC : e ≤ C.length := by have := HCL.out; omega
      rw [hke] at hsub hk1 hk2 hk3 ⊢
      have hsub' : (ke : Int) - 1 = (a : Int) + (e : Int) := by omega
      have HUN := Lib.hid (fun ys r (h : UpAt P (x1, x2) C S r ys) (hr : r < e) => h.next (by omega))
      clear hsk hsub
      go_wp2
      go_loopw [13] (fun i wr => ∃ (r : Nat) (ys : List FileB), r ≤ e ∧ i = .int .i64 ((a + r : Nat) : Int) ∧ UpAt P (x1, x2) C S r ys ∧ Short ys ∧ Work w0 g c n B u wr ys) (fun i _ => (a + e) - (intOf i).toNat)
      case atStart => exact ⟨0, xs, Nat.zero_le _, rfl, HU0.out, HSh.out, hwk⟩
      case round =>
        obtain ⟨r, ys, hre, rfl, hup, hsy, hwy⟩ := hrel
        by_cases hrl : r < e
        · obtain ⟨P', ⟨y1, y2⟩, S', rfl, hl, hup2⟩ := HUN.out ys r hup hrl
          have HS2 := Lib.hid (short_swap hsy)
          have HU2 := Lib.hid hup2
          have e1 : P'.length = a + r := by rw [hl, HA.out]
          have e2 : P'.length + 1 + ([] : List FileB).length = a + r + 1 := by simp [e1]
          obtain ⟨⟨q1, q2⟩, q3, q4⟩ := And.intro (hwy.cell (at_two P' [] S' _ _).1) (hwy.cell (at_two P' [] S' _ _).2)
          have HSw := Lib.hid hwy.swap
          rw [e2] at q3 q4 HSw
          rw [e1] at q1 q2 HSw
          obtain ⟨jm, hjm⟩ : ∃ jm, a + r = jm := ⟨_, rfl⟩
          rw [hjm] at q1 q2 q3 q4 HSw ⊢
          obtain ⟨jn, hjn⟩ : ∃ jn, jm + 1 = jn := ⟨_, rfl⟩
          rw [hjn] at q3 q4 HSw
          have t1 : (jm : Int) + 1 = (jn : Int) := by omega
          have t2 : (jm : Int) < (n : Int) := by omega
          have t3 : (jn : Int) < (n : Int) := by omega
          have t5 : jm < n := by omega
          have t6 : jn < n := by omega
          have t4 : IntKind.i64.wrap (jn : Int) = (jn : Int) := IntWalk.i64_in _ (by omega)
          have t7 : (jm : Int) < (a : Int) + (e : Int) := by omega
          have f1 := hwy.frozen (jn * 2)
          have f2 := hwy.frozen (jn * 2 + 1)
          have f3 := hwy.frozen (jm * 2)
          have f4 := hwy.frozen (jm * 2 + 1)
          have HJN := Lib.hid hjn
          clear hup hsy hl hup2 hwy e1 e2 hjn
          go_wp2
          go_region
          go_wp2
          go_roundw
          case rel => exact ⟨r + 1, _, by omega, by go_num, HU2.out, HS2.out, HSw.out.drew⟩
          case measure => have := HJN.out; simp [intOf]; omega
        · obtain rfl : r = e := by omega
          have HS2 := Lib.hid hsy
          have HU2 := Lib.hid hup
          clear hup hsy
          go_wp2
          go_end0
          exact ⟨rfl, ys, ⟨_, HR.out.1, HR.out.2, by rw [HU2.out]; simp⟩, HS2.out, hwy⟩
end Go.Proofs.Yteffoajheolpmaa
