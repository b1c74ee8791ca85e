/-
  The merge of one file behind a sorted part (slices' symMerge).
-/
import Derived.Test.YteffoajheolpmaaF24
namespace Go.Proofs.Yteffoajheolpmaa
open Go.RowKit Go.Shelf

/-- The first is no lower than the second. -/
def NotLess (p q : ByteArray) : Prop := ¬ compareN p q < 0

set_option maxRecDepth 100000 in
set_option maxHeartbeats 4000000 in
theorem merge_last (w0 : World) (g c n B : Nat) (u : Value) (w : World) (P A : List FileB) (y : FileB) (S : List FileB) (hw : Work w0 g c n B u w (P ++ A ++ [y] ++ S)) (hs : Short (P ++ A ++ [y] ++ S)) (hA : Rises A) (h2 : A.length ≠ 1) (a m b : Nat) (ha : a = P.length) (hm : m = P.length + A.length) (hb : b = P.length + A.length + 1) (hn : n ≤ 1000) :
    Calls Try.prog 84 #[.slice (some ⟨g, 0, none⟩) n c, .int .i64 a, .int .i64 m, .int .i64 b, cmpV B] w (MergeOut w0 g c n B u P (A ++ [y]) S) := by
  obtain ⟨y1, y2⟩ := y
  have hlen := hw.len
  simp only [List.length_append, List.length_singleton] at hlen
  have hbn : b ≤ n := by omega
  have HW := Lib.hid hw
  have HSh := Lib.hid hs
  have HMo := Lib.hid (show ∀ q r, P.length ≤ q → q ≤ r → r < P.length + A.length → NotLess y1 (keyAt (P ++ A ++ [(y1, y2)] ++ S) r) → NotLess y1 (keyAt (P ++ A ++ [(y1, y2)] ++ S) q) from second_mono (P := P) (y := (y1, y2)) (S := S) hA)
  have HCu := Lib.hid (fun s (h : Sk (fun q => NotLess y1 (keyAt (P ++ A ++ [(y1, y2)] ++ S) q)) P.length (P.length + A.length) (P.length + s) (P.length + s)) => second_cut (P := P) (y := (y1, y2)) (S := S) (s := s) hA h)
  have HU0 := Lib.hid (show DownAt P A (y1, y2) S A.length (P ++ A ++ [(y1, y2)] ++ S) by simp [DownAt])
  have sy : y1.size ≤ 20300 := hs (y1, y2) (by simp)
  have qy : (P ++ A ++ [(y1, y2)] ++ S)[m]? = some (y1, y2) := by
    rw [hm, show P ++ A ++ [(y1, y2)] ++ S = (P ++ A) ++ (y1, y2) :: S by simp, ← List.length_append, at_mid]
  have HX := Lib.hid (fun w' (h : Work w0 g c n B u w' (P ++ A ++ [(y1, y2)] ++ S)) => h.cell qy)
  have HA := Lib.hid ha
  have hcl : m = a + A.length := by omega
  have HCL := Lib.hid hcl
  have hma : a ≤ m := by omega
  have hmn : m < n := by omega
  have hti : ((m : Int) - (a : Int) == 1) = false := by
    rw [beq_eq_false_iff_ne]; omega
  have htj : (b : Int) - (m : Int) = 1 := by omega
  have hmn' : (m : Int) < (n : Int) := by omega
  have HXS := Lib.hid (fun q => some_at (xs := P ++ A ++ [(y1, y2)] ++ S) (q := q))
  have HL := Lib.hid (show (P ++ A ++ [(y1, y2)] ++ S).length = n from hw.len)
  rw [← ha] at HMo HCu
  clear hw hlen ha hb hm hs hcl qy hA h2
  generalize P ++ A ++ [(y1, y2)] ++ S = xs at *
  unfold cmpV
  go_enter Try.func84, Try.ntmps84
  go_wp2
  go_loopw [14, 15] (fun i j wr => ∃ (k l : Nat), i = .int .i64 k ∧ j = .int .i64 l ∧ Sk (fun q => NotLess y1 (keyAt xs q)) a (a + A.length) k l ∧ Work w0 g c n B u wr xs) (fun i j _ => (intOf j - intOf i).toNat)
  case atStart => exact ⟨a, m, rfl, rfl, by rw [HCL.out]; exact Sk.start _ (by omega), HW.out⟩
  case round =>
    obtain ⟨k, l, rfl, rfl, hsk, hwk⟩ := hrel
    have hk1 := hsk.a
    have hk2 := hsk.b
    have hk3 := hsk.c
    rw [← HCL.out] at hk3
    by_cases hlt : k < l
    · obtain ⟨z1, z2, qz, ez⟩ := HXS.out ((k + l) / 2) (by rw [HL.out]; omega)
      obtain ⟨q1, q2⟩ := hwk.cell qz
      obtain ⟨q3, q4⟩ := HX.out _ hwk
      have sz : z1.size ≤ 20300 := HSh.out (z1, z2) (List.mem_of_getElem? qz)
      have hgz := (Array.getElem?_eq_some_iff.1 hwk.block.choose_spec.1).1
      have hb1 : (k + l) / 2 < n := by omega
      have hb3 : (0 : Int) ≤ ((k : Int) + (l : Int)) / 2 := by omega
      have hb4 : ((k : Int) + (l : Int)) / 2 < (n : Int) := by omega
      have hb5 : (0 : Int) ≤ (m : Int) := by omega
      have hb6 : (((k : Int) + (l : Int)) / 2).toNat = (k + l) / 2 := by omega
      have HUp := Lib.hid (fun e => hsk.up HMo.out (h := (k + l) / 2) (by omega) (by omega) e)
      have HDn := Lib.hid (fun (e : compareN y1 (keyAt xs ((k + l) / 2)) < 0) => hsk.down HMo.out (h := (k + l) / 2) (by omega) (by omega) (fun hq => hq e))
      rw [← ez] at HUp HDn
      clear hsk qz ez
      by_cases hcm : compareN y1 z1 < 0
      · have hcd : decide (compareN y1 z1 < 0) = true := decide_eq_true hcm
        have HCM := Lib.hid (HDn.out hcm)
        clear hcm HUp HDn
        go_wp2
        go_region_held3 (fun w' => w'.cell? ⟨g, (k + l) / 2 * 2, none⟩ = some (.string z1) ∧ w'.cell? ⟨g, (k + l) / 2 * 2 + 1, none⟩ = some (.string z2) ∧ w'.cell? ⟨g, m * 2, none⟩ = some (.string y1) ∧ w'.cell? ⟨g, m * 2 + 1, none⟩ = some (.string y2))
          (first | go_keep | (go_split_ands; refine ⟨?_, ?_, ?_, ?_⟩ <;> (rw [hb2.cell hgz]; assumption)))
          (first | (go_at_call 62; refine (arr1_any (y1, y2) (z1, z2) B u _ (hwk.drew.box) sy sz).mono ?_; rintro e w2 ⟨rfl, hb2⟩))
        rename_i hheld
        clear hheld
        have hw2 := hwk.drew.call hb2
        clear hb2 q1 q2 q3 q4 hgz hwk
        go_wp2
        go_roundw
        case rel => exact ⟨k, (k + l) / 2, rfl, by go_num, HCM.out, hw2⟩
        case measure => simp [intOf]; omega
      · have hcd : decide (compareN y1 z1 < 0) = false := decide_eq_false hcm
        have HCM := Lib.hid (HUp.out hcm)
        clear hcm HUp HDn
        go_wp2
        go_region_held3 (fun w' => w'.cell? ⟨g, (k + l) / 2 * 2, none⟩ = some (.string z1) ∧ w'.cell? ⟨g, (k + l) / 2 * 2 + 1, none⟩ = some (.string z2) ∧ w'.cell? ⟨g, m * 2, none⟩ = some (.string y1) ∧ w'.cell? ⟨g, m * 2 + 1, none⟩ = some (.string y2))
          (first | go_keep | (go_split_ands; refine ⟨?_, ?_, ?_, ?_⟩ <;> (rw [hb2.cell hgz]; assumption)))
          (first | (go_at_call 62; refine (arr1_any (y1, y2) (z1, z2) B u _ (hwk.drew.box) sy sz).mono ?_; rintro e w2 ⟨rfl, hb2⟩))
        rename_i hheld
        clear hheld
        have hw2 := hwk.drew.call hb2
        clear hb2 q1 q2 q3 q4 hgz hwk
        go_wp2
        go_roundw
        case rel => exact ⟨(k + l) / 2 + 1, l, by go_num, rfl, HCM.out, hw2⟩
        case measure => simp [intOf]; omega
    · obtain rfl : k = l := by omega
      obtain ⟨s, rfl⟩ : ∃ s, k = a + s := ⟨k - a, by omega⟩
      have HR := Lib.hid (HCu.out s hsk)
      obtain ⟨ks, hks⟩ : ∃ ks, a + s = ks := ⟨_, rfl⟩
      have hsA : s ≤ A.length := by have := HCL.out; omega
      rw [hks] at hk1 hk2 hk3 ⊢
      have HUN := Lib.hid (fun ys r (h : DownAt P A (y1, y2) S (r + 1) ys) (hr : r < A.length) => h.next hr)
      clear hsk
      go_wp2
      go_loopw [17] (fun i wr => ∃ (r : Nat) (ys : List FileB), s ≤ r ∧ r ≤ A.length ∧ i = .int .i64 ((a + r : Nat) : Int) ∧ DownAt P A (y1, y2) S r ys ∧ Short ys ∧ Work w0 g c n B u wr ys) (fun i _ => (intOf i).toNat)
      case atStart => exact ⟨A.length, xs, hsA, Nat.le_refl _, by rw [HCL.out], HU0.out, HSh.out, hwk⟩
      case round =>
        obtain ⟨r, ys, hsr, hrA, rfl, hup, hsy, hwy⟩ := hrel
        by_cases hrl : s < r
        · obtain ⟨r, rfl⟩ : ∃ r', r = r' + 1 := ⟨r - 1, by omega⟩
          obtain ⟨P', ⟨z1, z2⟩, S', rfl, hl, hup2⟩ := HUN.out ys r hup (by omega)
          have HS2 := Lib.hid (short_swap hsy)
          have HU2 := Lib.hid hup2
          have e1 : P'.length = a + r := by rw [hl, HA.out]
          have e2 : P'.length + 1 + ([] : List FileB).length = a + (r + 1) := by simp [e1]; omega
          obtain ⟨⟨q1, q2⟩, q3, q4⟩ := And.intro (hwy.cell (at_two P' [] S' _ _).1) (hwy.cell (at_two P' [] S' _ _).2)
          have HSw := Lib.hid hwy.swap'
          rw [e2] at q3 q4 HSw
          rw [e1] at q1 q2 HSw
          have hrm : a + (r + 1) ≤ m := by have := HCL.out; omega
          obtain ⟨jn, hjn⟩ : ∃ jn, a + (r + 1) = jn := ⟨_, rfl⟩
          rw [hjn] at q3 q4 HSw hrm ⊢
          obtain ⟨jm, hjm⟩ : ∃ jm, a + r = jm := ⟨_, rfl⟩
          rw [hjm] at q1 q2 HSw
          have t1 : (jn : Int) - 1 = (jm : Int) := by omega
          have t2 : (jm : Int) < (n : Int) := by omega
          have t3 : (jn : Int) < (n : Int) := by omega
          have t5 : jm < n := by omega
          have t6 : jn < n := by omega
          have t4 : IntKind.i64.wrap (jm : Int) = (jm : Int) := IntWalk.i64_in _ (by omega)
          have t7 : (ks : Int) < (jn : Int) := by omega
          have f1 := hwy.frozen (jn * 2)
          have f2 := hwy.frozen (jn * 2 + 1)
          have f3 := hwy.frozen (jm * 2)
          have f4 := hwy.frozen (jm * 2 + 1)
          have HJN := Lib.hid hjn
          have HJM := Lib.hid hjm
          clear hup hsy hl hup2 hwy e1 e2 hjn hjm
          go_wp2
          go_region
          go_wp2
          go_roundw
          case rel => exact ⟨r, _, by omega, by omega, by rw [HJM.out], HU2.out, HS2.out, HSw.out.drew⟩
          case measure => have := HJN.out; have := HJM.out; simp [intOf]; omega
        · obtain rfl : r = s := by omega
          have HS2 := Lib.hid hsy
          have HU2 := Lib.hid hup
          clear hup hsy
          go_wp2
          go_end0
          exact ⟨rfl, ys, ⟨_, HR.out.1, HR.out.2, by rw [HU2.out]; simp⟩, HS2.out, hwy⟩
end Go.Proofs.Yteffoajheolpmaa
