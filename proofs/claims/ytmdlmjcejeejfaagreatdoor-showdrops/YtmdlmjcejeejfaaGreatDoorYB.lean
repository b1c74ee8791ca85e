/-
  The stable sort at RepB: two parts change places (swapRange, rotate).
-/
import Derived.Test.YtmdlmjcejeejfaaGreatDoorYA
import Derived.Test.YtmdlmjcejeejfaaGreatDoorE4
set_option linter.unusedVariables false
set_option linter.unusedSimpArgs false
namespace Go.Proofs.YtmdlmjcejeejfaaGreatDoor
open Go.RowKit Go.Shelf

def cmpVP : Value := .func (.func 25) #[] #[]
/-- What is asked of the comparison. -/
def CmpOKP (O : Ordr RepB) (ok : RepB → Prop) : Prop := ∀ (x1 : ByteArray) (x2 : ByteArray) (x3 : ByteArray) (x4 : ByteArray) (z1 : ByteArray) (z2 : ByteArray) (z3 : ByteArray) (z4 : ByteArray) w, ok ((x1, x2), (x3, x4)) → ok ((z1, z2), (z3, z4)) → Calls Tryz.prog 25 #[.agg #[.string x1, .string x2, .string x3, .string x4], .agg #[.string z1, .string z2, .string z3, .string z4]] w (IntOut (O.c ((x1, x2), (x3, x4)) ((z1, z2), (z3, z4))) w)
theorem wcellP {w0 w : World} {g c n : Nat} {xs : List RepB} (h : Work repR 56 w0 g c n w xs) {i : Nat} {x1 : ByteArray} {x2 : ByteArray} {x3 : ByteArray} {x4 : ByteArray} (hi : xs[i]? = some ((x1, x2), (x3, x4))) : w.cell? ⟨g, i * 4, none⟩ = some (.string x1) ∧ w.cell? ⟨g, i * 4 + 1, none⟩ = some (.string x2) ∧ w.cell? ⟨g, i * 4 + 2, none⟩ = some (.string x3) ∧ w.cell? ⟨g, i * 4 + 3, none⟩ = some (.string x4) := ⟨h.cells hi 0 _ rfl, h.cells hi 1 _ rfl, h.cells hi 2 _ rfl, h.cells hi 3 _ rfl⟩
theorem wswapP {w0 w : World} {g c n : Nat} {P M S : List RepB} (x1 : ByteArray) (x2 : ByteArray) (x3 : ByteArray) (x4 : ByteArray) (y1 : ByteArray) (y2 : ByteArray) (y3 : ByteArray) (y4 : ByteArray) (h : Work repR 56 w0 g c n w (P ++ ((x1, x2), (x3, x4)) :: M ++ ((y1, y2), (y3, y4)) :: S)) : Work repR 56 w0 g c n ((((((((w.setCell ⟨g, P.length * 4, none⟩ (.string y1)).setCell ⟨g, P.length * 4 + 1, none⟩ (.string y2)).setCell ⟨g, P.length * 4 + 2, none⟩ (.string y3)).setCell ⟨g, P.length * 4 + 3, none⟩ (.string y4)).setCell ⟨g, (P.length + 1 + M.length) * 4, none⟩ (.string x1)).setCell ⟨g, (P.length + 1 + M.length) * 4 + 1, none⟩ (.string x2)).setCell ⟨g, (P.length + 1 + M.length) * 4 + 2, none⟩ (.string x3)).setCell ⟨g, (P.length + 1 + M.length) * 4 + 3, none⟩ (.string x4)) (P ++ ((y1, y2), (y3, y4)) :: M ++ ((x1, x2), (x3, x4)) :: S) := h.swap
theorem wswapP' {w0 w : World} {g c n : Nat} {P M S : List RepB} (x1 : ByteArray) (x2 : ByteArray) (x3 : ByteArray) (x4 : ByteArray) (y1 : ByteArray) (y2 : ByteArray) (y3 : ByteArray) (y4 : ByteArray) (h : Work repR 56 w0 g c n w (P ++ ((x1, x2), (x3, x4)) :: M ++ ((y1, y2), (y3, y4)) :: S)) : Work repR 56 w0 g c n ((((((((w.setCell ⟨g, (P.length + 1 + M.length) * 4, none⟩ (.string x1)).setCell ⟨g, (P.length + 1 + M.length) * 4 + 1, none⟩ (.string x2)).setCell ⟨g, (P.length + 1 + M.length) * 4 + 2, none⟩ (.string x3)).setCell ⟨g, (P.length + 1 + M.length) * 4 + 3, none⟩ (.string x4)).setCell ⟨g, P.length * 4, none⟩ (.string y1)).setCell ⟨g, P.length * 4 + 1, none⟩ (.string y2)).setCell ⟨g, P.length * 4 + 2, none⟩ (.string y3)).setCell ⟨g, P.length * 4 + 3, none⟩ (.string y4)) (P ++ ((y1, y2), (y3, y4)) :: M ++ ((x1, x2), (x3, x4)) :: S) := h.swap'

set_option maxRecDepth 100000 in
set_option maxHeartbeats 4000000 in
theorem swapRange_anyP (w0 : World) (g c n : Nat) (w : World) (P A M C S : List RepB) (hw : Work repR 56 w0 g c n w (P ++ A ++ M ++ C ++ S)) (hc : C.length = A.length) (a b m : Nat) (ha : a = P.length) (hb : b = P.length + A.length + M.length) (hm : m = A.length) (hn : n ≤ 1000) :
    Calls Tryz.prog 192 #[.slice (some ⟨g, 0, none⟩) n c, .int .i64 a, .int .i64 b, .int .i64 m, cmpVP] w (DoneOut repR 56 w0 g c n (P ++ C ++ M ++ A ++ S)) := by
  have hlen := hw.len
  simp only [List.length_append] at hlen
  have hbn : b + m ≤ n := by omega
  have hab : a + m ≤ b := by omega
  have HW := Lib.hid hw
  have HN := Lib.hid (fun ys k (h : SwapAt P A M C S k ys) (hk : k < m) => h.next (by omega) hc)
  have H0 := Lib.hid (show SwapAt P A M C S 0 (P ++ A ++ M ++ C ++ S) by simp [SwapAt])
  have HE := Lib.hid (fun ys k (h : SwapAt P A M C S k ys) (hk : k = m) => show ys = P ++ C ++ M ++ A ++ S by subst hk; rw [h, hm, List.take_of_length_le (Nat.le_of_eq hc), List.take_length, List.drop_length, List.drop_of_length_le (Nat.le_of_eq hc)]; simp)
  have HA := Lib.hid ha
  have HB := Lib.hid hb
  clear hw hlen ha hb hm hc
  unfold cmpVP
  go_enter Tryz.func192, Tryz.ntmps192
  go_wp2
  go_loopw [10] (fun i wr => ∃ (k : Nat) (ys : List RepB), k ≤ m ∧ i = .int .i64 k ∧ SwapAt P A M C S k ys ∧ Work repR 56 w0 g c n wr ys) (fun i _ => m - (intOf i).toNat)
  case atStart => exact ⟨0, _, Nat.zero_le _, rfl, H0.out, HW.out⟩
  case round =>
    obtain ⟨k, ys, hk, rfl, hsw, hwk⟩ := hrel
    by_cases hlt : k < m
    · obtain ⟨P', M', S', ⟨⟨x1, x2⟩, ⟨x3, x4⟩⟩, ⟨⟨y1, y2⟩, ⟨y3, y4⟩⟩, rfl, h1, h2, h3⟩ := HN.out ys k hsw hlt
      have d1 : P'.length = a + k := by rw [h1, HA.out]
      have d2 : P'.length + 1 + M'.length = b + k := by rw [h2, HB.out]
      obtain ⟨q0, q1, q2, q3⟩ := wcellP hwk (at_two P' M' S' _ _).1
      obtain ⟨r0, r1, r2, r3⟩ := wcellP hwk (at_two P' M' S' _ _).2
      have HS := Lib.hid (wswapP x1 x2 x3 x4 y1 y2 y3 y4 hwk)
      rw [d2] at r0 r1 r2 r3 HS
      rw [d1] at q0 q1 q2 q3 HS
      have f0 := hwk.frozen ((a + k) * 4)
      have f1 := hwk.frozen ((a + k) * 4 + 1)
      have f2 := hwk.frozen ((a + k) * 4 + 2)
      have f3 := hwk.frozen ((a + k) * 4 + 3)
      have e0 := hwk.frozen ((b + k) * 4)
      have e1 := hwk.frozen ((b + k) * 4 + 1)
      have e2 := hwk.frozen ((b + k) * 4 + 2)
      have e3 := hwk.frozen ((b + k) * 4 + 3)
      have t1 : ((a : Int) + (k : Int)).toNat = a + k := by omega
      have t2 : ((b : Int) + (k : Int)).toNat = b + k := by omega
      have i1 : (0 : Int) ≤ (a : Int) + (k : Int) := by omega
      have i2 : (a : Int) + (k : Int) < (n : Int) := by omega
      have i3 : (0 : Int) ≤ (b : Int) + (k : Int) := by omega
      have i4 : (b : Int) + (k : Int) < (n : Int) := by omega
      have H3 := Lib.hid h3
      clear hsw h1 h2 h3 hwk d1 d2
      go_wp2
      go_region
      go_wp2
      go_roundw
      case rel => exact ⟨k + 1, _, by omega, by go_num, H3.out, HS.out.drew⟩
      case measure => simp [intOf]; omega
    · have HEE := Lib.hid (HE.out ys k hsw (by omega))
      clear hsw
      go_wp2
      go_end0
      rw [← HEE.out]
      exact ⟨rfl, hwk⟩
set_option maxRecDepth 100000 in
set_option maxHeartbeats 4000000 in
theorem rotate_anyP (w0 : World) (g c n : Nat) (w : World) (P A C S : List RepB) (hw : Work repR 56 w0 g c n w (P ++ A ++ C ++ S)) (a m b : Nat) (ha : a = P.length) (hm : m = P.length + A.length) (hb : b = P.length + A.length + C.length) (h1 : a < m) (h2 : m < b) (hn : n ≤ 1000) :
    Calls Tryz.prog 163 #[.slice (some ⟨g, 0, none⟩) n c, .int .i64 a, .int .i64 m, .int .i64 b, cmpVP] w (DoneOut repR 56 w0 g c n (P ++ C ++ A ++ S)) := by
  have hlen := hw.len
  simp only [List.length_append] at hlen
  have hbn : b ≤ n := by omega
  have H0 := Lib.hid (show RotAt (P ++ C ++ A ++ S) m (m - a) (b - m) (P ++ A ++ C ++ S) from ⟨P, A, C, S, rfl, rfl, by omega, by omega, by omega⟩)
  generalize P ++ C ++ A ++ S = T at *
  have HW := Lib.hid hw
  clear hw hlen ha hb hm
  have ew1 : ((m : Int) - (a : Int)) = ((m - a : Nat) : Int) := by omega
  have ew2 : ((b : Int) - (m : Int)) = ((b - m : Nat) : Int) := by omega
  go_enter Tryz.func163, Tryz.ntmps163
  go_wp2
  go_loopw [10, 11] (fun i j wr => ∃ (k l : Nat) (ys : List RepB), 0 < k ∧ 0 < l ∧ k ≤ m ∧ m + l ≤ b ∧ i = .int .i64 k ∧ j = .int .i64 l ∧ RotAt T m k l ys ∧ Work repR 56 w0 g c n wr ys) (fun i j _ => (intOf i + intOf j).toNat)
  case atStart => exact ⟨m - a, b - m, _, by omega, by omega, by omega, by omega, by go_num, by go_num, H0.out, HW.out⟩
  case round =>
    obtain ⟨k, l, ys, hk0, hl0, hkm, hlb, rfl, rfl, hr, hwk⟩ := hrel
    have ek : ((m : Int) - (k : Int)) = ((m - k : Nat) : Int) := by omega
    by_cases heq : k = l
    · subst heq
      obtain ⟨P, A, M, C, S, rfl, q1, q2, q3, q4, q5⟩ := hr.last
      have HX := Lib.hid (swapRange_anyP w0 g c n _ P A M C S hwk q1 (m - k) m k q2 q3 q4 hn)
      rw [q5] at HX
      clear hr q1 q2 q3 q4 q5 hwk
      go_wp2_with fail
      refine HX.out.mono ?_
      rintro _ w1 ⟨rfl, hd⟩
      go_wp2
      go_end0
      exact ⟨rfl, hd⟩
    · by_cases hlt : l < k
      · obtain ⟨P, A, M, C, S, rfl, q1, q2, q3, q4, q5⟩ := hr.more hlt
        have HX := Lib.hid (swapRange_anyP w0 g c n _ P A M C S hwk q1 (m - k) m l q2 q3 q4 hn)
        have H5 := Lib.hid q5
        clear hr q1 q2 q3 q4 q5 hwk
        generalize P ++ C ++ M ++ A ++ S = zs at *
        go_wp2_with fail
        refine HX.out.mono ?_
        rintro _ w1 ⟨rfl, hd⟩
        go_wp2
        go_roundw
        case rel => exact ⟨k - l, l, zs, by omega, by omega, by omega, by omega, by go_num, rfl, H5.out, hd⟩
        case measure => simp [intOf]; omega
      · obtain ⟨P, A, M, C, S, rfl, q1, q2, q3, q4, q5⟩ := hr.less (by omega)
        have HX := Lib.hid (swapRange_anyP w0 g c n _ P A M C S hwk q1 (m - k) (m + l - k) k q2 q3 q4 hn)
        have H5 := Lib.hid q5
        clear hr q1 q2 q3 q4 q5 hwk
        generalize P ++ C ++ M ++ A ++ S = zs at *
        have ek2 : ((m : Int) + (l : Int) - (k : Int)) = ((m + l - k : Nat) : Int) := by omega
        go_wp2_with fail
        refine HX.out.mono ?_
        rintro _ w1 ⟨rfl, hd⟩
        go_wp2
        go_roundw
        case rel => exact ⟨k, l - k, zs, by omega, by omega, by omega, by omega, rfl, by go_num, H5.out, hd⟩
        case measure => simp [intOf]; omega
end Go.Proofs.YtmdlmjcejeejfaaGreatDoor

/-
  The stable sort at RepB: the insertion sort of a part.
-/
set_option linter.unusedVariables false
set_option linter.unusedSimpArgs false
namespace Go.Proofs.YtmdlmjcejeejfaaGreatDoor
open Go.RowKit Go.Shelf

set_option maxRecDepth 100000 in
set_option maxHeartbeats 4000000 in
theorem insertion_anyP (O : Ordr RepB) (ok : RepB → Prop) (hcmp : CmpOKP O ok) (w0 : World) (g c n : Nat) (w : World) (P A S : List RepB) (hw : Work repR 56 w0 g c n w (P ++ A ++ S)) (hs : Each ok (P ++ A ++ S)) (a b : Nat) (ha : a = P.length) (hb : b = P.length + A.length) (hn : n ≤ 1000) :
    Calls Tryz.prog 110 #[.slice (some ⟨g, 0, none⟩) n c, .int .i64 a, .int .i64 b, cmpVP] w (fun e w' => e = .returned (.tuple #[]) ∧ ∃ ys, Parted O P A S ys ∧ Each ok ys ∧ Work repR 56 w0 g c n w' ys) := by
  have hlen := hw.len
  simp only [List.length_append] at hlen
  have hbn : b ≤ n := by omega
  have HW := Lib.hid hw
  have HCMP := Lib.hid hcmp
  clear hcmp
  have HSh := Lib.hid hs
  clear hs
  have H0 := Lib.hid (SortAt.start (O := O) P A S)
  have HN := Lib.hid (fun ys k (h : SortAt O P A S k ys) (hk : a + k < b) => h.next (by omega))
  have HD := Lib.hid (fun ys k (h : SortAt O P A S k ys) (hk : b ≤ a + k) => h.done (by omega))
  have HA := Lib.hid ha
  have hab : a ≤ b := by omega
  clear hw hlen ha hb
  unfold cmpVP
  go_enter Tryz.func110, Tryz.ntmps110
  go_wp2
  go_loopw [8] (fun i wr => ∃ (k : Nat) (ys : List RepB), 1 ≤ k ∧ (k = 1 ∨ a + k ≤ b) ∧ i = .int .i64 ((a + k : Nat) : Int) ∧ SortAt O P A S k ys ∧ Each ok ys ∧ Work repR 56 w0 g c n wr ys) (fun i _ => b + 1 - (intOf i).toNat)
  case atStart => exact ⟨1, _, Nat.le_refl _, .inl rfl, by go_num, H0.out, HSh.out, HW.out⟩
  case round =>
    obtain ⟨k, ys, hk1, hkb, rfl, hso, hsy, hwk⟩ := hrel
    have HSO := Lib.hid hso
    have HSY := Lib.hid hsy
    clear hso hsy
    obtain ⟨ik, hik⟩ : ∃ ik, a + k = ik := ⟨_, rfl⟩
    rw [hik] at hkb ⊢
    by_cases hlt : ik < b
    · obtain ⟨A1, ⟨⟨x1, x2⟩, ⟨x3, x4⟩⟩, S', hr1, hia, hfin⟩ := HN.out ys k HSO.out (by omega)
      have HR1 := Lib.hid hr1
      have HIA := Lib.hid (show InsAt O P A1 ((x1, x2), (x3, x4)) S' ik ys by rw [← hik, HA.out]; exact hia)
      have HF := Lib.hid hfin
      clear hr1 hia hfin
      go_wp2
      go_loopw [9] (fun j wi => ∃ (jn : Nat) (zs : List RepB), a ≤ jn ∧ jn ≤ ik ∧ j = .int .i64 jn ∧ InsAt O P A1 ((x1, x2), (x3, x4)) S' jn zs ∧ Each ok zs ∧ Work repR 56 w0 g c n wi zs) (fun j _ => (intOf j).toNat)
      case atStart => exact ⟨ik, ys, by omega, Nat.le_refl _, rfl, HIA.out, HSY.out, hwk⟩
      case round =>
        obtain ⟨jn, zs, hj1, hj2, rfl, hins, hsz, hwi⟩ := hrel
        by_cases hja : a < jn
        · obtain ⟨P', ⟨⟨z1, z2⟩, ⟨z3, z4⟩⟩, S'', rfl, hj, hyes, hno⟩ := hins.next HR1.out (by rw [← HA.out]; exact hja)
          have HY := Lib.hid hyes
          have HNo := Lib.hid hno
          have e2 : P'.length + 1 + ([] : List RepB).length = jn := by simp; omega
          have sx : ok ((x1, x2), (x3, x4)) := hsz _ (by simp)
          have sz : ok ((z1, z2), (z3, z4)) := hsz _ (by simp)
          have HZ := Lib.hid hsz
          have HZ2 := Lib.hid (each_swap hsz)
          have HC := Lib.hid (fun w' (h : Work repR 56 w0 g c n w' (P' ++ ((z1, z2), (z3, z4)) :: [] ++ ((x1, x2), (x3, x4)) :: S'')) => And.intro (wcellP h (at_two P' [] S'' _ _).1) (wcellP h (at_two P' [] S'' _ _).2))
          have HSw := Lib.hid (fun w' (h : Work repR 56 w0 g c n w' (P' ++ ((z1, z2), (z3, z4)) :: [] ++ ((x1, x2), (x3, x4)) :: S'')) => wswapP' z1 z2 z3 z4 x1 x2 x3 x4 h)
          clear hyes hno hsz hins
          obtain ⟨jm, e1⟩ : ∃ jm, P'.length = jm := ⟨_, rfl⟩
          rw [e2] at HC HSw
          rw [e1] at HC HSw HY
          have HJ := Lib.hid (show jn = jm + 1 by omega)
          have t1 : (jn : Int) - 1 = (jm : Int) := by omega
          have t2 : jm < n := by omega
          have t3 : jn < n := by omega
          have t4 : (jm : Int) < (n : Int) := by omega
          have t5 : (jn : Int) < (n : Int) := by omega
          have t6 : IntKind.i64.wrap (jm : Int) = (jm : Int) := IntWalk.i64_in _ (by omega)
          clear hj e1 e2
          obtain ⟨⟨q0, q1, q2, q3⟩, ⟨r0, r1, r2, r3⟩⟩ := HC.out _ hwi
          have hgz := hwi.lt
          by_cases hcm : O.c ((x1, x2), (x3, x4)) ((z1, z2), (z3, z4)) < 0
          · go_wp2
            go_region_held3 (fun w' => w'.cell? ⟨g, jn * 4, none⟩ = some (.string x1) ∧ w'.cell? ⟨g, jn * 4 + 1, none⟩ = some (.string x2) ∧ w'.cell? ⟨g, jn * 4 + 2, none⟩ = some (.string x3) ∧ w'.cell? ⟨g, jn * 4 + 3, none⟩ = some (.string x4) ∧ w'.cell? ⟨g, jm * 4, none⟩ = some (.string z1) ∧ w'.cell? ⟨g, jm * 4 + 1, none⟩ = some (.string z2) ∧ w'.cell? ⟨g, jm * 4 + 2, none⟩ = some (.string z3) ∧ w'.cell? ⟨g, jm * 4 + 3, none⟩ = some (.string z4))
              (first | go_keep | with_reducible exact K2.out)
              (first | (go_at_call 25; refine (HCMP.out x1 x2 x3 x4 z1 z2 z3 z4 _ sx sz).mono ?_; rintro e w2 ⟨rfl, hb2'⟩; have hb2 := below_drewN' (n := 1) hb2'; have K2 := Lib.hid (And.intro ((hb2.cell (p := ⟨g, jn * 4, none⟩) hgz).trans r0) (And.intro ((hb2.cell (p := ⟨g, jn * 4 + 1, none⟩) hgz).trans r1) (And.intro ((hb2.cell (p := ⟨g, jn * 4 + 2, none⟩) hgz).trans r2) (And.intro ((hb2.cell (p := ⟨g, jn * 4 + 3, none⟩) hgz).trans r3) (And.intro ((hb2.cell (p := ⟨g, jm * 4, none⟩) hgz).trans q0) (And.intro ((hb2.cell (p := ⟨g, jm * 4 + 1, none⟩) hgz).trans q1) (And.intro ((hb2.cell (p := ⟨g, jm * 4 + 2, none⟩) hgz).trans q2) ((hb2.cell (p := ⟨g, jm * 4 + 3, none⟩) hgz).trans q3))))))))))
            rename_i hheld
            clear hheld K2 hb2'
            have hw2 := hwi.call hb2
            obtain ⟨⟨p0, p1, p2, p3⟩, ⟨o0, o1, o2, o3⟩⟩ := HC.out _ hw2
            have f0 := hw2.frozen (jn * 4)
            have f1 := hw2.frozen (jn * 4 + 1)
            have f2 := hw2.frozen (jn * 4 + 2)
            have f3 := hw2.frozen (jn * 4 + 3)
            have e0 := hw2.frozen (jm * 4)
            have e1 := hw2.frozen (jm * 4 + 1)
            have e2 := hw2.frozen (jm * 4 + 2)
            have e3 := hw2.frozen (jm * 4 + 3)
            have HSS := Lib.hid (HSw.out _ hw2)
            clear hb2 q0 q1 q2 q3 r0 r1 r2 r3 hgz hwi
            go_wp2
            go_region
            go_wp2
            go_roundw
            case rel => exact ⟨jm, _, by have := HJ.out; omega, by have := HJ.out; omega, by go_num, HY.out hcm, HZ2.out, HSS.out.drew⟩
            case measure => have := HJ.out; simp [intOf]; omega
          · go_wp2
            go_region_held3 (fun w' => w'.cell? ⟨g, jn * 4, none⟩ = some (.string x1) ∧ w'.cell? ⟨g, jn * 4 + 1, none⟩ = some (.string x2) ∧ w'.cell? ⟨g, jn * 4 + 2, none⟩ = some (.string x3) ∧ w'.cell? ⟨g, jn * 4 + 3, none⟩ = some (.string x4) ∧ w'.cell? ⟨g, jm * 4, none⟩ = some (.string z1) ∧ w'.cell? ⟨g, jm * 4 + 1, none⟩ = some (.string z2) ∧ w'.cell? ⟨g, jm * 4 + 2, none⟩ = some (.string z3) ∧ w'.cell? ⟨g, jm * 4 + 3, none⟩ = some (.string z4))
              (first | go_keep | with_reducible exact K2.out)
              (first | (go_at_call 25; refine (HCMP.out x1 x2 x3 x4 z1 z2 z3 z4 _ sx sz).mono ?_; rintro e w2 ⟨rfl, hb2'⟩; have hb2 := below_drewN' (n := 1) hb2'; have K2 := Lib.hid (And.intro ((hb2.cell (p := ⟨g, jn * 4, none⟩) hgz).trans r0) (And.intro ((hb2.cell (p := ⟨g, jn * 4 + 1, none⟩) hgz).trans r1) (And.intro ((hb2.cell (p := ⟨g, jn * 4 + 2, none⟩) hgz).trans r2) (And.intro ((hb2.cell (p := ⟨g, jn * 4 + 3, none⟩) hgz).trans r3) (And.intro ((hb2.cell (p := ⟨g, jm * 4, none⟩) hgz).trans q0) (And.intro ((hb2.cell (p := ⟨g, jm * 4 + 1, none⟩) hgz).trans q1) (And.intro ((hb2.cell (p := ⟨g, jm * 4 + 2, none⟩) hgz).trans q2) ((hb2.cell (p := ⟨g, jm * 4 + 3, none⟩) hgz).trans q3))))))))))
            rename_i hheld
            clear hheld K2 hb2'
            have hw2 := hwi.call hb2
            have HP := Lib.hid (HF.out _ (HNo.out hcm))
            clear hb2 q0 q1 q2 q3 r0 r1 r2 r3 hgz hwi
            go_wp2
            go_roundw
            case rel => exact ⟨k + 1, _, by omega, by omega, by go_num, HP.out, HZ.out, hw2⟩
            case measure => simp [intOf]; omega
        · have HP := Lib.hid (HF.out _ (hins.low HR1.out (by rw [← HA.out]; omega)))
          have HZ := Lib.hid hsz
          have hjd : jn = a := by omega
          subst hjd
          clear hins hsz
          go_wp2
          go_quiet (fail)
          go_wp2
          go_roundw
          case rel => exact ⟨k + 1, _, by omega, by omega, by go_num, HP.out, HZ.out, hwi.drewN _⟩
          case measure => simp [intOf]; omega
    · have HP := Lib.hid (HD.out _ _ HSO.out (by omega))
      go_wp2
      go_end0
      exact ⟨rfl, _, HP.out, HSY.out, hwk⟩
end Go.Proofs.YtmdlmjcejeejfaaGreatDoor

/-
  The stable sort at RepB: merges of one with a part.
-/
set_option linter.unusedVariables false
set_option linter.unusedSimpArgs false
namespace Go.Proofs.YtmdlmjcejeejfaaGreatDoor
open Go.RowKit Go.Shelf

set_option maxRecDepth 100000 in
set_option maxHeartbeats 4000000 in
theorem merge_firstP (O : Ordr RepB) (ok : RepB → Prop) (hcmp : CmpOKP O ok) (w0 : World) (g c n : Nat) (w : World) (P : List RepB) (x : RepB) (C S : List RepB) (hw : Work repR 56 w0 g c n w (P ++ [x] ++ C ++ S)) (hs : Each ok (P ++ [x] ++ C ++ S)) (hc : Rises O C) (a m b : Nat) (ha : a = P.length) (hm : m = P.length + 1) (hb : b = P.length + 1 + C.length) (hn : n ≤ 1000) :
    Calls Tryz.prog 111 #[.slice (some ⟨g, 0, none⟩) n c, .int .i64 a, .int .i64 m, .int .i64 b, cmpVP] w (MergeOut repR 56 O ok w0 g c n P (x :: C) S) := by
  obtain ⟨⟨x1, x2⟩, ⟨x3, x4⟩⟩ := x
  have hlen := hw.len
  simp only [List.length_append, List.length_singleton] at hlen
  have hbn : b ≤ n := by omega
  have HW := Lib.hid hw
  have HCMP := Lib.hid hcmp
  clear hcmp
  have HSh := Lib.hid hs
  have HMo := Lib.hid (first_mono (P := P) (x := ((x1, x2), (x3, x4))) (S := S) hc)
  have HCu := Lib.hid (fun e => first_cut (P := P) (x := ((x1, x2), (x3, x4))) (S := S) (e := e) hc)
  have HU0 := Lib.hid (show UpAt P ((x1, x2), (x3, x4)) C S 0 (P ++ [((x1, x2), (x3, x4))] ++ C ++ S) by simp [UpAt])
  have sx : ok ((x1, x2), (x3, x4)) := hs _ (by simp)
  have qx : (P ++ [((x1, x2), (x3, x4))] ++ C ++ S)[a]? = some ((x1, x2), (x3, x4)) := by rw [ha]; simp
  have HX := Lib.hid (fun w' (h : Work repR 56 w0 g c n w' (P ++ [((x1, x2), (x3, x4))] ++ C ++ S)) => wcellP h qx)
  have HA := Lib.hid ha
  have HM := Lib.hid hm
  have HB := Lib.hid hb
  have hcl : b = m + C.length := by omega
  have HCL := Lib.hid hcl
  have hma : m = a + 1 := by omega
  have HMA := Lib.hid hma
  have hmb : m ≤ b := by omega
  have han : a < n := by omega
  have hti : (m : Int) - (a : Int) = 1 := by omega
  have han' : (a : Int) < (n : Int) := by omega
  have HXS := Lib.hid (fun q => some_at (xs := P ++ [((x1, x2), (x3, x4))] ++ C ++ S) (q := q))
  have HL := Lib.hid (show (P ++ [((x1, x2), (x3, x4))] ++ C ++ S).length = n from hw.len)
  rw [← hm] at HMo HCu
  clear hw hlen ha hb hm hs hcl hma qx hc
  generalize hxs : P ++ [((x1, x2), (x3, x4))] ++ C ++ S = xs at *
  have HQ := Lib.hid hxs
  clear hxs
  unfold cmpVP
  go_enter Tryz.func111, Tryz.ntmps111
  go_wp2
  go_loopw [10, 11] (fun i j wr => ∃ (k l : Nat), i = .int .i64 k ∧ j = .int .i64 l ∧ Sk (fun q => O.c (keyAt xs q) ((x1, x2), (x3, x4)) < 0) m (m + C.length) k l ∧ Work repR 56 w0 g c n wr xs) (fun i j _ => (intOf j - intOf i).toNat)
  case atStart => exact ⟨m, b, rfl, rfl, by rw [HCL.out]; exact Sk.start _ (by omega), HW.out⟩
  case round =>
    obtain ⟨k, l, rfl, rfl, hsk, hwk⟩ := hrel
    have hk1 := hsk.a
    have hk2 := hsk.b
    have hk3 := hsk.c
    rw [← HCL.out] at hk3
    by_cases hlt : k < l
    · obtain ⟨h, hh⟩ : ∃ h, (k + l) / 2 = h := ⟨_, rfl⟩
      obtain ⟨⟨⟨z1, z2⟩, ⟨z3, z4⟩⟩, qz, ez⟩ := HXS.out ((k + l) / 2) (by rw [HL.out]; omega)
      obtain ⟨q0, q1, q2, q3⟩ := wcellP hwk qz
      obtain ⟨r0, r1, r2, r3⟩ := HX.out _ hwk
      have sz : ok ((z1, z2), (z3, z4)) := HSh.out _ (List.mem_of_getElem? qz)
      have hgz := hwk.lt
      have hb1 : (k + l) / 2 < n := by omega
      have hb3 : (0 : Int) ≤ ((k : Int) + (l : Int)) / 2 := by omega
      have hb4 : ((k : Int) + (l : Int)) / 2 < (n : Int) := by omega
      have hb5 : (0 : Int) ≤ (a : Int) := by omega
      have hb6 : (((k : Int) + (l : Int)) / 2).toNat = (k + l) / 2 := by omega
      have HUp := Lib.hid (fun e => hsk.up HMo.out (h := (k + l) / 2) (by omega) (by omega) e)
      have HDn := Lib.hid (fun e => hsk.down HMo.out (h := (k + l) / 2) (by omega) (by omega) e)
      simp only [← ez] at HUp HDn
      clear hsk qz ez hh
      by_cases hcm : O.c ((z1, z2), (z3, z4)) ((x1, x2), (x3, x4)) < 0
      · go_wp2
        go_region_held3 (fun w' => w'.cell? ⟨g, (k + l) / 2 * 4, none⟩ = some (.string z1) ∧ w'.cell? ⟨g, (k + l) / 2 * 4 + 1, none⟩ = some (.string z2) ∧ w'.cell? ⟨g, (k + l) / 2 * 4 + 2, none⟩ = some (.string z3) ∧ w'.cell? ⟨g, (k + l) / 2 * 4 + 3, none⟩ = some (.string z4) ∧ w'.cell? ⟨g, a * 4, none⟩ = some (.string x1) ∧ w'.cell? ⟨g, a * 4 + 1, none⟩ = some (.string x2) ∧ w'.cell? ⟨g, a * 4 + 2, none⟩ = some (.string x3) ∧ w'.cell? ⟨g, a * 4 + 3, none⟩ = some (.string x4))
          (first | go_keep | with_reducible exact K2.out)
          (first | (go_at_call 25; refine (HCMP.out z1 z2 z3 z4 x1 x2 x3 x4 _ sz sx).mono ?_; rintro e w2 ⟨rfl, hb2'⟩; have hb2 := below_drewN' (n := 1) hb2'; have K2 := Lib.hid (And.intro ((hb2.cell (p := ⟨g, (k + l) / 2 * 4, none⟩) hgz).trans q0) (And.intro ((hb2.cell (p := ⟨g, (k + l) / 2 * 4 + 1, none⟩) hgz).trans q1) (And.intro ((hb2.cell (p := ⟨g, (k + l) / 2 * 4 + 2, none⟩) hgz).trans q2) (And.intro ((hb2.cell (p := ⟨g, (k + l) / 2 * 4 + 3, none⟩) hgz).trans q3) (And.intro ((hb2.cell (p := ⟨g, a * 4, none⟩) hgz).trans r0) (And.intro ((hb2.cell (p := ⟨g, a * 4 + 1, none⟩) hgz).trans r1) (And.intro ((hb2.cell (p := ⟨g, a * 4 + 2, none⟩) hgz).trans r2) ((hb2.cell (p := ⟨g, a * 4 + 3, none⟩) hgz).trans r3))))))))))
        rename_i hheld
        clear hheld K2 hb2'
        have hw2 := hwk.call hb2
        have HP := Lib.hid (HUp.out hcm)
        clear hb2 q0 q1 q2 q3 r0 r1 r2 r3 hgz hwk
        go_wp2
        go_roundw
        case rel => exact ⟨(k + l) / 2 + 1, l, by go_num, rfl, HP.out, hw2⟩
        case measure => simp [intOf]; omega
      · go_wp2
        go_region_held3 (fun w' => w'.cell? ⟨g, (k + l) / 2 * 4, none⟩ = some (.string z1) ∧ w'.cell? ⟨g, (k + l) / 2 * 4 + 1, none⟩ = some (.string z2) ∧ w'.cell? ⟨g, (k + l) / 2 * 4 + 2, none⟩ = some (.string z3) ∧ w'.cell? ⟨g, (k + l) / 2 * 4 + 3, none⟩ = some (.string z4) ∧ w'.cell? ⟨g, a * 4, none⟩ = some (.string x1) ∧ w'.cell? ⟨g, a * 4 + 1, none⟩ = some (.string x2) ∧ w'.cell? ⟨g, a * 4 + 2, none⟩ = some (.string x3) ∧ w'.cell? ⟨g, a * 4 + 3, none⟩ = some (.string x4))
          (first | go_keep | with_reducible exact K2.out)
          (first | (go_at_call 25; refine (HCMP.out z1 z2 z3 z4 x1 x2 x3 x4 _ sz sx).mono ?_; rintro e w2 ⟨rfl, hb2'⟩; have hb2 := below_drewN' (n := 1) hb2'; have K2 := Lib.hid (And.intro ((hb2.cell (p := ⟨g, (k + l) / 2 * 4, none⟩) hgz).trans q0) (And.intro ((hb2.cell (p := ⟨g, (k + l) / 2 * 4 + 1, none⟩) hgz).trans q1) (And.intro ((hb2.cell (p := ⟨g, (k + l) / 2 * 4 + 2, none⟩) hgz).trans q2) (And.intro ((hb2.cell (p := ⟨g, (k + l) / 2 * 4 + 3, none⟩) hgz).trans q3) (And.intro ((hb2.cell (p := ⟨g, a * 4, none⟩) hgz).trans r0) (And.intro ((hb2.cell (p := ⟨g, a * 4 + 1, none⟩) hgz).trans r1) (And.intro ((hb2.cell (p := ⟨g, a * 4 + 2, none⟩) hgz).trans r2) ((hb2.cell (p := ⟨g, a * 4 + 3, none⟩) hgz).trans r3))))))))))
        rename_i hheld
        clear hheld K2 hb2'
        have hw2 := hwk.call hb2
        have HP := Lib.hid (HDn.out hcm)
        clear hb2 q0 q1 q2 q3 r0 r1 r2 r3 hgz hwk
        go_wp2
        go_roundw
        case rel => exact ⟨k, (k + l) / 2, rfl, by go_num, HP.out, hw2⟩
        case measure => simp [intOf]; omega
    · obtain rfl : k = l := by omega
      obtain ⟨e, rfl⟩ : ∃ e, k = m + e := ⟨k - m, by omega⟩
      have HR := Lib.hid (HCu.out e hsk)
      have hsub : ((m + e : Nat) : Int) - 1 = ((a + e : Nat) : Int) := by have := HMA.out; omega
      obtain ⟨ke, hke⟩ : ∃ ke, m + e = ke := ⟨_, rfl⟩
      have hae : a + e + 1 = ke := by have := HMA.out; omega
      have heC : e ≤ C.length := by have := HCL.out; omega
      rw [hke] at hsub hk1 hk2 hk3 ⊢
      have hsub' : (ke : Int) - 1 = (a : Int) + (e : Int) := by omega
      have HUN := Lib.hid (fun ys r (h : UpAt P ((x1, x2), (x3, x4)) C S r ys) (hr : r < e) => h.next (by omega))
      clear hsk hsub
      go_wp2
      go_loopw [13] (fun i wr => ∃ (r : Nat) (ys : List RepB), r ≤ e ∧ i = .int .i64 ((a + r : Nat) : Int) ∧ UpAt P ((x1, x2), (x3, x4)) C S r ys ∧ Each ok ys ∧ Work repR 56 w0 g c n wr ys) (fun i _ => (a + e) - (intOf i).toNat)
      case atStart => exact ⟨0, xs, Nat.zero_le _, rfl, HU0.out, HSh.out, hwk⟩
      case round =>
        obtain ⟨r, ys, hre, rfl, hup, hsy, hwy⟩ := hrel
        by_cases hrl : r < e
        · obtain ⟨P', ⟨⟨y1, y2⟩, ⟨y3, y4⟩⟩, S', rfl, hl, hup2⟩ := HUN.out ys r hup hrl
          have HS2 := Lib.hid (each_swap hsy)
          have HU2 := Lib.hid hup2
          have d1 : P'.length = a + r := by rw [hl, HA.out]
          have d2 : P'.length + 1 + ([] : List RepB).length = a + r + 1 := by simp [d1]
          obtain ⟨⟨q0, q1, q2, q3⟩, ⟨r0, r1, r2, r3⟩⟩ := And.intro (wcellP hwy (at_two P' [] S' _ _).1) (wcellP hwy (at_two P' [] S' _ _).2)
          have HSw := Lib.hid (wswapP x1 x2 x3 x4 y1 y2 y3 y4 hwy)
          rw [d2] at r0 r1 r2 r3 HSw
          rw [d1] at q0 q1 q2 q3 HSw
          obtain ⟨jm, hjm⟩ : ∃ jm, a + r = jm := ⟨_, rfl⟩
          rw [hjm] at q0 q1 q2 q3 r0 r1 r2 r3 HSw ⊢
          obtain ⟨jn, hjn⟩ : ∃ jn, jm + 1 = jn := ⟨_, rfl⟩
          rw [hjn] at r0 r1 r2 r3 HSw
          have t1 : (jm : Int) + 1 = (jn : Int) := by omega
          have t2 : (jm : Int) < (n : Int) := by omega
          have t3 : (jn : Int) < (n : Int) := by omega
          have t5 : jm < n := by omega
          have t6 : jn < n := by omega
          have t4 : IntKind.i64.wrap (jn : Int) = (jn : Int) := IntWalk.i64_in _ (by omega)
          have t7 : (jm : Int) < (a : Int) + (e : Int) := by omega
          have f0 := hwy.frozen (jn * 4)
          have f1 := hwy.frozen (jn * 4 + 1)
          have f2 := hwy.frozen (jn * 4 + 2)
          have f3 := hwy.frozen (jn * 4 + 3)
          have e0 := hwy.frozen (jm * 4)
          have e1 := hwy.frozen (jm * 4 + 1)
          have e2 := hwy.frozen (jm * 4 + 2)
          have e3 := hwy.frozen (jm * 4 + 3)
          have HJN := Lib.hid hjn
          clear hup hsy hl hup2 hwy d1 d2 hjn
          go_wp2
          go_region
          go_wp2
          go_roundw
          case rel => exact ⟨r + 1, _, by omega, by go_num, HU2.out, HS2.out, HSw.out.drew⟩
          case measure => have := HJN.out; simp [intOf]; omega
        · obtain rfl : r = e := by omega
          have HS2 := Lib.hid hsy
          have HU2 := Lib.hid hup
          clear hup hsy
          go_wp2
          go_end0
          exact ⟨rfl, ys, ⟨_, HR.out.1, HR.out.2, by rw [HU2.out]; simp⟩, HS2.out, hwy⟩

set_option maxRecDepth 100000 in
set_option maxHeartbeats 4000000 in
theorem merge_lastP (O : Ordr RepB) (ok : RepB → Prop) (hcmp : CmpOKP O ok) (w0 : World) (g c n : Nat) (w : World) (P A : List RepB) (y : RepB) (S : List RepB) (hw : Work repR 56 w0 g c n w (P ++ A ++ [y] ++ S)) (hs : Each ok (P ++ A ++ [y] ++ S)) (hA : Rises O A) (h2 : A.length ≠ 1) (a m b : Nat) (ha : a = P.length) (hm : m = P.length + A.length) (hb : b = P.length + A.length + 1) (hn : n ≤ 1000) :
    Calls Tryz.prog 111 #[.slice (some ⟨g, 0, none⟩) n c, .int .i64 a, .int .i64 m, .int .i64 b, cmpVP] w (MergeOut repR 56 O ok w0 g c n P (A ++ [y]) S) := by
  obtain ⟨⟨y1, y2⟩, ⟨y3, y4⟩⟩ := y
  have hlen := hw.len
  simp only [List.length_append, List.length_singleton] at hlen
  have hbn : b ≤ n := by omega
  have HW := Lib.hid hw
  have HCMP := Lib.hid hcmp
  clear hcmp
  have HSh := Lib.hid hs
  have HMo := Lib.hid (show ∀ q r, P.length ≤ q → q ≤ r → r < P.length + A.length → NotLess O ((y1, y2), (y3, y4)) (keyAt (P ++ A ++ [((y1, y2), (y3, y4))] ++ S) r) → NotLess O ((y1, y2), (y3, y4)) (keyAt (P ++ A ++ [((y1, y2), (y3, y4))] ++ S) q) from second_mono (P := P) (y := ((y1, y2), (y3, y4))) (S := S) hA)
  have HCu := Lib.hid (fun s (h : Sk (fun q => NotLess O ((y1, y2), (y3, y4)) (keyAt (P ++ A ++ [((y1, y2), (y3, y4))] ++ S) q)) P.length (P.length + A.length) (P.length + s) (P.length + s)) => second_cut (P := P) (y := ((y1, y2), (y3, y4))) (S := S) (s := s) hA h)
  have HU0 := Lib.hid (show DownAt P A ((y1, y2), (y3, y4)) S A.length (P ++ A ++ [((y1, y2), (y3, y4))] ++ S) by simp [DownAt])
  have sy : ok ((y1, y2), (y3, y4)) := hs _ (by simp)
  have qy : (P ++ A ++ [((y1, y2), (y3, y4))] ++ S)[m]? = some ((y1, y2), (y3, y4)) := by
    rw [hm, show P ++ A ++ [((y1, y2), (y3, y4))] ++ S = (P ++ A) ++ ((y1, y2), (y3, y4)) :: S by simp, ← List.length_append, at_mid]
  have HX := Lib.hid (fun w' (h : Work repR 56 w0 g c n w' (P ++ A ++ [((y1, y2), (y3, y4))] ++ S)) => wcellP h qy)
  have HA := Lib.hid ha
  have hcl : m = a + A.length := by omega
  have HCL := Lib.hid hcl
  have hma : a ≤ m := by omega
  have hmn : m < n := by omega
  have hti : ((m : Int) - (a : Int) == 1) = false := by
    rw [beq_eq_false_iff_ne]; omega
  have htj : (b : Int) - (m : Int) = 1 := by omega
  have hmn' : (m : Int) < (n : Int) := by omega
  have HXS := Lib.hid (fun q => some_at (xs := P ++ A ++ [((y1, y2), (y3, y4))] ++ S) (q := q))
  have HL := Lib.hid (show (P ++ A ++ [((y1, y2), (y3, y4))] ++ S).length = n from hw.len)
  rw [← ha] at HMo HCu
  clear hw hlen ha hb hm hs hcl qy hA h2
  generalize P ++ A ++ [((y1, y2), (y3, y4))] ++ S = xs at *
  unfold cmpVP
  go_enter Tryz.func111, Tryz.ntmps111
  go_wp2
  go_loopw [14, 15] (fun i j wr => ∃ (k l : Nat), i = .int .i64 k ∧ j = .int .i64 l ∧ Sk (fun q => NotLess O ((y1, y2), (y3, y4)) (keyAt xs q)) a (a + A.length) k l ∧ Work repR 56 w0 g c n wr xs) (fun i j _ => (intOf j - intOf i).toNat)
  case atStart => exact ⟨a, m, rfl, rfl, by rw [HCL.out]; exact Sk.start _ (by omega), HW.out⟩
  case round =>
    obtain ⟨k, l, rfl, rfl, hsk, hwk⟩ := hrel
    have hk1 := hsk.a
    have hk2 := hsk.b
    have hk3 := hsk.c
    rw [← HCL.out] at hk3
    by_cases hlt : k < l
    · obtain ⟨⟨⟨z1, z2⟩, ⟨z3, z4⟩⟩, qz, ez⟩ := HXS.out ((k + l) / 2) (by rw [HL.out]; omega)
      obtain ⟨q0, q1, q2, q3⟩ := wcellP hwk qz
      obtain ⟨r0, r1, r2, r3⟩ := HX.out _ hwk
      have sz : ok ((z1, z2), (z3, z4)) := HSh.out _ (List.mem_of_getElem? qz)
      have hgz := hwk.lt
      have hb1 : (k + l) / 2 < n := by omega
      have hb3 : (0 : Int) ≤ ((k : Int) + (l : Int)) / 2 := by omega
      have hb4 : ((k : Int) + (l : Int)) / 2 < (n : Int) := by omega
      have hb5 : (0 : Int) ≤ (m : Int) := by omega
      have hb6 : (((k : Int) + (l : Int)) / 2).toNat = (k + l) / 2 := by omega
      have HUp := Lib.hid (fun e => hsk.up HMo.out (h := (k + l) / 2) (by omega) (by omega) e)
      have HDn := Lib.hid (fun (e : O.c ((y1, y2), (y3, y4)) (keyAt xs ((k + l) / 2)) < 0) => hsk.down HMo.out (h := (k + l) / 2) (by omega) (by omega) (fun hq => hq e))
      rw [← ez] at HUp HDn
      clear hsk qz ez
      by_cases hcm : O.c ((y1, y2), (y3, y4)) ((z1, z2), (z3, z4)) < 0
      · have hcd : decide (O.c ((y1, y2), (y3, y4)) ((z1, z2), (z3, z4)) < 0) = true := decide_eq_true hcm
        have HCM := Lib.hid (HDn.out hcm)
        clear hcm HUp HDn
        go_wp2
        go_region_held3 (fun w' => w'.cell? ⟨g, (k + l) / 2 * 4, none⟩ = some (.string z1) ∧ w'.cell? ⟨g, (k + l) / 2 * 4 + 1, none⟩ = some (.string z2) ∧ w'.cell? ⟨g, (k + l) / 2 * 4 + 2, none⟩ = some (.string z3) ∧ w'.cell? ⟨g, (k + l) / 2 * 4 + 3, none⟩ = some (.string z4) ∧ w'.cell? ⟨g, m * 4, none⟩ = some (.string y1) ∧ w'.cell? ⟨g, m * 4 + 1, none⟩ = some (.string y2) ∧ w'.cell? ⟨g, m * 4 + 2, none⟩ = some (.string y3) ∧ w'.cell? ⟨g, m * 4 + 3, none⟩ = some (.string y4))
          (first | go_keep | with_reducible exact K2.out)
          (first | (go_at_call 25; refine (HCMP.out y1 y2 y3 y4 z1 z2 z3 z4 _ sy sz).mono ?_; rintro e w2 ⟨rfl, hb2'⟩; have hb2 := below_drewN' (n := 1) hb2'; have K2 := Lib.hid (And.intro ((hb2.cell (p := ⟨g, (k + l) / 2 * 4, none⟩) hgz).trans q0) (And.intro ((hb2.cell (p := ⟨g, (k + l) / 2 * 4 + 1, none⟩) hgz).trans q1) (And.intro ((hb2.cell (p := ⟨g, (k + l) / 2 * 4 + 2, none⟩) hgz).trans q2) (And.intro ((hb2.cell (p := ⟨g, (k + l) / 2 * 4 + 3, none⟩) hgz).trans q3) (And.intro ((hb2.cell (p := ⟨g, m * 4, none⟩) hgz).trans r0) (And.intro ((hb2.cell (p := ⟨g, m * 4 + 1, none⟩) hgz).trans r1) (And.intro ((hb2.cell (p := ⟨g, m * 4 + 2, none⟩) hgz).trans r2) ((hb2.cell (p := ⟨g, m * 4 + 3, none⟩) hgz).trans r3))))))))))
        rename_i hheld
        clear hheld K2 hb2'
        have hw2 := hwk.call hb2
        clear hb2 q0 q1 q2 q3 r0 r1 r2 r3 hgz hwk
        go_wp2
        go_roundw
        case rel => exact ⟨k, (k + l) / 2, rfl, by go_num, HCM.out, hw2⟩
        case measure => simp [intOf]; omega
      · have hcd : decide (O.c ((y1, y2), (y3, y4)) ((z1, z2), (z3, z4)) < 0) = false := decide_eq_false hcm
        have HCM := Lib.hid (HUp.out hcm)
        clear hcm HUp HDn
        go_wp2
        go_region_held3 (fun w' => w'.cell? ⟨g, (k + l) / 2 * 4, none⟩ = some (.string z1) ∧ w'.cell? ⟨g, (k + l) / 2 * 4 + 1, none⟩ = some (.string z2) ∧ w'.cell? ⟨g, (k + l) / 2 * 4 + 2, none⟩ = some (.string z3) ∧ w'.cell? ⟨g, (k + l) / 2 * 4 + 3, none⟩ = some (.string z4) ∧ w'.cell? ⟨g, m * 4, none⟩ = some (.string y1) ∧ w'.cell? ⟨g, m * 4 + 1, none⟩ = some (.string y2) ∧ w'.cell? ⟨g, m * 4 + 2, none⟩ = some (.string y3) ∧ w'.cell? ⟨g, m * 4 + 3, none⟩ = some (.string y4))
          (first | go_keep | with_reducible exact K2.out)
          (first | (go_at_call 25; refine (HCMP.out y1 y2 y3 y4 z1 z2 z3 z4 _ sy sz).mono ?_; rintro e w2 ⟨rfl, hb2'⟩; have hb2 := below_drewN' (n := 1) hb2'; have K2 := Lib.hid (And.intro ((hb2.cell (p := ⟨g, (k + l) / 2 * 4, none⟩) hgz).trans q0) (And.intro ((hb2.cell (p := ⟨g, (k + l) / 2 * 4 + 1, none⟩) hgz).trans q1) (And.intro ((hb2.cell (p := ⟨g, (k + l) / 2 * 4 + 2, none⟩) hgz).trans q2) (And.intro ((hb2.cell (p := ⟨g, (k + l) / 2 * 4 + 3, none⟩) hgz).trans q3) (And.intro ((hb2.cell (p := ⟨g, m * 4, none⟩) hgz).trans r0) (And.intro ((hb2.cell (p := ⟨g, m * 4 + 1, none⟩) hgz).trans r1) (And.intro ((hb2.cell (p := ⟨g, m * 4 + 2, none⟩) hgz).trans r2) ((hb2.cell (p := ⟨g, m * 4 + 3, none⟩) hgz).trans r3))))))))))
        rename_i hheld
        clear hheld K2 hb2'
        have hw2 := hwk.call hb2
        clear hb2 q0 q1 q2 q3 r0 r1 r2 r3 hgz hwk
        go_wp2
        go_roundw
        case rel => exact ⟨(k + l) / 2 + 1, l, by go_num, rfl, HCM.out, hw2⟩
        case measure => simp [intOf]; omega
    · obtain rfl : k = l := by omega
      obtain ⟨s, rfl⟩ : ∃ s, k = a + s := ⟨k - a, by omega⟩
      have HR := Lib.hid (HCu.out s hsk)
      obtain ⟨ks, hks⟩ : ∃ ks, a + s = ks := ⟨_, rfl⟩
      have hsA : s ≤ A.length := by have := HCL.out; omega
      rw [hks] at hk1 hk2 hk3 ⊢
      have HUN := Lib.hid (fun ys r (h : DownAt P A ((y1, y2), (y3, y4)) S (r + 1) ys) (hr : r < A.length) => h.next hr)
      clear hsk
      go_wp2
      go_loopw [17] (fun i wr => ∃ (r : Nat) (ys : List RepB), s ≤ r ∧ r ≤ A.length ∧ i = .int .i64 ((a + r : Nat) : Int) ∧ DownAt P A ((y1, y2), (y3, y4)) S r ys ∧ Each ok ys ∧ Work repR 56 w0 g c n wr ys) (fun i _ => (intOf i).toNat)
      case atStart => exact ⟨A.length, xs, hsA, Nat.le_refl _, by rw [HCL.out], HU0.out, HSh.out, hwk⟩
      case round =>
        obtain ⟨r, ys, hsr, hrA, rfl, hup, hsy, hwy⟩ := hrel
        by_cases hrl : s < r
        · obtain ⟨r, rfl⟩ : ∃ r', r = r' + 1 := ⟨r - 1, by omega⟩
          obtain ⟨P', ⟨⟨z1, z2⟩, ⟨z3, z4⟩⟩, S', rfl, hl, hup2⟩ := HUN.out ys r hup (by omega)
          have HS2 := Lib.hid (each_swap hsy)
          have HU2 := Lib.hid hup2
          have d1 : P'.length = a + r := by rw [hl, HA.out]
          have d2 : P'.length + 1 + ([] : List RepB).length = a + (r + 1) := by simp [d1]; omega
          obtain ⟨⟨q0, q1, q2, q3⟩, ⟨r0, r1, r2, r3⟩⟩ := And.intro (wcellP hwy (at_two P' [] S' _ _).1) (wcellP hwy (at_two P' [] S' _ _).2)
          have HSw := Lib.hid (wswapP' z1 z2 z3 z4 y1 y2 y3 y4 hwy)
          rw [d2] at r0 r1 r2 r3 HSw
          rw [d1] at q0 q1 q2 q3 HSw
          have hrm : a + (r + 1) ≤ m := by have := HCL.out; omega
          obtain ⟨jn, hjn⟩ : ∃ jn, a + (r + 1) = jn := ⟨_, rfl⟩
          rw [hjn] at r0 r1 r2 r3 HSw hrm ⊢
          obtain ⟨jm, hjm⟩ : ∃ jm, a + r = jm := ⟨_, rfl⟩
          rw [hjm] at q0 q1 q2 q3 HSw
          have t1 : (jn : Int) - 1 = (jm : Int) := by omega
          have t2 : (jm : Int) < (n : Int) := by omega
          have t3 : (jn : Int) < (n : Int) := by omega
          have t5 : jm < n := by omega
          have t6 : jn < n := by omega
          have t4 : IntKind.i64.wrap (jm : Int) = (jm : Int) := IntWalk.i64_in _ (by omega)
          have t7 : (ks : Int) < (jn : Int) := by omega
          have f0 := hwy.frozen (jn * 4)
          have f1 := hwy.frozen (jn * 4 + 1)
          have f2 := hwy.frozen (jn * 4 + 2)
          have f3 := hwy.frozen (jn * 4 + 3)
          have e0 := hwy.frozen (jm * 4)
          have e1 := hwy.frozen (jm * 4 + 1)
          have e2 := hwy.frozen (jm * 4 + 2)
          have e3 := hwy.frozen (jm * 4 + 3)
          have HJN := Lib.hid hjn
          have HJM := Lib.hid hjm
          clear hup hsy hl hup2 hwy d1 d2 hjn hjm
          go_wp2
          go_region
          go_wp2
          go_roundw
          case rel => exact ⟨r, _, by omega, by omega, by rw [HJM.out], HU2.out, HS2.out, HSw.out.drew⟩
          case measure => have := HJN.out; have := HJM.out; simp [intOf]; omega
        · obtain rfl : r = s := by omega
          have HS2 := Lib.hid hsy
          have HU2 := Lib.hid hup
          clear hup hsy
          go_wp2
          go_end0
          exact ⟨rfl, ys, ⟨_, HR.out.1, HR.out.2, by rw [HU2.out]; simp⟩, HS2.out, hwy⟩
end Go.Proofs.YtmdlmjcejeejfaaGreatDoor

/-
  The stable sort at RepB: the merge of two parts, one way.
-/
set_option linter.unusedVariables false
set_option linter.unusedSimpArgs false
namespace Go.Proofs.YtmdlmjcejeejfaaGreatDoor
open Go.RowKit Go.Shelf

/-- What a merge promises, for parts of at most d files. -/
def MergesP (O : Ordr RepB) (ok : RepB → Prop) (w0 : World) (g c n : Nat) (d : Nat) : Prop :=
  ∀ (P A C S : List RepB) (w : World), A.length + C.length ≤ d → 0 < A.length → 0 < C.length → Rises O A → Rises O C → Each ok (P ++ A ++ C ++ S) → Work repR 56 w0 g c n w (P ++ A ++ C ++ S) →
    ∀ a m b : Nat, a = P.length → m = P.length + A.length → b = P.length + A.length + C.length →
    Calls Tryz.prog 111 #[.slice (some ⟨g, 0, none⟩) n c, .int .i64 a, .int .i64 m, .int .i64 b, cmpVP] w (fun e w' => e = .returned (.tuple #[]) ∧ Came repR 56 O ok w0 g c n P (A ++ C) S w')

set_option maxRecDepth 100000 in
set_option maxHeartbeats 4000000 in
theorem merge_b1P (O : Ordr RepB) (ok : RepB → Prop) (hcmp : CmpOKP O ok) (w0 : World) (g c n : Nat) (d : Nat) (ih : MergesP O ok w0 g c n d) (hn : n ≤ 1000) (P A C S : List RepB) (w : World) (hd : A.length + C.length ≤ d + 1) (hA0 : 2 ≤ A.length) (hC0 : 2 ≤ C.length) (hA : Rises O A) (hC : Rises O C) (hs : Each ok (P ++ A ++ C ++ S)) (hw : Work repR 56 w0 g c n w (P ++ A ++ C ++ S))
    (a m b mid : Nat) (ha : a = P.length) (hm : m = P.length + A.length) (hb : b = P.length + A.length + C.length) (hmid : mid = (a + b) / 2) (hbr : mid < m) :
    Calls Tryz.prog 111 #[.slice (some ⟨g, 0, none⟩) n c, .int .i64 a, .int .i64 m, .int .i64 b, cmpVP] w (fun e w' => e = .returned (.tuple #[]) ∧ Came repR 56 O ok w0 g c n P (A ++ C) S w') := by
  have hlen := hw.len
  simp only [List.length_append] at hlen
  have hbn : b ≤ n := by omega
  have HW := Lib.hid hw
  have HCMP := Lib.hid hcmp
  clear hcmp
  have HSh := Lib.hid hs
  obtain ⟨lo, hlo⟩ : ∃ lo, mid + m - b = lo := ⟨_, rfl⟩
  have hbo' : Bounds P.length (P.length + A.length) (P.length + A.length + C.length) mid lo (mid) := by
    rw [← hb, ← hm, ← ha]
    exact ⟨hmid, .inl ⟨hbr, hlo.symm, rfl⟩⟩
  have HMo := Lib.hid (show ∀ q r, lo ≤ q → q ≤ r → r < mid → NotLess O (keyAt (P ++ A ++ C ++ S) (mid + m - 1 - r)) (keyAt (P ++ A ++ C ++ S) r) → NotLess O (keyAt (P ++ A ++ C ++ S) (mid + m - 1 - q)) (keyAt (P ++ A ++ C ++ S) q) by
    subst hm
    exact third_mono' (S := S) hA hC (by omega) (by omega) hbo')
  have HCu := Lib.hid (show ∀ st, Sk (fun q => NotLess O (keyAt (P ++ A ++ C ++ S) (mid + m - 1 - q)) (keyAt (P ++ A ++ C ++ S) q)) lo (mid) st st → ∃ A1 A2 C1 C2, Quart O A C A1 A2 C1 C2 ∧ P.length + A1.length = st ∧ P.length + A1.length + C1.length = mid ∧ st ≤ mid by
    intro st h
    subst hm
    exact third_parts (S := S) hA hC (by omega) (by omega) hbo' h)
  have hlo1 : a ≤ lo := by omega
  have hlo2 : lo ≤ mid := by omega
  have HXS := Lib.hid (fun q => some_at (xs := P ++ A ++ C ++ S) (q := q))
  have HL := Lib.hid (show (P ++ A ++ C ++ S).length = n from hw.len)
  have HA := Lib.hid ha
  have HM := Lib.hid hm
  have HB := Lib.hid hb
  have HD := Lib.hid hd
  have HI := Lib.hid ih
  have ham : a + 2 ≤ m := by omega
  have hmb : m + 2 ≤ b := by omega
  have hm1 : a < mid := by omega
  have hm2 : mid < b := by omega
  obtain ⟨nn, hnn⟩ : ∃ nn, mid + m = nn := ⟨_, rfl⟩
  obtain ⟨pp, hpp⟩ : ∃ pp, nn - 1 = pp := ⟨_, rfl⟩
  rw [hnn, hpp] at HMo HCu
  have HT := Lib.hid (fun (A1 A2 C1 C2 : List RepB) (h : Quart O A C A1 A2 C1 C2) => h.turn P S)
  have hti : ((m : Int) - (a : Int) == 1) = false := by rw [beq_eq_false_iff_ne]; omega
  have htj : ((b : Int) - (m : Int) == 1) = false := by rw [beq_eq_false_iff_ne]; omega
  have htk : ((a : Int) + (b : Int)) / 2 = (mid : Int) := by omega
  have htl : (mid : Int) + (m : Int) = (nn : Int) := by omega
  have htn : (nn : Int) - 1 = (pp : Int) := by omega
  have hto : (nn : Int) - (b : Int) = ((nn - b : Nat) : Int) := by omega
  clear hw hlen ha hb hm hs hbo' hA hC hA0 hC0 hd ih hmid
  generalize P ++ A ++ C ++ S = xs at *
  unfold cmpVP
  go_enter Tryz.func111, Tryz.ntmps111
  go_wp2

  go_loopw [20, 21] (fun i j wr => ∃ (k l : Nat), i = .int .i64 k ∧ j = .int .i64 l ∧ Sk (fun q => NotLess O (keyAt xs (pp - q)) (keyAt xs q)) lo (mid) k l ∧ Work repR 56 w0 g c n wr xs) (fun i j _ => (intOf j - intOf i).toNat)
  case atStart => exact ⟨lo, mid, by first | rfl | (rw [← hlo]; go_num) | (congr 1; omega), rfl, Sk.start _ hlo2, HW.out⟩
  case round =>
    obtain ⟨k, l, rfl, rfl, hsk, hwk⟩ := hrel
    have hk1 := hsk.a
    have hk2 := hsk.b
    have hk3 := hsk.c
    by_cases hlt : k < l
    · obtain ⟨⟨⟨z1, z2⟩, ⟨z3, z4⟩⟩, qz, ez⟩ := HXS.out ((k + l) / 2) (by rw [HL.out]; omega)
      obtain ⟨⟨⟨y1, y2⟩, ⟨y3, y4⟩⟩, qy, ey⟩ := HXS.out (pp - (k + l) / 2) (by rw [HL.out]; omega)
      obtain ⟨q0, q1, q2, q3⟩ := wcellP hwk qz
      obtain ⟨r0, r1, r2, r3⟩ := wcellP hwk qy
      have sz : ok ((z1, z2), (z3, z4)) := HSh.out _ (List.mem_of_getElem? qz)
      have sy : ok ((y1, y2), (y3, y4)) := HSh.out _ (List.mem_of_getElem? qy)
      have hgz := hwk.lt
      have hb1 : (k + l) / 2 < n := by omega
      have hb3 : (0 : Int) ≤ ((k : Int) + (l : Int)) / 2 := by omega
      have hb4 : ((k : Int) + (l : Int)) / 2 < (n : Int) := by omega
      have hb6 : (((k : Int) + (l : Int)) / 2).toNat = (k + l) / 2 := by omega
      have HUp := Lib.hid (fun (e : ¬ O.c (keyAt xs (pp - (k + l) / 2)) (keyAt xs ((k + l) / 2)) < 0) => hsk.up HMo.out (h := (k + l) / 2) (by omega) (by omega) e)
      have HDn := Lib.hid (fun (e : O.c (keyAt xs (pp - (k + l) / 2)) (keyAt xs ((k + l) / 2)) < 0) => hsk.down HMo.out (h := (k + l) / 2) (by omega) (by omega) (fun hq => hq e))
      rw [← ez, ← ey] at HUp HDn
      obtain ⟨dd, hdd⟩ : ∃ dd, pp - (k + l) / 2 = dd := ⟨_, rfl⟩
      rw [hdd] at r0 r1 r2 r3
      have hb7 : (pp : Int) - ((k : Int) + (l : Int)) / 2 = (dd : Int) := by omega
      have hb8 : (dd : Int) < (n : Int) := by omega
      have hb9 : dd < n := by omega
      have hb10 : IntKind.i64.wrap (dd : Int) = (dd : Int) := IntWalk.i64_in _ (by omega)
      clear hsk qz ez qy ey hdd
      by_cases hcm : O.c ((y1, y2), (y3, y4)) ((z1, z2), (z3, z4)) < 0
      · have hcd : decide (O.c ((y1, y2), (y3, y4)) ((z1, z2), (z3, z4)) < 0) = true := decide_eq_true hcm
        have HCM := Lib.hid (HDn.out hcm)
        clear hcm HUp HDn
        go_wp2
        go_region_held3 (fun w' => w'.cell? ⟨g, (k + l) / 2 * 4, none⟩ = some (.string z1) ∧ w'.cell? ⟨g, (k + l) / 2 * 4 + 1, none⟩ = some (.string z2) ∧ w'.cell? ⟨g, (k + l) / 2 * 4 + 2, none⟩ = some (.string z3) ∧ w'.cell? ⟨g, (k + l) / 2 * 4 + 3, none⟩ = some (.string z4) ∧ w'.cell? ⟨g, dd * 4, none⟩ = some (.string y1) ∧ w'.cell? ⟨g, dd * 4 + 1, none⟩ = some (.string y2) ∧ w'.cell? ⟨g, dd * 4 + 2, none⟩ = some (.string y3) ∧ w'.cell? ⟨g, dd * 4 + 3, none⟩ = some (.string y4))
          (first | go_keep | with_reducible exact K2.out)
          (first | (go_at_call 25; refine (HCMP.out y1 y2 y3 y4 z1 z2 z3 z4 _ sy sz).mono ?_; rintro e w2 ⟨rfl, hb2'⟩; have hb2 := below_drewN' (n := 1) hb2'; have K2 := Lib.hid (And.intro ((hb2.cell (p := ⟨g, (k + l) / 2 * 4, none⟩) hgz).trans q0) (And.intro ((hb2.cell (p := ⟨g, (k + l) / 2 * 4 + 1, none⟩) hgz).trans q1) (And.intro ((hb2.cell (p := ⟨g, (k + l) / 2 * 4 + 2, none⟩) hgz).trans q2) (And.intro ((hb2.cell (p := ⟨g, (k + l) / 2 * 4 + 3, none⟩) hgz).trans q3) (And.intro ((hb2.cell (p := ⟨g, dd * 4, none⟩) hgz).trans r0) (And.intro ((hb2.cell (p := ⟨g, dd * 4 + 1, none⟩) hgz).trans r1) (And.intro ((hb2.cell (p := ⟨g, dd * 4 + 2, none⟩) hgz).trans r2) ((hb2.cell (p := ⟨g, dd * 4 + 3, none⟩) hgz).trans r3))))))))))
        rename_i hheld
        clear hheld K2 hb2'
        have hw2 := hwk.call hb2
        clear hb2 q0 q1 q2 q3 r0 r1 r2 r3 hgz hwk
        go_wp2
        go_roundw
        case rel => exact ⟨k, (k + l) / 2, rfl, by go_num, HCM.out, hw2⟩
        case measure => simp [intOf]; omega
      · have hcd : decide (O.c ((y1, y2), (y3, y4)) ((z1, z2), (z3, z4)) < 0) = false := decide_eq_false hcm
        have HCM := Lib.hid (HUp.out hcm)
        clear hcm HUp HDn
        go_wp2
        go_region_held3 (fun w' => w'.cell? ⟨g, (k + l) / 2 * 4, none⟩ = some (.string z1) ∧ w'.cell? ⟨g, (k + l) / 2 * 4 + 1, none⟩ = some (.string z2) ∧ w'.cell? ⟨g, (k + l) / 2 * 4 + 2, none⟩ = some (.string z3) ∧ w'.cell? ⟨g, (k + l) / 2 * 4 + 3, none⟩ = some (.string z4) ∧ w'.cell? ⟨g, dd * 4, none⟩ = some (.string y1) ∧ w'.cell? ⟨g, dd * 4 + 1, none⟩ = some (.string y2) ∧ w'.cell? ⟨g, dd * 4 + 2, none⟩ = some (.string y3) ∧ w'.cell? ⟨g, dd * 4 + 3, none⟩ = some (.string y4))
          (first | go_keep | with_reducible exact K2.out)
          (first | (go_at_call 25; refine (HCMP.out y1 y2 y3 y4 z1 z2 z3 z4 _ sy sz).mono ?_; rintro e w2 ⟨rfl, hb2'⟩; have hb2 := below_drewN' (n := 1) hb2'; have K2 := Lib.hid (And.intro ((hb2.cell (p := ⟨g, (k + l) / 2 * 4, none⟩) hgz).trans q0) (And.intro ((hb2.cell (p := ⟨g, (k + l) / 2 * 4 + 1, none⟩) hgz).trans q1) (And.intro ((hb2.cell (p := ⟨g, (k + l) / 2 * 4 + 2, none⟩) hgz).trans q2) (And.intro ((hb2.cell (p := ⟨g, (k + l) / 2 * 4 + 3, none⟩) hgz).trans q3) (And.intro ((hb2.cell (p := ⟨g, dd * 4, none⟩) hgz).trans r0) (And.intro ((hb2.cell (p := ⟨g, dd * 4 + 1, none⟩) hgz).trans r1) (And.intro ((hb2.cell (p := ⟨g, dd * 4 + 2, none⟩) hgz).trans r2) ((hb2.cell (p := ⟨g, dd * 4 + 3, none⟩) hgz).trans r3))))))))))
        rename_i hheld
        clear hheld K2 hb2'
        have hw2 := hwk.call hb2
        clear hb2 q0 q1 q2 q3 r0 r1 r2 r3 hgz hwk
        go_wp2
        go_roundw
        case rel => exact ⟨(k + l) / 2 + 1, l, by go_num, rfl, HCM.out, hw2⟩
        case measure => simp [intOf]; omega
    · obtain rfl : k = l := by omega
      obtain ⟨A1, A2, C1, C2, hq, l1, l2, l3⟩ := HCu.out k hsk
      have exs := HT.out _ _ _ _ hq
      have l4 := congrArg List.length hq.ha
      have l5 := congrArg List.length hq.hc
      rw [List.length_append] at l4 l5
      have l6 := HA.out
      have l7 := HM.out
      have l8 := HB.out
      have HQ := Lib.hid hq
      clear hsk hq
      obtain ⟨en, hen⟩ : ∃ en, nn - k = en := ⟨_, rfl⟩
      have hen' : (nn : Int) - (k : Int) = (en : Int) := by omega
      have hsh := HSh.out
      rw [exs] at hsh hwk
      have HS1 := Lib.hid (each_turn hsh)
      have HN := Lib.hid (show a = P.length ∧ m = P.length + A.length ∧ b = P.length + A.length + C.length ∧ P.length + A1.length = k ∧ P.length + A1.length + C1.length = mid ∧ A.length = A1.length + A2.length ∧ C.length = C1.length + C2.length ∧ A.length + C.length ≤ d + 1 from ⟨l6, l7, l8, l1, l2, l4, l5, HD.out⟩)
      clear hsh exs l1 l2 l4 l5 l6 l7 l8
      by_cases hy : k < mid
      · have y1 : k < m := by omega
        have y2 : m < en := by omega
        have y3 : mid < en := by omega
        by_cases y4 : a < k
        · by_cases y5 : en < b
          · have HX := Lib.hid (rotate_anyP w0 g c n _ (P ++ A1) A2 C1 (C2 ++ S) hwk k m en (by have hx := HN.out; (try simp only [List.length_append]); omega) (by have hx := HN.out; (try simp only [List.length_append]); omega) (by have hx := HN.out; (try simp only [List.length_append]); omega) (by omega) (by omega) hn)
            clear hwk
            go_wp2_with fail
            refine HX.out.mono ?_
            rintro _ w1 ⟨rfl, hw1⟩
            rw [left_form] at hw1
            clear HX
            have HX2 := Lib.hid (HI.out P A1 C1 (A2 ++ C2 ++ S) _ (by have hx := HN.out; (try simp only [List.length_append]); omega) (by have hx := HN.out; (try simp only [List.length_append]); omega) (by have hx := HN.out; (try simp only [List.length_append]); omega) HQ.out.r1 HQ.out.r3 HS1.out hw1 a k mid (by have hx := HN.out; (try simp only [List.length_append]); omega) (by have hx := HN.out; (try simp only [List.length_append]); omega) (by have hx := HN.out; (try simp only [List.length_append]); omega))
            clear hw1
            go_wp2_with fail
            refine HX2.out.mono ?_
            rintro _ w2 ⟨rfl, hc2⟩
            clear HX2
            obtain ⟨ys, ⟨L, r1, r2, rfl⟩, r3, hw2⟩ := hc2
            have HR1 := Lib.hid r1
            have HR2 := Lib.hid r2
            have HK := Lib.hid (kept_len r2)
            clear r1 r2
            have er : P ++ L ++ (A2 ++ C2 ++ S) = P ++ L ++ A2 ++ C2 ++ S := by simp only [List.append_assoc]
            rw [er] at r3 hw2
            have HX3 := Lib.hid (HI.out (P ++ L) A2 C2 S _ (by have hx := HN.out; (try simp only [List.length_append]); omega) (by have hx := HN.out; (try simp only [List.length_append]); omega) (by have hx := HN.out; (try simp only [List.length_append]); omega) HQ.out.r2 HQ.out.r4 r3 hw2 mid en b (by have hx := HN.out; have hy := HK.out; simp only [List.length_append] at hy ⊢; omega) (by have hx := HN.out; have hy := HK.out; simp only [List.length_append] at hy ⊢; omega) (by have hx := HN.out; have hy := HK.out; simp only [List.length_append] at hy ⊢; omega))
            clear hw2 r3 er
            go_wp2_with fail
            refine HX3.out.mono ?_
            rintro _ w3 ⟨rfl, hc3⟩
            clear HX3
            have HC3 := Lib.hid hc3
            clear hc3
            go_wp2
            go_end0
            exact ⟨rfl, HQ.out.done HR1.out HR2.out HC3.out⟩
          · have HX := Lib.hid (rotate_anyP w0 g c n _ (P ++ A1) A2 C1 (C2 ++ S) hwk k m en (by have hx := HN.out; (try simp only [List.length_append]); omega) (by have hx := HN.out; (try simp only [List.length_append]); omega) (by have hx := HN.out; (try simp only [List.length_append]); omega) (by omega) (by omega) hn)
            clear hwk
            go_wp2_with fail
            refine HX.out.mono ?_
            rintro _ w1 ⟨rfl, hw1⟩
            rw [left_form] at hw1
            clear HX
            have HX2 := Lib.hid (HI.out P A1 C1 (A2 ++ C2 ++ S) _ (by have hx := HN.out; (try simp only [List.length_append]); omega) (by have hx := HN.out; (try simp only [List.length_append]); omega) (by have hx := HN.out; (try simp only [List.length_append]); omega) HQ.out.r1 HQ.out.r3 HS1.out hw1 a k mid (by have hx := HN.out; (try simp only [List.length_append]); omega) (by have hx := HN.out; (try simp only [List.length_append]); omega) (by have hx := HN.out; (try simp only [List.length_append]); omega))
            clear hw1
            go_wp2_with fail
            refine HX2.out.mono ?_
            rintro _ w2 ⟨rfl, hc2⟩
            clear HX2
            obtain ⟨ys, ⟨L, r1, r2, rfl⟩, r3, hw2⟩ := hc2
            have HR1 := Lib.hid r1
            have HR2 := Lib.hid r2
            have HK := Lib.hid (kept_len r2)
            clear r1 r2
            have hc3 := HQ.out.right (by have hx := HN.out; (try simp only [List.length_append]); omega) r3 hw2
            clear hw2 r3
            have HC3 := Lib.hid hc3
            clear hc3
            go_wp2
            go_end0
            exact ⟨rfl, HQ.out.done HR1.out HR2.out HC3.out⟩
        · by_cases y5 : en < b
          · have HX := Lib.hid (rotate_anyP w0 g c n _ (P ++ A1) A2 C1 (C2 ++ S) hwk k m en (by have hx := HN.out; (try simp only [List.length_append]); omega) (by have hx := HN.out; (try simp only [List.length_append]); omega) (by have hx := HN.out; (try simp only [List.length_append]); omega) (by omega) (by omega) hn)
            clear hwk
            go_wp2_with fail
            refine HX.out.mono ?_
            rintro _ w1 ⟨rfl, hw1⟩
            rw [left_form] at hw1
            clear HX
            have hc2 := HQ.out.left (by have hx := HN.out; (try simp only [List.length_append]); omega) HS1.out hw1
            clear hw1
            obtain ⟨ys, ⟨L, r1, r2, rfl⟩, r3, hw2⟩ := hc2
            have HR1 := Lib.hid r1
            have HR2 := Lib.hid r2
            have HK := Lib.hid (kept_len r2)
            clear r1 r2
            have er : P ++ L ++ (A2 ++ C2 ++ S) = P ++ L ++ A2 ++ C2 ++ S := by simp only [List.append_assoc]
            rw [er] at r3 hw2
            have HX3 := Lib.hid (HI.out (P ++ L) A2 C2 S _ (by have hx := HN.out; (try simp only [List.length_append]); omega) (by have hx := HN.out; (try simp only [List.length_append]); omega) (by have hx := HN.out; (try simp only [List.length_append]); omega) HQ.out.r2 HQ.out.r4 r3 hw2 mid en b (by have hx := HN.out; have hy := HK.out; simp only [List.length_append] at hy ⊢; omega) (by have hx := HN.out; have hy := HK.out; simp only [List.length_append] at hy ⊢; omega) (by have hx := HN.out; have hy := HK.out; simp only [List.length_append] at hy ⊢; omega))
            clear hw2 r3 er
            go_wp2_with fail
            refine HX3.out.mono ?_
            rintro _ w3 ⟨rfl, hc3⟩
            clear HX3
            have HC3 := Lib.hid hc3
            clear hc3
            go_wp2
            go_end0
            exact ⟨rfl, HQ.out.done HR1.out HR2.out HC3.out⟩
          · have HX := Lib.hid (rotate_anyP w0 g c n _ (P ++ A1) A2 C1 (C2 ++ S) hwk k m en (by have hx := HN.out; (try simp only [List.length_append]); omega) (by have hx := HN.out; (try simp only [List.length_append]); omega) (by have hx := HN.out; (try simp only [List.length_append]); omega) (by omega) (by omega) hn)
            clear hwk
            go_wp2_with fail
            refine HX.out.mono ?_
            rintro _ w1 ⟨rfl, hw1⟩
            rw [left_form] at hw1
            clear HX
            have hc2 := HQ.out.left (by have hx := HN.out; (try simp only [List.length_append]); omega) HS1.out hw1
            clear hw1
            obtain ⟨ys, ⟨L, r1, r2, rfl⟩, r3, hw2⟩ := hc2
            have HR1 := Lib.hid r1
            have HR2 := Lib.hid r2
            have HK := Lib.hid (kept_len r2)
            clear r1 r2
            have hc3 := HQ.out.right (by have hx := HN.out; (try simp only [List.length_append]); omega) r3 hw2
            clear hw2 r3
            have HC3 := Lib.hid hc3
            clear hc3
            go_wp2
            go_end0
            exact ⟨rfl, HQ.out.done HR1.out HR2.out HC3.out⟩
      · have x1 : k < m := by omega
        have x2 : ¬ m < en := by omega
        have x3 : a < k := by omega
        have x4 : mid < en := by omega
        have x5 : en < b := by omega
        have hw1 := hwk
        rw [no_turn (by have hx := HN.out; (try simp only [List.length_append]); omega)] at hw1
        clear hwk
        have hc2 := HQ.out.left (by have hx := HN.out; (try simp only [List.length_append]); omega) HS1.out hw1
        clear hw1
        obtain ⟨ys, ⟨L, r1, r2, rfl⟩, r3, hw2⟩ := hc2
        have HR1 := Lib.hid r1
        have HR2 := Lib.hid r2
        have HK := Lib.hid (kept_len r2)
        clear r1 r2
        have er : P ++ L ++ (A2 ++ C2 ++ S) = P ++ L ++ A2 ++ C2 ++ S := by simp only [List.append_assoc]
        rw [er] at r3 hw2
        have HX3 := Lib.hid (HI.out (P ++ L) A2 C2 S _ (by have hx := HN.out; (try simp only [List.length_append]); omega) (by have hx := HN.out; (try simp only [List.length_append]); omega) (by have hx := HN.out; (try simp only [List.length_append]); omega) HQ.out.r2 HQ.out.r4 r3 hw2 mid en b (by have hx := HN.out; have hy := HK.out; simp only [List.length_append] at hy ⊢; omega) (by have hx := HN.out; have hy := HK.out; simp only [List.length_append] at hy ⊢; omega) (by have hx := HN.out; have hy := HK.out; simp only [List.length_append] at hy ⊢; omega))
        clear hw2 r3 er
        go_wp2_with fail
        refine HX3.out.mono ?_
        rintro _ w3 ⟨rfl, hc3⟩
        clear HX3
        have HC3 := Lib.hid hc3
        clear hc3
        go_wp2
        go_end0
        exact ⟨rfl, HQ.out.done HR1.out HR2.out HC3.out⟩
end Go.Proofs.YtmdlmjcejeejfaaGreatDoor

/-
  The stable sort at RepB: the merge of two parts, the other way; the sort whole.
-/
set_option linter.unusedVariables false
set_option linter.unusedSimpArgs false
namespace Go.Proofs.YtmdlmjcejeejfaaGreatDoor
open Go.RowKit Go.Shelf

set_option maxRecDepth 100000 in
set_option maxHeartbeats 4000000 in
theorem merge_b2P (O : Ordr RepB) (ok : RepB → Prop) (hcmp : CmpOKP O ok) (w0 : World) (g c n : Nat) (d : Nat) (ih : MergesP O ok w0 g c n d) (hn : n ≤ 1000) (P A C S : List RepB) (w : World) (hd : A.length + C.length ≤ d + 1) (hA0 : 2 ≤ A.length) (hC0 : 2 ≤ C.length) (hA : Rises O A) (hC : Rises O C) (hs : Each ok (P ++ A ++ C ++ S)) (hw : Work repR 56 w0 g c n w (P ++ A ++ C ++ S))
    (a m b mid : Nat) (ha : a = P.length) (hm : m = P.length + A.length) (hb : b = P.length + A.length + C.length) (hmid : mid = (a + b) / 2) (hbr : m ≤ mid) :
    Calls Tryz.prog 111 #[.slice (some ⟨g, 0, none⟩) n c, .int .i64 a, .int .i64 m, .int .i64 b, cmpVP] w (fun e w' => e = .returned (.tuple #[]) ∧ Came repR 56 O ok w0 g c n P (A ++ C) S w') := by
  have hlen := hw.len
  simp only [List.length_append] at hlen
  have hbn : b ≤ n := by omega
  have HW := Lib.hid hw
  have HCMP := Lib.hid hcmp
  clear hcmp
  have HSh := Lib.hid hs

  have hbo' : Bounds P.length (P.length + A.length) (P.length + A.length + C.length) mid a (m) := by
    rw [← hb, ← hm, ← ha]
    exact ⟨hmid, .inr ⟨hbr, rfl, rfl⟩⟩
  have HMo := Lib.hid (show ∀ q r, a ≤ q → q ≤ r → r < m → NotLess O (keyAt (P ++ A ++ C ++ S) (mid + m - 1 - r)) (keyAt (P ++ A ++ C ++ S) r) → NotLess O (keyAt (P ++ A ++ C ++ S) (mid + m - 1 - q)) (keyAt (P ++ A ++ C ++ S) q) by
    subst hm
    exact third_mono' (S := S) hA hC (by omega) (by omega) hbo')
  have HCu := Lib.hid (show ∀ st, Sk (fun q => NotLess O (keyAt (P ++ A ++ C ++ S) (mid + m - 1 - q)) (keyAt (P ++ A ++ C ++ S) q)) a (m) st st → ∃ A1 A2 C1 C2, Quart O A C A1 A2 C1 C2 ∧ P.length + A1.length = st ∧ P.length + A1.length + C1.length = mid ∧ st ≤ mid by
    intro st h
    subst hm
    exact third_parts (S := S) hA hC (by omega) (by omega) hbo' h)
  have hlo1 : a ≤ a := by omega
  have hlo2 : a ≤ m := by omega
  have HXS := Lib.hid (fun q => some_at (xs := P ++ A ++ C ++ S) (q := q))
  have HL := Lib.hid (show (P ++ A ++ C ++ S).length = n from hw.len)
  have HA := Lib.hid ha
  have HM := Lib.hid hm
  have HB := Lib.hid hb
  have HD := Lib.hid hd
  have HI := Lib.hid ih
  have ham : a + 2 ≤ m := by omega
  have hmb : m + 2 ≤ b := by omega
  have hm1 : a < mid := by omega
  have hm2 : mid < b := by omega
  obtain ⟨nn, hnn⟩ : ∃ nn, mid + m = nn := ⟨_, rfl⟩
  obtain ⟨pp, hpp⟩ : ∃ pp, nn - 1 = pp := ⟨_, rfl⟩
  rw [hnn, hpp] at HMo HCu
  have HT := Lib.hid (fun (A1 A2 C1 C2 : List RepB) (h : Quart O A C A1 A2 C1 C2) => h.turn P S)
  have hti : ((m : Int) - (a : Int) == 1) = false := by rw [beq_eq_false_iff_ne]; omega
  have htj : ((b : Int) - (m : Int) == 1) = false := by rw [beq_eq_false_iff_ne]; omega
  have htk : ((a : Int) + (b : Int)) / 2 = (mid : Int) := by omega
  have htl : (mid : Int) + (m : Int) = (nn : Int) := by omega
  have htn : (nn : Int) - 1 = (pp : Int) := by omega

  clear hw hlen ha hb hm hs hbo' hA hC hA0 hC0 hd ih hmid
  generalize P ++ A ++ C ++ S = xs at *
  unfold cmpVP
  go_enter Tryz.func111, Tryz.ntmps111
  go_wp2
  rw [show decide (mid < m) = false from decide_eq_false (Nat.not_lt.2 hbr)]
  go_loopw [20, 21] (fun i j wr => ∃ (k l : Nat), i = .int .i64 k ∧ j = .int .i64 l ∧ Sk (fun q => NotLess O (keyAt xs (pp - q)) (keyAt xs q)) a (m) k l ∧ Work repR 56 w0 g c n wr xs) (fun i j _ => (intOf j - intOf i).toNat)
  case atStart => exact ⟨a, m, rfl, rfl, Sk.start _ hlo2, HW.out⟩
  case round =>
    obtain ⟨k, l, rfl, rfl, hsk, hwk⟩ := hrel
    have hk1 := hsk.a
    have hk2 := hsk.b
    have hk3 := hsk.c
    by_cases hlt : k < l
    · obtain ⟨⟨⟨z1, z2⟩, ⟨z3, z4⟩⟩, qz, ez⟩ := HXS.out ((k + l) / 2) (by rw [HL.out]; omega)
      obtain ⟨⟨⟨y1, y2⟩, ⟨y3, y4⟩⟩, qy, ey⟩ := HXS.out (pp - (k + l) / 2) (by rw [HL.out]; omega)
      obtain ⟨q0, q1, q2, q3⟩ := wcellP hwk qz
      obtain ⟨r0, r1, r2, r3⟩ := wcellP hwk qy
      have sz : ok ((z1, z2), (z3, z4)) := HSh.out _ (List.mem_of_getElem? qz)
      have sy : ok ((y1, y2), (y3, y4)) := HSh.out _ (List.mem_of_getElem? qy)
      have hgz := hwk.lt
      have hb1 : (k + l) / 2 < n := by omega
      have hb3 : (0 : Int) ≤ ((k : Int) + (l : Int)) / 2 := by omega
      have hb4 : ((k : Int) + (l : Int)) / 2 < (n : Int) := by omega
      have hb6 : (((k : Int) + (l : Int)) / 2).toNat = (k + l) / 2 := by omega
      have HUp := Lib.hid (fun (e : ¬ O.c (keyAt xs (pp - (k + l) / 2)) (keyAt xs ((k + l) / 2)) < 0) => hsk.up HMo.out (h := (k + l) / 2) (by omega) (by omega) e)
      have HDn := Lib.hid (fun (e : O.c (keyAt xs (pp - (k + l) / 2)) (keyAt xs ((k + l) / 2)) < 0) => hsk.down HMo.out (h := (k + l) / 2) (by omega) (by omega) (fun hq => hq e))
      rw [← ez, ← ey] at HUp HDn
      obtain ⟨dd, hdd⟩ : ∃ dd, pp - (k + l) / 2 = dd := ⟨_, rfl⟩
      rw [hdd] at r0 r1 r2 r3
      have hb7 : (pp : Int) - ((k : Int) + (l : Int)) / 2 = (dd : Int) := by omega
      have hb8 : (dd : Int) < (n : Int) := by omega
      have hb9 : dd < n := by omega
      have hb10 : IntKind.i64.wrap (dd : Int) = (dd : Int) := IntWalk.i64_in _ (by omega)
      clear hsk qz ez qy ey hdd
      by_cases hcm : O.c ((y1, y2), (y3, y4)) ((z1, z2), (z3, z4)) < 0
      · have hcd : decide (O.c ((y1, y2), (y3, y4)) ((z1, z2), (z3, z4)) < 0) = true := decide_eq_true hcm
        have HCM := Lib.hid (HDn.out hcm)
        clear hcm HUp HDn
        go_wp2
        go_region_held3 (fun w' => w'.cell? ⟨g, (k + l) / 2 * 4, none⟩ = some (.string z1) ∧ w'.cell? ⟨g, (k + l) / 2 * 4 + 1, none⟩ = some (.string z2) ∧ w'.cell? ⟨g, (k + l) / 2 * 4 + 2, none⟩ = some (.string z3) ∧ w'.cell? ⟨g, (k + l) / 2 * 4 + 3, none⟩ = some (.string z4) ∧ w'.cell? ⟨g, dd * 4, none⟩ = some (.string y1) ∧ w'.cell? ⟨g, dd * 4 + 1, none⟩ = some (.string y2) ∧ w'.cell? ⟨g, dd * 4 + 2, none⟩ = some (.string y3) ∧ w'.cell? ⟨g, dd * 4 + 3, none⟩ = some (.string y4))
          (first | go_keep | with_reducible exact K2.out)
          (first | (go_at_call 25; refine (HCMP.out y1 y2 y3 y4 z1 z2 z3 z4 _ sy sz).mono ?_; rintro e w2 ⟨rfl, hb2'⟩; have hb2 := below_drewN' (n := 1) hb2'; have K2 := Lib.hid (And.intro ((hb2.cell (p := ⟨g, (k + l) / 2 * 4, none⟩) hgz).trans q0) (And.intro ((hb2.cell (p := ⟨g, (k + l) / 2 * 4 + 1, none⟩) hgz).trans q1) (And.intro ((hb2.cell (p := ⟨g, (k + l) / 2 * 4 + 2, none⟩) hgz).trans q2) (And.intro ((hb2.cell (p := ⟨g, (k + l) / 2 * 4 + 3, none⟩) hgz).trans q3) (And.intro ((hb2.cell (p := ⟨g, dd * 4, none⟩) hgz).trans r0) (And.intro ((hb2.cell (p := ⟨g, dd * 4 + 1, none⟩) hgz).trans r1) (And.intro ((hb2.cell (p := ⟨g, dd * 4 + 2, none⟩) hgz).trans r2) ((hb2.cell (p := ⟨g, dd * 4 + 3, none⟩) hgz).trans r3))))))))))
        rename_i hheld
        clear hheld K2 hb2'
        have hw2 := hwk.call hb2
        clear hb2 q0 q1 q2 q3 r0 r1 r2 r3 hgz hwk
        go_wp2
        go_roundw
        case rel => exact ⟨k, (k + l) / 2, rfl, by go_num, HCM.out, hw2⟩
        case measure => simp [intOf]; omega
      · have hcd : decide (O.c ((y1, y2), (y3, y4)) ((z1, z2), (z3, z4)) < 0) = false := decide_eq_false hcm
        have HCM := Lib.hid (HUp.out hcm)
        clear hcm HUp HDn
        go_wp2
        go_region_held3 (fun w' => w'.cell? ⟨g, (k + l) / 2 * 4, none⟩ = some (.string z1) ∧ w'.cell? ⟨g, (k + l) / 2 * 4 + 1, none⟩ = some (.string z2) ∧ w'.cell? ⟨g, (k + l) / 2 * 4 + 2, none⟩ = some (.string z3) ∧ w'.cell? ⟨g, (k + l) / 2 * 4 + 3, none⟩ = some (.string z4) ∧ w'.cell? ⟨g, dd * 4, none⟩ = some (.string y1) ∧ w'.cell? ⟨g, dd * 4 + 1, none⟩ = some (.string y2) ∧ w'.cell? ⟨g, dd * 4 + 2, none⟩ = some (.string y3) ∧ w'.cell? ⟨g, dd * 4 + 3, none⟩ = some (.string y4))
          (first | go_keep | with_reducible exact K2.out)
          (first | (go_at_call 25; refine (HCMP.out y1 y2 y3 y4 z1 z2 z3 z4 _ sy sz).mono ?_; rintro e w2 ⟨rfl, hb2'⟩; have hb2 := below_drewN' (n := 1) hb2'; have K2 := Lib.hid (And.intro ((hb2.cell (p := ⟨g, (k + l) / 2 * 4, none⟩) hgz).trans q0) (And.intro ((hb2.cell (p := ⟨g, (k + l) / 2 * 4 + 1, none⟩) hgz).trans q1) (And.intro ((hb2.cell (p := ⟨g, (k + l) / 2 * 4 + 2, none⟩) hgz).trans q2) (And.intro ((hb2.cell (p := ⟨g, (k + l) / 2 * 4 + 3, none⟩) hgz).trans q3) (And.intro ((hb2.cell (p := ⟨g, dd * 4, none⟩) hgz).trans r0) (And.intro ((hb2.cell (p := ⟨g, dd * 4 + 1, none⟩) hgz).trans r1) (And.intro ((hb2.cell (p := ⟨g, dd * 4 + 2, none⟩) hgz).trans r2) ((hb2.cell (p := ⟨g, dd * 4 + 3, none⟩) hgz).trans r3))))))))))
        rename_i hheld
        clear hheld K2 hb2'
        have hw2 := hwk.call hb2
        clear hb2 q0 q1 q2 q3 r0 r1 r2 r3 hgz hwk
        go_wp2
        go_roundw
        case rel => exact ⟨(k + l) / 2 + 1, l, by go_num, rfl, HCM.out, hw2⟩
        case measure => simp [intOf]; omega
    · obtain rfl : k = l := by omega
      obtain ⟨A1, A2, C1, C2, hq, l1, l2, l3⟩ := HCu.out k hsk
      have exs := HT.out _ _ _ _ hq
      have l4 := congrArg List.length hq.ha
      have l5 := congrArg List.length hq.hc
      rw [List.length_append] at l4 l5
      have l6 := HA.out
      have l7 := HM.out
      have l8 := HB.out
      have HQ := Lib.hid hq
      clear hsk hq
      obtain ⟨en, hen⟩ : ∃ en, nn - k = en := ⟨_, rfl⟩
      have hen' : (nn : Int) - (k : Int) = (en : Int) := by omega
      have hsh := HSh.out
      rw [exs] at hsh hwk
      have HS1 := Lib.hid (each_turn hsh)
      have HN := Lib.hid (show a = P.length ∧ m = P.length + A.length ∧ b = P.length + A.length + C.length ∧ P.length + A1.length = k ∧ P.length + A1.length + C1.length = mid ∧ A.length = A1.length + A2.length ∧ C.length = C1.length + C2.length ∧ A.length + C.length ≤ d + 1 from ⟨l6, l7, l8, l1, l2, l4, l5, HD.out⟩)
      clear hsh exs l1 l2 l4 l5 l6 l7 l8
      by_cases hy : k < mid
      · by_cases hx : k < m
        · have y1 : k < m := by omega
          have y2 : m < en := by omega
          have y3 : mid < en := by omega
          by_cases y4 : a < k
          · by_cases y5 : en < b
            · have HX := Lib.hid (rotate_anyP w0 g c n _ (P ++ A1) A2 C1 (C2 ++ S) hwk k m en (by have hx := HN.out; (try simp only [List.length_append]); omega) (by have hx := HN.out; (try simp only [List.length_append]); omega) (by have hx := HN.out; (try simp only [List.length_append]); omega) (by omega) (by omega) hn)
              clear hwk
              go_wp2_with fail
              refine HX.out.mono ?_
              rintro _ w1 ⟨rfl, hw1⟩
              rw [left_form] at hw1
              clear HX
              have HX2 := Lib.hid (HI.out P A1 C1 (A2 ++ C2 ++ S) _ (by have hx := HN.out; (try simp only [List.length_append]); omega) (by have hx := HN.out; (try simp only [List.length_append]); omega) (by have hx := HN.out; (try simp only [List.length_append]); omega) HQ.out.r1 HQ.out.r3 HS1.out hw1 a k mid (by have hx := HN.out; (try simp only [List.length_append]); omega) (by have hx := HN.out; (try simp only [List.length_append]); omega) (by have hx := HN.out; (try simp only [List.length_append]); omega))
              clear hw1
              go_wp2_with fail
              refine HX2.out.mono ?_
              rintro _ w2 ⟨rfl, hc2⟩
              clear HX2
              obtain ⟨ys, ⟨L, r1, r2, rfl⟩, r3, hw2⟩ := hc2
              have HR1 := Lib.hid r1
              have HR2 := Lib.hid r2
              have HK := Lib.hid (kept_len r2)
              clear r1 r2
              have er : P ++ L ++ (A2 ++ C2 ++ S) = P ++ L ++ A2 ++ C2 ++ S := by simp only [List.append_assoc]
              rw [er] at r3 hw2
              have HX3 := Lib.hid (HI.out (P ++ L) A2 C2 S _ (by have hx := HN.out; (try simp only [List.length_append]); omega) (by have hx := HN.out; (try simp only [List.length_append]); omega) (by have hx := HN.out; (try simp only [List.length_append]); omega) HQ.out.r2 HQ.out.r4 r3 hw2 mid en b (by have hx := HN.out; have hy := HK.out; simp only [List.length_append] at hy ⊢; omega) (by have hx := HN.out; have hy := HK.out; simp only [List.length_append] at hy ⊢; omega) (by have hx := HN.out; have hy := HK.out; simp only [List.length_append] at hy ⊢; omega))
              clear hw2 r3 er
              go_wp2_with fail
              refine HX3.out.mono ?_
              rintro _ w3 ⟨rfl, hc3⟩
              clear HX3
              have HC3 := Lib.hid hc3
              clear hc3
              go_wp2
              go_end0
              exact ⟨rfl, HQ.out.done HR1.out HR2.out HC3.out⟩
            · have HX := Lib.hid (rotate_anyP w0 g c n _ (P ++ A1) A2 C1 (C2 ++ S) hwk k m en (by have hx := HN.out; (try simp only [List.length_append]); omega) (by have hx := HN.out; (try simp only [List.length_append]); omega) (by have hx := HN.out; (try simp only [List.length_append]); omega) (by omega) (by omega) hn)
              clear hwk
              go_wp2_with fail
              refine HX.out.mono ?_
              rintro _ w1 ⟨rfl, hw1⟩
              rw [left_form] at hw1
              clear HX
              have HX2 := Lib.hid (HI.out P A1 C1 (A2 ++ C2 ++ S) _ (by have hx := HN.out; (try simp only [List.length_append]); omega) (by have hx := HN.out; (try simp only [List.length_append]); omega) (by have hx := HN.out; (try simp only [List.length_append]); omega) HQ.out.r1 HQ.out.r3 HS1.out hw1 a k mid (by have hx := HN.out; (try simp only [List.length_append]); omega) (by have hx := HN.out; (try simp only [List.length_append]); omega) (by have hx := HN.out; (try simp only [List.length_append]); omega))
              clear hw1
              go_wp2_with fail
              refine HX2.out.mono ?_
              rintro _ w2 ⟨rfl, hc2⟩
              clear HX2
              obtain ⟨ys, ⟨L, r1, r2, rfl⟩, r3, hw2⟩ := hc2
              have HR1 := Lib.hid r1
              have HR2 := Lib.hid r2
              have HK := Lib.hid (kept_len r2)
              clear r1 r2
              have hc3 := HQ.out.right (by have hx := HN.out; (try simp only [List.length_append]); omega) r3 hw2
              clear hw2 r3
              have HC3 := Lib.hid hc3
              clear hc3
              go_wp2
              go_end0
              exact ⟨rfl, HQ.out.done HR1.out HR2.out HC3.out⟩
          · by_cases y5 : en < b
            · have HX := Lib.hid (rotate_anyP w0 g c n _ (P ++ A1) A2 C1 (C2 ++ S) hwk k m en (by have hx := HN.out; (try simp only [List.length_append]); omega) (by have hx := HN.out; (try simp only [List.length_append]); omega) (by have hx := HN.out; (try simp only [List.length_append]); omega) (by omega) (by omega) hn)
              clear hwk
              go_wp2_with fail
              refine HX.out.mono ?_
              rintro _ w1 ⟨rfl, hw1⟩
              rw [left_form] at hw1
              clear HX
              have hc2 := HQ.out.left (by have hx := HN.out; (try simp only [List.length_append]); omega) HS1.out hw1
              clear hw1
              obtain ⟨ys, ⟨L, r1, r2, rfl⟩, r3, hw2⟩ := hc2
              have HR1 := Lib.hid r1
              have HR2 := Lib.hid r2
              have HK := Lib.hid (kept_len r2)
              clear r1 r2
              have er : P ++ L ++ (A2 ++ C2 ++ S) = P ++ L ++ A2 ++ C2 ++ S := by simp only [List.append_assoc]
              rw [er] at r3 hw2
              have HX3 := Lib.hid (HI.out (P ++ L) A2 C2 S _ (by have hx := HN.out; (try simp only [List.length_append]); omega) (by have hx := HN.out; (try simp only [List.length_append]); omega) (by have hx := HN.out; (try simp only [List.length_append]); omega) HQ.out.r2 HQ.out.r4 r3 hw2 mid en b (by have hx := HN.out; have hy := HK.out; simp only [List.length_append] at hy ⊢; omega) (by have hx := HN.out; have hy := HK.out; simp only [List.length_append] at hy ⊢; omega) (by have hx := HN.out; have hy := HK.out; simp only [List.length_append] at hy ⊢; omega))
              clear hw2 r3 er
              go_wp2_with fail
              refine HX3.out.mono ?_
              rintro _ w3 ⟨rfl, hc3⟩
              clear HX3
              have HC3 := Lib.hid hc3
              clear hc3
              go_wp2
              go_end0
              exact ⟨rfl, HQ.out.done HR1.out HR2.out HC3.out⟩
            · have HX := Lib.hid (rotate_anyP w0 g c n _ (P ++ A1) A2 C1 (C2 ++ S) hwk k m en (by have hx := HN.out; (try simp only [List.length_append]); omega) (by have hx := HN.out; (try simp only [List.length_append]); omega) (by have hx := HN.out; (try simp only [List.length_append]); omega) (by omega) (by omega) hn)
              clear hwk
              go_wp2_with fail
              refine HX.out.mono ?_
              rintro _ w1 ⟨rfl, hw1⟩
              rw [left_form] at hw1
              clear HX
              have hc2 := HQ.out.left (by have hx := HN.out; (try simp only [List.length_append]); omega) HS1.out hw1
              clear hw1
              obtain ⟨ys, ⟨L, r1, r2, rfl⟩, r3, hw2⟩ := hc2
              have HR1 := Lib.hid r1
              have HR2 := Lib.hid r2
              have HK := Lib.hid (kept_len r2)
              clear r1 r2
              have hc3 := HQ.out.right (by have hx := HN.out; (try simp only [List.length_append]); omega) r3 hw2
              clear hw2 r3
              have HC3 := Lib.hid hc3
              clear hc3
              go_wp2
              go_end0
              exact ⟨rfl, HQ.out.done HR1.out HR2.out HC3.out⟩
        · have x3 : a < k := by omega
          have x4 : ¬ mid < en := by omega
          have hw1 := hwk
          rw [no_turn (by have hx := HN.out; (try simp only [List.length_append]); omega)] at hw1
          clear hwk
          have HX2 := Lib.hid (HI.out P A1 C1 (A2 ++ C2 ++ S) _ (by have hx := HN.out; (try simp only [List.length_append]); omega) (by have hx := HN.out; (try simp only [List.length_append]); omega) (by have hx := HN.out; (try simp only [List.length_append]); omega) HQ.out.r1 HQ.out.r3 HS1.out hw1 a k mid (by have hx := HN.out; (try simp only [List.length_append]); omega) (by have hx := HN.out; (try simp only [List.length_append]); omega) (by have hx := HN.out; (try simp only [List.length_append]); omega))
          clear hw1
          go_wp2_with fail
          refine HX2.out.mono ?_
          rintro _ w2 ⟨rfl, hc2⟩
          clear HX2
          obtain ⟨ys, ⟨L, r1, r2, rfl⟩, r3, hw2⟩ := hc2
          have HR1 := Lib.hid r1
          have HR2 := Lib.hid r2
          have HK := Lib.hid (kept_len r2)
          clear r1 r2
          have hc3 := HQ.out.right (by have hx := HN.out; (try simp only [List.length_append]); omega) r3 hw2
          clear hw2 r3
          have HC3 := Lib.hid hc3
          clear hc3
          go_wp2
          go_end0
          exact ⟨rfl, HQ.out.done HR1.out HR2.out HC3.out⟩
      · have x1 : ¬ k < m := by omega
        have x3 : a < k := by omega
        have x4 : ¬ mid < en := by omega
        have hw1 := hwk
        rw [no_turn (by have hx := HN.out; (try simp only [List.length_append]); omega)] at hw1
        clear hwk
        have hc2 := HQ.out.left (by have hx := HN.out; (try simp only [List.length_append]); omega) HS1.out hw1
        clear hw1
        obtain ⟨ys, ⟨L, r1, r2, rfl⟩, r3, hw2⟩ := hc2
        have HR1 := Lib.hid r1
        have HR2 := Lib.hid r2
        have HK := Lib.hid (kept_len r2)
        clear r1 r2
        have hc3 := HQ.out.right (by have hx := HN.out; (try simp only [List.length_append]); omega) r3 hw2
        clear hw2 r3
        have HC3 := Lib.hid hc3
        clear hc3
        go_wp2
        go_end0
        exact ⟨rfl, HQ.out.done HR1.out HR2.out HC3.out⟩

theorem merges_allP (O : Ordr RepB) (ok : RepB → Prop) (hcmp : CmpOKP O ok) (w0 : World) (g c n : Nat) (hn : n ≤ 1000) : ∀ d, MergesP O ok w0 g c n d
  | 0 => fun P A C S w hd hA0 hC0 => by omega
  | d + 1 => fun P A C S w hd hA0 hC0 hA hC hs hw a m b ha hm hb => by
    by_cases h1 : A.length = 1
    · obtain ⟨x, rfl⟩ := List.length_eq_one_iff.1 h1
      exact merge_firstP O ok hcmp w0 g c n w P x C S hw hs hC a m b ha (by simpa using hm) (by simpa using hb) hn
    · by_cases h2 : C.length = 1
      · obtain ⟨y, rfl⟩ := List.length_eq_one_iff.1 h2
        exact merge_lastP O ok hcmp w0 g c n w P A y S hw hs hA h1 a m b ha hm (by simpa using hb) hn
      · by_cases h3 : (a + b) / 2 < m
        · exact merge_b1P O ok hcmp w0 g c n d (merges_allP O ok hcmp w0 g c n hn d) hn P A C S w hd (by omega) (by omega) hA hC hs hw a m b _ ha hm hb rfl h3
        · exact merge_b2P O ok hcmp w0 g c n d (merges_allP O ok hcmp w0 g c n hn d) hn P A C S w hd (by omega) (by omega) hA hC hs hw a m b _ ha hm hb rfl (by omega)

set_option maxRecDepth 100000 in
set_option maxHeartbeats 4000000 in
theorem stable_anyP (O : Ordr RepB) (ok : RepB → Prop) (hcmp : CmpOKP O ok) (w0 : World) (g c n : Nat) (w : World) (xs : List RepB) (hw : Work repR 56 w0 g c n w xs) (hs : Each ok xs) (hn : n ≤ 1000) :
    Calls Tryz.prog 67 #[.slice (some ⟨g, 0, none⟩) n c, .int .i64 n, cmpVP] w (fun e w' => e = .returned (.tuple #[]) ∧ ∃ ys, Rises O ys ∧ Kept O xs ys ∧ Work repR 56 w0 g c n w' ys) := by
  have HW := Lib.hid hw
  have HCMP := Lib.hid hcmp
  clear hcmp
  have HSh := Lib.hid hs
  have HL := Lib.hid hw.len
  clear hw hs
  unfold cmpVP
  go_enter Tryz.func67, Tryz.ntmps67
  go_wp2
  go_loopw [7, 8] (fun i j wr => ∃ (a b : Nat) (ys : List RepB), i = .int .i64 a ∧ j = .int .i64 b ∧ a + 20 = b ∧ a ≤ n ∧ Pass1 O xs a ys ∧ Each ok ys ∧ Work repR 56 w0 g c n wr ys) (fun i _ _ => n - (intOf i).toNat)
  case atStart => exact ⟨0, 20, xs, rfl, rfl, rfl, Nat.zero_le _, Pass1.start xs, HSh.out, HW.out⟩
  case round =>
    obtain ⟨a, b, ys, rfl, rfl, hab, han, hp, hsy, hwk⟩ := hrel
    have hlen := hwk.len
    by_cases hlt : b ≤ n
    · obtain ⟨P, A, S, rfl, e1, e2, hnx⟩ := hp.next (by omega)
      have HX := Lib.hid (insertion_anyP O ok HCMP.out w0 g c n _ P A S hwk hsy a b e1 (by omega) hn)
      have HN := Lib.hid hnx
      clear hnx hwk hsy e1 e2 hlen hp
      go_wp2_with fail
      refine HX.out.mono ?_
      rintro _ w1 ⟨rfl, zs, hpz, hsz, hw1⟩
      have HP := Lib.hid (HN.out zs hpz)
      have HZ := Lib.hid hsz
      clear HX HN hpz hsz
      go_wp2
      go_roundw
      case rel => exact ⟨b, b + 20, zs, rfl, by go_num, rfl, hlt, by rw [← hab]; exact HP.out, HZ.out, hw1⟩
      case measure => simp [intOf]; omega
    · obtain ⟨P, A, rfl, e1, e2, hnx⟩ := hp.done (by omega) (by omega)
      have HX := Lib.hid (insertion_anyP O ok HCMP.out w0 g c n _ P A [] hwk hsy a n e1 (by omega) hn)
      have HN := Lib.hid hnx
      clear hnx hwk hsy e1 e2 hlen hp
      go_wp2_with fail
      refine HX.out.mono ?_
      rintro _ w1 ⟨rfl, zs, hpz, hsz, hw1⟩
      have HP := Lib.hid (HN.out zs hpz)
      have HZ := Lib.hid hsz
      clear HX HN hpz hsz
      go_wp2
      go_loopw [6] (fun i wr => ∃ (z : Nat) (ys : List RepB), i = .int .i64 z ∧ 20 ≤ z ∧ z ≤ 4000 ∧ Runs O z ys ∧ Kept O xs ys ∧ Each ok ys ∧ Work repR 56 w0 g c n wr ys) (fun i _ => n - (intOf i).toNat)
      case atStart => exact ⟨20, zs, rfl, by omega, by omega, HP.out.1, HP.out.2, HZ.out, hw1⟩
      case round =>
        obtain ⟨z, ys, rfl, hz1, hz2, hr, hk, hsy, hwk⟩ := hrel
        by_cases hzn : z < n
        · have HSt := Lib.hid (Pass2.start hr hk)
          have HY := Lib.hid hsy
          clear hr hk hsy
          obtain ⟨zz, hzz⟩ : ∃ zz, 2 * z = zz := ⟨_, rfl⟩
          have tz : 2 * (z : Int) = (zz : Int) := by omega
          have tz' : (z : Int) * 2 = (zz : Int) := by omega
          have HZZ := Lib.hid hzz
          go_wp2
          go_loopw [7, 8] (fun i j wr => ∃ (a b : Nat) (ys : List RepB), i = .int .i64 a ∧ j = .int .i64 b ∧ a + zz = b ∧ a ≤ n ∧ Pass2 O xs z a ys ∧ Each ok ys ∧ Work repR 56 w0 g c n wr ys) (fun i _ _ => n - (intOf i).toNat)
          case atStart => exact ⟨0, zz, ys, rfl, by go_num, by omega, Nat.zero_le _, HSt.out, HY.out, hwk⟩
          case round =>
            obtain ⟨a, b, ys, rfl, rfl, hab, han, hp, hsy, hwk⟩ := hrel
            have hlen := hwk.len
            by_cases hlt : b ≤ n
            · obtain ⟨P, A, C, S, rfl, e1, e2, e3, r1, r2, hnx⟩ := hp.next (by omega)
              obtain ⟨m, hm⟩ : ∃ m, a + z = m := ⟨_, rfl⟩
              have tm : (a : Int) + (z : Int) = (m : Int) := by omega
              have HX := Lib.hid (merges_allP O ok HCMP.out w0 g c n hn _ P A C S _ (Nat.le_refl _) (by omega) (by omega) r1 r2 hsy hwk a m b e1 (by omega) (by omega))
              have HN := Lib.hid hnx
              clear hnx hwk hsy e1 e2 e3 hlen hp r1 r2 hm
              go_wp2_with fail
              refine HX.out.mono ?_
              rintro _ w1 ⟨rfl, zs, hpz, hsz, hw1⟩
              have HP := Lib.hid (HN.out zs hpz)
              have HZ := Lib.hid hsz
              clear HX HN hpz hsz
              go_wp2
              go_roundw
              case rel => exact ⟨b, b + zz, zs, rfl, by go_num, rfl, hlt, by rw [← hab, ← HZZ.out]; exact HP.out, HZ.out, hw1⟩
              case measure => simp [intOf]; omega
            · obtain ⟨m, hm⟩ : ∃ m, a + z = m := ⟨_, rfl⟩
              have tm : (a : Int) + (z : Int) = (m : Int) := by omega
              by_cases hmn : m < n
              · obtain ⟨P, A, C, rfl, e1, e2, e3, e4, r1, r2, hnx⟩ := hp.rest (by omega) (by omega)
                have HX := Lib.hid (merges_allP O ok HCMP.out w0 g c n hn _ P A C [] _ (Nat.le_refl _) (by omega) (by omega) r1 r2 hsy hwk a m n e1 (by omega) (by omega))
                have HN := Lib.hid hnx
                clear hnx hwk hsy e1 e2 e3 e4 hlen hp r1 r2 hm
                go_wp2_with fail
                refine HX.out.mono ?_
                rintro _ w1 ⟨rfl, zs, hpz, hsz, hw1⟩
                have HP := Lib.hid (HN.out zs hpz)
                have HZ := Lib.hid hsz
                clear HX HN hpz hsz
                go_wp2
                go_roundw
                case rel => exact ⟨zz, zs, by go_num, by omega, by omega, by rw [← HZZ.out]; exact HP.out.1, HP.out.2, HZ.out, hw1⟩
                case measure => simp [intOf]; omega
              · have HP := Lib.hid (hp.done (by omega))
                have HZ := Lib.hid hsy
                clear hp hsy hlen hm
                go_wp2
                go_roundw
                case rel => exact ⟨zz, ys, by go_num, by omega, by omega, by rw [← HZZ.out]; exact HP.out.1, HP.out.2, HZ.out, hwk⟩
                case measure => simp [intOf]; omega
        · have HR := Lib.hid (hr.rises (by rw [hwk.len]; omega))
          have HK := Lib.hid hk
          clear hr hk hsy
          go_wp2
          go_end0
          exact ⟨rfl, ys, HR.out, HK.out, hwk⟩

set_option maxRecDepth 100000 in
set_option maxHeartbeats 400000 in
theorem insertion_noneP (c : Nat) (w : World) : Calls Tryz.prog 110 #[.slice none 0 c, .int .i64 0, .int .i64 0, cmpVP] w (fun e w' => e = .returned (.tuple #[]) ∧ w' = w) := by
  unfold cmpVP
  go_enter Tryz.func110, Tryz.ntmps110
  go_wp2
  go_loopw [8] (fun i wr => i = .int .i64 1 ∧ wr = w) (fun _ _ => 0)
  case atStart => exact ⟨rfl, rfl⟩
  case round =>
    obtain ⟨rfl, rfl⟩ := hrel
    go_wp2
    go_end0
    exact ⟨rfl, rfl⟩

set_option maxRecDepth 100000 in
set_option maxHeartbeats 400000 in
theorem stable_noneP (c : Nat) (w : World) : Calls Tryz.prog 67 #[.slice none 0 c, .int .i64 0, cmpVP] w (fun e w' => e = .returned (.tuple #[]) ∧ w' = w) := by
  unfold cmpVP
  go_enter Tryz.func67, Tryz.ntmps67
  go_wp2
  go_loopw [7, 8] (fun i j wr => i = .int .i64 0 ∧ j = .int .i64 20 ∧ wr = w) (fun _ _ _ => 0)
  case atStart => exact ⟨rfl, rfl, rfl⟩
  case round =>
    obtain ⟨rfl, rfl, rfl⟩ := hrel
    go_wp2_with fail
    refine (insertion_noneP c _).mono ?_
    rintro _ w1 ⟨rfl, rfl⟩
    go_wp2
    go_loopw [6] (fun i wr => i = .int .i64 20 ∧ wr = w1) (fun _ _ => 0)
    case atStart => exact ⟨rfl, rfl⟩
    case round =>
      obtain ⟨rfl, rfl⟩ := hrel
      go_wp2
      go_end0
      exact ⟨rfl, rfl⟩

set_option maxRecDepth 100000 in
set_option maxHeartbeats 400000 in
theorem stableF_anyP (O : Ordr RepB) (ok : RepB → Prop) (hcmp : CmpOKP O ok) (w0 : World) (g c n : Nat) (w : World) (xs : List RepB) (hw : Work repR 56 w0 g c n w xs) (hs : Each ok xs) (hn : n ≤ 1000) :
    Calls Tryz.prog 24 #[.slice (some ⟨g, 0, none⟩) n c, cmpVP] w (fun e w' => e = .returned (.tuple #[]) ∧ ∃ ys, Rises O ys ∧ Kept O xs ys ∧ Work repR 56 w0 g c n w' ys) := by
  have HX := Lib.hid (stable_anyP O ok hcmp w0 g c n w xs hw hs hn)
  clear hw hs
  unfold cmpVP
  go_enter Tryz.func24, Tryz.ntmps24
  go_wp2_with fail
  refine HX.out.mono ?_
  rintro _ w1 ⟨rfl, ys, h1, h2, h3⟩
  have H1 := Lib.hid h1
  have H2 := Lib.hid h2
  clear h1 h2
  go_wp2
  go_end0
  exact ⟨rfl, ys, H1.out, H2.out, h3⟩

set_option maxRecDepth 100000 in
set_option maxHeartbeats 400000 in
theorem stableF_noneP (c : Nat) (w : World) : Calls Tryz.prog 24 #[.slice none 0 c, cmpVP] w (fun e w' => e = .returned (.tuple #[]) ∧ w' = w) := by
  unfold cmpVP
  go_enter Tryz.func24, Tryz.ntmps24
  go_wp2_with fail
  refine (stable_noneP c _).mono ?_
  rintro _ w1 ⟨rfl, rfl⟩
  go_wp2
  go_end0
  exact ⟨rfl, rfl⟩

end Go.Proofs.YtmdlmjcejeejfaaGreatDoor

/-
  The stable sort at RetB: two parts change places (swapRange, rotate).
-/
set_option linter.unusedVariables false
set_option linter.unusedSimpArgs false
namespace Go.Proofs.YtmdlmjcejeejfaaGreatDoor
open Go.RowKit Go.Shelf

def cmpVT : Value := .func (.func 29) #[] #[]
/-- What is asked of the comparison. -/
def CmpOKT (O : Ordr RetB) (ok : RetB → Prop) : Prop := ∀ (x1 : ByteArray) (x2 : ByteArray) (x3 : ByteArray) (z1 : ByteArray) (z2 : ByteArray) (z3 : ByteArray) w, ok (x1, (x2, x3)) → ok (z1, (z2, z3)) → Calls Tryz.prog 29 #[.agg #[.string x1, .string x2, .string x3], .agg #[.string z1, .string z2, .string z3]] w (IntOut (O.c (x1, (x2, x3)) (z1, (z2, z3))) w)
theorem wcellT {w0 w : World} {g c n : Nat} {xs : List RetB} (h : Work retR 58 w0 g c n w xs) {i : Nat} {x1 : ByteArray} {x2 : ByteArray} {x3 : ByteArray} (hi : xs[i]? = some (x1, (x2, x3))) : w.cell? ⟨g, i * 3, none⟩ = some (.string x1) ∧ w.cell? ⟨g, i * 3 + 1, none⟩ = some (.string x2) ∧ w.cell? ⟨g, i * 3 + 2, none⟩ = some (.string x3) := ⟨h.cells hi 0 _ rfl, h.cells hi 1 _ rfl, h.cells hi 2 _ rfl⟩
theorem wswapT {w0 w : World} {g c n : Nat} {P M S : List RetB} (x1 : ByteArray) (x2 : ByteArray) (x3 : ByteArray) (y1 : ByteArray) (y2 : ByteArray) (y3 : ByteArray) (h : Work retR 58 w0 g c n w (P ++ (x1, (x2, x3)) :: M ++ (y1, (y2, y3)) :: S)) : Work retR 58 w0 g c n ((((((w.setCell ⟨g, P.length * 3, none⟩ (.string y1)).setCell ⟨g, P.length * 3 + 1, none⟩ (.string y2)).setCell ⟨g, P.length * 3 + 2, none⟩ (.string y3)).setCell ⟨g, (P.length + 1 + M.length) * 3, none⟩ (.string x1)).setCell ⟨g, (P.length + 1 + M.length) * 3 + 1, none⟩ (.string x2)).setCell ⟨g, (P.length + 1 + M.length) * 3 + 2, none⟩ (.string x3)) (P ++ (y1, (y2, y3)) :: M ++ (x1, (x2, x3)) :: S) := h.swap
theorem wswapT' {w0 w : World} {g c n : Nat} {P M S : List RetB} (x1 : ByteArray) (x2 : ByteArray) (x3 : ByteArray) (y1 : ByteArray) (y2 : ByteArray) (y3 : ByteArray) (h : Work retR 58 w0 g c n w (P ++ (x1, (x2, x3)) :: M ++ (y1, (y2, y3)) :: S)) : Work retR 58 w0 g c n ((((((w.setCell ⟨g, (P.length + 1 + M.length) * 3, none⟩ (.string x1)).setCell ⟨g, (P.length + 1 + M.length) * 3 + 1, none⟩ (.string x2)).setCell ⟨g, (P.length + 1 + M.length) * 3 + 2, none⟩ (.string x3)).setCell ⟨g, P.length * 3, none⟩ (.string y1)).setCell ⟨g, P.length * 3 + 1, none⟩ (.string y2)).setCell ⟨g, P.length * 3 + 2, none⟩ (.string y3)) (P ++ (y1, (y2, y3)) :: M ++ (x1, (x2, x3)) :: S) := h.swap'

set_option maxRecDepth 100000 in
set_option maxHeartbeats 4000000 in
theorem swapRange_anyT (w0 : World) (g c n : Nat) (w : World) (P A M C S : List RetB) (hw : Work retR 58 w0 g c n w (P ++ A ++ M ++ C ++ S)) (hc : C.length = A.length) (a b m : Nat) (ha : a = P.length) (hb : b = P.length + A.length + M.length) (hm : m = A.length) (hn : n ≤ 1000) :
    Calls Tryz.prog 194 #[.slice (some ⟨g, 0, none⟩) n c, .int .i64 a, .int .i64 b, .int .i64 m, cmpVT] w (DoneOut retR 58 w0 g c n (P ++ C ++ M ++ A ++ S)) := by
  have hlen := hw.len
  simp only [List.length_append] at hlen
  have hbn : b + m ≤ n := by omega
  have hab : a + m ≤ b := by omega
  have HW := Lib.hid hw
  have HN := Lib.hid (fun ys k (h : SwapAt P A M C S k ys) (hk : k < m) => h.next (by omega) hc)
  have H0 := Lib.hid (show SwapAt P A M C S 0 (P ++ A ++ M ++ C ++ S) by simp [SwapAt])
  have HE := Lib.hid (fun ys k (h : SwapAt P A M C S k ys) (hk : k = m) => show ys = P ++ C ++ M ++ A ++ S by subst hk; rw [h, hm, List.take_of_length_le (Nat.le_of_eq hc), List.take_length, List.drop_length, List.drop_of_length_le (Nat.le_of_eq hc)]; simp)
  have HA := Lib.hid ha
  have HB := Lib.hid hb
  clear hw hlen ha hb hm hc
  unfold cmpVT
  go_enter Tryz.func194, Tryz.ntmps194
  go_wp2
  go_loopw [10] (fun i wr => ∃ (k : Nat) (ys : List RetB), k ≤ m ∧ i = .int .i64 k ∧ SwapAt P A M C S k ys ∧ Work retR 58 w0 g c n wr ys) (fun i _ => m - (intOf i).toNat)
  case atStart => exact ⟨0, _, Nat.zero_le _, rfl, H0.out, HW.out⟩
  case round =>
    obtain ⟨k, ys, hk, rfl, hsw, hwk⟩ := hrel
    by_cases hlt : k < m
    · obtain ⟨P', M', S', ⟨x1, x2, x3⟩, ⟨y1, y2, y3⟩, rfl, h1, h2, h3⟩ := HN.out ys k hsw hlt
      have d1 : P'.length = a + k := by rw [h1, HA.out]
      have d2 : P'.length + 1 + M'.length = b + k := by rw [h2, HB.out]
      obtain ⟨q0, q1, q2⟩ := wcellT hwk (at_two P' M' S' _ _).1
      obtain ⟨r0, r1, r2⟩ := wcellT hwk (at_two P' M' S' _ _).2
      have HS := Lib.hid (wswapT x1 x2 x3 y1 y2 y3 hwk)
      rw [d2] at r0 r1 r2 HS
      rw [d1] at q0 q1 q2 HS
      have f0 := hwk.frozen ((a + k) * 3)
      have f1 := hwk.frozen ((a + k) * 3 + 1)
      have f2 := hwk.frozen ((a + k) * 3 + 2)
      have e0 := hwk.frozen ((b + k) * 3)
      have e1 := hwk.frozen ((b + k) * 3 + 1)
      have e2 := hwk.frozen ((b + k) * 3 + 2)
      have t1 : ((a : Int) + (k : Int)).toNat = a + k := by omega
      have t2 : ((b : Int) + (k : Int)).toNat = b + k := by omega
      have i1 : (0 : Int) ≤ (a : Int) + (k : Int) := by omega
      have i2 : (a : Int) + (k : Int) < (n : Int) := by omega
      have i3 : (0 : Int) ≤ (b : Int) + (k : Int) := by omega
      have i4 : (b : Int) + (k : Int) < (n : Int) := by omega
      have H3 := Lib.hid h3
      clear hsw h1 h2 h3 hwk d1 d2
      go_wp2
      go_region
      go_wp2
      go_roundw
      case rel => exact ⟨k + 1, _, by omega, by go_num, H3.out, HS.out.drew⟩
      case measure => simp [intOf]; omega
    · have HEE := Lib.hid (HE.out ys k hsw (by omega))
      clear hsw
      go_wp2
      go_end0
      rw [← HEE.out]
      exact ⟨rfl, hwk⟩
set_option maxRecDepth 100000 in
set_option maxHeartbeats 4000000 in
theorem rotate_anyT (w0 : World) (g c n : Nat) (w : World) (P A C S : List RetB) (hw : Work retR 58 w0 g c n w (P ++ A ++ C ++ S)) (a m b : Nat) (ha : a = P.length) (hm : m = P.length + A.length) (hb : b = P.length + A.length + C.length) (h1 : a < m) (h2 : m < b) (hn : n ≤ 1000) :
    Calls Tryz.prog 165 #[.slice (some ⟨g, 0, none⟩) n c, .int .i64 a, .int .i64 m, .int .i64 b, cmpVT] w (DoneOut retR 58 w0 g c n (P ++ C ++ A ++ S)) := by
  have hlen := hw.len
  simp only [List.length_append] at hlen
  have hbn : b ≤ n := by omega
  have H0 := Lib.hid (show RotAt (P ++ C ++ A ++ S) m (m - a) (b - m) (P ++ A ++ C ++ S) from ⟨P, A, C, S, rfl, rfl, by omega, by omega, by omega⟩)
  generalize P ++ C ++ A ++ S = T at *
  have HW := Lib.hid hw
  clear hw hlen ha hb hm
  have ew1 : ((m : Int) - (a : Int)) = ((m - a : Nat) : Int) := by omega
  have ew2 : ((b : Int) - (m : Int)) = ((b - m : Nat) : Int) := by omega
  go_enter Tryz.func165, Tryz.ntmps165
  go_wp2
  go_loopw [10, 11] (fun i j wr => ∃ (k l : Nat) (ys : List RetB), 0 < k ∧ 0 < l ∧ k ≤ m ∧ m + l ≤ b ∧ i = .int .i64 k ∧ j = .int .i64 l ∧ RotAt T m k l ys ∧ Work retR 58 w0 g c n wr ys) (fun i j _ => (intOf i + intOf j).toNat)
  case atStart => exact ⟨m - a, b - m, _, by omega, by omega, by omega, by omega, by go_num, by go_num, H0.out, HW.out⟩
  case round =>
    obtain ⟨k, l, ys, hk0, hl0, hkm, hlb, rfl, rfl, hr, hwk⟩ := hrel
    have ek : ((m : Int) - (k : Int)) = ((m - k : Nat) : Int) := by omega
    by_cases heq : k = l
    · subst heq
      obtain ⟨P, A, M, C, S, rfl, q1, q2, q3, q4, q5⟩ := hr.last
      have HX := Lib.hid (swapRange_anyT w0 g c n _ P A M C S hwk q1 (m - k) m k q2 q3 q4 hn)
      rw [q5] at HX
      clear hr q1 q2 q3 q4 q5 hwk
      go_wp2_with fail
      refine HX.out.mono ?_
      rintro _ w1 ⟨rfl, hd⟩
      go_wp2
      go_end0
      exact ⟨rfl, hd⟩
    · by_cases hlt : l < k
      · obtain ⟨P, A, M, C, S, rfl, q1, q2, q3, q4, q5⟩ := hr.more hlt
        have HX := Lib.hid (swapRange_anyT w0 g c n _ P A M C S hwk q1 (m - k) m l q2 q3 q4 hn)
        have H5 := Lib.hid q5
        clear hr q1 q2 q3 q4 q5 hwk
        generalize P ++ C ++ M ++ A ++ S = zs at *
        go_wp2_with fail
        refine HX.out.mono ?_
        rintro _ w1 ⟨rfl, hd⟩
        go_wp2
        go_roundw
        case rel => exact ⟨k - l, l, zs, by omega, by omega, by omega, by omega, by go_num, rfl, H5.out, hd⟩
        case measure => simp [intOf]; omega
      · obtain ⟨P, A, M, C, S, rfl, q1, q2, q3, q4, q5⟩ := hr.less (by omega)
        have HX := Lib.hid (swapRange_anyT w0 g c n _ P A M C S hwk q1 (m - k) (m + l - k) k q2 q3 q4 hn)
        have H5 := Lib.hid q5
        clear hr q1 q2 q3 q4 q5 hwk
        generalize P ++ C ++ M ++ A ++ S = zs at *
        have ek2 : ((m : Int) + (l : Int) - (k : Int)) = ((m + l - k : Nat) : Int) := by omega
        go_wp2_with fail
        refine HX.out.mono ?_
        rintro _ w1 ⟨rfl, hd⟩
        go_wp2
        go_roundw
        case rel => exact ⟨k, l - k, zs, by omega, by omega, by omega, by omega, rfl, by go_num, H5.out, hd⟩
        case measure => simp [intOf]; omega
end Go.Proofs.YtmdlmjcejeejfaaGreatDoor

/-
  The stable sort at RetB: the insertion sort of a part.
-/
set_option linter.unusedVariables false
set_option linter.unusedSimpArgs false
namespace Go.Proofs.YtmdlmjcejeejfaaGreatDoor
open Go.RowKit Go.Shelf

set_option maxRecDepth 100000 in
set_option maxHeartbeats 4000000 in
theorem insertion_anyT (O : Ordr RetB) (ok : RetB → Prop) (hcmp : CmpOKT O ok) (w0 : World) (g c n : Nat) (w : World) (P A S : List RetB) (hw : Work retR 58 w0 g c n w (P ++ A ++ S)) (hs : Each ok (P ++ A ++ S)) (a b : Nat) (ha : a = P.length) (hb : b = P.length + A.length) (hn : n ≤ 1000) :
    Calls Tryz.prog 115 #[.slice (some ⟨g, 0, none⟩) n c, .int .i64 a, .int .i64 b, cmpVT] w (fun e w' => e = .returned (.tuple #[]) ∧ ∃ ys, Parted O P A S ys ∧ Each ok ys ∧ Work retR 58 w0 g c n w' ys) := by
  have hlen := hw.len
  simp only [List.length_append] at hlen
  have hbn : b ≤ n := by omega
  have HW := Lib.hid hw
  have HCMP := Lib.hid hcmp
  clear hcmp
  have HSh := Lib.hid hs
  clear hs
  have H0 := Lib.hid (SortAt.start (O := O) P A S)
  have HN := Lib.hid (fun ys k (h : SortAt O P A S k ys) (hk : a + k < b) => h.next (by omega))
  have HD := Lib.hid (fun ys k (h : SortAt O P A S k ys) (hk : b ≤ a + k) => h.done (by omega))
  have HA := Lib.hid ha
  have hab : a ≤ b := by omega
  clear hw hlen ha hb
  unfold cmpVT
  go_enter Tryz.func115, Tryz.ntmps115
  go_wp2
  go_loopw [8] (fun i wr => ∃ (k : Nat) (ys : List RetB), 1 ≤ k ∧ (k = 1 ∨ a + k ≤ b) ∧ i = .int .i64 ((a + k : Nat) : Int) ∧ SortAt O P A S k ys ∧ Each ok ys ∧ Work retR 58 w0 g c n wr ys) (fun i _ => b + 1 - (intOf i).toNat)
  case atStart => exact ⟨1, _, Nat.le_refl _, .inl rfl, by go_num, H0.out, HSh.out, HW.out⟩
  case round =>
    obtain ⟨k, ys, hk1, hkb, rfl, hso, hsy, hwk⟩ := hrel
    have HSO := Lib.hid hso
    have HSY := Lib.hid hsy
    clear hso hsy
    obtain ⟨ik, hik⟩ : ∃ ik, a + k = ik := ⟨_, rfl⟩
    rw [hik] at hkb ⊢
    by_cases hlt : ik < b
    · obtain ⟨A1, ⟨x1, x2, x3⟩, S', hr1, hia, hfin⟩ := HN.out ys k HSO.out (by omega)
      have HR1 := Lib.hid hr1
      have HIA := Lib.hid (show InsAt O P A1 (x1, (x2, x3)) S' ik ys by rw [← hik, HA.out]; exact hia)
      have HF := Lib.hid hfin
      clear hr1 hia hfin
      go_wp2
      go_loopw [9] (fun j wi => ∃ (jn : Nat) (zs : List RetB), a ≤ jn ∧ jn ≤ ik ∧ j = .int .i64 jn ∧ InsAt O P A1 (x1, (x2, x3)) S' jn zs ∧ Each ok zs ∧ Work retR 58 w0 g c n wi zs) (fun j _ => (intOf j).toNat)
      case atStart => exact ⟨ik, ys, by omega, Nat.le_refl _, rfl, HIA.out, HSY.out, hwk⟩
      case round =>
        obtain ⟨jn, zs, hj1, hj2, rfl, hins, hsz, hwi⟩ := hrel
        by_cases hja : a < jn
        · obtain ⟨P', ⟨z1, z2, z3⟩, S'', rfl, hj, hyes, hno⟩ := hins.next HR1.out (by rw [← HA.out]; exact hja)
          have HY := Lib.hid hyes
          have HNo := Lib.hid hno
          have e2 : P'.length + 1 + ([] : List RetB).length = jn := by simp; omega
          have sx : ok (x1, (x2, x3)) := hsz _ (by simp)
          have sz : ok (z1, (z2, z3)) := hsz _ (by simp)
          have HZ := Lib.hid hsz
          have HZ2 := Lib.hid (each_swap hsz)
          have HC := Lib.hid (fun w' (h : Work retR 58 w0 g c n w' (P' ++ (z1, (z2, z3)) :: [] ++ (x1, (x2, x3)) :: S'')) => And.intro (wcellT h (at_two P' [] S'' _ _).1) (wcellT h (at_two P' [] S'' _ _).2))
          have HSw := Lib.hid (fun w' (h : Work retR 58 w0 g c n w' (P' ++ (z1, (z2, z3)) :: [] ++ (x1, (x2, x3)) :: S'')) => wswapT' z1 z2 z3 x1 x2 x3 h)
          clear hyes hno hsz hins
          obtain ⟨jm, e1⟩ : ∃ jm, P'.length = jm := ⟨_, rfl⟩
          rw [e2] at HC HSw
          rw [e1] at HC HSw HY
          have HJ := Lib.hid (show jn = jm + 1 by omega)
          have t1 : (jn : Int) - 1 = (jm : Int) := by omega
          have t2 : jm < n := by omega
          have t3 : jn < n := by omega
          have t4 : (jm : Int) < (n : Int) := by omega
          have t5 : (jn : Int) < (n : Int) := by omega
          have t6 : IntKind.i64.wrap (jm : Int) = (jm : Int) := IntWalk.i64_in _ (by omega)
          clear hj e1 e2
          obtain ⟨⟨q0, q1, q2⟩, ⟨r0, r1, r2⟩⟩ := HC.out _ hwi
          have hgz := hwi.lt
          by_cases hcm : O.c (x1, (x2, x3)) (z1, (z2, z3)) < 0
          · go_wp2
            go_region_held3 (fun w' => w'.cell? ⟨g, jn * 3, none⟩ = some (.string x1) ∧ w'.cell? ⟨g, jn * 3 + 1, none⟩ = some (.string x2) ∧ w'.cell? ⟨g, jn * 3 + 2, none⟩ = some (.string x3) ∧ w'.cell? ⟨g, jm * 3, none⟩ = some (.string z1) ∧ w'.cell? ⟨g, jm * 3 + 1, none⟩ = some (.string z2) ∧ w'.cell? ⟨g, jm * 3 + 2, none⟩ = some (.string z3))
              (first | go_keep | with_reducible exact K2.out)
              (first | (go_at_call 29; refine (HCMP.out x1 x2 x3 z1 z2 z3 _ sx sz).mono ?_; rintro e w2 ⟨rfl, hb2'⟩; have hb2 := below_drewN' (n := 1) hb2'; have K2 := Lib.hid (And.intro ((hb2.cell (p := ⟨g, jn * 3, none⟩) hgz).trans r0) (And.intro ((hb2.cell (p := ⟨g, jn * 3 + 1, none⟩) hgz).trans r1) (And.intro ((hb2.cell (p := ⟨g, jn * 3 + 2, none⟩) hgz).trans r2) (And.intro ((hb2.cell (p := ⟨g, jm * 3, none⟩) hgz).trans q0) (And.intro ((hb2.cell (p := ⟨g, jm * 3 + 1, none⟩) hgz).trans q1) ((hb2.cell (p := ⟨g, jm * 3 + 2, none⟩) hgz).trans q2))))))))
            rename_i hheld
            clear hheld K2 hb2'
            have hw2 := hwi.call hb2
            obtain ⟨⟨p0, p1, p2⟩, ⟨o0, o1, o2⟩⟩ := HC.out _ hw2
            have f0 := hw2.frozen (jn * 3)
            have f1 := hw2.frozen (jn * 3 + 1)
            have f2 := hw2.frozen (jn * 3 + 2)
            have e0 := hw2.frozen (jm * 3)
            have e1 := hw2.frozen (jm * 3 + 1)
            have e2 := hw2.frozen (jm * 3 + 2)
            have HSS := Lib.hid (HSw.out _ hw2)
            clear hb2 q0 q1 q2 r0 r1 r2 hgz hwi
            go_wp2
            go_region
            go_wp2
            go_roundw
            case rel => exact ⟨jm, _, by have := HJ.out; omega, by have := HJ.out; omega, by go_num, HY.out hcm, HZ2.out, HSS.out.drew⟩
            case measure => have := HJ.out; simp [intOf]; omega
          · go_wp2
            go_region_held3 (fun w' => w'.cell? ⟨g, jn * 3, none⟩ = some (.string x1) ∧ w'.cell? ⟨g, jn * 3 + 1, none⟩ = some (.string x2) ∧ w'.cell? ⟨g, jn * 3 + 2, none⟩ = some (.string x3) ∧ w'.cell? ⟨g, jm * 3, none⟩ = some (.string z1) ∧ w'.cell? ⟨g, jm * 3 + 1, none⟩ = some (.string z2) ∧ w'.cell? ⟨g, jm * 3 + 2, none⟩ = some (.string z3))
              (first | go_keep | with_reducible exact K2.out)
              (first | (go_at_call 29; refine (HCMP.out x1 x2 x3 z1 z2 z3 _ sx sz).mono ?_; rintro e w2 ⟨rfl, hb2'⟩; have hb2 := below_drewN' (n := 1) hb2'; have K2 := Lib.hid (And.intro ((hb2.cell (p := ⟨g, jn * 3, none⟩) hgz).trans r0) (And.intro ((hb2.cell (p := ⟨g, jn * 3 + 1, none⟩) hgz).trans r1) (And.intro ((hb2.cell (p := ⟨g, jn * 3 + 2, none⟩) hgz).trans r2) (And.intro ((hb2.cell (p := ⟨g, jm * 3, none⟩) hgz).trans q0) (And.intro ((hb2.cell (p := ⟨g, jm * 3 + 1, none⟩) hgz).trans q1) ((hb2.cell (p := ⟨g, jm * 3 + 2, none⟩) hgz).trans q2))))))))
            rename_i hheld
            clear hheld K2 hb2'
            have hw2 := hwi.call hb2
            have HP := Lib.hid (HF.out _ (HNo.out hcm))
            clear hb2 q0 q1 q2 r0 r1 r2 hgz hwi
            go_wp2
            go_roundw
            case rel => exact ⟨k + 1, _, by omega, by omega, by go_num, HP.out, HZ.out, hw2⟩
            case measure => simp [intOf]; omega
        · have HP := Lib.hid (HF.out _ (hins.low HR1.out (by rw [← HA.out]; omega)))
          have HZ := Lib.hid hsz
          have hjd : jn = a := by omega
          subst hjd
          clear hins hsz
          go_wp2
          go_quiet (fail)
          go_wp2
          go_roundw
          case rel => exact ⟨k + 1, _, by omega, by omega, by go_num, HP.out, HZ.out, hwi.drewN _⟩
          case measure => simp [intOf]; omega
    · have HP := Lib.hid (HD.out _ _ HSO.out (by omega))
      go_wp2
      go_end0
      exact ⟨rfl, _, HP.out, HSY.out, hwk⟩
end Go.Proofs.YtmdlmjcejeejfaaGreatDoor

/-
  The stable sort at RetB: merges of one with a part.
-/
set_option linter.unusedVariables false
set_option linter.unusedSimpArgs false
namespace Go.Proofs.YtmdlmjcejeejfaaGreatDoor
open Go.RowKit Go.Shelf

set_option maxRecDepth 100000 in
set_option maxHeartbeats 4000000 in
theorem merge_firstT (O : Ordr RetB) (ok : RetB → Prop) (hcmp : CmpOKT O ok) (w0 : World) (g c n : Nat) (w : World) (P : List RetB) (x : RetB) (C S : List RetB) (hw : Work retR 58 w0 g c n w (P ++ [x] ++ C ++ S)) (hs : Each ok (P ++ [x] ++ C ++ S)) (hc : Rises O C) (a m b : Nat) (ha : a = P.length) (hm : m = P.length + 1) (hb : b = P.length + 1 + C.length) (hn : n ≤ 1000) :
    Calls Tryz.prog 116 #[.slice (some ⟨g, 0, none⟩) n c, .int .i64 a, .int .i64 m, .int .i64 b, cmpVT] w (MergeOut retR 58 O ok w0 g c n P (x :: C) S) := by
  obtain ⟨x1, x2, x3⟩ := x
  have hlen := hw.len
  simp only [List.length_append, List.length_singleton] at hlen
  have hbn : b ≤ n := by omega
  have HW := Lib.hid hw
  have HCMP := Lib.hid hcmp
  clear hcmp
  have HSh := Lib.hid hs
  have HMo := Lib.hid (first_mono (P := P) (x := (x1, (x2, x3))) (S := S) hc)
  have HCu := Lib.hid (fun e => first_cut (P := P) (x := (x1, (x2, x3))) (S := S) (e := e) hc)
  have HU0 := Lib.hid (show UpAt P (x1, (x2, x3)) C S 0 (P ++ [(x1, (x2, x3))] ++ C ++ S) by simp [UpAt])
  have sx : ok (x1, (x2, x3)) := hs _ (by simp)
  have qx : (P ++ [(x1, (x2, x3))] ++ C ++ S)[a]? = some (x1, (x2, x3)) := by rw [ha]; simp
  have HX := Lib.hid (fun w' (h : Work retR 58 w0 g c n w' (P ++ [(x1, (x2, x3))] ++ C ++ S)) => wcellT h qx)
  have HA := Lib.hid ha
  have HM := Lib.hid hm
  have HB := Lib.hid hb
  have hcl : b = m + C.length := by omega
  have HCL := Lib.hid hcl
  have hma : m = a + 1 := by omega
  have HMA := Lib.hid hma
  have hmb : m ≤ b := by omega
  have han : a < n := by omega
  have hti : (m : Int) - (a : Int) = 1 := by omega
  have han' : (a : Int) < (n : Int) := by omega
  have HXS := Lib.hid (fun q => some_at (xs := P ++ [(x1, (x2, x3))] ++ C ++ S) (q := q))
  have HL := Lib.hid (show (P ++ [(x1, (x2, x3))] ++ C ++ S).length = n from hw.len)
  rw [← hm] at HMo HCu
  clear hw hlen ha hb hm hs hcl hma qx hc
  generalize hxs : P ++ [(x1, (x2, x3))] ++ C ++ S = xs at *
  have HQ := Lib.hid hxs
  clear hxs
  unfold cmpVT
  go_enter Tryz.func116, Tryz.ntmps116
  go_wp2
  go_loopw [10, 11] (fun i j wr => ∃ (k l : Nat), i = .int .i64 k ∧ j = .int .i64 l ∧ Sk (fun q => O.c (keyAt xs q) (x1, (x2, x3)) < 0) m (m + C.length) k l ∧ Work retR 58 w0 g c n wr xs) (fun i j _ => (intOf j - intOf i).toNat)
  case atStart => exact ⟨m, b, rfl, rfl, by rw [HCL.out]; exact Sk.start _ (by omega), HW.out⟩
  case round =>
    obtain ⟨k, l, rfl, rfl, hsk, hwk⟩ := hrel
    have hk1 := hsk.a
    have hk2 := hsk.b
    have hk3 := hsk.c
    rw [← HCL.out] at hk3
    by_cases hlt : k < l
    · obtain ⟨h, hh⟩ : ∃ h, (k + l) / 2 = h := ⟨_, rfl⟩
      obtain ⟨⟨z1, z2, z3⟩, qz, ez⟩ := HXS.out ((k + l) / 2) (by rw [HL.out]; omega)
      obtain ⟨q0, q1, q2⟩ := wcellT hwk qz
      obtain ⟨r0, r1, r2⟩ := HX.out _ hwk
      have sz : ok (z1, (z2, z3)) := HSh.out _ (List.mem_of_getElem? qz)
      have hgz := hwk.lt
      have hb1 : (k + l) / 2 < n := by omega
      have hb3 : (0 : Int) ≤ ((k : Int) + (l : Int)) / 2 := by omega
      have hb4 : ((k : Int) + (l : Int)) / 2 < (n : Int) := by omega
      have hb5 : (0 : Int) ≤ (a : Int) := by omega
      have hb6 : (((k : Int) + (l : Int)) / 2).toNat = (k + l) / 2 := by omega
      have HUp := Lib.hid (fun e => hsk.up HMo.out (h := (k + l) / 2) (by omega) (by omega) e)
      have HDn := Lib.hid (fun e => hsk.down HMo.out (h := (k + l) / 2) (by omega) (by omega) e)
      simp only [← ez] at HUp HDn
      clear hsk qz ez hh
      by_cases hcm : O.c (z1, (z2, z3)) (x1, (x2, x3)) < 0
      · go_wp2
        go_region_held3 (fun w' => w'.cell? ⟨g, (k + l) / 2 * 3, none⟩ = some (.string z1) ∧ w'.cell? ⟨g, (k + l) / 2 * 3 + 1, none⟩ = some (.string z2) ∧ w'.cell? ⟨g, (k + l) / 2 * 3 + 2, none⟩ = some (.string z3) ∧ w'.cell? ⟨g, a * 3, none⟩ = some (.string x1) ∧ w'.cell? ⟨g, a * 3 + 1, none⟩ = some (.string x2) ∧ w'.cell? ⟨g, a * 3 + 2, none⟩ = some (.string x3))
          (first | go_keep | with_reducible exact K2.out)
          (first | (go_at_call 29; refine (HCMP.out z1 z2 z3 x1 x2 x3 _ sz sx).mono ?_; rintro e w2 ⟨rfl, hb2'⟩; have hb2 := below_drewN' (n := 1) hb2'; have K2 := Lib.hid (And.intro ((hb2.cell (p := ⟨g, (k + l) / 2 * 3, none⟩) hgz).trans q0) (And.intro ((hb2.cell (p := ⟨g, (k + l) / 2 * 3 + 1, none⟩) hgz).trans q1) (And.intro ((hb2.cell (p := ⟨g, (k + l) / 2 * 3 + 2, none⟩) hgz).trans q2) (And.intro ((hb2.cell (p := ⟨g, a * 3, none⟩) hgz).trans r0) (And.intro ((hb2.cell (p := ⟨g, a * 3 + 1, none⟩) hgz).trans r1) ((hb2.cell (p := ⟨g, a * 3 + 2, none⟩) hgz).trans r2))))))))
        rename_i hheld
        clear hheld K2 hb2'
        have hw2 := hwk.call hb2
        have HP := Lib.hid (HUp.out hcm)
        clear hb2 q0 q1 q2 r0 r1 r2 hgz hwk
        go_wp2
        go_roundw
        case rel => exact ⟨(k + l) / 2 + 1, l, by go_num, rfl, HP.out, hw2⟩
        case measure => simp [intOf]; omega
      · go_wp2
        go_region_held3 (fun w' => w'.cell? ⟨g, (k + l) / 2 * 3, none⟩ = some (.string z1) ∧ w'.cell? ⟨g, (k + l) / 2 * 3 + 1, none⟩ = some (.string z2) ∧ w'.cell? ⟨g, (k + l) / 2 * 3 + 2, none⟩ = some (.string z3) ∧ w'.cell? ⟨g, a * 3, none⟩ = some (.string x1) ∧ w'.cell? ⟨g, a * 3 + 1, none⟩ = some (.string x2) ∧ w'.cell? ⟨g, a * 3 + 2, none⟩ = some (.string x3))
          (first | go_keep | with_reducible exact K2.out)
          (first | (go_at_call 29; refine (HCMP.out z1 z2 z3 x1 x2 x3 _ sz sx).mono ?_; rintro e w2 ⟨rfl, hb2'⟩; have hb2 := below_drewN' (n := 1) hb2'; have K2 := Lib.hid (And.intro ((hb2.cell (p := ⟨g, (k + l) / 2 * 3, none⟩) hgz).trans q0) (And.intro ((hb2.cell (p := ⟨g, (k + l) / 2 * 3 + 1, none⟩) hgz).trans q1) (And.intro ((hb2.cell (p := ⟨g, (k + l) / 2 * 3 + 2, none⟩) hgz).trans q2) (And.intro ((hb2.cell (p := ⟨g, a * 3, none⟩) hgz).trans r0) (And.intro ((hb2.cell (p := ⟨g, a * 3 + 1, none⟩) hgz).trans r1) ((hb2.cell (p := ⟨g, a * 3 + 2, none⟩) hgz).trans r2))))))))
        rename_i hheld
        clear hheld K2 hb2'
        have hw2 := hwk.call hb2
        have HP := Lib.hid (HDn.out hcm)
        clear hb2 q0 q1 q2 r0 r1 r2 hgz hwk
        go_wp2
        go_roundw
        case rel => exact ⟨k, (k + l) / 2, rfl, by go_num, HP.out, hw2⟩
        case measure => simp [intOf]; omega
    · obtain rfl : k = l := by omega
      obtain ⟨e, rfl⟩ : ∃ e, k = m + e := ⟨k - m, by omega⟩
      have HR := Lib.hid (HCu.out e hsk)
      have hsub : ((m + e : Nat) : Int) - 1 = ((a + e : Nat) : Int) := by have := HMA.out; omega
      obtain ⟨ke, hke⟩ : ∃ ke, m + e = ke := ⟨_, rfl⟩
      have hae : a + e + 1 = ke := by have := HMA.out; omega
      have heC : e ≤ C.length := by have := HCL.out; omega
      rw [hke] at hsub hk1 hk2 hk3 ⊢
      have hsub' : (ke : Int) - 1 = (a : Int) + (e : Int) := by omega
      have HUN := Lib.hid (fun ys r (h : UpAt P (x1, (x2, x3)) C S r ys) (hr : r < e) => h.next (by omega))
      clear hsk hsub
      go_wp2
      go_loopw [13] (fun i wr => ∃ (r : Nat) (ys : List RetB), r ≤ e ∧ i = .int .i64 ((a + r : Nat) : Int) ∧ UpAt P (x1, (x2, x3)) C S r ys ∧ Each ok ys ∧ Work retR 58 w0 g c n wr ys) (fun i _ => (a + e) - (intOf i).toNat)
      case atStart => exact ⟨0, xs, Nat.zero_le _, rfl, HU0.out, HSh.out, hwk⟩
      case round =>
        obtain ⟨r, ys, hre, rfl, hup, hsy, hwy⟩ := hrel
        by_cases hrl : r < e
        · obtain ⟨P', ⟨y1, y2, y3⟩, S', rfl, hl, hup2⟩ := HUN.out ys r hup hrl
          have HS2 := Lib.hid (each_swap hsy)
          have HU2 := Lib.hid hup2
          have d1 : P'.length = a + r := by rw [hl, HA.out]
          have d2 : P'.length + 1 + ([] : List RetB).length = a + r + 1 := by simp [d1]
          obtain ⟨⟨q0, q1, q2⟩, ⟨r0, r1, r2⟩⟩ := And.intro (wcellT hwy (at_two P' [] S' _ _).1) (wcellT hwy (at_two P' [] S' _ _).2)
          have HSw := Lib.hid (wswapT x1 x2 x3 y1 y2 y3 hwy)
          rw [d2] at r0 r1 r2 HSw
          rw [d1] at q0 q1 q2 HSw
          obtain ⟨jm, hjm⟩ : ∃ jm, a + r = jm := ⟨_, rfl⟩
          rw [hjm] at q0 q1 q2 r0 r1 r2 HSw ⊢
          obtain ⟨jn, hjn⟩ : ∃ jn, jm + 1 = jn := ⟨_, rfl⟩
          rw [hjn] at r0 r1 r2 HSw
          have t1 : (jm : Int) + 1 = (jn : Int) := by omega
          have t2 : (jm : Int) < (n : Int) := by omega
          have t3 : (jn : Int) < (n : Int) := by omega
          have t5 : jm < n := by omega
          have t6 : jn < n := by omega
          have t4 : IntKind.i64.wrap (jn : Int) = (jn : Int) := IntWalk.i64_in _ (by omega)
          have t7 : (jm : Int) < (a : Int) + (e : Int) := by omega
          have f0 := hwy.frozen (jn * 3)
          have f1 := hwy.frozen (jn * 3 + 1)
          have f2 := hwy.frozen (jn * 3 + 2)
          have e0 := hwy.frozen (jm * 3)
          have e1 := hwy.frozen (jm * 3 + 1)
          have e2 := hwy.frozen (jm * 3 + 2)
          have HJN := Lib.hid hjn
          clear hup hsy hl hup2 hwy d1 d2 hjn
          go_wp2
          go_region
          go_wp2
          go_roundw
          case rel => exact ⟨r + 1, _, by omega, by go_num, HU2.out, HS2.out, HSw.out.drew⟩
          case measure => have := HJN.out; simp [intOf]; omega
        · obtain rfl : r = e := by omega
          have HS2 := Lib.hid hsy
          have HU2 := Lib.hid hup
          clear hup hsy
          go_wp2
          go_end0
          exact ⟨rfl, ys, ⟨_, HR.out.1, HR.out.2, by rw [HU2.out]; simp⟩, HS2.out, hwy⟩

set_option maxRecDepth 100000 in
set_option maxHeartbeats 4000000 in
theorem merge_lastT (O : Ordr RetB) (ok : RetB → Prop) (hcmp : CmpOKT O ok) (w0 : World) (g c n : Nat) (w : World) (P A : List RetB) (y : RetB) (S : List RetB) (hw : Work retR 58 w0 g c n w (P ++ A ++ [y] ++ S)) (hs : Each ok (P ++ A ++ [y] ++ S)) (hA : Rises O A) (h2 : A.length ≠ 1) (a m b : Nat) (ha : a = P.length) (hm : m = P.length + A.length) (hb : b = P.length + A.length + 1) (hn : n ≤ 1000) :
    Calls Tryz.prog 116 #[.slice (some ⟨g, 0, none⟩) n c, .int .i64 a, .int .i64 m, .int .i64 b, cmpVT] w (MergeOut retR 58 O ok w0 g c n P (A ++ [y]) S) := by
  obtain ⟨y1, y2, y3⟩ := y
  have hlen := hw.len
  simp only [List.length_append, List.length_singleton] at hlen
  have hbn : b ≤ n := by omega
  have HW := Lib.hid hw
  have HCMP := Lib.hid hcmp
  clear hcmp
  have HSh := Lib.hid hs
  have HMo := Lib.hid (show ∀ q r, P.length ≤ q → q ≤ r → r < P.length + A.length → NotLess O (y1, (y2, y3)) (keyAt (P ++ A ++ [(y1, (y2, y3))] ++ S) r) → NotLess O (y1, (y2, y3)) (keyAt (P ++ A ++ [(y1, (y2, y3))] ++ S) q) from second_mono (P := P) (y := (y1, (y2, y3))) (S := S) hA)
  have HCu := Lib.hid (fun s (h : Sk (fun q => NotLess O (y1, (y2, y3)) (keyAt (P ++ A ++ [(y1, (y2, y3))] ++ S) q)) P.length (P.length + A.length) (P.length + s) (P.length + s)) => second_cut (P := P) (y := (y1, (y2, y3))) (S := S) (s := s) hA h)
  have HU0 := Lib.hid (show DownAt P A (y1, (y2, y3)) S A.length (P ++ A ++ [(y1, (y2, y3))] ++ S) by simp [DownAt])
  have sy : ok (y1, (y2, y3)) := hs _ (by simp)
  have qy : (P ++ A ++ [(y1, (y2, y3))] ++ S)[m]? = some (y1, (y2, y3)) := by
    rw [hm, show P ++ A ++ [(y1, (y2, y3))] ++ S = (P ++ A) ++ (y1, (y2, y3)) :: S by simp, ← List.length_append, at_mid]
  have HX := Lib.hid (fun w' (h : Work retR 58 w0 g c n w' (P ++ A ++ [(y1, (y2, y3))] ++ S)) => wcellT h qy)
  have HA := Lib.hid ha
  have hcl : m = a + A.length := by omega
  have HCL := Lib.hid hcl
  have hma : a ≤ m := by omega
  have hmn : m < n := by omega
  have hti : ((m : Int) - (a : Int) == 1) = false := by
    rw [beq_eq_false_iff_ne]; omega
  have htj : (b : Int) - (m : Int) = 1 := by omega
  have hmn' : (m : Int) < (n : Int) := by omega
  have HXS := Lib.hid (fun q => some_at (xs := P ++ A ++ [(y1, (y2, y3))] ++ S) (q := q))
  have HL := Lib.hid (show (P ++ A ++ [(y1, (y2, y3))] ++ S).length = n from hw.len)
  rw [← ha] at HMo HCu
  clear hw hlen ha hb hm hs hcl qy hA h2
  generalize P ++ A ++ [(y1, (y2, y3))] ++ S = xs at *
  unfold cmpVT
  go_enter Tryz.func116, Tryz.ntmps116
  go_wp2
  go_loopw [14, 15] (fun i j wr => ∃ (k l : Nat), i = .int .i64 k ∧ j = .int .i64 l ∧ Sk (fun q => NotLess O (y1, (y2, y3)) (keyAt xs q)) a (a + A.length) k l ∧ Work retR 58 w0 g c n wr xs) (fun i j _ => (intOf j - intOf i).toNat)
  case atStart => exact ⟨a, m, rfl, rfl, by rw [HCL.out]; exact Sk.start _ (by omega), HW.out⟩
  case round =>
    obtain ⟨k, l, rfl, rfl, hsk, hwk⟩ := hrel
    have hk1 := hsk.a
    have hk2 := hsk.b
    have hk3 := hsk.c
    rw [← HCL.out] at hk3
    by_cases hlt : k < l
    · obtain ⟨⟨z1, z2, z3⟩, qz, ez⟩ := HXS.out ((k + l) / 2) (by rw [HL.out]; omega)
      obtain ⟨q0, q1, q2⟩ := wcellT hwk qz
      obtain ⟨r0, r1, r2⟩ := HX.out _ hwk
      have sz : ok (z1, (z2, z3)) := HSh.out _ (List.mem_of_getElem? qz)
      have hgz := hwk.lt
      have hb1 : (k + l) / 2 < n := by omega
      have hb3 : (0 : Int) ≤ ((k : Int) + (l : Int)) / 2 := by omega
      have hb4 : ((k : Int) + (l : Int)) / 2 < (n : Int) := by omega
      have hb5 : (0 : Int) ≤ (m : Int) := by omega
      have hb6 : (((k : Int) + (l : Int)) / 2).toNat = (k + l) / 2 := by omega
      have HUp := Lib.hid (fun e => hsk.up HMo.out (h := (k + l) / 2) (by omega) (by omega) e)
      have HDn := Lib.hid (fun (e : O.c (y1, (y2, y3)) (keyAt xs ((k + l) / 2)) < 0) => hsk.down HMo.out (h := (k + l) / 2) (by omega) (by omega) (fun hq => hq e))
      rw [← ez] at HUp HDn
      clear hsk qz ez
      by_cases hcm : O.c (y1, (y2, y3)) (z1, (z2, z3)) < 0
      · have hcd : decide (O.c (y1, (y2, y3)) (z1, (z2, z3)) < 0) = true := decide_eq_true hcm
        have HCM := Lib.hid (HDn.out hcm)
        clear hcm HUp HDn
        go_wp2
        go_region_held3 (fun w' => w'.cell? ⟨g, (k + l) / 2 * 3, none⟩ = some (.string z1) ∧ w'.cell? ⟨g, (k + l) / 2 * 3 + 1, none⟩ = some (.string z2) ∧ w'.cell? ⟨g, (k + l) / 2 * 3 + 2, none⟩ = some (.string z3) ∧ w'.cell? ⟨g, m * 3, none⟩ = some (.string y1) ∧ w'.cell? ⟨g, m * 3 + 1, none⟩ = some (.string y2) ∧ w'.cell? ⟨g, m * 3 + 2, none⟩ = some (.string y3))
          (first | go_keep | with_reducible exact K2.out)
          (first | (go_at_call 29; refine (HCMP.out y1 y2 y3 z1 z2 z3 _ sy sz).mono ?_; rintro e w2 ⟨rfl, hb2'⟩; have hb2 := below_drewN' (n := 1) hb2'; have K2 := Lib.hid (And.intro ((hb2.cell (p := ⟨g, (k + l) / 2 * 3, none⟩) hgz).trans q0) (And.intro ((hb2.cell (p := ⟨g, (k + l) / 2 * 3 + 1, none⟩) hgz).trans q1) (And.intro ((hb2.cell (p := ⟨g, (k + l) / 2 * 3 + 2, none⟩) hgz).trans q2) (And.intro ((hb2.cell (p := ⟨g, m * 3, none⟩) hgz).trans r0) (And.intro ((hb2.cell (p := ⟨g, m * 3 + 1, none⟩) hgz).trans r1) ((hb2.cell (p := ⟨g, m * 3 + 2, none⟩) hgz).trans r2))))))))
        rename_i hheld
        clear hheld K2 hb2'
        have hw2 := hwk.call hb2
        clear hb2 q0 q1 q2 r0 r1 r2 hgz hwk
        go_wp2
        go_roundw
        case rel => exact ⟨k, (k + l) / 2, rfl, by go_num, HCM.out, hw2⟩
        case measure => simp [intOf]; omega
      · have hcd : decide (O.c (y1, (y2, y3)) (z1, (z2, z3)) < 0) = false := decide_eq_false hcm
        have HCM := Lib.hid (HUp.out hcm)
        clear hcm HUp HDn
        go_wp2
        go_region_held3 (fun w' => w'.cell? ⟨g, (k + l) / 2 * 3, none⟩ = some (.string z1) ∧ w'.cell? ⟨g, (k + l) / 2 * 3 + 1, none⟩ = some (.string z2) ∧ w'.cell? ⟨g, (k + l) / 2 * 3 + 2, none⟩ = some (.string z3) ∧ w'.cell? ⟨g, m * 3, none⟩ = some (.string y1) ∧ w'.cell? ⟨g, m * 3 + 1, none⟩ = some (.string y2) ∧ w'.cell? ⟨g, m * 3 + 2, none⟩ = some (.string y3))
          (first | go_keep | with_reducible exact K2.out)
          (first | (go_at_call 29; refine (HCMP.out y1 y2 y3 z1 z2 z3 _ sy sz).mono ?_; rintro e w2 ⟨rfl, hb2'⟩; have hb2 := below_drewN' (n := 1) hb2'; have K2 := Lib.hid (And.intro ((hb2.cell (p := ⟨g, (k + l) / 2 * 3, none⟩) hgz).trans q0) (And.intro ((hb2.cell (p := ⟨g, (k + l) / 2 * 3 + 1, none⟩) hgz).trans q1) (And.intro ((hb2.cell (p := ⟨g, (k + l) / 2 * 3 + 2, none⟩) hgz).trans q2) (And.intro ((hb2.cell (p := ⟨g, m * 3, none⟩) hgz).trans r0) (And.intro ((hb2.cell (p := ⟨g, m * 3 + 1, none⟩) hgz).trans r1) ((hb2.cell (p := ⟨g, m * 3 + 2, none⟩) hgz).trans r2))))))))
        rename_i hheld
        clear hheld K2 hb2'
        have hw2 := hwk.call hb2
        clear hb2 q0 q1 q2 r0 r1 r2 hgz hwk
        go_wp2
        go_roundw
        case rel => exact ⟨(k + l) / 2 + 1, l, by go_num, rfl, HCM.out, hw2⟩
        case measure => simp [intOf]; omega
    · obtain rfl : k = l := by omega
      obtain ⟨s, rfl⟩ : ∃ s, k = a + s := ⟨k - a, by omega⟩
      have HR := Lib.hid (HCu.out s hsk)
      obtain ⟨ks, hks⟩ : ∃ ks, a + s = ks := ⟨_, rfl⟩
      have hsA : s ≤ A.length := by have := HCL.out; omega
      rw [hks] at hk1 hk2 hk3 ⊢
      have HUN := Lib.hid (fun ys r (h : DownAt P A (y1, (y2, y3)) S (r + 1) ys) (hr : r < A.length) => h.next hr)
      clear hsk
      go_wp2
      go_loopw [17] (fun i wr => ∃ (r : Nat) (ys : List RetB), s ≤ r ∧ r ≤ A.length ∧ i = .int .i64 ((a + r : Nat) : Int) ∧ DownAt P A (y1, (y2, y3)) S r ys ∧ Each ok ys ∧ Work retR 58 w0 g c n wr ys) (fun i _ => (intOf i).toNat)
      case atStart => exact ⟨A.length, xs, hsA, Nat.le_refl _, by rw [HCL.out], HU0.out, HSh.out, hwk⟩
      case round =>
        obtain ⟨r, ys, hsr, hrA, rfl, hup, hsy, hwy⟩ := hrel
        by_cases hrl : s < r
        · obtain ⟨r, rfl⟩ : ∃ r', r = r' + 1 := ⟨r - 1, by omega⟩
          obtain ⟨P', ⟨z1, z2, z3⟩, S', rfl, hl, hup2⟩ := HUN.out ys r hup (by omega)
          have HS2 := Lib.hid (each_swap hsy)
          have HU2 := Lib.hid hup2
          have d1 : P'.length = a + r := by rw [hl, HA.out]
          have d2 : P'.length + 1 + ([] : List RetB).length = a + (r + 1) := by simp [d1]; omega
          obtain ⟨⟨q0, q1, q2⟩, ⟨r0, r1, r2⟩⟩ := And.intro (wcellT hwy (at_two P' [] S' _ _).1) (wcellT hwy (at_two P' [] S' _ _).2)
          have HSw := Lib.hid (wswapT' z1 z2 z3 y1 y2 y3 hwy)
          rw [d2] at r0 r1 r2 HSw
          rw [d1] at q0 q1 q2 HSw
          have hrm : a + (r + 1) ≤ m := by have := HCL.out; omega
          obtain ⟨jn, hjn⟩ : ∃ jn, a + (r + 1) = jn := ⟨_, rfl⟩
          rw [hjn] at r0 r1 r2 HSw hrm ⊢
          obtain ⟨jm, hjm⟩ : ∃ jm, a + r = jm := ⟨_, rfl⟩
          rw [hjm] at q0 q1 q2 HSw
          have t1 : (jn : Int) - 1 = (jm : Int) := by omega
          have t2 : (jm : Int) < (n : Int) := by omega
          have t3 : (jn : Int) < (n : Int) := by omega
          have t5 : jm < n := by omega
          have t6 : jn < n := by omega
          have t4 : IntKind.i64.wrap (jm : Int) = (jm : Int) := IntWalk.i64_in _ (by omega)
          have t7 : (ks : Int) < (jn : Int) := by omega
          have f0 := hwy.frozen (jn * 3)
          have f1 := hwy.frozen (jn * 3 + 1)
          have f2 := hwy.frozen (jn * 3 + 2)
          have e0 := hwy.frozen (jm * 3)
          have e1 := hwy.frozen (jm * 3 + 1)
          have e2 := hwy.frozen (jm * 3 + 2)
          have HJN := Lib.hid hjn
          have HJM := Lib.hid hjm
          clear hup hsy hl hup2 hwy d1 d2 hjn hjm
          go_wp2
          go_region
          go_wp2
          go_roundw
          case rel => exact ⟨r, _, by omega, by omega, by rw [HJM.out], HU2.out, HS2.out, HSw.out.drew⟩
          case measure => have := HJN.out; have := HJM.out; simp [intOf]; omega
        · obtain rfl : r = s := by omega
          have HS2 := Lib.hid hsy
          have HU2 := Lib.hid hup
          clear hup hsy
          go_wp2
          go_end0
          exact ⟨rfl, ys, ⟨_, HR.out.1, HR.out.2, by rw [HU2.out]; simp⟩, HS2.out, hwy⟩
end Go.Proofs.YtmdlmjcejeejfaaGreatDoor

/-
  The stable sort at RetB: the merge of two parts, one way.
-/
set_option linter.unusedVariables false
set_option linter.unusedSimpArgs false
namespace Go.Proofs.YtmdlmjcejeejfaaGreatDoor
open Go.RowKit Go.Shelf

/-- What a merge promises, for parts of at most d files. -/
def MergesT (O : Ordr RetB) (ok : RetB → Prop) (w0 : World) (g c n : Nat) (d : Nat) : Prop :=
  ∀ (P A C S : List RetB) (w : World), A.length + C.length ≤ d → 0 < A.length → 0 < C.length → Rises O A → Rises O C → Each ok (P ++ A ++ C ++ S) → Work retR 58 w0 g c n w (P ++ A ++ C ++ S) →
    ∀ a m b : Nat, a = P.length → m = P.length + A.length → b = P.length + A.length + C.length →
    Calls Tryz.prog 116 #[.slice (some ⟨g, 0, none⟩) n c, .int .i64 a, .int .i64 m, .int .i64 b, cmpVT] w (fun e w' => e = .returned (.tuple #[]) ∧ Came retR 58 O ok w0 g c n P (A ++ C) S w')

set_option maxRecDepth 100000 in
set_option maxHeartbeats 4000000 in
theorem merge_b1T (O : Ordr RetB) (ok : RetB → Prop) (hcmp : CmpOKT O ok) (w0 : World) (g c n : Nat) (d : Nat) (ih : MergesT O ok w0 g c n d) (hn : n ≤ 1000) (P A C S : List RetB) (w : World) (hd : A.length + C.length ≤ d + 1) (hA0 : 2 ≤ A.length) (hC0 : 2 ≤ C.length) (hA : Rises O A) (hC : Rises O C) (hs : Each ok (P ++ A ++ C ++ S)) (hw : Work retR 58 w0 g c n w (P ++ A ++ C ++ S))
    (a m b mid : Nat) (ha : a = P.length) (hm : m = P.length + A.length) (hb : b = P.length + A.length + C.length) (hmid : mid = (a + b) / 2) (hbr : mid < m) :
    Calls Tryz.prog 116 #[.slice (some ⟨g, 0, none⟩) n c, .int .i64 a, .int .i64 m, .int .i64 b, cmpVT] w (fun e w' => e = .returned (.tuple #[]) ∧ Came retR 58 O ok w0 g c n P (A ++ C) S w') := by
  have hlen := hw.len
  simp only [List.length_append] at hlen
  have hbn : b ≤ n := by omega
  have HW := Lib.hid hw
  have HCMP := Lib.hid hcmp
  clear hcmp
  have HSh := Lib.hid hs
  obtain ⟨lo, hlo⟩ : ∃ lo, mid + m - b = lo := ⟨_, rfl⟩
  have hbo' : Bounds P.length (P.length + A.length) (P.length + A.length + C.length) mid lo (mid) := by
    rw [← hb, ← hm, ← ha]
    exact ⟨hmid, .inl ⟨hbr, hlo.symm, rfl⟩⟩
  have HMo := Lib.hid (show ∀ q r, lo ≤ q → q ≤ r → r < mid → NotLess O (keyAt (P ++ A ++ C ++ S) (mid + m - 1 - r)) (keyAt (P ++ A ++ C ++ S) r) → NotLess O (keyAt (P ++ A ++ C ++ S) (mid + m - 1 - q)) (keyAt (P ++ A ++ C ++ S) q) by
    subst hm
    exact third_mono' (S := S) hA hC (by omega) (by omega) hbo')
  have HCu := Lib.hid (show ∀ st, Sk (fun q => NotLess O (keyAt (P ++ A ++ C ++ S) (mid + m - 1 - q)) (keyAt (P ++ A ++ C ++ S) q)) lo (mid) st st → ∃ A1 A2 C1 C2, Quart O A C A1 A2 C1 C2 ∧ P.length + A1.length = st ∧ P.length + A1.length + C1.length = mid ∧ st ≤ mid by
    intro st h
    subst hm
    exact third_parts (S := S) hA hC (by omega) (by omega) hbo' h)
  have hlo1 : a ≤ lo := by omega
  have hlo2 : lo ≤ mid := by omega
  have HXS := Lib.hid (fun q => some_at (xs := P ++ A ++ C ++ S) (q := q))
  have HL := Lib.hid (show (P ++ A ++ C ++ S).length = n from hw.len)
  have HA := Lib.hid ha
  have HM := Lib.hid hm
  have HB := Lib.hid hb
  have HD := Lib.hid hd
  have HI := Lib.hid ih
  have ham : a + 2 ≤ m := by omega
  have hmb : m + 2 ≤ b := by omega
  have hm1 : a < mid := by omega
  have hm2 : mid < b := by omega
  obtain ⟨nn, hnn⟩ : ∃ nn, mid + m = nn := ⟨_, rfl⟩
  obtain ⟨pp, hpp⟩ : ∃ pp, nn - 1 = pp := ⟨_, rfl⟩
  rw [hnn, hpp] at HMo HCu
  have HT := Lib.hid (fun (A1 A2 C1 C2 : List RetB) (h : Quart O A C A1 A2 C1 C2) => h.turn P S)
  have hti : ((m : Int) - (a : Int) == 1) = false := by rw [beq_eq_false_iff_ne]; omega
  have htj : ((b : Int) - (m : Int) == 1) = false := by rw [beq_eq_false_iff_ne]; omega
  have htk : ((a : Int) + (b : Int)) / 2 = (mid : Int) := by omega
  have htl : (mid : Int) + (m : Int) = (nn : Int) := by omega
  have htn : (nn : Int) - 1 = (pp : Int) := by omega
  have hto : (nn : Int) - (b : Int) = ((nn - b : Nat) : Int) := by omega
  clear hw hlen ha hb hm hs hbo' hA hC hA0 hC0 hd ih hmid
  generalize P ++ A ++ C ++ S = xs at *
  unfold cmpVT
  go_enter Tryz.func116, Tryz.ntmps116
  go_wp2

  go_loopw [20, 21] (fun i j wr => ∃ (k l : Nat), i = .int .i64 k ∧ j = .int .i64 l ∧ Sk (fun q => NotLess O (keyAt xs (pp - q)) (keyAt xs q)) lo (mid) k l ∧ Work retR 58 w0 g c n wr xs) (fun i j _ => (intOf j - intOf i).toNat)
  case atStart => exact ⟨lo, mid, by first | rfl | (rw [← hlo]; go_num) | (congr 1; omega), rfl, Sk.start _ hlo2, HW.out⟩
  case round =>
    obtain ⟨k, l, rfl, rfl, hsk, hwk⟩ := hrel
    have hk1 := hsk.a
    have hk2 := hsk.b
    have hk3 := hsk.c
    by_cases hlt : k < l
    · obtain ⟨⟨z1, z2, z3⟩, qz, ez⟩ := HXS.out ((k + l) / 2) (by rw [HL.out]; omega)
      obtain ⟨⟨y1, y2, y3⟩, qy, ey⟩ := HXS.out (pp - (k + l) / 2) (by rw [HL.out]; omega)
      obtain ⟨q0, q1, q2⟩ := wcellT hwk qz
      obtain ⟨r0, r1, r2⟩ := wcellT hwk qy
      have sz : ok (z1, (z2, z3)) := HSh.out _ (List.mem_of_getElem? qz)
      have sy : ok (y1, (y2, y3)) := HSh.out _ (List.mem_of_getElem? qy)
      have hgz := hwk.lt
      have hb1 : (k + l) / 2 < n := by omega
      have hb3 : (0 : Int) ≤ ((k : Int) + (l : Int)) / 2 := by omega
      have hb4 : ((k : Int) + (l : Int)) / 2 < (n : Int) := by omega
      have hb6 : (((k : Int) + (l : Int)) / 2).toNat = (k + l) / 2 := by omega
      have HUp := Lib.hid (fun (e : ¬ O.c (keyAt xs (pp - (k + l) / 2)) (keyAt xs ((k + l) / 2)) < 0) => hsk.up HMo.out (h := (k + l) / 2) (by omega) (by omega) e)
      have HDn := Lib.hid (fun (e : O.c (keyAt xs (pp - (k + l) / 2)) (keyAt xs ((k + l) / 2)) < 0) => hsk.down HMo.out (h := (k + l) / 2) (by omega) (by omega) (fun hq => hq e))
      rw [← ez, ← ey] at HUp HDn
      obtain ⟨dd, hdd⟩ : ∃ dd, pp - (k + l) / 2 = dd := ⟨_, rfl⟩
      rw [hdd] at r0 r1 r2
      have hb7 : (pp : Int) - ((k : Int) + (l : Int)) / 2 = (dd : Int) := by omega
      have hb8 : (dd : Int) < (n : Int) := by omega
      have hb9 : dd < n := by omega
      have hb10 : IntKind.i64.wrap (dd : Int) = (dd : Int) := IntWalk.i64_in _ (by omega)
      clear hsk qz ez qy ey hdd
      by_cases hcm : O.c (y1, (y2, y3)) (z1, (z2, z3)) < 0
      · have hcd : decide (O.c (y1, (y2, y3)) (z1, (z2, z3)) < 0) = true := decide_eq_true hcm
        have HCM := Lib.hid (HDn.out hcm)
        clear hcm HUp HDn
        go_wp2
        go_region_held3 (fun w' => w'.cell? ⟨g, (k + l) / 2 * 3, none⟩ = some (.string z1) ∧ w'.cell? ⟨g, (k + l) / 2 * 3 + 1, none⟩ = some (.string z2) ∧ w'.cell? ⟨g, (k + l) / 2 * 3 + 2, none⟩ = some (.string z3) ∧ w'.cell? ⟨g, dd * 3, none⟩ = some (.string y1) ∧ w'.cell? ⟨g, dd * 3 + 1, none⟩ = some (.string y2) ∧ w'.cell? ⟨g, dd * 3 + 2, none⟩ = some (.string y3))
          (first | go_keep | with_reducible exact K2.out)
          (first | (go_at_call 29; refine (HCMP.out y1 y2 y3 z1 z2 z3 _ sy sz).mono ?_; rintro e w2 ⟨rfl, hb2'⟩; have hb2 := below_drewN' (n := 1) hb2'; have K2 := Lib.hid (And.intro ((hb2.cell (p := ⟨g, (k + l) / 2 * 3, none⟩) hgz).trans q0) (And.intro ((hb2.cell (p := ⟨g, (k + l) / 2 * 3 + 1, none⟩) hgz).trans q1) (And.intro ((hb2.cell (p := ⟨g, (k + l) / 2 * 3 + 2, none⟩) hgz).trans q2) (And.intro ((hb2.cell (p := ⟨g, dd * 3, none⟩) hgz).trans r0) (And.intro ((hb2.cell (p := ⟨g, dd * 3 + 1, none⟩) hgz).trans r1) ((hb2.cell (p := ⟨g, dd * 3 + 2, none⟩) hgz).trans r2))))))))
        rename_i hheld
        clear hheld K2 hb2'
        have hw2 := hwk.call hb2
        clear hb2 q0 q1 q2 r0 r1 r2 hgz hwk
        go_wp2
        go_roundw
        case rel => exact ⟨k, (k + l) / 2, rfl, by go_num, HCM.out, hw2⟩
        case measure => simp [intOf]; omega
      · have hcd : decide (O.c (y1, (y2, y3)) (z1, (z2, z3)) < 0) = false := decide_eq_false hcm
        have HCM := Lib.hid (HUp.out hcm)
        clear hcm HUp HDn
        go_wp2
        go_region_held3 (fun w' => w'.cell? ⟨g, (k + l) / 2 * 3, none⟩ = some (.string z1) ∧ w'.cell? ⟨g, (k + l) / 2 * 3 + 1, none⟩ = some (.string z2) ∧ w'.cell? ⟨g, (k + l) / 2 * 3 + 2, none⟩ = some (.string z3) ∧ w'.cell? ⟨g, dd * 3, none⟩ = some (.string y1) ∧ w'.cell? ⟨g, dd * 3 + 1, none⟩ = some (.string y2) ∧ w'.cell? ⟨g, dd * 3 + 2, none⟩ = some (.string y3))
          (first | go_keep | with_reducible exact K2.out)
          (first | (go_at_call 29; refine (HCMP.out y1 y2 y3 z1 z2 z3 _ sy sz).mono ?_; rintro e w2 ⟨rfl, hb2'⟩; have hb2 := below_drewN' (n := 1) hb2'; have K2 := Lib.hid (And.intro ((hb2.cell (p := ⟨g, (k + l) / 2 * 3, none⟩) hgz).trans q0) (And.intro ((hb2.cell (p := ⟨g, (k + l) / 2 * 3 + 1, none⟩) hgz).trans q1) (And.intro ((hb2.cell (p := ⟨g, (k + l) / 2 * 3 + 2, none⟩) hgz).trans q2) (And.intro ((hb2.cell (p := ⟨g, dd * 3, none⟩) hgz).trans r0) (And.intro ((hb2.cell (p := ⟨g, dd * 3 + 1, none⟩) hgz).trans r1) ((hb2.cell (p := ⟨g, dd * 3 + 2, none⟩) hgz).trans r2))))))))
        rename_i hheld
        clear hheld K2 hb2'
        have hw2 := hwk.call hb2
        clear hb2 q0 q1 q2 r0 r1 r2 hgz hwk
        go_wp2
        go_roundw
        case rel => exact ⟨(k + l) / 2 + 1, l, by go_num, rfl, HCM.out, hw2⟩
        case measure => simp [intOf]; omega
    · obtain rfl : k = l := by omega
      obtain ⟨A1, A2, C1, C2, hq, l1, l2, l3⟩ := HCu.out k hsk
      have exs := HT.out _ _ _ _ hq
      have l4 := congrArg List.length hq.ha
      have l5 := congrArg List.length hq.hc
      rw [List.length_append] at l4 l5
      have l6 := HA.out
      have l7 := HM.out
      have l8 := HB.out
      have HQ := Lib.hid hq
      clear hsk hq
      obtain ⟨en, hen⟩ : ∃ en, nn - k = en := ⟨_, rfl⟩
      have hen' : (nn : Int) - (k : Int) = (en : Int) := by omega
      have hsh := HSh.out
      rw [exs] at hsh hwk
      have HS1 := Lib.hid (each_turn hsh)
      have HN := Lib.hid (show a = P.length ∧ m = P.length + A.length ∧ b = P.length + A.length + C.length ∧ P.length + A1.length = k ∧ P.length + A1.length + C1.length = mid ∧ A.length = A1.length + A2.length ∧ C.length = C1.length + C2.length ∧ A.length + C.length ≤ d + 1 from ⟨l6, l7, l8, l1, l2, l4, l5, HD.out⟩)
      clear hsh exs l1 l2 l4 l5 l6 l7 l8
      by_cases hy : k < mid
      · have y1 : k < m := by omega
        have y2 : m < en := by omega
        have y3 : mid < en := by omega
        by_cases y4 : a < k
        · by_cases y5 : en < b
          · have HX := Lib.hid (rotate_anyT w0 g c n _ (P ++ A1) A2 C1 (C2 ++ S) hwk k m en (by have hx := HN.out; (try simp only [List.length_append]); omega) (by have hx := HN.out; (try simp only [List.length_append]); omega) (by have hx := HN.out; (try simp only [List.length_append]); omega) (by omega) (by omega) hn)
            clear hwk
            go_wp2_with fail
            refine HX.out.mono ?_
            rintro _ w1 ⟨rfl, hw1⟩
            rw [left_form] at hw1
            clear HX
            have HX2 := Lib.hid (HI.out P A1 C1 (A2 ++ C2 ++ S) _ (by have hx := HN.out; (try simp only [List.length_append]); omega) (by have hx := HN.out; (try simp only [List.length_append]); omega) (by have hx := HN.out; (try simp only [List.length_append]); omega) HQ.out.r1 HQ.out.r3 HS1.out hw1 a k mid (by have hx := HN.out; (try simp only [List.length_append]); omega) (by have hx := HN.out; (try simp only [List.length_append]); omega) (by have hx := HN.out; (try simp only [List.length_append]); omega))
            clear hw1
            go_wp2_with fail
            refine HX2.out.mono ?_
            rintro _ w2 ⟨rfl, hc2⟩
            clear HX2
            obtain ⟨ys, ⟨L, r1, r2, rfl⟩, r3, hw2⟩ := hc2
            have HR1 := Lib.hid r1
            have HR2 := Lib.hid r2
            have HK := Lib.hid (kept_len r2)
            clear r1 r2
            have er : P ++ L ++ (A2 ++ C2 ++ S) = P ++ L ++ A2 ++ C2 ++ S := by simp only [List.append_assoc]
            rw [er] at r3 hw2
            have HX3 := Lib.hid (HI.out (P ++ L) A2 C2 S _ (by have hx := HN.out; (try simp only [List.length_append]); omega) (by have hx := HN.out; (try simp only [List.length_append]); omega) (by have hx := HN.out; (try simp only [List.length_append]); omega) HQ.out.r2 HQ.out.r4 r3 hw2 mid en b (by have hx := HN.out; have hy := HK.out; simp only [List.length_append] at hy ⊢; omega) (by have hx := HN.out; have hy := HK.out; simp only [List.length_append] at hy ⊢; omega) (by have hx := HN.out; have hy := HK.out; simp only [List.length_append] at hy ⊢; omega))
            clear hw2 r3 er
            go_wp2_with fail
            refine HX3.out.mono ?_
            rintro _ w3 ⟨rfl, hc3⟩
            clear HX3
            have HC3 := Lib.hid hc3
            clear hc3
            go_wp2
            go_end0
            exact ⟨rfl, HQ.out.done HR1.out HR2.out HC3.out⟩
          · have HX := Lib.hid (rotate_anyT w0 g c n _ (P ++ A1) A2 C1 (C2 ++ S) hwk k m en (by have hx := HN.out; (try simp only [List.length_append]); omega) (by have hx := HN.out; (try simp only [List.length_append]); omega) (by have hx := HN.out; (try simp only [List.length_append]); omega) (by omega) (by omega) hn)
            clear hwk
            go_wp2_with fail
            refine HX.out.mono ?_
            rintro _ w1 ⟨rfl, hw1⟩
            rw [left_form] at hw1
            clear HX
            have HX2 := Lib.hid (HI.out P A1 C1 (A2 ++ C2 ++ S) _ (by have hx := HN.out; (try simp only [List.length_append]); omega) (by have hx := HN.out; (try simp only [List.length_append]); omega) (by have hx := HN.out; (try simp only [List.length_append]); omega) HQ.out.r1 HQ.out.r3 HS1.out hw1 a k mid (by have hx := HN.out; (try simp only [List.length_append]); omega) (by have hx := HN.out; (try simp only [List.length_append]); omega) (by have hx := HN.out; (try simp only [List.length_append]); omega))
            clear hw1
            go_wp2_with fail
            refine HX2.out.mono ?_
            rintro _ w2 ⟨rfl, hc2⟩
            clear HX2
            obtain ⟨ys, ⟨L, r1, r2, rfl⟩, r3, hw2⟩ := hc2
            have HR1 := Lib.hid r1
            have HR2 := Lib.hid r2
            have HK := Lib.hid (kept_len r2)
            clear r1 r2
            have hc3 := HQ.out.right (by have hx := HN.out; (try simp only [List.length_append]); omega) r3 hw2
            clear hw2 r3
            have HC3 := Lib.hid hc3
            clear hc3
            go_wp2
            go_end0
            exact ⟨rfl, HQ.out.done HR1.out HR2.out HC3.out⟩
        · by_cases y5 : en < b
          · have HX := Lib.hid (rotate_anyT w0 g c n _ (P ++ A1) A2 C1 (C2 ++ S) hwk k m en (by have hx := HN.out; (try simp only [List.length_append]); omega) (by have hx := HN.out; (try simp only [List.length_append]); omega) (by have hx := HN.out; (try simp only [List.length_append]); omega) (by omega) (by omega) hn)
            clear hwk
            go_wp2_with fail
            refine HX.out.mono ?_
            rintro _ w1 ⟨rfl, hw1⟩
            rw [left_form] at hw1
            clear HX
            have hc2 := HQ.out.left (by have hx := HN.out; (try simp only [List.length_append]); omega) HS1.out hw1
            clear hw1
            obtain ⟨ys, ⟨L, r1, r2, rfl⟩, r3, hw2⟩ := hc2
            have HR1 := Lib.hid r1
            have HR2 := Lib.hid r2
            have HK := Lib.hid (kept_len r2)
            clear r1 r2
            have er : P ++ L ++ (A2 ++ C2 ++ S) = P ++ L ++ A2 ++ C2 ++ S := by simp only [List.append_assoc]
            rw [er] at r3 hw2
            have HX3 := Lib.hid (HI.out (P ++ L) A2 C2 S _ (by have hx := HN.out; (try simp only [List.length_append]); omega) (by have hx := HN.out; (try simp only [List.length_append]); omega) (by have hx := HN.out; (try simp only [List.length_append]); omega) HQ.out.r2 HQ.out.r4 r3 hw2 mid en b (by have hx := HN.out; have hy := HK.out; simp only [List.length_append] at hy ⊢; omega) (by have hx := HN.out; have hy := HK.out; simp only [List.length_append] at hy ⊢; omega) (by have hx := HN.out; have hy := HK.out; simp only [List.length_append] at hy ⊢; omega))
            clear hw2 r3 er
            go_wp2_with fail
            refine HX3.out.mono ?_
            rintro _ w3 ⟨rfl, hc3⟩
            clear HX3
            have HC3 := Lib.hid hc3
            clear hc3
            go_wp2
            go_end0
            exact ⟨rfl, HQ.out.done HR1.out HR2.out HC3.out⟩
          · have HX := Lib.hid (rotate_anyT w0 g c n _ (P ++ A1) A2 C1 (C2 ++ S) hwk k m en (by have hx := HN.out; (try simp only [List.length_append]); omega) (by have hx := HN.out; (try simp only [List.length_append]); omega) (by have hx := HN.out; (try simp only [List.length_append]); omega) (by omega) (by omega) hn)
            clear hwk
            go_wp2_with fail
            refine HX.out.mono ?_
            rintro _ w1 ⟨rfl, hw1⟩
            rw [left_form] at hw1
            clear HX
            have hc2 := HQ.out.left (by have hx := HN.out; (try simp only [List.length_append]); omega) HS1.out hw1
            clear hw1
            obtain ⟨ys, ⟨L, r1, r2, rfl⟩, r3, hw2⟩ := hc2
            have HR1 := Lib.hid r1
            have HR2 := Lib.hid r2
            have HK := Lib.hid (kept_len r2)
            clear r1 r2
            have hc3 := HQ.out.right (by have hx := HN.out; (try simp only [List.length_append]); omega) r3 hw2
            clear hw2 r3
            have HC3 := Lib.hid hc3
            clear hc3
            go_wp2
            go_end0
            exact ⟨rfl, HQ.out.done HR1.out HR2.out HC3.out⟩
      · have x1 : k < m := by omega
        have x2 : ¬ m < en := by omega
        have x3 : a < k := by omega
        have x4 : mid < en := by omega
        have x5 : en < b := by omega
        have hw1 := hwk
        rw [no_turn (by have hx := HN.out; (try simp only [List.length_append]); omega)] at hw1
        clear hwk
        have hc2 := HQ.out.left (by have hx := HN.out; (try simp only [List.length_append]); omega) HS1.out hw1
        clear hw1
        obtain ⟨ys, ⟨L, r1, r2, rfl⟩, r3, hw2⟩ := hc2
        have HR1 := Lib.hid r1
        have HR2 := Lib.hid r2
        have HK := Lib.hid (kept_len r2)
        clear r1 r2
        have er : P ++ L ++ (A2 ++ C2 ++ S) = P ++ L ++ A2 ++ C2 ++ S := by simp only [List.append_assoc]
        rw [er] at r3 hw2
        have HX3 := Lib.hid (HI.out (P ++ L) A2 C2 S _ (by have hx := HN.out; (try simp only [List.length_append]); omega) (by have hx := HN.out; (try simp only [List.length_append]); omega) (by have hx := HN.out; (try simp only [List.length_append]); omega) HQ.out.r2 HQ.out.r4 r3 hw2 mid en b (by have hx := HN.out; have hy := HK.out; simp only [List.length_append] at hy ⊢; omega) (by have hx := HN.out; have hy := HK.out; simp only [List.length_append] at hy ⊢; omega) (by have hx := HN.out; have hy := HK.out; simp only [List.length_append] at hy ⊢; omega))
        clear hw2 r3 er
        go_wp2_with fail
        refine HX3.out.mono ?_
        rintro _ w3 ⟨rfl, hc3⟩
        clear HX3
        have HC3 := Lib.hid hc3
        clear hc3
        go_wp2
        go_end0
        exact ⟨rfl, HQ.out.done HR1.out HR2.out HC3.out⟩
end Go.Proofs.YtmdlmjcejeejfaaGreatDoor

/-
  The stable sort at RetB: the merge of two parts, the other way; the sort whole.
-/
set_option linter.unusedVariables false
set_option linter.unusedSimpArgs false
namespace Go.Proofs.YtmdlmjcejeejfaaGreatDoor
open Go.RowKit Go.Shelf

set_option maxRecDepth 100000 in
set_option maxHeartbeats 4000000 in
theorem merge_b2T (O : Ordr RetB) (ok : RetB → Prop) (hcmp : CmpOKT O ok) (w0 : World) (g c n : Nat) (d : Nat) (ih : MergesT O ok w0 g c n d) (hn : n ≤ 1000) (P A C S : List RetB) (w : World) (hd : A.length + C.length ≤ d + 1) (hA0 : 2 ≤ A.length) (hC0 : 2 ≤ C.length) (hA : Rises O A) (hC : Rises O C) (hs : Each ok (P ++ A ++ C ++ S)) (hw : Work retR 58 w0 g c n w (P ++ A ++ C ++ S))
    (a m b mid : Nat) (ha : a = P.length) (hm : m = P.length + A.length) (hb : b = P.length + A.length + C.length) (hmid : mid = (a + b) / 2) (hbr : m ≤ mid) :
    Calls Tryz.prog 116 #[.slice (some ⟨g, 0, none⟩) n c, .int .i64 a, .int .i64 m, .int .i64 b, cmpVT] w (fun e w' => e = .returned (.tuple #[]) ∧ Came retR 58 O ok w0 g c n P (A ++ C) S w') := by
  have hlen := hw.len
  simp only [List.length_append] at hlen
  have hbn : b ≤ n := by omega
  have HW := Lib.hid hw
  have HCMP := Lib.hid hcmp
  clear hcmp
  have HSh := Lib.hid hs

  have hbo' : Bounds P.length (P.length + A.length) (P.length + A.length + C.length) mid a (m) := by
    rw [← hb, ← hm, ← ha]
    exact ⟨hmid, .inr ⟨hbr, rfl, rfl⟩⟩
  have HMo := Lib.hid (show ∀ q r, a ≤ q → q ≤ r → r < m → NotLess O (keyAt (P ++ A ++ C ++ S) (mid + m - 1 - r)) (keyAt (P ++ A ++ C ++ S) r) → NotLess O (keyAt (P ++ A ++ C ++ S) (mid + m - 1 - q)) (keyAt (P ++ A ++ C ++ S) q) by
    subst hm
    exact third_mono' (S := S) hA hC (by omega) (by omega) hbo')
  have HCu := Lib.hid (show ∀ st, Sk (fun q => NotLess O (keyAt (P ++ A ++ C ++ S) (mid + m - 1 - q)) (keyAt (P ++ A ++ C ++ S) q)) a (m) st st → ∃ A1 A2 C1 C2, Quart O A C A1 A2 C1 C2 ∧ P.length + A1.length = st ∧ P.length + A1.length + C1.length = mid ∧ st ≤ mid by
    intro st h
    subst hm
    exact third_parts (S := S) hA hC (by omega) (by omega) hbo' h)
  have hlo1 : a ≤ a := by omega
  have hlo2 : a ≤ m := by omega
  have HXS := Lib.hid (fun q => some_at (xs := P ++ A ++ C ++ S) (q := q))
  have HL := Lib.hid (show (P ++ A ++ C ++ S).length = n from hw.len)
  have HA := Lib.hid ha
  have HM := Lib.hid hm
  have HB := Lib.hid hb
  have HD := Lib.hid hd
  have HI := Lib.hid ih
  have ham : a + 2 ≤ m := by omega
  have hmb : m + 2 ≤ b := by omega
  have hm1 : a < mid := by omega
  have hm2 : mid < b := by omega
  obtain ⟨nn, hnn⟩ : ∃ nn, mid + m = nn := ⟨_, rfl⟩
  obtain ⟨pp, hpp⟩ : ∃ pp, nn - 1 = pp := ⟨_, rfl⟩
  rw [hnn, hpp] at HMo HCu
  have HT := Lib.hid (fun (A1 A2 C1 C2 : List RetB) (h : Quart O A C A1 A2 C1 C2) => h.turn P S)
  have hti : ((m : Int) - (a : Int) == 1) = false := by rw [beq_eq_false_iff_ne]; omega
  have htj : ((b : Int) - (m : Int) == 1) = false := by rw [beq_eq_false_iff_ne]; omega
  have htk : ((a : Int) + (b : Int)) / 2 = (mid : Int) := by omega
  have htl : (mid : Int) + (m : Int) = (nn : Int) := by omega
  have htn : (nn : Int) - 1 = (pp : Int) := by omega

  clear hw hlen ha hb hm hs hbo' hA hC hA0 hC0 hd ih hmid
  generalize P ++ A ++ C ++ S = xs at *
  unfold cmpVT
  go_enter Tryz.func116, Tryz.ntmps116
  go_wp2
  rw [show decide (mid < m) = false from decide_eq_false (Nat.not_lt.2 hbr)]
  go_loopw [20, 21] (fun i j wr => ∃ (k l : Nat), i = .int .i64 k ∧ j = .int .i64 l ∧ Sk (fun q => NotLess O (keyAt xs (pp - q)) (keyAt xs q)) a (m) k l ∧ Work retR 58 w0 g c n wr xs) (fun i j _ => (intOf j - intOf i).toNat)
  case atStart => exact ⟨a, m, rfl, rfl, Sk.start _ hlo2, HW.out⟩
  case round =>
    obtain ⟨k, l, rfl, rfl, hsk, hwk⟩ := hrel
    have hk1 := hsk.a
    have hk2 := hsk.b
    have hk3 := hsk.c
    by_cases hlt : k < l
    · obtain ⟨⟨z1, z2, z3⟩, qz, ez⟩ := HXS.out ((k + l) / 2) (by rw [HL.out]; omega)
      obtain ⟨⟨y1, y2, y3⟩, qy, ey⟩ := HXS.out (pp - (k + l) / 2) (by rw [HL.out]; omega)
      obtain ⟨q0, q1, q2⟩ := wcellT hwk qz
      obtain ⟨r0, r1, r2⟩ := wcellT hwk qy
      have sz : ok (z1, (z2, z3)) := HSh.out _ (List.mem_of_getElem? qz)
      have sy : ok (y1, (y2, y3)) := HSh.out _ (List.mem_of_getElem? qy)
      have hgz := hwk.lt
      have hb1 : (k + l) / 2 < n := by omega
      have hb3 : (0 : Int) ≤ ((k : Int) + (l : Int)) / 2 := by omega
      have hb4 : ((k : Int) + (l : Int)) / 2 < (n : Int) := by omega
      have hb6 : (((k : Int) + (l : Int)) / 2).toNat = (k + l) / 2 := by omega
      have HUp := Lib.hid (fun (e : ¬ O.c (keyAt xs (pp - (k + l) / 2)) (keyAt xs ((k + l) / 2)) < 0) => hsk.up HMo.out (h := (k + l) / 2) (by omega) (by omega) e)
      have HDn := Lib.hid (fun (e : O.c (keyAt xs (pp - (k + l) / 2)) (keyAt xs ((k + l) / 2)) < 0) => hsk.down HMo.out (h := (k + l) / 2) (by omega) (by omega) (fun hq => hq e))
      rw [← ez, ← ey] at HUp HDn
      obtain ⟨dd, hdd⟩ : ∃ dd, pp - (k + l) / 2 = dd := ⟨_, rfl⟩
      rw [hdd] at r0 r1 r2
      have hb7 : (pp : Int) - ((k : Int) + (l : Int)) / 2 = (dd : Int) := by omega
      have hb8 : (dd : Int) < (n : Int) := by omega
      have hb9 : dd < n := by omega
      have hb10 : IntKind.i64.wrap (dd : Int) = (dd : Int) := IntWalk.i64_in _ (by omega)
      clear hsk qz ez qy ey hdd
      by_cases hcm : O.c (y1, (y2, y3)) (z1, (z2, z3)) < 0
      · have hcd : decide (O.c (y1, (y2, y3)) (z1, (z2, z3)) < 0) = true := decide_eq_true hcm
        have HCM := Lib.hid (HDn.out hcm)
        clear hcm HUp HDn
        go_wp2
        go_region_held3 (fun w' => w'.cell? ⟨g, (k + l) / 2 * 3, none⟩ = some (.string z1) ∧ w'.cell? ⟨g, (k + l) / 2 * 3 + 1, none⟩ = some (.string z2) ∧ w'.cell? ⟨g, (k + l) / 2 * 3 + 2, none⟩ = some (.string z3) ∧ w'.cell? ⟨g, dd * 3, none⟩ = some (.string y1) ∧ w'.cell? ⟨g, dd * 3 + 1, none⟩ = some (.string y2) ∧ w'.cell? ⟨g, dd * 3 + 2, none⟩ = some (.string y3))
          (first | go_keep | with_reducible exact K2.out)
          (first | (go_at_call 29; refine (HCMP.out y1 y2 y3 z1 z2 z3 _ sy sz).mono ?_; rintro e w2 ⟨rfl, hb2'⟩; have hb2 := below_drewN' (n := 1) hb2'; have K2 := Lib.hid (And.intro ((hb2.cell (p := ⟨g, (k + l) / 2 * 3, none⟩) hgz).trans q0) (And.intro ((hb2.cell (p := ⟨g, (k + l) / 2 * 3 + 1, none⟩) hgz).trans q1) (And.intro ((hb2.cell (p := ⟨g, (k + l) / 2 * 3 + 2, none⟩) hgz).trans q2) (And.intro ((hb2.cell (p := ⟨g, dd * 3, none⟩) hgz).trans r0) (And.intro ((hb2.cell (p := ⟨g, dd * 3 + 1, none⟩) hgz).trans r1) ((hb2.cell (p := ⟨g, dd * 3 + 2, none⟩) hgz).trans r2))))))))
        rename_i hheld
        clear hheld K2 hb2'
        have hw2 := hwk.call hb2
        clear hb2 q0 q1 q2 r0 r1 r2 hgz hwk
        go_wp2
        go_roundw
        case rel => exact ⟨k, (k + l) / 2, rfl, by go_num, HCM.out, hw2⟩
        case measure => simp [intOf]; omega
      · have hcd : decide (O.c (y1, (y2, y3)) (z1, (z2, z3)) < 0) = false := decide_eq_false hcm
        have HCM := Lib.hid (HUp.out hcm)
        clear hcm HUp HDn
        go_wp2
        go_region_held3 (fun w' => w'.cell? ⟨g, (k + l) / 2 * 3, none⟩ = some (.string z1) ∧ w'.cell? ⟨g, (k + l) / 2 * 3 + 1, none⟩ = some (.string z2) ∧ w'.cell? ⟨g, (k + l) / 2 * 3 + 2, none⟩ = some (.string z3) ∧ w'.cell? ⟨g, dd * 3, none⟩ = some (.string y1) ∧ w'.cell? ⟨g, dd * 3 + 1, none⟩ = some (.string y2) ∧ w'.cell? ⟨g, dd * 3 + 2, none⟩ = some (.string y3))
          (first | go_keep | with_reducible exact K2.out)
          (first | (go_at_call 29; refine (HCMP.out y1 y2 y3 z1 z2 z3 _ sy sz).mono ?_; rintro e w2 ⟨rfl, hb2'⟩; have hb2 := below_drewN' (n := 1) hb2'; have K2 := Lib.hid (And.intro ((hb2.cell (p := ⟨g, (k + l) / 2 * 3, none⟩) hgz).trans q0) (And.intro ((hb2.cell (p := ⟨g, (k + l) / 2 * 3 + 1, none⟩) hgz).trans q1) (And.intro ((hb2.cell (p := ⟨g, (k + l) / 2 * 3 + 2, none⟩) hgz).trans q2) (And.intro ((hb2.cell (p := ⟨g, dd * 3, none⟩) hgz).trans r0) (And.intro ((hb2.cell (p := ⟨g, dd * 3 + 1, none⟩) hgz).trans r1) ((hb2.cell (p := ⟨g, dd * 3 + 2, none⟩) hgz).trans r2))))))))
        rename_i hheld
        clear hheld K2 hb2'
        have hw2 := hwk.call hb2
        clear hb2 q0 q1 q2 r0 r1 r2 hgz hwk
        go_wp2
        go_roundw
        case rel => exact ⟨(k + l) / 2 + 1, l, by go_num, rfl, HCM.out, hw2⟩
        case measure => simp [intOf]; omega
    · obtain rfl : k = l := by omega
      obtain ⟨A1, A2, C1, C2, hq, l1, l2, l3⟩ := HCu.out k hsk
      have exs := HT.out _ _ _ _ hq
      have l4 := congrArg List.length hq.ha
      have l5 := congrArg List.length hq.hc
      rw [List.length_append] at l4 l5
      have l6 := HA.out
      have l7 := HM.out
      have l8 := HB.out
      have HQ := Lib.hid hq
      clear hsk hq
      obtain ⟨en, hen⟩ : ∃ en, nn - k = en := ⟨_, rfl⟩
      have hen' : (nn : Int) - (k : Int) = (en : Int) := by omega
      have hsh := HSh.out
      rw [exs] at hsh hwk
      have HS1 := Lib.hid (each_turn hsh)
      have HN := Lib.hid (show a = P.length ∧ m = P.length + A.length ∧ b = P.length + A.length + C.length ∧ P.length + A1.length = k ∧ P.length + A1.length + C1.length = mid ∧ A.length = A1.length + A2.length ∧ C.length = C1.length + C2.length ∧ A.length + C.length ≤ d + 1 from ⟨l6, l7, l8, l1, l2, l4, l5, HD.out⟩)
      clear hsh exs l1 l2 l4 l5 l6 l7 l8
      by_cases hy : k < mid
      · by_cases hx : k < m
        · have y1 : k < m := by omega
          have y2 : m < en := by omega
          have y3 : mid < en := by omega
          by_cases y4 : a < k
          · by_cases y5 : en < b
            · have HX := Lib.hid (rotate_anyT w0 g c n _ (P ++ A1) A2 C1 (C2 ++ S) hwk k m en (by have hx := HN.out; (try simp only [List.length_append]); omega) (by have hx := HN.out; (try simp only [List.length_append]); omega) (by have hx := HN.out; (try simp only [List.length_append]); omega) (by omega) (by omega) hn)
              clear hwk
              go_wp2_with fail
              refine HX.out.mono ?_
              rintro _ w1 ⟨rfl, hw1⟩
              rw [left_form] at hw1
              clear HX
              have HX2 := Lib.hid (HI.out P A1 C1 (A2 ++ C2 ++ S) _ (by have hx := HN.out; (try simp only [List.length_append]); omega) (by have hx := HN.out; (try simp only [List.length_append]); omega) (by have hx := HN.out; (try simp only [List.length_append]); omega) HQ.out.r1 HQ.out.r3 HS1.out hw1 a k mid (by have hx := HN.out; (try simp only [List.length_append]); omega) (by have hx := HN.out; (try simp only [List.length_append]); omega) (by have hx := HN.out; (try simp only [List.length_append]); omega))
              clear hw1
              go_wp2_with fail
              refine HX2.out.mono ?_
              rintro _ w2 ⟨rfl, hc2⟩
              clear HX2
              obtain ⟨ys, ⟨L, r1, r2, rfl⟩, r3, hw2⟩ := hc2
              have HR1 := Lib.hid r1
              have HR2 := Lib.hid r2
              have HK := Lib.hid (kept_len r2)
              clear r1 r2
              have er : P ++ L ++ (A2 ++ C2 ++ S) = P ++ L ++ A2 ++ C2 ++ S := by simp only [List.append_assoc]
              rw [er] at r3 hw2
              have HX3 := Lib.hid (HI.out (P ++ L) A2 C2 S _ (by have hx := HN.out; (try simp only [List.length_append]); omega) (by have hx := HN.out; (try simp only [List.length_append]); omega) (by have hx := HN.out; (try simp only [List.length_append]); omega) HQ.out.r2 HQ.out.r4 r3 hw2 mid en b (by have hx := HN.out; have hy := HK.out; simp only [List.length_append] at hy ⊢; omega) (by have hx := HN.out; have hy := HK.out; simp only [List.length_append] at hy ⊢; omega) (by have hx := HN.out; have hy := HK.out; simp only [List.length_append] at hy ⊢; omega))
              clear hw2 r3 er
              go_wp2_with fail
              refine HX3.out.mono ?_
              rintro _ w3 ⟨rfl, hc3⟩
              clear HX3
              have HC3 := Lib.hid hc3
              clear hc3
              go_wp2
              go_end0
              exact ⟨rfl, HQ.out.done HR1.out HR2.out HC3.out⟩
            · have HX := Lib.hid (rotate_anyT w0 g c n _ (P ++ A1) A2 C1 (C2 ++ S) hwk k m en (by have hx := HN.out; (try simp only [List.length_append]); omega) (by have hx := HN.out; (try simp only [List.length_append]); omega) (by have hx := HN.out; (try simp only [List.length_append]); omega) (by omega) (by omega) hn)
              clear hwk
              go_wp2_with fail
              refine HX.out.mono ?_
              rintro _ w1 ⟨rfl, hw1⟩
              rw [left_form] at hw1
              clear HX
              have HX2 := Lib.hid (HI.out P A1 C1 (A2 ++ C2 ++ S) _ (by have hx := HN.out; (try simp only [List.length_append]); omega) (by have hx := HN.out; (try simp only [List.length_append]); omega) (by have hx := HN.out; (try simp only [List.length_append]); omega) HQ.out.r1 HQ.out.r3 HS1.out hw1 a k mid (by have hx := HN.out; (try simp only [List.length_append]); omega) (by have hx := HN.out; (try simp only [List.length_append]); omega) (by have hx := HN.out; (try simp only [List.length_append]); omega))
              clear hw1
              go_wp2_with fail
              refine HX2.out.mono ?_
              rintro _ w2 ⟨rfl, hc2⟩
              clear HX2
              obtain ⟨ys, ⟨L, r1, r2, rfl⟩, r3, hw2⟩ := hc2
              have HR1 := Lib.hid r1
              have HR2 := Lib.hid r2
              have HK := Lib.hid (kept_len r2)
              clear r1 r2
              have hc3 := HQ.out.right (by have hx := HN.out; (try simp only [List.length_append]); omega) r3 hw2
              clear hw2 r3
              have HC3 := Lib.hid hc3
              clear hc3
              go_wp2
              go_end0
              exact ⟨rfl, HQ.out.done HR1.out HR2.out HC3.out⟩
          · by_cases y5 : en < b
            · have HX := Lib.hid (rotate_anyT w0 g c n _ (P ++ A1) A2 C1 (C2 ++ S) hwk k m en (by have hx := HN.out; (try simp only [List.length_append]); omega) (by have hx := HN.out; (try simp only [List.length_append]); omega) (by have hx := HN.out; (try simp only [List.length_append]); omega) (by omega) (by omega) hn)
              clear hwk
              go_wp2_with fail
              refine HX.out.mono ?_
              rintro _ w1 ⟨rfl, hw1⟩
              rw [left_form] at hw1
              clear HX
              have hc2 := HQ.out.left (by have hx := HN.out; (try simp only [List.length_append]); omega) HS1.out hw1
              clear hw1
              obtain ⟨ys, ⟨L, r1, r2, rfl⟩, r3, hw2⟩ := hc2
              have HR1 := Lib.hid r1
              have HR2 := Lib.hid r2
              have HK := Lib.hid (kept_len r2)
              clear r1 r2
              have er : P ++ L ++ (A2 ++ C2 ++ S) = P ++ L ++ A2 ++ C2 ++ S := by simp only [List.append_assoc]
              rw [er] at r3 hw2
              have HX3 := Lib.hid (HI.out (P ++ L) A2 C2 S _ (by have hx := HN.out; (try simp only [List.length_append]); omega) (by have hx := HN.out; (try simp only [List.length_append]); omega) (by have hx := HN.out; (try simp only [List.length_append]); omega) HQ.out.r2 HQ.out.r4 r3 hw2 mid en b (by have hx := HN.out; have hy := HK.out; simp only [List.length_append] at hy ⊢; omega) (by have hx := HN.out; have hy := HK.out; simp only [List.length_append] at hy ⊢; omega) (by have hx := HN.out; have hy := HK.out; simp only [List.length_append] at hy ⊢; omega))
              clear hw2 r3 er
              go_wp2_with fail
              refine HX3.out.mono ?_
              rintro _ w3 ⟨rfl, hc3⟩
              clear HX3
              have HC3 := Lib.hid hc3
              clear hc3
              go_wp2
              go_end0
              exact ⟨rfl, HQ.out.done HR1.out HR2.out HC3.out⟩
            · have HX := Lib.hid (rotate_anyT w0 g c n _ (P ++ A1) A2 C1 (C2 ++ S) hwk k m en (by have hx := HN.out; (try simp only [List.length_append]); omega) (by have hx := HN.out; (try simp only [List.length_append]); omega) (by have hx := HN.out; (try simp only [List.length_append]); omega) (by omega) (by omega) hn)
              clear hwk
              go_wp2_with fail
              refine HX.out.mono ?_
              rintro _ w1 ⟨rfl, hw1⟩
              rw [left_form] at hw1
              clear HX
              have hc2 := HQ.out.left (by have hx := HN.out; (try simp only [List.length_append]); omega) HS1.out hw1
              clear hw1
              obtain ⟨ys, ⟨L, r1, r2, rfl⟩, r3, hw2⟩ := hc2
              have HR1 := Lib.hid r1
              have HR2 := Lib.hid r2
              have HK := Lib.hid (kept_len r2)
              clear r1 r2
              have hc3 := HQ.out.right (by have hx := HN.out; (try simp only [List.length_append]); omega) r3 hw2
              clear hw2 r3
              have HC3 := Lib.hid hc3
              clear hc3
              go_wp2
              go_end0
              exact ⟨rfl, HQ.out.done HR1.out HR2.out HC3.out⟩
        · have x3 : a < k := by omega
          have x4 : ¬ mid < en := by omega
          have hw1 := hwk
          rw [no_turn (by have hx := HN.out; (try simp only [List.length_append]); omega)] at hw1
          clear hwk
          have HX2 := Lib.hid (HI.out P A1 C1 (A2 ++ C2 ++ S) _ (by have hx := HN.out; (try simp only [List.length_append]); omega) (by have hx := HN.out; (try simp only [List.length_append]); omega) (by have hx := HN.out; (try simp only [List.length_append]); omega) HQ.out.r1 HQ.out.r3 HS1.out hw1 a k mid (by have hx := HN.out; (try simp only [List.length_append]); omega) (by have hx := HN.out; (try simp only [List.length_append]); omega) (by have hx := HN.out; (try simp only [List.length_append]); omega))
          clear hw1
          go_wp2_with fail
          refine HX2.out.mono ?_
          rintro _ w2 ⟨rfl, hc2⟩
          clear HX2
          obtain ⟨ys, ⟨L, r1, r2, rfl⟩, r3, hw2⟩ := hc2
          have HR1 := Lib.hid r1
          have HR2 := Lib.hid r2
          have HK := Lib.hid (kept_len r2)
          clear r1 r2
          have hc3 := HQ.out.right (by have hx := HN.out; (try simp only [List.length_append]); omega) r3 hw2
          clear hw2 r3
          have HC3 := Lib.hid hc3
          clear hc3
          go_wp2
          go_end0
          exact ⟨rfl, HQ.out.done HR1.out HR2.out HC3.out⟩
      · have x1 : ¬ k < m := by omega
        have x3 : a < k := by omega
        have x4 : ¬ mid < en := by omega
        have hw1 := hwk
        rw [no_turn (by have hx := HN.out; (try simp only [List.length_append]); omega)] at hw1
        clear hwk
        have hc2 := HQ.out.left (by have hx := HN.out; (try simp only [List.length_append]); omega) HS1.out hw1
        clear hw1
        obtain ⟨ys, ⟨L, r1, r2, rfl⟩, r3, hw2⟩ := hc2
        have HR1 := Lib.hid r1
        have HR2 := Lib.hid r2
        have HK := Lib.hid (kept_len r2)
        clear r1 r2
        have hc3 := HQ.out.right (by have hx := HN.out; (try simp only [List.length_append]); omega) r3 hw2
        clear hw2 r3
        have HC3 := Lib.hid hc3
        clear hc3
        go_wp2
        go_end0
        exact ⟨rfl, HQ.out.done HR1.out HR2.out HC3.out⟩

theorem merges_allT (O : Ordr RetB) (ok : RetB → Prop) (hcmp : CmpOKT O ok) (w0 : World) (g c n : Nat) (hn : n ≤ 1000) : ∀ d, MergesT O ok w0 g c n d
  | 0 => fun P A C S w hd hA0 hC0 => by omega
  | d + 1 => fun P A C S w hd hA0 hC0 hA hC hs hw a m b ha hm hb => by
    by_cases h1 : A.length = 1
    · obtain ⟨x, rfl⟩ := List.length_eq_one_iff.1 h1
      exact merge_firstT O ok hcmp w0 g c n w P x C S hw hs hC a m b ha (by simpa using hm) (by simpa using hb) hn
    · by_cases h2 : C.length = 1
      · obtain ⟨y, rfl⟩ := List.length_eq_one_iff.1 h2
        exact merge_lastT O ok hcmp w0 g c n w P A y S hw hs hA h1 a m b ha hm (by simpa using hb) hn
      · by_cases h3 : (a + b) / 2 < m
        · exact merge_b1T O ok hcmp w0 g c n d (merges_allT O ok hcmp w0 g c n hn d) hn P A C S w hd (by omega) (by omega) hA hC hs hw a m b _ ha hm hb rfl h3
        · exact merge_b2T O ok hcmp w0 g c n d (merges_allT O ok hcmp w0 g c n hn d) hn P A C S w hd (by omega) (by omega) hA hC hs hw a m b _ ha hm hb rfl (by omega)

set_option maxRecDepth 100000 in
set_option maxHeartbeats 4000000 in
theorem stable_anyT (O : Ordr RetB) (ok : RetB → Prop) (hcmp : CmpOKT O ok) (w0 : World) (g c n : Nat) (w : World) (xs : List RetB) (hw : Work retR 58 w0 g c n w xs) (hs : Each ok xs) (hn : n ≤ 1000) :
    Calls Tryz.prog 70 #[.slice (some ⟨g, 0, none⟩) n c, .int .i64 n, cmpVT] w (fun e w' => e = .returned (.tuple #[]) ∧ ∃ ys, Rises O ys ∧ Kept O xs ys ∧ Work retR 58 w0 g c n w' ys) := by
  have HW := Lib.hid hw
  have HCMP := Lib.hid hcmp
  clear hcmp
  have HSh := Lib.hid hs
  have HL := Lib.hid hw.len
  clear hw hs
  unfold cmpVT
  go_enter Tryz.func70, Tryz.ntmps70
  go_wp2
  go_loopw [7, 8] (fun i j wr => ∃ (a b : Nat) (ys : List RetB), i = .int .i64 a ∧ j = .int .i64 b ∧ a + 20 = b ∧ a ≤ n ∧ Pass1 O xs a ys ∧ Each ok ys ∧ Work retR 58 w0 g c n wr ys) (fun i _ _ => n - (intOf i).toNat)
  case atStart => exact ⟨0, 20, xs, rfl, rfl, rfl, Nat.zero_le _, Pass1.start xs, HSh.out, HW.out⟩
  case round =>
    obtain ⟨a, b, ys, rfl, rfl, hab, han, hp, hsy, hwk⟩ := hrel
    have hlen := hwk.len
    by_cases hlt : b ≤ n
    · obtain ⟨P, A, S, rfl, e1, e2, hnx⟩ := hp.next (by omega)
      have HX := Lib.hid (insertion_anyT O ok HCMP.out w0 g c n _ P A S hwk hsy a b e1 (by omega) hn)
      have HN := Lib.hid hnx
      clear hnx hwk hsy e1 e2 hlen hp
      go_wp2_with fail
      refine HX.out.mono ?_
      rintro _ w1 ⟨rfl, zs, hpz, hsz, hw1⟩
      have HP := Lib.hid (HN.out zs hpz)
      have HZ := Lib.hid hsz
      clear HX HN hpz hsz
      go_wp2
      go_roundw
      case rel => exact ⟨b, b + 20, zs, rfl, by go_num, rfl, hlt, by rw [← hab]; exact HP.out, HZ.out, hw1⟩
      case measure => simp [intOf]; omega
    · obtain ⟨P, A, rfl, e1, e2, hnx⟩ := hp.done (by omega) (by omega)
      have HX := Lib.hid (insertion_anyT O ok HCMP.out w0 g c n _ P A [] hwk hsy a n e1 (by omega) hn)
      have HN := Lib.hid hnx
      clear hnx hwk hsy e1 e2 hlen hp
      go_wp2_with fail
      refine HX.out.mono ?_
      rintro _ w1 ⟨rfl, zs, hpz, hsz, hw1⟩
      have HP := Lib.hid (HN.out zs hpz)
      have HZ := Lib.hid hsz
      clear HX HN hpz hsz
      go_wp2
      go_loopw [6] (fun i wr => ∃ (z : Nat) (ys : List RetB), i = .int .i64 z ∧ 20 ≤ z ∧ z ≤ 4000 ∧ Runs O z ys ∧ Kept O xs ys ∧ Each ok ys ∧ Work retR 58 w0 g c n wr ys) (fun i _ => n - (intOf i).toNat)
      case atStart => exact ⟨20, zs, rfl, by omega, by omega, HP.out.1, HP.out.2, HZ.out, hw1⟩
      case round =>
        obtain ⟨z, ys, rfl, hz1, hz2, hr, hk, hsy, hwk⟩ := hrel
        by_cases hzn : z < n
        · have HSt := Lib.hid (Pass2.start hr hk)
          have HY := Lib.hid hsy
          clear hr hk hsy
          obtain ⟨zz, hzz⟩ : ∃ zz, 2 * z = zz := ⟨_, rfl⟩
          have tz : 2 * (z : Int) = (zz : Int) := by omega
          have tz' : (z : Int) * 2 = (zz : Int) := by omega
          have HZZ := Lib.hid hzz
          go_wp2
          go_loopw [7, 8] (fun i j wr => ∃ (a b : Nat) (ys : List RetB), i = .int .i64 a ∧ j = .int .i64 b ∧ a + zz = b ∧ a ≤ n ∧ Pass2 O xs z a ys ∧ Each ok ys ∧ Work retR 58 w0 g c n wr ys) (fun i _ _ => n - (intOf i).toNat)
          case atStart => exact ⟨0, zz, ys, rfl, by go_num, by omega, Nat.zero_le _, HSt.out, HY.out, hwk⟩
          case round =>
            obtain ⟨a, b, ys, rfl, rfl, hab, han, hp, hsy, hwk⟩ := hrel
            have hlen := hwk.len
            by_cases hlt : b ≤ n
            · obtain ⟨P, A, C, S, rfl, e1, e2, e3, r1, r2, hnx⟩ := hp.next (by omega)
              obtain ⟨m, hm⟩ : ∃ m, a + z = m := ⟨_, rfl⟩
              have tm : (a : Int) + (z : Int) = (m : Int) := by omega
              have HX := Lib.hid (merges_allT O ok HCMP.out w0 g c n hn _ P A C S _ (Nat.le_refl _) (by omega) (by omega) r1 r2 hsy hwk a m b e1 (by omega) (by omega))
              have HN := Lib.hid hnx
              clear hnx hwk hsy e1 e2 e3 hlen hp r1 r2 hm
              go_wp2_with fail
              refine HX.out.mono ?_
              rintro _ w1 ⟨rfl, zs, hpz, hsz, hw1⟩
              have HP := Lib.hid (HN.out zs hpz)
              have HZ := Lib.hid hsz
              clear HX HN hpz hsz
              go_wp2
              go_roundw
              case rel => exact ⟨b, b + zz, zs, rfl, by go_num, rfl, hlt, by rw [← hab, ← HZZ.out]; exact HP.out, HZ.out, hw1⟩
              case measure => simp [intOf]; omega
            · obtain ⟨m, hm⟩ : ∃ m, a + z = m := ⟨_, rfl⟩
              have tm : (a : Int) + (z : Int) = (m : Int) := by omega
              by_cases hmn : m < n
              · obtain ⟨P, A, C, rfl, e1, e2, e3, e4, r1, r2, hnx⟩ := hp.rest (by omega) (by omega)
                have HX := Lib.hid (merges_allT O ok HCMP.out w0 g c n hn _ P A C [] _ (Nat.le_refl _) (by omega) (by omega) r1 r2 hsy hwk a m n e1 (by omega) (by omega))
                have HN := Lib.hid hnx
                clear hnx hwk hsy e1 e2 e3 e4 hlen hp r1 r2 hm
                go_wp2_with fail
                refine HX.out.mono ?_
                rintro _ w1 ⟨rfl, zs, hpz, hsz, hw1⟩
                have HP := Lib.hid (HN.out zs hpz)
                have HZ := Lib.hid hsz
                clear HX HN hpz hsz
                go_wp2
                go_roundw
                case rel => exact ⟨zz, zs, by go_num, by omega, by omega, by rw [← HZZ.out]; exact HP.out.1, HP.out.2, HZ.out, hw1⟩
                case measure => simp [intOf]; omega
              · have HP := Lib.hid (hp.done (by omega))
                have HZ := Lib.hid hsy
                clear hp hsy hlen hm
                go_wp2
                go_roundw
                case rel => exact ⟨zz, ys, by go_num, by omega, by omega, by rw [← HZZ.out]; exact HP.out.1, HP.out.2, HZ.out, hwk⟩
                case measure => simp [intOf]; omega
        · have HR := Lib.hid (hr.rises (by rw [hwk.len]; omega))
          have HK := Lib.hid hk
          clear hr hk hsy
          go_wp2
          go_end0
          exact ⟨rfl, ys, HR.out, HK.out, hwk⟩

set_option maxRecDepth 100000 in
set_option maxHeartbeats 400000 in
theorem insertion_noneT (c : Nat) (w : World) : Calls Tryz.prog 115 #[.slice none 0 c, .int .i64 0, .int .i64 0, cmpVT] w (fun e w' => e = .returned (.tuple #[]) ∧ w' = w) := by
  unfold cmpVT
  go_enter Tryz.func115, Tryz.ntmps115
  go_wp2
  go_loopw [8] (fun i wr => i = .int .i64 1 ∧ wr = w) (fun _ _ => 0)
  case atStart => exact ⟨rfl, rfl⟩
  case round =>
    obtain ⟨rfl, rfl⟩ := hrel
    go_wp2
    go_end0
    exact ⟨rfl, rfl⟩

set_option maxRecDepth 100000 in
set_option maxHeartbeats 400000 in
theorem stable_noneT (c : Nat) (w : World) : Calls Tryz.prog 70 #[.slice none 0 c, .int .i64 0, cmpVT] w (fun e w' => e = .returned (.tuple #[]) ∧ w' = w) := by
  unfold cmpVT
  go_enter Tryz.func70, Tryz.ntmps70
  go_wp2
  go_loopw [7, 8] (fun i j wr => i = .int .i64 0 ∧ j = .int .i64 20 ∧ wr = w) (fun _ _ _ => 0)
  case atStart => exact ⟨rfl, rfl, rfl⟩
  case round =>
    obtain ⟨rfl, rfl, rfl⟩ := hrel
    go_wp2_with fail
    refine (insertion_noneT c _).mono ?_
    rintro _ w1 ⟨rfl, rfl⟩
    go_wp2
    go_loopw [6] (fun i wr => i = .int .i64 20 ∧ wr = w1) (fun _ _ => 0)
    case atStart => exact ⟨rfl, rfl⟩
    case round =>
      obtain ⟨rfl, rfl⟩ := hrel
      go_wp2
      go_end0
      exact ⟨rfl, rfl⟩

set_option maxRecDepth 100000 in
set_option maxHeartbeats 400000 in
theorem stableF_anyT (O : Ordr RetB) (ok : RetB → Prop) (hcmp : CmpOKT O ok) (w0 : World) (g c n : Nat) (w : World) (xs : List RetB) (hw : Work retR 58 w0 g c n w xs) (hs : Each ok xs) (hn : n ≤ 1000) :
    Calls Tryz.prog 28 #[.slice (some ⟨g, 0, none⟩) n c, cmpVT] w (fun e w' => e = .returned (.tuple #[]) ∧ ∃ ys, Rises O ys ∧ Kept O xs ys ∧ Work retR 58 w0 g c n w' ys) := by
  have HX := Lib.hid (stable_anyT O ok hcmp w0 g c n w xs hw hs hn)
  clear hw hs
  unfold cmpVT
  go_enter Tryz.func28, Tryz.ntmps28
  go_wp2_with fail
  refine HX.out.mono ?_
  rintro _ w1 ⟨rfl, ys, h1, h2, h3⟩
  have H1 := Lib.hid h1
  have H2 := Lib.hid h2
  clear h1 h2
  go_wp2
  go_end0
  exact ⟨rfl, ys, H1.out, H2.out, h3⟩

set_option maxRecDepth 100000 in
set_option maxHeartbeats 400000 in
theorem stableF_noneT (c : Nat) (w : World) : Calls Tryz.prog 28 #[.slice none 0 c, cmpVT] w (fun e w' => e = .returned (.tuple #[]) ∧ w' = w) := by
  unfold cmpVT
  go_enter Tryz.func28, Tryz.ntmps28
  go_wp2_with fail
  refine (stable_noneT c _).mono ?_
  rintro _ w1 ⟨rfl, rfl⟩
  go_wp2
  go_end0
  exact ⟨rfl, rfl⟩

end Go.Proofs.YtmdlmjcejeejfaaGreatDoor
