/-
  The insertion sort of a part of a list (slices' insertionSort).
-/
import Derived.Test.YteffoajheolpmaaF22
namespace Go.Proofs.Yteffoajheolpmaa
open Go.RowKit Go.Shelf

theorem set_two' (P M S : List FileB) (x y : FileB) : ((P ++ x :: M ++ y :: S).set (P.length + 1 + M.length) x).set P.length y = P ++ y :: M ++ x :: S := by
  rw [List.set_comm _ _ (by omega), set_two]
/-- Two files change places, the second written first. -/
theorem Work.swap' {w0 : World} {g c n B : Nat} {u : Value} {w : World} {P M S : List FileB} {x y : FileB} (h : Work w0 g c n B u w (P ++ x :: M ++ y :: S)) :
    Work w0 g c n B u ((((w.setCell ⟨g, (P.length + 1 + M.length) * 2, none⟩ (.string x.1)).setCell ⟨g, (P.length + 1 + M.length) * 2 + 1, none⟩ (.string x.2)).setCell ⟨g, P.length * 2, none⟩ (.string y.1)).setCell ⟨g, P.length * 2 + 1, none⟩ (.string y.2)) (P ++ y :: M ++ x :: S) := by
  rw [← set_two']
  exact (h.set _ x).set _ y

/-- A part is sorted; what is ahead of it and behind it stays. -/
def Parted (P A S ys : List FileB) : Prop := ∃ A', Rises A' ∧ Kept A A' ∧ ys = P ++ A' ++ S
/-- How far one file has gone down among those ahead of it. -/
def InsAt (P A : List FileB) (x : FileB) (S : List FileB) (j : Nat) (ys : List FileB) : Prop :=
  ∃ L R, A = L ++ R ∧ (∀ r ∈ R, compareN x.1 r.1 < 0) ∧ j = P.length + L.length ∧ ys = P ++ L ++ x :: R ++ S
theorem ins_done {L R : List FileB} {x : FileB} (h : Rises (L ++ R)) (hr : ∀ r ∈ R, compareN x.1 r.1 < 0) (hl : ∀ z ∈ L, ¬ compareN x.1 z.1 < 0) : Rises (L ++ x :: R) ∧ Kept (L ++ R ++ [x]) (L ++ x :: R) := by
  obtain ⟨h1, h2, h3⟩ := List.pairwise_append.1 h
  constructor
  · refine List.pairwise_append.2 ⟨h1, List.pairwise_cons.2 ⟨fun r h => ?_, h2⟩, fun l hl' r hr' => ?_⟩
    · have := hr r h
      rw [cmp_neg]; omega
    · rcases List.mem_cons.1 hr' with rfl | hr'
      · exact hl l hl'
      · exact h3 l hl' r hr'
  · rw [List.append_assoc]
    exact (Kept.refl L).app (Kept.swap (us := R) (vs := [x]) fun u hu v hv => by rw [List.mem_singleton.1 hv]; exact hr u hu)
theorem InsAt.low {P A S ys : List FileB} {x : FileB} {j : Nat} (h : InsAt P A x S j ys) (ha : Rises A) (hj : j = P.length) : Parted P (A ++ [x]) S ys := by
  obtain ⟨L, R, rfl, h1, h2, rfl⟩ := h
  have : L = [] := List.length_eq_zero_iff.1 (by omega)
  subst this
  obtain ⟨k1, k2⟩ := ins_done ha h1 (by simp)
  exact ⟨_, k1, k2, by simp⟩
theorem InsAt.next {P A S ys : List FileB} {x : FileB} {j : Nat} (h : InsAt P A x S j ys) (ha : Rises A) (hj : P.length < j) :
    ∃ P' z S', ys = P' ++ z :: [] ++ x :: S' ∧ j = P'.length + 1 ∧ (compareN x.1 z.1 < 0 → InsAt P A x S P'.length (P' ++ x :: [] ++ z :: S')) ∧ (¬ compareN x.1 z.1 < 0 → Parted P (A ++ [x]) S ys) := by
  obtain ⟨L, R, rfl, h1, h2, rfl⟩ := h
  have hne : L ≠ [] := by intro e; subst e; simp at h2; omega
  obtain ⟨L', z, rfl⟩ : ∃ L' z, L = L' ++ [z] := ⟨_, _, (List.dropLast_concat_getLast hne).symm⟩
  refine ⟨P ++ L', z, R ++ S, by simp, by simp at h2; simp; omega, fun hc => ⟨L', z :: R, by simp, fun r hr => ?_, by simp, by simp⟩, fun hc => ?_⟩
  · rcases List.mem_cons.1 hr with rfl | hr
    · exact hc
    · exact h1 r hr
  · obtain ⟨k1, k2⟩ := ins_done ha h1 (fun y hy => by
      rcases List.mem_append.1 hy with hy | hy
      · have h4 := (List.pairwise_append.1 (List.pairwise_append.1 ha).1).2.2 y hy z (List.mem_singleton.2 rfl)
        intro h5
        apply hc
        rw [cmp_neg] at h4
        exact cmp_lt h5 (by omega)
      · rw [List.mem_singleton.1 hy]; exact hc)
    exact ⟨_, k1, k2, by simp⟩
/-- How far the sort of a part has come. -/
def SortAt (P A S : List FileB) (k : Nat) (ys : List FileB) : Prop := ∃ A1, Rises A1 ∧ Kept (A.take k) A1 ∧ ys = P ++ A1 ++ (A.drop k ++ S)
theorem kept_len {xs ys : List FileB} (h : Kept xs ys) : ys.length = xs.length := by
  have k := sort_kept_take ys ys.length (Nat.le_refl _)
  have e1 := sort_len_take ys ys.length (Nat.le_refl _)
  have e2 := sort_len_take xs xs.length (Nat.le_refl _)
  rw [List.take_length] at k e1 e2
  rw [← e1, sort_is k.1 (h.trans k.2), e2]
theorem SortAt.start (P A S : List FileB) : SortAt P A S 1 (P ++ A ++ S) := ⟨A.take 1, by cases A <;> simp [Rises], Kept.refl _, by rw [List.append_assoc P (A.take 1), ← List.append_assoc (A.take 1), List.take_append_drop, List.append_assoc]⟩
theorem SortAt.done {P A S ys : List FileB} {k : Nat} (h : SortAt P A S k ys) (hk : A.length ≤ k) : Parted P A S ys := by
  obtain ⟨A1, h1, h2, rfl⟩ := h
  rw [List.take_of_length_le hk] at h2
  rw [List.drop_of_length_le hk]
  exact ⟨A1, h1, h2, by simp⟩
theorem SortAt.next {P A S ys : List FileB} {k : Nat} (h : SortAt P A S k ys) (hk : k < A.length) :
    ∃ A1 x S', Rises A1 ∧ InsAt P A1 x S' (P.length + k) ys ∧ ∀ zs, Parted P (A1 ++ [x]) S' zs → SortAt P A S (k + 1) zs := by
  obtain ⟨A1, h1, h2, rfl⟩ := h
  have hl := kept_len h2
  rw [List.length_take] at hl
  refine ⟨A1, A[k], A.drop (k + 1) ++ S, h1, ⟨A1, [], by simp, by simp, by omega, ?_⟩, ?_⟩
  · rw [List.drop_eq_getElem_cons hk]; simp only [List.append_assoc, List.cons_append, List.nil_append]
  · rintro zs ⟨A', k1, k2, rfl⟩
    refine ⟨A', k1, ?_, rfl⟩
    rw [List.take_succ_eq_append_getElem hk]
    exact (h2.app (Kept.refl [A[k]])).trans k2

theorem short_swap {P M S : List FileB} {x y : FileB} (h : Short (P ++ x :: M ++ y :: S)) : Short (P ++ y :: M ++ x :: S) := by
  intro f hf
  apply h f
  simp only [List.mem_append, List.mem_cons] at hf ⊢
  rcases hf with (h | h | h) | h | h <;> simp [h]

set_option maxRecDepth 100000 in
set_option maxHeartbeats 4000000 in
theorem insertion_any (w0 : World) (g c n B : Nat) (u : Value) (w : World) (P A S : List FileB) (hw : Work w0 g c n B u w (P ++ A ++ S)) (hs : Short (P ++ A ++ S)) (a b : Nat) (ha : a = P.length) (hb : b = P.length + A.length) (hn : n ≤ 1000) :
    Calls Try.prog 83 #[.slice (some ⟨g, 0, none⟩) n c, .int .i64 a, .int .i64 b, cmpV B] w (fun e w' => e = .returned (.tuple #[]) ∧ ∃ ys, Parted P A S ys ∧ Short ys ∧ Work w0 g c n B u w' ys) := by
  have hlen := hw.len
  simp only [List.length_append] at hlen
  have hbn : b ≤ n := by omega
  have HW := Lib.hid hw
  have HSh := Lib.hid hs
  clear hs
  have H0 := Lib.hid (SortAt.start P A S)
  have HN := Lib.hid (fun ys k (h : SortAt P A S k ys) (hk : a + k < b) => h.next (by omega))
  have HD := Lib.hid (fun ys k (h : SortAt P A S k ys) (hk : b ≤ a + k) => h.done (by omega))
  have HA := Lib.hid ha
  have hab : a ≤ b := by omega
  clear hw hlen ha hb
  unfold cmpV
  go_enter Try.func83, Try.ntmps83
  go_wp2
  go_loopw [8] (fun i wr => ∃ (k : Nat) (ys : List FileB), 1 ≤ k ∧ (k = 1 ∨ a + k ≤ b) ∧ i = .int .i64 ((a + k : Nat) : Int) ∧ SortAt P A S k ys ∧ Short ys ∧ Work w0 g c n B u wr ys) (fun i _ => b + 1 - (intOf i).toNat)
  case atStart => exact ⟨1, _, Nat.le_refl _, .inl rfl, by go_num, H0.out, HSh.out, HW.out⟩
  case round =>
    obtain ⟨k, ys, hk1, hkb, rfl, hso, hsy, hwk⟩ := hrel
    have HSO := Lib.hid hso
    have HSY := Lib.hid hsy
    clear hso hsy
    obtain ⟨ik, hik⟩ : ∃ ik, a + k = ik := ⟨_, rfl⟩
    rw [hik] at hkb ⊢
    by_cases hlt : ik < b
    · obtain ⟨A1, ⟨x1, x2⟩, S', hr1, hia, hfin⟩ := HN.out ys k HSO.out (by omega)
      have HR1 := Lib.hid hr1
      have HIA := Lib.hid (show InsAt P A1 (x1, x2) S' ik ys by rw [← hik, HA.out]; exact hia)
      have HF := Lib.hid hfin
      clear hr1 hia hfin
      go_wp2
      go_loopw [9] (fun j wi => ∃ (jn : Nat) (zs : List FileB), a ≤ jn ∧ jn ≤ ik ∧ j = .int .i64 jn ∧ InsAt P A1 (x1, x2) S' jn zs ∧ Short zs ∧ Work w0 g c n B u wi zs) (fun j _ => (intOf j).toNat)
      case atStart => exact ⟨ik, ys, by omega, Nat.le_refl _, rfl, HIA.out, HSY.out, hwk⟩
      case round =>
        obtain ⟨jn, zs, hj1, hj2, rfl, hins, hsz, hwi⟩ := hrel
        by_cases hja : a < jn
        · obtain ⟨P', ⟨z1, z2⟩, S'', rfl, hj, hyes, hno⟩ := hins.next HR1.out (by rw [← HA.out]; exact hja)
          have HY := Lib.hid hyes
          have HNo := Lib.hid hno
          have e2 : P'.length + 1 + ([] : List FileB).length = jn := by simp; omega
          have sx : x1.size ≤ 20300 := hsz (x1, x2) (by simp)
          have sz : z1.size ≤ 20300 := hsz (z1, z2) (by simp)
          have HZ := Lib.hid hsz
          have HZ2 := Lib.hid (short_swap hsz)
          have HC := Lib.hid (fun w' (h : Work w0 g c n B u w' (P' ++ (z1, z2) :: [] ++ (x1, x2) :: S'')) => And.intro (h.cell (at_two P' [] S'' _ _).1) (h.cell (at_two P' [] S'' _ _).2))
          have HSw := Lib.hid (fun w' (h : Work w0 g c n B u w' (P' ++ (z1, z2) :: [] ++ (x1, x2) :: S'')) => h.swap')
          clear hyes hno hsz hins
          obtain ⟨jm, e1⟩ : ∃ jm, P'.length = jm := ⟨_, rfl⟩
          rw [e2] at HC HSw
          rw [e1] at HC HSw HY
          have HJ := Lib.hid (show jn = jm + 1 by omega)
          have t1 : (jn : Int) - 1 = (jm : Int) := by omega
          have t2 : jm < n := by omega
          have t3 : jn < n := by omega
          have t4 : (jm : Int) < (n : Int) := by omega
          have t5 : (jn : Int) < (n : Int) := by omega
          have t6 : IntKind.i64.wrap (jm : Int) = (jm : Int) := IntWalk.i64_in _ (by omega)
          clear hj e1 e2
          obtain ⟨⟨q1, q2⟩, q3, q4⟩ := HC.out _ hwi
          have hgz := (Array.getElem?_eq_some_iff.1 hwi.block.choose_spec.1).1
          by_cases hcm : compareN x1 z1 < 0
          · go_wp2
            go_region_held3 (fun w' => w'.cell? ⟨g, jn * 2, none⟩ = some (.string x1) ∧ w'.cell? ⟨g, jn * 2 + 1, none⟩ = some (.string x2) ∧ w'.cell? ⟨g, jm * 2, none⟩ = some (.string z1) ∧ w'.cell? ⟨g, jm * 2 + 1, none⟩ = some (.string z2))
              (first | go_keep | (go_split_ands; refine ⟨?_, ?_, ?_, ?_⟩ <;> (rw [hb2.cell hgz]; assumption)))
              (first | (go_at_call 62; refine (arr1_any (x1, x2) (z1, z2) B u _ (hwi.drew.box) sx sz).mono ?_; rintro e w2 ⟨rfl, hb2⟩))
            rename_i hheld
            clear hheld
            have hw2 := hwi.drew.call hb2
            obtain ⟨⟨p1, p2⟩, p3, p4⟩ := HC.out _ hw2
            have f1 := hw2.frozen (jn * 2)
            have f2 := hw2.frozen (jn * 2 + 1)
            have f3 := hw2.frozen (jm * 2)
            have f4 := hw2.frozen (jm * 2 + 1)
            have HSS := Lib.hid (HSw.out _ hw2)
            clear hb2 q1 q2 q3 q4 hgz hwi
            go_wp2
            go_region
            go_wp2
            go_roundw
            case rel => exact ⟨jm, _, by have := HJ.out; omega, by have := HJ.out; omega, by go_num, HY.out hcm, HZ2.out, HSS.out.drew⟩
            case measure => have := HJ.out; simp [intOf]; omega
          · go_wp2
            go_region_held3 (fun w' => w'.cell? ⟨g, jn * 2, none⟩ = some (.string x1) ∧ w'.cell? ⟨g, jn * 2 + 1, none⟩ = some (.string x2) ∧ w'.cell? ⟨g, jm * 2, none⟩ = some (.string z1) ∧ w'.cell? ⟨g, jm * 2 + 1, none⟩ = some (.string z2))
              (first | go_keep | (go_split_ands; refine ⟨?_, ?_, ?_, ?_⟩ <;> (rw [hb2.cell hgz]; assumption)))
              (first | (go_at_call 62; refine (arr1_any (x1, x2) (z1, z2) B u _ (hwi.drew.box) sx sz).mono ?_; rintro e w2 ⟨rfl, hb2⟩))
            rename_i hheld
            clear hheld
            have hw2 := hwi.drew.call hb2
            have HP := Lib.hid (HF.out _ (HNo.out hcm))
            clear hb2 q1 q2 q3 q4 hgz hwi
            go_wp2
            go_roundw
            case rel => exact ⟨k + 1, _, by omega, by omega, by go_num, HP.out, HZ.out, hw2⟩
            case measure => simp [intOf]; omega
        · have HP := Lib.hid (HF.out _ (hins.low HR1.out (by rw [← HA.out]; omega)))
          have HZ := Lib.hid hsz
          have hjd : jn = a := by omega
          subst hjd
          clear hins hsz
          go_wp2
          go_quiet (fail)
          go_wp2
          go_roundw
          case rel => exact ⟨k + 1, _, by omega, by omega, by go_num, HP.out, HZ.out, hwi.drewN _⟩
          case measure => simp [intOf]; omega
    · have HP := Lib.hid (HD.out _ _ HSO.out (by omega))
      go_wp2
      go_end0
      exact ⟨rfl, _, HP.out, HSY.out, hwk⟩
end Go.Proofs.Yteffoajheolpmaa
