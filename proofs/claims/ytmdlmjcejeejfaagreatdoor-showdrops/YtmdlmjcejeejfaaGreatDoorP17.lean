/-
  The major version that a path tells, and whether a version fits; both ways.
-/
import Derived.Test.YtmdlmjcejeejfaaGreatDoorP15
namespace Go.Proofs.YtmdlmjcejeejfaaGreatDoor
open Go.RowKit Go.Shelf

def majL : List UInt8 → Int
  | [] => 0
  | c :: r => if c = 118 ∧ numOk r = true ∧ 2 ≤ numV r then (numV r : Int) else 0
def majE (xs : List ByteArray) : Int := if xs.length < 2 then 0 else majL (xs.getLastD ⟨#[]⟩).data.toList
def majorN (p : ByteArray) : Int := majE (elemsB p)
theorem maj_few {xs : List ByteArray} (h : xs.length < 2) : majE xs = 0 := by simp [majE, h]
theorem maj_last {ys : List ByteArray} {x : ByteArray} (h : 1 ≤ ys.length) : majE (ys ++ [x]) = majL x.data.toList := by
  unfold majE; rw [if_neg (by simp; omega)]; simp
theorem maj_not {x : ByteArray} (h : prefB x ⟨#[118]⟩ = false) : majL x.data.toList = 0 := by
  cases hl : x.data.toList with
  | nil => rfl
  | cons c r =>
    have hc : ¬ c = 118 := fun e => pref_no h r (by rw [hl, e])
    simp [majL, hc]
theorem maj_yes {x : ByteArray} (h : prefB x ⟨#[118]⟩ = true) : majL x.data.toList = if numOk (x.extract 1 x.size).data.toList = true ∧ 2 ≤ numV (x.extract 1 x.size).data.toList then (numV (x.extract 1 x.size).data.toList : Int) else 0 := by
  rw [pref_yes h]; simp [majL]
theorem last_of {xs : List ByteArray} (h : ¬ xs.length < 2) : ∃ ys x, xs = ys ++ [x] ∧ 1 ≤ ys.length := by
  have hn : xs ≠ [] := by rintro rfl; simp at h
  refine ⟨xs.dropLast, xs.getLast hn, (List.dropLast_concat_getLast hn).symm, ?_⟩
  simp; omega

set_option maxRecDepth 100000 in
set_option maxHeartbeats 1000000 in
theorem major_any (p : ByteArray) (hp : p.size ≤ 20400) (w : World) :
    Calls Tryz.prog 181 #[.string p] w fun e w' => e = .returned (.int .i64 (majorN p)) ∧ Below w.heap.size w w' := by
  obtain ⟨xs, hxs⟩ : ∃ xs, xs = elemsB p := ⟨_, rfl⟩
  have HX := Lib.hid hxs
  have HS := Lib.hid (fun x (hx : x ∈ xs) => Nat.le_trans (elemsB_size (hxs ▸ hx)) hp)
  have hcount : xs.length ≤ p.size + 1 := by rw [hxs]; exact elemsB_count p
  go_enter Tryz.func181, Tryz.ntmps181
  go_wp2_with fail
  refine (elems_any p hp _).mono ?_
  rintro _ w1 ⟨v, rfl, hrow, hb1⟩
  rw [← hxs] at hrow
  clear hxs
  by_cases h : xs.length < 2
  · have H := Lib.hid (show majorN p = 0 by rw [majorN, ← HX.out]; exact maj_few h)
    obtain ⟨a, cap, rfl, -⟩ := hrow
    go_wp2
    go_ret
    exact ⟨ret_int H.out.symm, hb1⟩
  · obtain ⟨ys, x, rfl, hy⟩ := last_of h
    have hx := HS.out x (by simp)
    have HM := Lib.hid (show majorN p = majL x.data.toList by rw [majorN, ← HX.out]; exact maj_last hy)
    obtain ⟨a, cap, rfl, hc⟩ := hrow
    obtain ⟨g, rfl, hg, hcell⟩ := hc (by simp)
    have q := hcell ys.length (by simp)
    rw [List.getElem_append_right (Nat.le_refl _)] at q
    simp only [Nat.sub_self, List.getElem_cons_zero] at q
    clear hcell hc h
    have hl : (ys ++ [x]).length = ys.length + 1 := by simp
    rw [hl] at hcount ⊢
    clear hl
    generalize ys.length = k at *
    cases hP : prefB x ⟨#[118]⟩
    · have H := Lib.hid (HM.out.trans (maj_not hP))
      go_wp2_with fail
      refine (cutp_any _ _ _).mono ?_
      rintro _ w2 ⟨rfl, rfl⟩
      rw [hP]
      go_wp2_with fail
      refine (number_any _ (by simpa using hx) _).mono ?_
      rintro _ w2 ⟨rfl, hb2⟩
      have hB := hb1.trans (hb2.mono hb1.size)
      go_wp2
      go_ret
      exact ⟨ret_int H.out.symm, hB⟩
    · have HY := Lib.hid (HM.out.trans (maj_yes hP))
      have hxe : (x.extract 1 x.size).size ≤ 20400 := Nat.le_trans (extract_size_le _ _ _) (by omega)
      go_wp2_with fail
      refine (cutp_any _ _ _).mono ?_
      rintro _ w2 ⟨rfl, rfl⟩
      rw [hP, if_pos rfl, show x.extract (ByteArray.size ⟨#[118]⟩) x.size = x.extract 1 x.size from rfl]
      obtain ⟨r, hr⟩ : ∃ r, r = x.extract 1 x.size := ⟨_, rfl⟩
      rw [← hr] at hxe HY ⊢
      clear hr
      go_wp2_with fail
      refine (number_any r hxe _).mono ?_
      rintro _ w2 ⟨rfl, hb2⟩
      have hB := hb1.trans (hb2.mono hb1.size)
      cases hn : numOk r.data.toList
      · have H := Lib.hid (show majorN p = 0 by rw [HY.out, hn]; simp)
        go_wp2
        go_ret
        exact ⟨ret_int H.out.symm, hB⟩
      · have hi : numI r.data.toList = (numV r.data.toList : Int) := by simp [numI, hn]
        rw [hi]
        clear hi
        by_cases h2 : 2 ≤ numV r.data.toList
        · have H := Lib.hid (show majorN p = (numV r.data.toList : Int) by rw [HY.out, hn]; simp [h2])
          have h2' : ¬ (numV r.data.toList : Int) < 2 := by omega
          generalize numV r.data.toList = m at *
          clear h2
          go_wp2
          go_ret
          exact ⟨ret_int H.out.symm, hB⟩
        · have H := Lib.hid (show majorN p = 0 by rw [HY.out]; simp [h2])
          have h2' : (numV r.data.toList : Int) < 2 := by omega
          generalize numV r.data.toList = m at *
          clear h2
          go_wp2
          go_ret
          exact ⟨ret_int H.out.symm, hB⟩

theorem maj_short {x : ByteArray} (h : x.size < 2) : majL x.data.toList = 0 := by
  cases hl : x.data.toList with
  | nil => rfl
  | cons c r =>
    have : r = [] := by
      have hz := size_data x
      rw [hl, List.length_cons] at hz
      exact List.length_eq_zero_iff.1 (by omega)
    subst this
    have : numOk [] = false := by decide
    simp [majL, this]
theorem maj_first {x : ByteArray} (h : 0 < x.size) (k : ((x[0].toNat : Int) == 118) = false) : majL x.data.toList = 0 := by
  have := drop_get x 0 h
  rw [List.drop_zero] at this
  rw [this]
  have hc : ¬ x[0] = 118 := by intro e; rw [e] at k; exact absurd k (by decide)
  simp [majL, hc]
theorem maj_num {x : ByteArray} (h : 0 < x.size) (k : ((x[0].toNat : Int) == 118) = true) : majL x.data.toList = if numR (x.extract 1 x.size).data.toList < 2 then 0 else numR (x.extract 1 x.size).data.toList := by
  rw [v_first h k]
  generalize (x.extract 1 x.size).data.toList = r
  cases hn : numOk r
  · rw [numR_no hn]; simp [majL, hn]
  · rw [numR_yes hn]
    by_cases h2 : 2 ≤ numV r
    · rw [if_neg (by omega)]; simp [majL, hn, h2]
    · rw [if_pos (by omega)]; simp [majL, h2]

set_option maxRecDepth 100000 in
set_option maxHeartbeats 1000000 in
theorem rmajor_any (p : ByteArray) (hp : p.size ≤ 20400) (w : World) :
    Calls Tryz.prog 176 #[.string p] w fun e w' => e = .returned (.int .i64 (majorN p)) ∧ Below w.heap.size w w' := by
  obtain ⟨xs, hxs⟩ : ∃ xs, xs = elemsB p := ⟨_, rfl⟩
  have HX := Lib.hid hxs
  have HS := Lib.hid (fun x (hx : x ∈ xs) => Nat.le_trans (elemsB_size (hxs ▸ hx)) hp)
  have hcount : xs.length ≤ p.size + 1 := by rw [hxs]; exact elemsB_count p
  go_enter Tryz.func176, Tryz.ntmps176
  go_wp2_with fail
  refine (relems_any p hp _).mono ?_
  rintro _ w1 ⟨v, rfl, hrow, hb1⟩
  rw [← hxs] at hrow
  clear hxs
  by_cases h : xs.length < 2
  · have H := Lib.hid (show majorN p = 0 by rw [majorN, ← HX.out]; exact maj_few h)
    obtain ⟨a, cap, rfl, -⟩ := hrow
    go_wp2
    go_ret
    exact ⟨ret_int H.out.symm, hb1⟩
  · obtain ⟨ys, x, rfl, hy⟩ := last_of h
    have hx := HS.out x (by simp)
    have HM := Lib.hid (show majorN p = majL x.data.toList by rw [majorN, ← HX.out]; exact maj_last hy)
    obtain ⟨a, cap, rfl, hc⟩ := hrow
    obtain ⟨g, rfl, hg, hcell⟩ := hc (by simp)
    have q := hcell ys.length (by simp)
    rw [List.getElem_append_right (Nat.le_refl _)] at q
    simp only [Nat.sub_self, List.getElem_cons_zero] at q
    clear hcell hc h
    have hl : (ys ++ [x]).length = ys.length + 1 := by simp
    rw [hl] at hcount ⊢
    clear hl
    generalize ys.length = k at *
    by_cases hz : x.size < 2
    · have H := Lib.hid (HM.out.trans (maj_short hz))
      go_wp2
      go_ret
      exact ⟨ret_int H.out.symm, hb1⟩
    · have hz0 : 0 < x.size := by omega
      cases hv : ((x[0].toNat : Int) == 118)
      · have H := Lib.hid (HM.out.trans (maj_first hz0 hv))
        have hv1 : ((x[0].toNat : Int) != 118) = true := by rw [bne, hv]; rfl
        go_wp2
        go_ret
        exact ⟨ret_int H.out.symm, hb1⟩
      · have HY := Lib.hid (HM.out.trans (maj_num hz0 hv))
        have hv1 : ((x[0].toNat : Int) != 118) = false := by rw [bne, hv]; rfl
        have hxe : (x.extract 1 x.size).size ≤ 20400 := Nat.le_trans (extract_size_le _ _ _) (by omega)
        have HN := Lib.hid (fun w => rnumber_any (x.extract 1 x.size) hxe w)
        go_wp2_with fail
        refine (HN.out _).mono ?_
        rintro _ w2 ⟨rfl, rfl⟩
        obtain ⟨m, hm⟩ : ∃ m, m = numR (x.extract 1 x.size).data.toList := ⟨_, rfl⟩
        rw [← hm] at HY ⊢
        have HMm := Lib.hid hm
        clear hm
        by_cases h2 : m < 2
        · have H := Lib.hid (show majorN p = 0 by rw [HY.out, if_pos h2])
          go_wp2
          go_ret
          exact ⟨ret_int H.out.symm, hb1⟩
        · have H := Lib.hid (show majorN p = m by rw [HY.out, if_neg h2])
          go_wp2_with fail
          refine (HN.out _).mono ?_
          rintro _ w2 ⟨rfl, rfl⟩
          rw [← HMm.out]
          go_wp2
          go_ret
          exact ⟨ret_int H.out.symm, hb1⟩
end Go.Proofs.YtmdlmjcejeejfaaGreatDoor
