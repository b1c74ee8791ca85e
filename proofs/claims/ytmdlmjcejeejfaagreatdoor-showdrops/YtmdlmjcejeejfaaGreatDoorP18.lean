/-
  Fits, both ways.
-/
import Derived.Test.YtmdlmjcejeejfaaGreatDoorP17
namespace Go.Proofs.YtmdlmjcejeejfaaGreatDoor
open Go.RowKit Go.Shelf

def fitZ (n ma : Int) (inc : Bool) : Int := if n = 0 then (if decide (2 ≤ ma) = inc then 0 else 31) else if inc then 31 else if ma = n then 0 else 31
def incB (l : List UInt8) : Bool := (verL l).mta.toList == [105, 110, 99, 111, 109, 112, 97, 116, 105, 98, 108, 101]
def fitN (p : ByteArray) (l : List UInt8) : Int := if okV l then fitZ (majorN p) (verL l).ma (incB l) else 30
theorem majL_range (l : List UInt8) : majL l = 0 ∨ 2 ≤ majL l := by
  cases l with
  | nil => exact .inl rfl
  | cons c r =>
    simp only [majL]
    by_cases h : c = 118 ∧ numOk r = true ∧ 2 ≤ numV r
    · rw [if_pos h]; exact .inr (by omega)
    · rw [if_neg h]; exact .inl rfl
theorem majorN_range (p : ByteArray) : majorN p = 0 ∨ 2 ≤ majorN p := by
  unfold majorN majE
  by_cases h : (elemsB p).length < 2
  · rw [if_pos h]; exact .inl rfl
  · rw [if_neg h]; exact majL_range _
theorem fit_1 {ma : Int} (h : 2 ≤ ma) : fitZ 0 ma true = 0 := by simp [fitZ, h]
theorem fit_2 {ma : Int} (h : 2 ≤ ma) : fitZ 0 ma false = 31 := by simp [fitZ]; omega
theorem fit_3 {ma : Int} (h : ¬ 2 ≤ ma) : fitZ 0 ma true = 31 := by simp [fitZ]; omega
theorem fit_4 {ma : Int} (h : ¬ 2 ≤ ma) : fitZ 0 ma false = 0 := by simp [fitZ]; omega
theorem fit_5 {n ma : Int} (h : 2 ≤ n) : fitZ n ma true = 31 := by
  unfold fitZ; rw [if_neg (by omega)]; rfl
theorem fit_6 {n : Int} (h : 2 ≤ n) : fitZ n n false = 0 := by
  unfold fitZ; rw [if_neg (by omega)]; simp
theorem fit_7 {n ma : Int} (h : 2 ≤ n) (k : ¬ ma = n) : fitZ n ma false = 31 := by
  unfold fitZ; rw [if_neg (by omega)]; simp [k]

set_option maxRecDepth 100000 in
set_option maxHeartbeats 2000000 in
theorem fits_any (p s : ByteArray) (hp : p.size ≤ 20400) (hs : s.size ≤ 20400) (w : World) :
    Calls Tryz.prog 144 #[.string p, .string s] w fun e w' => e = .returned (.int .i64 (fitN p s.data.toList)) ∧ Below w.heap.size w w' := by
  go_enter Tryz.func144, Tryz.ntmps144
  go_wp2_with fail
  refine (parse_any s hs _).mono ?_
  rintro _ w1 ⟨rfl, hb1⟩
  unfold retP verV
  cases e : okV s.data.toList
  · have H := Lib.hid (show fitN p s.data.toList = 30 by simp [fitN, e])
    rw [err_no e]
    generalize verL s.data.toList = v at *
    have hB := hb1.alloc hb1.size (.cells #[.int .i64 v.ma, .int .i64 v.mi, .int .i64 v.pa, .string v.pre, .string v.mta] 113)
    go_wp2
    go_ret
    exact ⟨ret_int H.out.symm, hB⟩
  · rw [err_yes e]
    have HF := Lib.hid (show fitN p s.data.toList = fitZ (majorN p) (verL s.data.toList).ma ((verL s.data.toList).mta.toList == [105, 110, 99, 111, 109, 112, 97, 116, 105, 98, 108, 101]) by simp only [fitN, e, incB]; rfl)
    clear e
    obtain ⟨v, hv⟩ : ∃ v, v = verL s.data.toList := ⟨_, rfl⟩
    rw [← hv] at HF ⊢
    clear hv
    have hc1 := VerC.of w1 113 v
    have hB := hb1.alloc hb1.size (.cells #[.int .i64 v.ma, .int .i64 v.mi, .int .i64 v.pa, .string v.pre, .string v.mta] 113)
    go_wp2_with fail
    generalize w1.alloc (.cells #[.int .i64 v.ma, .int .i64 v.mi, .int .i64 v.pa, .string v.pre, .string v.mta] 113) = w2 at *
    refine (major_any p hp _).mono ?_
    rintro _ w3 ⟨rfl, hb3⟩
    have hc3 := hc1.below hb3
    have hB3 := hB.trans (hb3.mono hB.size)
    have q0 := hc3.c0.cell
    have q4 := hc3.c4.cell
    have HR := Lib.hid (majorN_range p)
    obtain ⟨n, hn⟩ : ∃ n, n = majorN p := ⟨_, rfl⟩
    rw [← hn] at HF HR ⊢
    clear hn hc1 hc3 hb3 hB hb1
    generalize v.ma = ma at *
    generalize v.mta = mt at *
    cases hi : (mt.toList == [105, 110, 99, 111, 109, 112, 97, 116, 105, 98, 108, 101])
    · rw [hi] at HF
      rcases HR.out with h0 | h0
      · subst h0
        by_cases hm : 2 ≤ ma
        · have H := Lib.hid (HF.out.trans (fit_2 hm))
          have hd : decide (2 ≤ ma) = true := decide_eq_true hm
          have hd2 : decide (ma < 2) = false := decide_eq_false (by omega)
          clear HF HR
          go_wp2
          go_ret
          exact ⟨ret_int H.out.symm, hB3⟩
        · have H := Lib.hid (HF.out.trans (fit_4 hm))
          have hd : decide (2 ≤ ma) = false := decide_eq_false hm
          have hm2 : ma < 2 := by omega
          clear HF HR hm
          go_wp2
          go_ret
          exact ⟨ret_int H.out.symm, hB3⟩
      · have hn0 : (n == 0) = false := by rw [beq_eq_false_iff_ne]; omega
        have hnp : 0 < n := by omega
        by_cases hq : ma = n
        · subst hq
          have H := Lib.hid (HF.out.trans (fit_6 h0))
          clear HF HR h0
          go_wp2
          go_ret
          exact ⟨ret_int H.out.symm, hB3⟩
        · have H := Lib.hid (HF.out.trans (fit_7 h0 hq))
          have hq1 : (ma == n) = false := by rw [beq_eq_false_iff_ne]; exact hq
          have hq2 : (ma != n) = true := by rw [bne, hq1]; rfl
          clear HF HR h0 hq
          go_wp2
          go_ret
          exact ⟨ret_int H.out.symm, hB3⟩
    · rw [hi] at HF
      rcases HR.out with h0 | h0
      · subst h0
        by_cases hm : 2 ≤ ma
        · have H := Lib.hid (HF.out.trans (fit_1 hm))
          have hd : decide (2 ≤ ma) = true := decide_eq_true hm
          have hd2 : decide (ma < 2) = false := decide_eq_false (by omega)
          clear HF HR
          go_wp2
          go_ret
          exact ⟨ret_int H.out.symm, hB3⟩
        · have H := Lib.hid (HF.out.trans (fit_3 hm))
          have hd : decide (2 ≤ ma) = false := decide_eq_false hm
          have hm2 : ma < 2 := by omega
          clear HF HR hm
          go_wp2
          go_ret
          exact ⟨ret_int H.out.symm, hB3⟩
      · have hn0 : (n == 0) = false := by rw [beq_eq_false_iff_ne]; omega
        have hnp : 0 < n := by omega
        have H := Lib.hid (HF.out.trans (fit_5 h0))
        clear HF HR h0
        have hq : (ma == n) = true ∨ (ma == n) = false := by cases (ma == n) <;> simp
        rcases hq with hq | hq
        all_goals
          go_wp2
          go_ret
          exact ⟨ret_int H.out.symm, hB3⟩

set_option maxRecDepth 100000 in
set_option maxHeartbeats 2000000 in
theorem rfits_any (p s : ByteArray) (hp : p.size ≤ 20400) (hs : s.size ≤ 20400) (w : World) :
    Calls Tryz.prog 132 #[.string p, .string s] w fun e w' => e = .returned (.int .i64 (fitN p s.data.toList)) ∧ Below w.heap.size w w' := by
  go_enter Tryz.func132, Tryz.ntmps132
  go_wp2_with fail
  refine (rparse_any s hs _).mono ?_
  rintro _ w1 ⟨rfl, hb1⟩
  unfold retP verV
  cases e : okV s.data.toList
  · have H := Lib.hid (show fitN p s.data.toList = 30 by simp [fitN, e])
    rw [err_no e]
    generalize verL s.data.toList = v at *
    have hB := hb1.alloc hb1.size (.cells #[.int .i64 v.ma, .int .i64 v.mi, .int .i64 v.pa, .string v.pre, .string v.mta] 83)
    go_wp2
    go_ret
    exact ⟨ret_int H.out.symm, hB⟩
  · rw [err_yes e]
    have HF := Lib.hid (show fitN p s.data.toList = fitZ (majorN p) (verL s.data.toList).ma ((verL s.data.toList).mta.toList == [105, 110, 99, 111, 109, 112, 97, 116, 105, 98, 108, 101]) by simp only [fitN, e, incB]; rfl)
    clear e
    obtain ⟨v, hv⟩ : ∃ v, v = verL s.data.toList := ⟨_, rfl⟩
    rw [← hv] at HF ⊢
    clear hv
    have hc1 := VerC.of w1 83 v
    have hB := hb1.alloc hb1.size (.cells #[.int .i64 v.ma, .int .i64 v.mi, .int .i64 v.pa, .string v.pre, .string v.mta] 83)
    go_wp2_with fail
    generalize w1.alloc (.cells #[.int .i64 v.ma, .int .i64 v.mi, .int .i64 v.pa, .string v.pre, .string v.mta] 83) = w2 at *
    refine (rmajor_any p hp _).mono ?_
    rintro _ w3 ⟨rfl, hb3⟩
    have hc3 := hc1.below hb3
    have hB3 := hB.trans (hb3.mono hB.size)
    have q0 := hc3.c0.cell
    have q4 := hc3.c4.cell
    have HR := Lib.hid (majorN_range p)
    obtain ⟨n, hn⟩ : ∃ n, n = majorN p := ⟨_, rfl⟩
    rw [← hn] at HF HR ⊢
    clear hn hc1 hc3 hb3 hB hb1
    generalize v.ma = ma at *
    generalize v.mta = mt at *
    cases hi : (mt.toList == [105, 110, 99, 111, 109, 112, 97, 116, 105, 98, 108, 101])
    · rw [hi] at HF
      rcases HR.out with h0 | h0
      · subst h0
        by_cases hm : 2 ≤ ma
        · have H := Lib.hid (HF.out.trans (fit_2 hm))
          have hd : decide (2 ≤ ma) = true := decide_eq_true hm
          have hd2 : decide (ma < 2) = false := decide_eq_false (by omega)
          clear HF HR
          go_wp2
          go_ret
          exact ⟨ret_int H.out.symm, hB3⟩
        · have H := Lib.hid (HF.out.trans (fit_4 hm))
          have hd : decide (2 ≤ ma) = false := decide_eq_false hm
          have hm2 : ma < 2 := by omega
          clear HF HR hm
          go_wp2
          go_ret
          exact ⟨ret_int H.out.symm, hB3⟩
      · have hn0 : (n == 0) = false := by rw [beq_eq_false_iff_ne]; omega
        have hnp : 0 < n := by omega
        by_cases hq : ma = n
        · subst hq
          have H := Lib.hid (HF.out.trans (fit_6 h0))
          clear HF HR h0
          go_wp2
          go_ret
          exact ⟨ret_int H.out.symm, hB3⟩
        · have H := Lib.hid (HF.out.trans (fit_7 h0 hq))
          have hq1 : (ma == n) = false := by rw [beq_eq_false_iff_ne]; exact hq
          have hq2 : (ma != n) = true := by rw [bne, hq1]; rfl
          clear HF HR h0 hq
          go_wp2
          go_ret
          exact ⟨ret_int H.out.symm, hB3⟩
    · rw [hi] at HF
      rcases HR.out with h0 | h0
      · subst h0
        by_cases hm : 2 ≤ ma
        · have H := Lib.hid (HF.out.trans (fit_1 hm))
          have hd : decide (2 ≤ ma) = true := decide_eq_true hm
          have hd2 : decide (ma < 2) = false := decide_eq_false (by omega)
          clear HF HR
          go_wp2
          go_ret
          exact ⟨ret_int H.out.symm, hB3⟩
        · have H := Lib.hid (HF.out.trans (fit_3 hm))
          have hd : decide (2 ≤ ma) = false := decide_eq_false hm
          have hm2 : ma < 2 := by omega
          clear HF HR hm
          go_wp2
          go_ret
          exact ⟨ret_int H.out.symm, hB3⟩
      · have hn0 : (n == 0) = false := by rw [beq_eq_false_iff_ne]; omega
        have hnp : 0 < n := by omega
        have H := Lib.hid (HF.out.trans (fit_5 h0))
        clear HF HR h0
        have hq : (ma == n) = true ∨ (ma == n) = false := by cases (ma == n) <;> simp
        rcases hq with hq | hq
        all_goals
          go_wp2
          go_ret
          exact ⟨ret_int H.out.symm, hB3⟩
end Go.Proofs.YtmdlmjcejeejfaaGreatDoor
