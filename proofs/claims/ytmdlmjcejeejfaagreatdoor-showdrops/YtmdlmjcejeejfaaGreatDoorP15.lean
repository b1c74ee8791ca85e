/-
  Canonical, both ways.
-/
import Derived.Test.YtmdlmjcejeejfaaGreatDoorP14
import Derived.Test.YtmdlmjcejeejfaaGreatDoorS2
namespace Go.Proofs.YtmdlmjcejeejfaaGreatDoor
open Go.RowKit Go.Shelf

theorem mta_ok {l : List UInt8} (h : okV l = true) : (verL l).mta = mkB (metaOf l) := by simp [verL, h]
theorem inc_yes {l : List UInt8} (h : okV l = true) (k : ((verL l).mta.toList == [105, 110, 99, 111, 109, 112, 97, 116, 105, 98, 108, 101]) = true) : metaOf l = incL := by
  rw [mta_ok h, Lib.toList_data, data_mkB] at k; exact eq_of_beq k
theorem inc_no {l : List UInt8} (h : okV l = true) (k : ((verL l).mta.toList == [105, 110, 99, 111, 109, 112, 97, 116, 105, 98, 108, 101]) = false) : ¬ metaOf l = incL := by
  rw [mta_ok h, Lib.toList_data, data_mkB] at k; exact ne_of_beq_false k

set_option maxRecDepth 100000 in
set_option maxHeartbeats 1000000 in
theorem canon_any (s : ByteArray) (hs : s.size ≤ 20400) (w : World) :
    Calls Tryz.prog 149 #[.string s] w fun e w' => e = .returned (.string (canonS s)) ∧ Below w.heap.size w w' := by
  have HC := Lib.hid (cutD_any 43 s)
  go_enter Tryz.func149, Tryz.ntmps149
  go_wp2_with fail
  refine (parse_any s hs _).mono ?_
  rintro _ w1 ⟨rfl, hb1⟩
  unfold retP verV
  cases e : okV s.data.toList
  · have H := Lib.hid (canon_1 e)
    rw [err_no e]
    have hB1 := hb1.alloc hb1.size (.cells #[.int .i64 (verL s.data.toList).ma, .int .i64 (verL s.data.toList).mi, .int .i64 (verL s.data.toList).pa, .string (verL s.data.toList).pre, .string (verL s.data.toList).mta] 113)
    generalize verL s.data.toList = v at *
    go_wp2
    go_ret
    exact ⟨ret_string H.out.symm, hB1⟩
  · rw [err_yes e]
    cases k : ((verL s.data.toList).mta.toList == [105, 110, 99, 111, 109, 112, 97, 116, 105, 98, 108, 101])
    · have H := Lib.hid (canon_3 e (inc_no e k))
      have hc1 := VerC.of w1 113 (verL s.data.toList)
      have hB1 := hb1.alloc hb1.size (.cells #[.int .i64 (verL s.data.toList).ma, .int .i64 (verL s.data.toList).mi, .int .i64 (verL s.data.toList).pa, .string (verL s.data.toList).pre, .string (verL s.data.toList).mta] 113)
      generalize verL s.data.toList = v at *
      have q4 := hc1.c4.cell
      clear hc1
      go_wp2_with fail
      refine (HC.out _ hs).mono ?_
      rintro _ w2 ⟨rfl, n, rfl⟩
      have H2 := Lib.hid (H.out.trans (show mkB (headL 43 s.data.toList) = (cutD 43 s).1 from rfl))
      generalize cutD 43 s = x at *
      obtain ⟨x1, x2, x3⟩ := x
      go_wp2
      go_ret
      exact ⟨ret_string H2.out.symm, below_drewN hB1 n⟩
    · have H := Lib.hid (canon_2 e (inc_yes e k))
      have hc1 := VerC.of w1 113 (verL s.data.toList)
      have hB1 := hb1.alloc hb1.size (.cells #[.int .i64 (verL s.data.toList).ma, .int .i64 (verL s.data.toList).mi, .int .i64 (verL s.data.toList).pa, .string (verL s.data.toList).pre, .string (verL s.data.toList).mta] 113)
      generalize verL s.data.toList = v at *
      have q4 := hc1.c4.cell
      clear hc1
      go_wp2
      go_ret
      exact ⟨ret_string H.out.symm, hB1⟩

set_option maxRecDepth 100000 in
set_option maxHeartbeats 1000000 in
theorem rcanon_any (s : ByteArray) (hs : s.size ≤ 20400) (w : World) :
    Calls Tryz.prog 175 #[.string s] w fun e w' => e = .returned (.string (canonS s)) ∧ Below w.heap.size w w' := by
  have HC := Lib.hid (rfind_any s 43 hs)
  go_enter Tryz.func175, Tryz.ntmps175
  go_wp2_with fail
  refine (rparse_any s hs _).mono ?_
  rintro _ w1 ⟨rfl, hb1⟩
  unfold retP verV
  cases e : okV s.data.toList
  · have H := Lib.hid (canon_1 e)
    rw [err_no e]
    have hB1 := hb1.alloc hb1.size (.cells #[.int .i64 (verL s.data.toList).ma, .int .i64 (verL s.data.toList).mi, .int .i64 (verL s.data.toList).pa, .string (verL s.data.toList).pre, .string (verL s.data.toList).mta] 83)
    generalize verL s.data.toList = v at *
    go_wp2
    go_ret
    exact ⟨ret_string H.out.symm, hB1⟩
  · rw [err_yes e]
    cases k : ((verL s.data.toList).mta.toList == [105, 110, 99, 111, 109, 112, 97, 116, 105, 98, 108, 101])
    · have H := Lib.hid ((canon_3 e (inc_no e k)).trans (find_front 43 s).symm)
      have hc1 := VerC.of w1 83 (verL s.data.toList)
      have hB1 := hb1.alloc hb1.size (.cells #[.int .i64 (verL s.data.toList).ma, .int .i64 (verL s.data.toList).mi, .int .i64 (verL s.data.toList).pa, .string (verL s.data.toList).pre, .string (verL s.data.toList).mta] 83)
      have hf : findN 43 s.data.toList ≤ s.size := by
        have := headL_len (d := 43) s.data.toList
        rw [size_data] at this; exact this
      generalize verL s.data.toList = v at *
      have q4 := hc1.c4.cell
      clear hc1
      go_wp2_with fail
      refine (HC.out _).mono ?_
      rintro _ w2 ⟨rfl, rfl⟩
      generalize findN 43 s.data.toList = k1 at *
      go_wp2
      go_ret
      exact ⟨ret_string H.out.symm, hB1⟩
    · have H := Lib.hid (canon_2 e (inc_yes e k))
      have hc1 := VerC.of w1 83 (verL s.data.toList)
      have hB1 := hb1.alloc hb1.size (.cells #[.int .i64 (verL s.data.toList).ma, .int .i64 (verL s.data.toList).mi, .int .i64 (verL s.data.toList).pa, .string (verL s.data.toList).pre, .string (verL s.data.toList).mta] 83)
      generalize verL s.data.toList = v at *
      have q4 := hc1.c4.cell
      clear hc1
      go_wp2
      go_ret
      exact ⟨ret_string H.out.symm, hB1⟩
end Go.Proofs.YtmdlmjcejeejfaaGreatDoor
