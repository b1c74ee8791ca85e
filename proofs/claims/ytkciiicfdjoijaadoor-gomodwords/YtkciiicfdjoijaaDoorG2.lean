/-
  gomod.Release, and the document's.
-/
import Derived.Test.YtkciiicfdjoijaaDoorG1
import Derived.Test.YtkciiicfdjoijaaDoorR1
namespace Go.Proofs.YtkciiicfdjoijaaDoor
open Go.RowKit Go.Shelf

theorem rel_data (s : ByteArray) : ((⟨#[118]⟩ : ByteArray) ++ s ++ ⟨#[46, 48]⟩).data.toList = relV s.data.toList := by
  simp [relV]

theorem rel_len {s : ByteArray} (h : s.size ≤ 20000) : ((⟨#[118]⟩ : ByteArray) ++ s ++ ⟨#[46, 48]⟩).size ≤ 20400 := by
  rw [← size_data, rel_data]; simp [relV]; omega
theorem nil_of {s : ByteArray} (h : s.toList = []) : s = ⟨#[]⟩ := by
  apply ByteArray.ext; apply Array.eq_empty_of_size_eq_zero; exact nil_size h
theorem rel_no {l : List UInt8} (h : okV (relV l) = false) : relL l = false := by rw [← rel_same]; simp [relOk, h]
theorem rel_ver {l : List UInt8} {ma mi pa : Int} {pre mta : ByteArray} (h : okV (relV l) = true) (hV : verL (relV l) = ⟨ma, mi, pa, pre, mta⟩) :
    relL l = (decide (ma = 1) && decide (pa = 0) && decide (pre = ⟨#[]⟩) && decide (mta = ⟨#[]⟩)) := by
  rw [← rel_same]; simp [relOk, h, hV]
theorem ne_nil {s : ByteArray} (h : ¬ s.toList = []) : ¬ s = ⟨#[]⟩ := by rintro rfl; exact h (by rw [Lib.toList_data])

set_option maxRecDepth 100000 in
set_option maxHeartbeats 1000000 in
theorem release_any (s : ByteArray) (hs : s.size ≤ 20000) (w : World) :
    Calls Tryd.prog 4 #[.string s] w fun e w' => e = .returned (.bool (relL s.data.toList)) ∧ Below w.heap.size w w' := by
  go_enter Tryd.func4, Tryd.ntmps4
  go_wp2_with fail
  refine (parse_any _ (rel_len hs) _).mono ?_
  rintro _ w1 ⟨rfl, hb⟩
  rw [rel_data, retP, verV, errL]
  cases hv : okV (relV s.data.toList)
  · have H := Lib.hid (rel_no hv)
    rw [show verL (relV s.data.toList) = Ver.zero by simp [verL, hv]]
    clear hv
    go_wp2
    go_ret
    exact ⟨ret_bool H.out.symm, hb.alloc hb.size _⟩
  · generalize hV : verL (relV s.data.toList) = V
    obtain ⟨ma, mi, pa, pre, mta⟩ := V
    have H := Lib.hid (rel_ver hv hV)
    clear hv hV
    by_cases h1 : ma = 1
    · subst h1
      by_cases h2 : pa = 0
      · subst h2
        by_cases h3 : pre.toList = []
        · have e3 := nil_of h3
          subst e3
          clear h3
          by_cases h4 : mta.toList = []
          · have e4 := nil_of h4
            subst e4
            clear h4
            go_wp2
            go_ret
            exact ⟨ret_bool H.out.symm, hb.alloc hb.size _⟩
          · have HN := Lib.hid (ne_nil h4)
            go_wp2
            go_ret
            exact ⟨ret_bool (by simp [H.out, HN.out]), hb.alloc hb.size _⟩
        · have HN := Lib.hid (ne_nil h3)
          go_wp2
          go_ret
          exact ⟨ret_bool (by simp [H.out, HN.out]), hb.alloc hb.size _⟩
      · go_wp2
        go_ret
        exact ⟨ret_bool (by simp [H.out, h2]), hb.alloc hb.size _⟩
    · go_wp2
      go_ret
      exact ⟨ret_bool (by simp [H.out, h1]), hb.alloc hb.size _⟩

theorem pref_rel {s : ByteArray} (h : prefB s ⟨#[49, 46]⟩ = true) : 2 ≤ s.size ∧ relL s.data.toList = numOk (s.extract 2 s.size).data.toList := by
  simp only [prefB, Bool.and_eq_true, decide_eq_true_eq] at h
  have h1 : 2 ≤ s.size := h.1
  refine ⟨h1, ?_⟩
  have h2 : (s.extract 0 2).toList = [49, 46] := by have := eq_of_beq h.2; rw [Lib.toList_data (⟨#[49, 46]⟩)] at this; exact this
  rw [Lib.toList_data, extract_front] at h2
  rw [relL, h2, extract_tail]; rfl
theorem pref_norel {s : ByteArray} (h : prefB s ⟨#[49, 46]⟩ = false) : relL s.data.toList = false := by
  by_cases h1 : 2 ≤ s.size
  · have h2 : ((s.extract 0 2).toList == (⟨#[49, 46]⟩ : ByteArray).toList) = false := by
      have := h
      simp only [prefB] at this
      rwa [decide_eq_true (show ByteArray.size ⟨#[49, 46]⟩ ≤ s.size from h1), Bool.true_and] at this
    rw [Lib.toList_data, Lib.toList_data, extract_front] at h2
    rw [relL]
    have h3 : (List.take 2 s.data.toList == [49, 46]) = false := h2
    rw [h3, Bool.false_and]
  · rw [relL]
    have : (List.take 2 s.data.toList == [49, 46]) = false := by
      rw [beq_eq_false_iff_ne]
      intro e
      have := congrArg List.length e
      rw [List.length_take, size_data] at this
      simp at this
      omega
    rw [this, Bool.false_and]

set_option maxRecDepth 100000 in
set_option maxHeartbeats 1000000 in
theorem rrelease_any (s : ByteArray) (hs : s.size ≤ 20000) (w : World) :
    Calls Tryd.prog 5 #[.string s] w fun e w' => e = .returned (.bool (relL s.data.toList)) ∧ w = w' := by
  cases h : prefB s ⟨#[49, 46]⟩
  · have H := Lib.hid (pref_norel h)
    go_enter Tryd.func5, Tryd.ntmps5
    go_wp2_with fail
    refine (begins_any _ _ _).mono ?_
    rintro _ w1 ⟨rfl, rfl⟩
    rw [h]
    go_wp2
    go_ret
    exact ⟨ret_bool H.out.symm, rfl⟩
  · have h2 := (pref_rel h).1
    have H := Lib.hid (pref_rel h).2
    have hl := extract_le s 2
    go_enter Tryd.func5, Tryd.ntmps5
    go_wp2_with fail
    refine (begins_any _ _ _).mono ?_
    rintro _ w1 ⟨rfl, rfl⟩
    rw [h]
    clear h
    go_wp2_with fail
    generalize s.extract 2 s.size = r at *
    refine (rnumber_any r (by omega) _).mono ?_
    rintro _ w1 ⟨rfl, rfl⟩
    cases hn : numOk r.data.toList
    · rw [numR_no hn]
      go_wp2
      go_ret
      exact ⟨ret_bool (by rw [H.out, hn]), rfl⟩
    · rw [numR_yes hn]
      go_wp2
      go_ret
      exact ⟨ret_bool (by rw [H.out, hn]), rfl⟩
end Go.Proofs.YtkciiicfdjoijaaDoor
