/-
  The document's own Pseudo.
-/
import Derived.Test.YtoljpmelfebjoaaDoorP21
import Derived.Test.YtoljpmelfebjoaaDoorP10
namespace Go.Proofs.YtoljpmelfebjoaaDoor
open Go.RowKit Go.Shelf
set_option linter.unusedVariables false

def hOk (h : ByteArray) : Bool := h.toList.isEmpty || ((h.toList == [48, 46]) || (decide (3 < h.size) && ((h.extract (h.size - 3) h.size).toList == [46, 48, 46])))
def endOk (p : ByteArray) (n : Nat) : Bool := digs (p.extract n (n + 14)).data.toList && ((p.data.toList[n + 14]? == some 45) && (allB (p.extract (n + 15) (n + 27)) hexS && hOk (p.extract 0 n)))
def outN (p : ByteArray) (n : Nat) : Value := if endOk p n then .tuple #[.string (p.extract n (n + 14)), .string (p.extract (n + 15) (n + 27)), .bool true] else noQ
def outS (p : ByteArray) : Value := if 27 ≤ p.size then outN p (p.size - 27) else noQ
theorem outS_1 {p : ByteArray} {n : Nat} (h : p.size = n + 27) : outS p = outN p n := by
  unfold outS
  rw [if_pos (by omega), show p.size - 27 = n by omega]
theorem outN_1 {p t r h : ByteArray} {n : Nat} (ht : t = p.extract n (n + 14)) (e : digs t.data.toList = false) : outN p n = noQ := by
  subst ht; unfold outN endOk; rw [e]; rfl
theorem outN_2 {p : ByteArray} {n : Nat} (hn : p.size = n + 27) (e : ((p[n + 14].toNat : Int) == 45) = false) : outN p n = noQ := by
  have := get_data p (n + 14) (by omega)
  have hc : ¬ p[n + 14] = 45 := by intro x; rw [x] at e; exact absurd e (by decide)
  simp [outN, endOk, this, hc]
theorem outN_3 {p r : ByteArray} {n : Nat} (hr : r = p.extract (n + 15) (n + 27)) (e : allB r hexS = false) : outN p n = noQ := by
  subst hr; simp [outN, endOk, e]
theorem outN_4 {p h : ByteArray} {n : Nat} (hh : h = p.extract 0 n) (e : hOk h = false) : outN p n = noQ := by
  subst hh; simp [outN, endOk, e]
theorem outN_5 {p t r h : ByteArray} {n : Nat} (hn : p.size = n + 27) (ht : t = p.extract n (n + 14)) (hr : r = p.extract (n + 15) (n + 27)) (hh : h = p.extract 0 n) (e1 : digs t.data.toList = true) (e2 : ((p[n + 14].toNat : Int) == 45) = true) (e3 : allB r hexS = true) (e4 : hOk h = true) : outN p n = .tuple #[.string t, .string r, .bool true] := by
  have := get_data p (n + 14) (by omega)
  have hc : p[n + 14] = 45 := UInt8.toNat.inj (by have := eq_of_beq e2; show p[n + 14].toNat = 45; omega)
  subst ht; subst hr; subst hh
  unfold outN endOk; rw [e1, e3, e4, this, hc]; rfl
theorem hex_cases (c : UInt8) : hexS c = (dig c || (decide (97 ≤ c.toNat) && decide (c.toNat ≤ 102))) := rfl
def retS (l : List UInt8) : Value := if okV l then outS (verL l).pre else noQ
theorem retS_no {l : List UInt8} (h : okV l = false) : retS l = noQ := by simp [retS, h]
theorem retS_yes {l : List UInt8} (h : okV l = true) : retS l = outS (verL l).pre := by simp [retS, h]
theorem outS_0 {p : ByteArray} (h : ¬ 27 ≤ p.size) : outS p = noQ := by simp [outS, h]

set_option maxRecDepth 100000 in
set_option maxHeartbeats 2000000 in
theorem rpseudo_any (s : ByteArray) (hs : s.size ≤ 20400) (w : World) :
    Calls Tryd.prog 22 #[.string s] w fun e w' => e = .returned (retS s.data.toList) ∧ Below w.heap.size w w' := by
  have HC := Lib.hid rdigit_any
  have hB := Below.refl w.heap.size w
  have hps := pre_size s
  go_enter Tryd.func22, Tryd.ntmps22
  go_wp2_with fail
  refine (rparse_any s hs _).mono ?_
  rintro _ w1 ⟨rfl, hb1⟩
  replace hB := hB.trans (hb1.mono hB.size)
  clear hb1
  unfold retP verV
  have HQN := Lib.hid (fun h => retS_no (l := s.data.toList) h)
  have HQY := Lib.hid (fun h => retS_yes (l := s.data.toList) h)
  obtain ⟨v, hv⟩ : ∃ v, v = verL s.data.toList := ⟨_, rfl⟩
  rw [← hv] at hps HQY ⊢
  clear hv
  have hc := VerC.of w1 27 v
  replace hB := hB.alloc hB.size (.cells #[.int .i64 v.ma, .int .i64 v.mi, .int .i64 v.pa, .string v.pre, .string v.mta] 27)
  have q3 := hc.c3.cell
  clear hc
  cases e : okV s.data.toList
  · have H := Lib.hid (HQN.out e)
    rw [err_no e]
    clear e
    go_wp2
    go_ret3
    exact ⟨ret_val H.out.symm, hB⟩
  · have H := Lib.hid (HQY.out e)
    rw [err_yes e]
    clear e HQN HQY
    by_cases k : 27 ≤ v.pre.size
    · generalize v.pre = p at *
      obtain ⟨n, hn⟩ : ∃ n, p.size = n + 27 := ⟨p.size - 27, by omega⟩
      go_wp2_with fail
      generalize w1.alloc (.cells #[.int .i64 v.ma, .int .i64 v.mi, .int .i64 v.pa, .string p, .string v.mta] 27) = w2 at *
      replace H := Lib.hid (H.out.trans (outS_1 hn))
      obtain ⟨t, ht⟩ : ∃ t, t = p.extract n (n + 14) := ⟨_, rfl⟩
      obtain ⟨r, hr⟩ : ∃ t, t = p.extract (n + 15) (n + 27) := ⟨_, rfl⟩
      obtain ⟨h, hh⟩ : ∃ t, t = p.extract 0 n := ⟨_, rfl⟩
      have zt : t.size = 14 := by rw [ht]; simp [ByteArray.size_extract]; omega
      have zr : r.size = 12 := by rw [hr]; simp [ByteArray.size_extract]; omega
      have zh : h.size = n := by rw [hh]; simp [ByteArray.size_extract]; omega
      have H1 := Lib.hid (fun e => H.out.trans (outN_1 (r := t) (h := t) ht e))
      have H2 := Lib.hid (fun e => H.out.trans (outN_2 hn e))
      have H3 := Lib.hid (fun e => H.out.trans (outN_3 hr e))
      have H4 := Lib.hid (fun e => H.out.trans (outN_4 hh e))
      have H5 := Lib.hid (fun a b c d => H.out.trans (outN_5 hn ht hr hh a b c d))
      have HH := Lib.hid hh
      rw [← ht, ← hr]
      clear ht hr hh H
      refine (rdigits_any t (by omega) _).mono ?_
      rintro _ w3 ⟨rfl, rfl⟩
      cases e1 : digs t.data.toList
      · replace H1 := Lib.hid (H1.out e1)
        clear e1
        go_wp2
        go_ret3
        exact ⟨ret_val H1.out.symm, hB⟩
      · replace H5 := Lib.hid (H5.out e1)
        clear e1
        have zp : n + 14 < p.size := by omega
        cases e2 : ((p[n + 14].toNat : Int) == 45)
        · replace H2 := Lib.hid (H2.out e2)
          go_wp2
          go_ret3
          exact ⟨ret_val H2.out.symm, hB⟩
        · replace H5 := Lib.hid (H5.out e2)
          go_wp2
          have h0 : ((p[n + 14].toNat : Int) != 45) = false := by rw [bne, e2]; rfl
          rw [h0]
          clear h0
          go_loop [10] (fun i => ∃ k : Nat, k ≤ r.size ∧ i = .int .i64 k ∧ allTo r hexS k = true) (fun i => r.size - (intOf i).toNat)
          case atStart => exact ⟨0, Nat.zero_le _, rfl, rfl⟩
          case round =>
            obtain ⟨j, hj, rfl, hl⟩ := hrel
            have HL := Lib.hid hl
            clear hl
            by_cases hlt : j < r.size
            · have HN := Lib.hid (fun e => H3.out (all_no (k := j) hlt e))
              have HY := Lib.hid (fun e => all_yes hlt HL.out e)
              go_wp2_with fail
              refine (HC.out _ _).mono ?_
              rintro _ w' ⟨rfl, rfl⟩
              have hx := hex_cases r[j]
              have HX := Lib.hid hx
              clear hx
              cases hd : dig r[j]
              · by_cases l1 : 97 ≤ r[j].toNat
                · by_cases l2 : r[j].toNat ≤ 102
                  · have H6 := Lib.hid (HY.out (by rw [HX.out, hd]; simp [l1, l2]))
                    have l1' : ¬ (r[j].toNat : Int) < 97 := by omega
                    have l2' : ¬ 102 < (r[j].toNat : Int) := by omega
                    go_wp2
                    first
                      | exact ⟨⟨j + 1, by omega, by go_num, H6.out⟩, by simp [intOf]; omega⟩
                      | exact ⟨j + 1, by omega, by go_num, H6.out⟩
                      | (go_round; (case rel => exact ⟨j + 1, by omega, by go_num, H6.out⟩); (case measure => simp [intOf]; omega))
                      | trace_state
                  · have H6 := Lib.hid (HN.out (by rw [HX.out, hd]; simp [l2]))
                    have l1' : ¬ (r[j].toNat : Int) < 97 := by omega
                    have l2' : 102 < (r[j].toNat : Int) := by omega
                    go_wp2
                    go_ret3
                    exact ⟨ret_val H6.out.symm, hB⟩
                · have H6 := Lib.hid (HN.out (by rw [HX.out, hd]; simp [l1]))
                  have l1' : (r[j].toNat : Int) < 97 := by omega
                  go_wp2
                  go_ret3
                  exact ⟨ret_val H6.out.symm, hB⟩
              · have H6 := Lib.hid (HY.out (by rw [HX.out, hd]; rfl))
                go_wp2
                first
                  | exact ⟨⟨j + 1, by omega, by go_num, H6.out⟩, by simp [intOf]; omega⟩
                  | exact ⟨j + 1, by omega, by go_num, H6.out⟩
                  | (go_round; (case rel => exact ⟨j + 1, by omega, by go_num, H6.out⟩); (case measure => simp [intOf]; omega))
                  | trace_state
            · replace H5 := Lib.hid (H5.out (all_end (by omega) HL.out))
              have hh := HH.out
              clear HH
              subst hh
              cases f1 : (p.extract 0 n).toList.isEmpty
              · cases f2 : ((p.extract 0 n).toList == [48, 46])
                · by_cases f3 : 3 < (p.extract 0 n).size
                  · cases f4 : (((p.extract 0 n).extract (n - 3) n).toList == [46, 48, 46])
                    · replace H4 := Lib.hid (H4.out (by rw [hOk, zh, f1, f2, f4, decide_eq_true (zh ▸ f3)]; rfl))
                      go_wp2
                      go_ret3
                      exact ⟨ret_val H4.out.symm, hB⟩
                    · replace H5 := Lib.hid (H5.out (by rw [hOk, zh, f1, f2, f4, decide_eq_true (zh ▸ f3)]; rfl))
                      go_wp2
                      go_ret3
                      exact ⟨ret_val H5.out.symm, hB⟩
                  · replace H4 := Lib.hid (H4.out (by rw [hOk, f1, f2, decide_eq_false f3]; rfl))
                    go_wp2
                    go_ret3
                    exact ⟨ret_val H4.out.symm, hB⟩
                · replace H5 := Lib.hid (H5.out (by simp only [hOk, f1, f2]; rfl))
                  go_wp2
                  go_ret3
                  exact ⟨ret_val H5.out.symm, hB⟩
              · replace H5 := Lib.hid (H5.out (by simp only [hOk, f1]; rfl))
                go_wp2
                go_ret3
                exact ⟨ret_val H5.out.symm, hB⟩
    · have H2 := Lib.hid (H.out.trans (outS_0 k))
      have k' : (v.pre.size : Int) - 27 < 0 := by omega
      go_wp2
      go_ret3
      exact ⟨ret_val H2.out.symm, hB⟩
end Go.Proofs.YtoljpmelfebjoaaDoor
