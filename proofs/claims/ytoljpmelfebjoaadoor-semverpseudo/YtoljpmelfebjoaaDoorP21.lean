/-
  semver.Pseudo: what it answers, told by the identifiers of the version's Pre.
-/
import Derived.Test.YtoljpmelfebjoaaDoorP13
namespace Go.Proofs.YtoljpmelfebjoaaDoor
open Go.RowKit Go.Shelf
set_option linter.unusedVariables false

def noQ : Value := .tuple #[.string ⟨#[]⟩, .string ⟨#[]⟩, .bool false]
def stampOk (x : ByteArray) : Bool := decide ((cutD 45 x).1.size = 14) && (digs (cutD 45 x).1.data.toList && (decide ((cutD 45 x).2.1.size = 12) && hexL (cutD 45 x).2.1.data.toList))
def outQ (x : ByteArray) : Value := if stampOk x then .tuple #[.string (cutD 45 x).1, .string (cutD 45 x).2.1, .bool true] else noQ
def pseudoR : List ByteArray → Value
  | [] => noQ
  | [x] => outQ x
  | x :: y :: _ => if y.data.toList = [48] then outQ x else noQ
def retQ (l : List UInt8) : Value := if okV l then pseudoR (partsD 46 (verL l).pre).reverse else noQ
theorem ret_val {a b : Value} (h : a = b) : Ending.returned a = .returned b := by rw [h]
theorem retQ_no {l : List UInt8} (h : okV l = false) : retQ l = noQ := by simp [retQ, h]
theorem retQ_yes {l : List UInt8} (h : okV l = true) : retQ l = pseudoR (partsD 46 (verL l).pre).reverse := by simp [retQ, h]
theorem outQ_1 {x a b : ByteArray} (ha : a = (cutD 45 x).1) (hb : b = (cutD 45 x).2.1) (h : ¬ a.size = 14) : outQ x = noQ := by
  subst ha; simp [outQ, stampOk, h]
theorem outQ_2 {x a b : ByteArray} (ha : a = (cutD 45 x).1) (hb : b = (cutD 45 x).2.1) (h : digs a.data.toList = false) : outQ x = noQ := by
  subst ha; simp [outQ, stampOk, h]
theorem outQ_3 {x a b : ByteArray} (ha : a = (cutD 45 x).1) (hb : b = (cutD 45 x).2.1) (h : ¬ b.size = 12) : outQ x = noQ := by
  subst hb; simp [outQ, stampOk, h]
theorem outQ_4 {x a b : ByteArray} (ha : a = (cutD 45 x).1) (hb : b = (cutD 45 x).2.1) (h : hexL b.data.toList = false) : outQ x = noQ := by
  subst hb; simp [outQ, stampOk, h]
theorem outQ_5 {x a b : ByteArray} (ha : a = (cutD 45 x).1) (hb : b = (cutD 45 x).2.1) (h1 : a.size = 14) (h2 : digs a.data.toList = true) (h3 : b.size = 12) (h4 : hexL b.data.toList = true) : outQ x = .tuple #[.string a, .string b, .bool true] := by
  subst ha; subst hb; simp [outQ, stampOk, h1, h2, h3, h4]
theorem cut_small (x : ByteArray) : (cutD 45 x).1.size ≤ x.size ∧ (cutD 45 x).2.1.size ≤ x.size := by
  unfold cutD
  constructor
  · rw [← size_data, ← size_data, data_mkB]; exact headL_len _
  · rw [← size_data, ← size_data, data_mkB]; exact restL_len _
theorem parts_last (d : UInt8) (s : ByteArray) : (∃ x, partsD d s = [x]) ∨ ∃ zs y x, partsD d s = zs ++ [y, x] := by
  have hne : partsD d s ≠ [] := by simp [partsD, sp_ne]
  rcases List.eq_nil_or_concat (partsD d s) with h | ⟨ys, x, h⟩
  · exact absurd h hne
  · rcases List.eq_nil_or_concat ys with h' | ⟨zs, y, h'⟩
    · exact .inl ⟨x, by rw [h, h']; rfl⟩
    · exact .inr ⟨zs, y, x, by rw [h, h']; simp⟩

set_option maxRecDepth 100000 in
set_option maxHeartbeats 2000000 in
theorem pseudo_any (s : ByteArray) (hs : s.size ≤ 20400) (w : World) :
    Calls Tryd.prog 21 #[.string s] w fun e w' => e = .returned (retQ s.data.toList) ∧ Below w.heap.size w w' := by
  have hB := Below.refl w.heap.size w
  have hps := pre_size s
  go_enter Tryd.func21, Tryd.ntmps21
  go_wp2_with fail
  refine (parse_any s hs _).mono ?_
  rintro _ w1 ⟨rfl, hb1⟩
  replace hB := hB.trans (hb1.mono hB.size)
  clear hb1
  unfold retP verV
  have HQN := Lib.hid (fun h => retQ_no (l := s.data.toList) h)
  have HQY := Lib.hid (fun h => retQ_yes (l := s.data.toList) h)
  obtain ⟨v, hv⟩ : ∃ v, v = verL s.data.toList := ⟨_, rfl⟩
  rw [← hv] at hps HQY ⊢
  clear hv
  have hc := VerC.of w1 23 v
  replace hB := hB.alloc hB.size (.cells #[.int .i64 v.ma, .int .i64 v.mi, .int .i64 v.pa, .string v.pre, .string v.mta] 23)
  have q3 := hc.c3.cell
  clear hc
  cases e : okV s.data.toList
  · have H := Lib.hid (HQN.out e)
    rw [err_no e]
    clear e
    go_wp2
    go_ret3
    exact ⟨ret_val H.out.symm, hB⟩
  · have H := Lib.hid (HQY.out e)
    rw [err_yes e]
    clear e
    go_wp2_with fail
    refine (identifiers_any _ _).mono ?_
    rintro _ w2 ⟨rfl, rfl⟩
    generalize w1.alloc (.cells #[.int .i64 v.ma, .int .i64 v.mi, .int .i64 v.pa, .string v.pre, .string v.mta] 23) = w2 at *
    have c0 := newcell w2 v.pre
    have hB2 := hB.alloc hB.size (.cells #[.string v.pre] 9)
    go_wp2_with fail
    refine (collids_any v.pre (by omega) w2.heap.size _ (by simp) c0).mono ?_
    rintro _ w3 ⟨u, rfl, hrow, hb3⟩
    have hB3 := hB2.trans (hb3.mono hB2.size)
    clear hb3 c0 hB2 hB q3
    have hcount := partsD_count 46 v.pre
    have HS := Lib.hid (fun x (hx : x ∈ partsD 46 v.pre) => Nat.le_trans (partsD_size hx) (show v.pre.size ≤ 20400 by omega))
    rcases parts_last 46 v.pre with ⟨x, hx⟩ | ⟨zs, y, x, hx⟩
    · have zx := HS.out x (by rw [hx]; simp)
      replace H := Lib.hid (H.out.trans (by rw [hx]; rfl : _ = outQ x))
      rw [hx] at hrow hcount
      clear HS hx HQN HQY
      obtain ⟨a, cap, rfl, hc⟩ := hrow
      obtain ⟨g, rfl, hg, hcell⟩ := hc (by simp)
      have q := hcell 0 (by simp)
      simp only [List.getElem_cons_zero, List.length_singleton] at q ⊢
      clear hcell hc
      go_wp2_with fail
      refine (cutD_any 45 x _ zx).mono ?_
      rintro _ w4 ⟨rfl, n4, rfl⟩
      replace hB3 := below_drewN hB3 n4
      have hz := cut_small x
      obtain ⟨a, ha⟩ : ∃ a, a = (cutD 45 x).1 := ⟨_, rfl⟩
      obtain ⟨b, hb⟩ : ∃ a, a = (cutD 45 x).2.1 := ⟨_, rfl⟩
      generalize (cutD 45 x).2.2 = fl
      rw [← ha, ← hb] at hz ⊢
      have HA := Lib.hid ha
      have HBb := Lib.hid hb
      clear ha hb q
      generalize w3.drewN n4 = w4 at *
      by_cases k1 : a.size = 14
      · have c1 := newcell w4 ⟨#[48, 57]⟩
        have hB5 := hB3.alloc hB3.size (.cells #[.string ⟨#[48, 57]⟩] 9)
        go_wp2_with fail
        refine (within_any _ _).mono ?_
        rintro _ w5 ⟨rfl, rfl⟩
        go_wp2_with fail
        refine (alldig_any _ a (by omega) _ c1).mono ?_
        rintro _ w5 ⟨rfl, rfl⟩
        generalize w4.alloc (.cells #[.string ⟨#[48, 57]⟩] 9) = w5 at *
        cases k2 : digs a.data.toList
        · have H2 := Lib.hid (H.out.trans (outQ_2 HA.out HBb.out k2))
          clear k2
          go_wp2
          go_ret3
          exact ⟨ret_val H2.out.symm, hB5⟩
        · by_cases k3 : b.size = 12
          · have c2 := newcell w5 ⟨#[48, 57, 97, 102]⟩
            have hB6 := hB5.alloc hB5.size (.cells #[.string ⟨#[48, 57, 97, 102]⟩] 9)
            have HK2 := Lib.hid k2
            clear k2
            go_wp2_with fail
            refine (within_any _ _).mono ?_
            rintro _ w6 ⟨rfl, rfl⟩
            go_wp2_with fail
            refine (allhex_any _ b (by omega) _ c2).mono ?_
            rintro _ w6 ⟨rfl, rfl⟩
            cases k4 : hexL b.data.toList
            · have H2 := Lib.hid (H.out.trans (outQ_4 HA.out HBb.out k4))
              clear k4
              go_wp2
              go_ret3
              exact ⟨ret_val H2.out.symm, hB6⟩
            · have H2 := Lib.hid (H.out.trans (outQ_5 HA.out HBb.out k1 HK2.out k3 k4))
              clear k4
              go_wp2
              go_ret3
              exact ⟨ret_val H2.out.symm, hB6⟩
          · have H2 := Lib.hid (H.out.trans (outQ_3 HA.out HBb.out k3))
            clear k2
            go_wp2
            go_ret3
            exact ⟨ret_val H2.out.symm, hB5⟩
      · have H2 := Lib.hid (H.out.trans (outQ_1 HA.out HBb.out k1))
        go_wp2
        go_ret3
        exact ⟨ret_val H2.out.symm, hB3⟩
    · have zx := HS.out x (by rw [hx]; simp)
      have zy := HS.out y (by rw [hx]; simp)
      have H' := Lib.hid (H.out.trans (by rw [hx]; simp [pseudoR] : _ = if y.data.toList = [48] then outQ x else noQ))
      rw [hx] at hrow hcount
      clear HS hx HQN HQY H
      obtain ⟨a, cap, rfl, hc⟩ := hrow
      obtain ⟨g, rfl, hg, hcell⟩ := hc (by simp)
      have q := hcell (zs.length + 1) (by simp)
      have q' := hcell zs.length (by simp)
      have e1 : (zs ++ [y, x])[zs.length + 1]'(by simp) = x := by simp
      have e2 : (zs ++ [y, x])[zs.length]'(by simp) = y := by simp
      rw [e1] at q
      rw [e2] at q'
      have hl : (zs ++ [y, x]).length = zs.length + 2 := by simp
      rw [hl] at hcount ⊢
      clear hcell hc e1 e2 hl
      generalize zs.length = k at *
      cases ey : (y.toList == [48])
      · have H2 := Lib.hid (H'.out.trans (if_neg (fun e => by rw [← Lib.toList_data] at e; rw [e] at ey; exact absurd ey (by decide))))
        go_wp2
        go_ret3
        exact ⟨ret_val H2.out.symm, hB3⟩
      · have H := Lib.hid (H'.out.trans (if_pos (by rw [← Lib.toList_data]; exact eq_of_beq ey)))
        clear H'
        go_wp2_with fail
        refine (cutD_any 45 x _ zx).mono ?_
        rintro _ w4 ⟨rfl, n4, rfl⟩
        replace hB3 := below_drewN hB3 n4
        have hz := cut_small x
        obtain ⟨a, ha⟩ : ∃ a, a = (cutD 45 x).1 := ⟨_, rfl⟩
        obtain ⟨b, hb⟩ : ∃ a, a = (cutD 45 x).2.1 := ⟨_, rfl⟩
        generalize (cutD 45 x).2.2 = fl
        rw [← ha, ← hb] at hz ⊢
        have HA := Lib.hid ha
        have HBb := Lib.hid hb
        clear ha hb q
        generalize w3.drewN n4 = w4 at *
        by_cases k1 : a.size = 14
        · have c1 := newcell w4 ⟨#[48, 57]⟩
          have hB5 := hB3.alloc hB3.size (.cells #[.string ⟨#[48, 57]⟩] 9)
          go_wp2_with fail
          refine (within_any _ _).mono ?_
          rintro _ w5 ⟨rfl, rfl⟩
          go_wp2_with fail
          refine (alldig_any _ a (by omega) _ c1).mono ?_
          rintro _ w5 ⟨rfl, rfl⟩
          generalize w4.alloc (.cells #[.string ⟨#[48, 57]⟩] 9) = w5 at *
          cases k2 : digs a.data.toList
          · have H2 := Lib.hid (H.out.trans (outQ_2 HA.out HBb.out k2))
            clear k2
            go_wp2
            go_ret3
            exact ⟨ret_val H2.out.symm, hB5⟩
          · by_cases k3 : b.size = 12
            · have c2 := newcell w5 ⟨#[48, 57, 97, 102]⟩
              have hB6 := hB5.alloc hB5.size (.cells #[.string ⟨#[48, 57, 97, 102]⟩] 9)
              have HK2 := Lib.hid k2
              clear k2
              go_wp2_with fail
              refine (within_any _ _).mono ?_
              rintro _ w6 ⟨rfl, rfl⟩
              go_wp2_with fail
              refine (allhex_any _ b (by omega) _ c2).mono ?_
              rintro _ w6 ⟨rfl, rfl⟩
              cases k4 : hexL b.data.toList
              · have H2 := Lib.hid (H.out.trans (outQ_4 HA.out HBb.out k4))
                clear k4
                go_wp2
                go_ret3
                exact ⟨ret_val H2.out.symm, hB6⟩
              · have H2 := Lib.hid (H.out.trans (outQ_5 HA.out HBb.out k1 HK2.out k3 k4))
                clear k4
                go_wp2
                go_ret3
                exact ⟨ret_val H2.out.symm, hB6⟩
            · have H2 := Lib.hid (H.out.trans (outQ_3 HA.out HBb.out k3))
              clear k2
              go_wp2
              go_ret3
              exact ⟨ret_val H2.out.symm, hB5⟩
        · have H2 := Lib.hid (H.out.trans (outQ_1 HA.out HBb.out k1))
          go_wp2
          go_ret3
          exact ⟨ret_val H2.out.symm, hB3⟩
end Go.Proofs.YtoljpmelfebjoaaDoor
