/-
  The document's own word on why.
-/
import Derived.Test.YtmdlmjcejeejfaaGreatDoorC8
namespace Go.Proofs.YtmdlmjcejeejfaaGreatDoor
open Go.RowKit Go.Shelf

def okAt (l : List UInt8) (j : Nat) (c : UInt8) : Bool := !(c == 10) && !(blankB c && (decide (j = 0) || decide (j + 1 = l.length)))
theorem any_head {l : List UInt8} {p : UInt8 → Bool} (h : l.head?.any p = true) : ∃ hj : 0 < l.length, p l[0] = true := by
  cases l with
  | nil => simp at h
  | cons x r => exact ⟨by simp, by simpa using h⟩
theorem any_last {l : List UInt8} {p : UInt8 → Bool} (h : l.getLast?.any p = true) : ∃ hj : l.length - 1 < l.length, p l[l.length - 1] = true := by
  by_cases e : l = []
  · subst e; simp at h
  · have hp := List.length_pos_iff.2 e
    refine ⟨by omega, ?_⟩
    rw [List.getLast?_eq_some_getLast e, Option.any_some, List.getLast_eq_getElem] at h
    exact h
theorem why_all {l : List UInt8} (h : ∀ j (hj : j < l.length), okAt l j l[j] = true) : whyB l = true := by
  rw [whyB, Bool.and_eq_true, Bool.and_eq_true, Bool.not_eq_true', Bool.not_eq_true', Bool.not_eq_true']
  refine ⟨⟨?_, ?_⟩, ?_⟩
  · cases e : l.contains 10
    · rfl
    · obtain ⟨j, hj, e⟩ := List.getElem_of_mem (List.contains_iff_mem.1 e)
      have := h j hj
      simp [okAt, e] at this
  · cases e : l.head?.any blankB
    · rfl
    · obtain ⟨hj, e⟩ := any_head e
      have := h 0 hj
      simp [okAt, e] at this
  · cases e : l.getLast?.any blankB
    · rfl
    · obtain ⟨hj, e⟩ := any_last e
      have := h _ hj
      simp only [okAt, e, show l.length - 1 + 1 = l.length by omega] at this
      simp at this
theorem why_not {l : List UInt8} {j : Nat} (hj : j < l.length) (h : okAt l j l[j] = false) : whyB l = false := by
  cases e : whyB l
  · rfl
  · rw [whyB, Bool.and_eq_true, Bool.and_eq_true, Bool.not_eq_true', Bool.not_eq_true', Bool.not_eq_true'] at e
    obtain ⟨⟨h1, h2⟩, h3⟩ := e
    have g1 : (l[j] == 10) = false := by
      rw [beq_eq_false_iff_ne]
      intro e
      have := List.contains_iff_mem.2 (e ▸ List.getElem_mem hj : (10 : UInt8) ∈ l)
      rw [this] at h1; cases h1
    rw [okAt, g1] at h
    have g2 : blankB l[j] = true ∧ (j = 0 ∨ j + 1 = l.length) := by
      simp at h
      refine ⟨h.1, ?_⟩
      by_cases e : j = 0
      · exact .inl e
      · exact .inr (h.2 e)
    obtain ⟨g2, g3 | g3⟩ := g2
    · subst g3
      cases l with
      | nil => simp at hj
      | cons x r => simp at h2 g2; rw [g2] at h2; cases h2
    · have hne : l ≠ [] := by rintro rfl; simp at hj
      rw [List.getLast?_eq_some_getLast hne, Option.any_some, List.getLast_eq_getElem] at h3
      have : l[l.length - 1]'(by omega) = l[j] := by congr 1; omega
      rw [this, g2] at h3; cases h3
def WhyTo (l : List UInt8) (k : Nat) : Prop := ∀ j (hj : j < l.length), j < k → okAt l j l[j] = true
theorem WhyTo.on {l : List UInt8} {k : Nat} (h : WhyTo l k) (hk : k < l.length) (e : okAt l k l[k] = true) : WhyTo l (k + 1) := fun j hj hjk => by
  by_cases ej : j = k
  · subst ej; exact e
  · exact h j hj (by omega)
theorem byte_ne {c : UInt8} {n : Nat} (hn : n < 256) (h : ((c.toNat : Int) == (n : Int)) = false) : (c == UInt8.ofNat n) = false := by
  rw [beq_eq_false_iff_ne] at h ⊢
  intro e
  apply h
  rw [e]
  simp; omega
theorem byte_eq {c : UInt8} {n : Nat} (hn : n < 256) (h : ((c.toNat : Int) == (n : Int)) = true) : c = UInt8.ofNat n := by
  have := eq_of_beq h
  apply UInt8.toNat_inj.1
  simp; omega

set_option maxRecDepth 100000 in
set_option maxHeartbeats 4000000 in
theorem rwhy_any (s : ByteArray) (hs : s.size ≤ 20400) (w : World) :
    Calls Tryz.prog 82 #[.string s] w fun e w' => e = .returned (.bool (whyB s.data.toList)) ∧ w = w' := by
  have hl : s.data.toList.length = s.size := by simp
  go_enter Tryz.func82, Tryz.ntmps82
  go_wp2
  go_loop [3] (fun i => ∃ k : Nat, k ≤ s.size ∧ i = .int .i64 k ∧ WhyTo s.data.toList k) (fun i => s.size - (intOf i).toNat)
  case atStart => exact ⟨0, Nat.zero_le _, rfl, fun j _ h => absurd h (Nat.not_lt_zero _)⟩
  case round =>
    obtain ⟨k, hk, rfl, ht⟩ := hrel
    have HT := Lib.hid ht
    clear ht
    by_cases hlt : k < s.size
    · have hlt' : k < s.data.toList.length := by rw [hl]; exact hlt
      have HS := Lib.hid (show okAt s.data.toList k (s[k]'hlt) = false → whyB s.data.toList = false from fun e => why_not hlt' e)
      have HO := Lib.hid (show okAt s.data.toList k (s[k]'hlt) = true → WhyTo s.data.toList (k + 1) from fun e => HT.out.on hlt' e)
      clear hlt'
      have HL := Lib.hid hl
      clear hl
      generalize hc : s[k]'hlt = c at *
      have stop : ∀ b1 : okAt s.data.toList k c = false, whyB s.data.toList = false := fun b1 => HS.out b1
      cases e10 : ((c.toNat : Int) == 10)
      · have n10 := byte_ne (n := 10) (by decide) e10
        by_cases hbl : blankB c = true
        · have hc3 : ((c.toNat : Int) == 32) = true ∨ ((c.toNat : Int) == 32) = false ∧ ((c.toNat : Int) == 9) = true ∨ ((c.toNat : Int) == 32) = false ∧ ((c.toNat : Int) == 9) = false ∧ ((c.toNat : Int) == 13) = true := by
            simp only [blankB, Bool.or_eq_true, beq_iff_eq] at hbl
            rcases hbl with (rfl | rfl) | rfl
            · left; rfl
            · right; left; exact ⟨rfl, rfl⟩
            · right; right; exact ⟨rfl, rfl, rfl⟩
          by_cases h0 : k = 0
          · have HE := Lib.hid (stop (by subst h0; simp [okAt, hbl]))
            clear hbl n10 stop HS HO
            subst h0
            rcases hc3 with h1 | ⟨h1, h2⟩ | ⟨h1, h2, h3⟩
            all_goals
              go_wp2
              go_ret
              exact ⟨ret_bool HE.out.symm, rfl⟩
          · have h0' : ((k : Int) == 0) = false := by simp; omega
            by_cases h9 : k + 1 = s.size
            · have HE := Lib.hid (stop (by simp [okAt, hbl, h9]))
              have h9' : ((k : Int) == (s.size : Int) - 1) = true := by simp; omega
              clear hbl n10 stop HS HO
              rcases hc3 with h1 | ⟨h1, h2⟩ | ⟨h1, h2, h3⟩
              all_goals
                clear h0 h9
                go_wp2
                go_ret
                exact ⟨ret_bool HE.out.symm, rfl⟩
            · have HE := Lib.hid (HO.out (by simp [okAt, hbl, h0]; exact ⟨by simpa using n10, by rw [← ByteArray.size_data] at h9; simpa using h9⟩))
              have h9' : ((k : Int) == (s.size : Int) - 1) = false := by simp; omega
              clear hbl n10 stop HS HO
              rcases hc3 with h1 | ⟨h1, h2⟩ | ⟨h1, h2, h3⟩
              all_goals
                clear h0 h9
                go_wp2
                go_round
                case rel => exact ⟨k + 1, by omega, by go_num, HE.out⟩
                case measure => simp [intOf]; omega
        · have HE := Lib.hid (HO.out (by simp [okAt, hbl]; simpa using n10))
          have hb2 : ((c.toNat : Int) == 32) = false ∧ ((c.toNat : Int) == 9) = false ∧ ((c.toNat : Int) == 13) = false := by
            refine ⟨?_, ?_, ?_⟩
            · cases h : ((c.toNat : Int) == 32)
              · rfl
              · exact absurd (by rw [byte_eq (n := 32) (by decide) h]; decide) hbl
            · cases h : ((c.toNat : Int) == 9)
              · rfl
              · exact absurd (by rw [byte_eq (n := 9) (by decide) h]; decide) hbl
            · cases h : ((c.toNat : Int) == 13)
              · rfl
              · exact absurd (by rw [byte_eq (n := 13) (by decide) h]; decide) hbl
          obtain ⟨h1, h2, h3⟩ := hb2
          clear hbl n10 stop HS HO
          go_wp2
          go_round
          case rel => exact ⟨k + 1, by omega, by go_num, HE.out⟩
          case measure => simp [intOf]; omega
      · have HE := Lib.hid (stop (by rw [byte_eq (n := 10) (by decide) e10]; simp [okAt]))
        have h1 : ((c.toNat : Int) == 32) = false := by rw [byte_eq (n := 10) (by decide) e10]; rfl
        have h2 : ((c.toNat : Int) == 9) = false := by rw [byte_eq (n := 10) (by decide) e10]; rfl
        have h3 : ((c.toNat : Int) == 13) = false := by rw [byte_eq (n := 10) (by decide) e10]; rfl
        clear stop HS HO
        go_wp2
        go_ret
        exact ⟨ret_bool HE.out.symm, rfl⟩
    · have HE := Lib.hid (why_all fun j hj => HT.out j hj (by rw [hl] at hj; omega))
      go_wp2
      go_ret
      exact ⟨ret_bool HE.out.symm, rfl⟩
end Go.Proofs.YtmdlmjcejeejfaaGreatDoor

/-
  The document's own word on what is said twice.
-/
namespace Go.Proofs.YtmdlmjcejeejfaaGreatDoor
open Go.RowKit Go.Shelf

theorem NoneTo.hits {α : Type} {p : α → Bool} {xs : List α} {k : Nat} (h : NoneTo p xs k) (hk : k < xs.length) (e : p xs[k] = true) : xs.any p = true := by
  rw [← idxL_any, h.hit hk e]; simp
theorem NoneTo.nones {α : Type} {p : α → Bool} {xs : List α} {k : Nat} (h : NoneTo p xs k) (hk : xs.length ≤ k) : xs.any p = false := by
  rw [← idxL_any, h.done hk]; rfl
def againG (reqs : List ReqB) (reps : List RepB) (excs : List ModB) (q : ByteArray) (old m : ModB) : Bool := reqs.any (fun a => sameP a q) || reps.any (fun a => sameM a.1 old) || excs.any (fun a => sameM a m)
theorem again_1 {reqs : List ReqB} {reps : List RepB} {excs : List ModB} {q : ByteArray} {old m : ModB} (h : reqs.any (fun a => sameP a q) = true) : againG reqs reps excs q old m = true := by rw [againG, h]; rfl
theorem again_2 {reqs : List ReqB} {reps : List RepB} {excs : List ModB} {q : ByteArray} {old m : ModB} (h : reps.any (fun a => sameM a.1 old) = true) : againG reqs reps excs q old m = true := by rw [againG, h, Bool.or_true]; rfl
theorem again_3 {reqs : List ReqB} {reps : List RepB} {excs : List ModB} {q : ByteArray} {old m : ModB} (h : excs.any (fun a => sameM a m) = true) : againG reqs reps excs q old m = true := by rw [againG, h, Bool.or_true]
theorem again_4 {reqs : List ReqB} {reps : List RepB} {excs : List ModB} {q : ByteArray} {old m : ModB} (h : reqs.any (fun a => sameP a q) = false) (h2 : reps.any (fun a => sameM a.1 old) = false) (h3 : excs.any (fun a => sameM a m) = false) : againG reqs reps excs q old m = false := by rw [againG, h, h2, h3]; rfl

theorem cell_keep {w : World} {b i : Nat} {v : Option Value} (o : Obj) (hb : b < w.heap.size) (h : w.cell? ⟨b, i, none⟩ = v) : (w.alloc o).cell? ⟨b, i, none⟩ = v :=
  (((Below.refl w.heap.size w).alloc (Nat.le_refl _) o).cell (p := ⟨b, i, none⟩) hb).trans h
theorem four_boxes (w : World) (A B C D : Array Value) (ta tb tc td : TypeId) (i : Nat) :
    ((((w.alloc (.cells A ta)).alloc (.cells B tb)).alloc (.cells C tc)).alloc (.cells D td)).cell? ⟨w.heap.size, i, none⟩ = A[i]? ∧ ((((w.alloc (.cells A ta)).alloc (.cells B tb)).alloc (.cells C tc)).alloc (.cells D td)).cell? ⟨w.heap.size + 1, i, none⟩ = B[i]? ∧
    ((((w.alloc (.cells A ta)).alloc (.cells B tb)).alloc (.cells C tc)).alloc (.cells D td)).cell? ⟨w.heap.size + 1 + 1, i, none⟩ = C[i]? ∧ ((((w.alloc (.cells A ta)).alloc (.cells B tb)).alloc (.cells C tc)).alloc (.cells D td)).cell? ⟨w.heap.size + 1 + 1 + 1, i, none⟩ = D[i]? := by
  refine ⟨?_, ?_, ?_, ?_⟩
  · exact cell_keep _ (by simp <;> omega) (cell_keep _ (by simp <;> omega) (cell_keep _ (by simp) (cell_newR _ _ _ _)))
  · have := cell_newR (w.alloc (.cells A ta)) B tb i
    rw [World.size_alloc] at this
    exact cell_keep _ (by simp <;> omega) (cell_keep _ (by simp) this)
  · have := cell_newR ((w.alloc (.cells A ta)).alloc (.cells B tb)) C tc i
    rw [World.size_alloc, World.size_alloc] at this
    exact cell_keep _ (by simp) this
  · have := cell_newR (((w.alloc (.cells A ta)).alloc (.cells B tb)).alloc (.cells C tc)) D td i
    rw [World.size_alloc, World.size_alloc, World.size_alloc] at this
    exact this

set_option maxRecDepth 100000 in
set_option maxHeartbeats 4000000 in
theorem again_any (mo go : ByteArray) (reqs : List ReqB) (reps : List RepB) (excs : List ModB) (n1 : reqs.length ≤ 1000) (n2 : reps.length ≤ 1000) (n3 : excs.length ≤ 1000) (a b c d : Value) (r1 r2 r3 r4 x1 x2 : ByteArray) (x3 : Bool) (m1 m2 : ByteArray) (w : World)
    (hr : RRow reqR w a reqs) (hp : RRow repR w b reps) (hx : RRow modR w c excs) :
    Calls Tryz.prog 79 #[.agg #[.string mo, .string go, a, b, c, d], .agg #[.string r1, .string r2, .string r3, .string r4], .agg #[.string x1, .string x2, .bool x3], .agg #[.string m1, .string m2]] w fun e w' => e = .returned (.bool (againG reqs reps excs x1 (r1, r2) (m1, m2))) ∧ Below w.heap.size w w' := by
  obtain ⟨ra, rc, rfl⟩ := hr.form
  obtain ⟨pa, pc, rfl⟩ := hp.form
  obtain ⟨xa, xc, rfl⟩ := hx.form
  have hb0 := (Below.refl w.heap.size w).alloc (Nat.le_refl _) (.cells #[.string mo, .string go, .slice ra reqs.length rc, .slice pa reps.length pc, .slice xa excs.length xc, d] 35)
  have hb1 := hb0.alloc hb0.size (.cells #[.string r1, .string r2, .string r3, .string r4] 62)
  have hb2 := hb1.alloc hb1.size (.cells #[.string x1, .string x2, .bool x3] 61)
  have hb3 := hb2.alloc hb2.size (.cells #[.string m1, .string m2] 41)
  have HR := Lib.hid (hr.below hb3)
  have HP := Lib.hid (hp.below hb3)
  have HX := Lib.hid (hx.below hb3)
  clear hr hp hx
  have f2 := (four_boxes w #[.string mo, .string go, .slice ra reqs.length rc, .slice pa reps.length pc, .slice xa excs.length xc, d] #[.string r1, .string r2, .string r3, .string r4] #[.string x1, .string x2, .bool x3] #[.string m1, .string m2] 35 62 61 41 2).1
  have f3 := (four_boxes w #[.string mo, .string go, .slice ra reqs.length rc, .slice pa reps.length pc, .slice xa excs.length xc, d] #[.string r1, .string r2, .string r3, .string r4] #[.string x1, .string x2, .bool x3] #[.string m1, .string m2] 35 62 61 41 3).1
  have f4 := (four_boxes w #[.string mo, .string go, .slice ra reqs.length rc, .slice pa reps.length pc, .slice xa excs.length xc, d] #[.string r1, .string r2, .string r3, .string r4] #[.string x1, .string x2, .bool x3] #[.string m1, .string m2] 35 62 61 41 4).1
  have g0 := (four_boxes w #[.string mo, .string go, .slice ra reqs.length rc, .slice pa reps.length pc, .slice xa excs.length xc, d] #[.string r1, .string r2, .string r3, .string r4] #[.string x1, .string x2, .bool x3] #[.string m1, .string m2] 35 62 61 41 0).2.1
  have g1 := (four_boxes w #[.string mo, .string go, .slice ra reqs.length rc, .slice pa reps.length pc, .slice xa excs.length xc, d] #[.string r1, .string r2, .string r3, .string r4] #[.string x1, .string x2, .bool x3] #[.string m1, .string m2] 35 62 61 41 1).2.1
  have h0 := (four_boxes w #[.string mo, .string go, .slice ra reqs.length rc, .slice pa reps.length pc, .slice xa excs.length xc, d] #[.string r1, .string r2, .string r3, .string r4] #[.string x1, .string x2, .bool x3] #[.string m1, .string m2] 35 62 61 41 0).2.2.1
  have k0 := (four_boxes w #[.string mo, .string go, .slice ra reqs.length rc, .slice pa reps.length pc, .slice xa excs.length xc, d] #[.string r1, .string r2, .string r3, .string r4] #[.string x1, .string x2, .bool x3] #[.string m1, .string m2] 35 62 61 41 0).2.2.2
  have k1 := (four_boxes w #[.string mo, .string go, .slice ra reqs.length rc, .slice pa reps.length pc, .slice xa excs.length xc, d] #[.string r1, .string r2, .string r3, .string r4] #[.string x1, .string x2, .bool x3] #[.string m1, .string m2] 35 62 61 41 1).2.2.2
  have hz : w.heap.size + 1 + 1 + 1 < ((((w.alloc (.cells #[.string mo, .string go, .slice ra reqs.length rc, .slice pa reps.length pc, .slice xa excs.length xc, d] 35)).alloc (.cells #[.string r1, .string r2, .string r3, .string r4] 62)).alloc (.cells #[.string x1, .string x2, .bool x3] 61)).alloc (.cells #[.string m1, .string m2] 41)).heap.size := by simp
  go_enter Tryz.func79, Tryz.ntmps79
  go_wp2
  generalize ((((w.alloc (.cells #[.string mo, .string go, .slice ra reqs.length rc, .slice pa reps.length pc, .slice xa excs.length xc, d] 35)).alloc (.cells #[.string r1, .string r2, .string r3, .string r4] 62)).alloc (.cells #[.string x1, .string x2, .bool x3] 61)).alloc (.cells #[.string m1, .string m2] 41)) = W at *
  replace f2 : W.cell? ⟨w.heap.size, 2, none⟩ = some (.slice ra reqs.length rc) := f2
  replace f3 : W.cell? ⟨w.heap.size, 3, none⟩ = some (.slice pa reps.length pc) := f3
  replace f4 : W.cell? ⟨w.heap.size, 4, none⟩ = some (.slice xa excs.length xc) := f4
  replace g0 : W.cell? ⟨w.heap.size + 1, 0, none⟩ = some (.string r1) := g0
  replace g1 : W.cell? ⟨w.heap.size + 1, 1, none⟩ = some (.string r2) := g1
  replace h0 : W.cell? ⟨w.heap.size + 1 + 1, 0, none⟩ = some (.string x1) := h0
  replace k0 : W.cell? ⟨w.heap.size + 1 + 1 + 1, 0, none⟩ = some (.string m1) := k0
  replace k1 : W.cell? ⟨w.heap.size + 1 + 1 + 1, 1, none⟩ = some (.string m2) := k1
  have y0 : w.heap.size < W.heap.size := by omega
  have y1 : w.heap.size + 1 < W.heap.size := by omega
  have y2 : w.heap.size + 1 + 1 < W.heap.size := by omega
  replace f2 := Lib.hid f2
  replace f3 := Lib.hid f3
  replace f4 := Lib.hid f4
  replace g0 := Lib.hid g0
  replace g1 := Lib.hid g1
  replace h0 := Lib.hid h0
  replace k0 := Lib.hid k0
  replace k1 := Lib.hid k1
  clear hb0 hb1 hb2
  go_loopw [9] (fun i wr => ∃ k : Nat, k ≤ reqs.length ∧ i = .int .i64 k ∧ NoneTo (fun a => sameP a x1) reqs k ∧ Below W.heap.size W wr) (fun i _ => reqs.length - (intOf i).toNat)
  case atStart => exact ⟨0, Nat.zero_le _, rfl, NoneTo.start _ _, Below.refl _ _⟩
  case round =>
    obtain ⟨k, hk, rfl, hn, hBw⟩ := hrel
    have HN := Lib.hid hn
    clear hn
    have u0 := (hBw.cell (p := ⟨w.heap.size, 2, none⟩) y0).trans f2.out
    have u1 := (hBw.cell (p := ⟨w.heap.size + 1 + 1, 0, none⟩) y2).trans h0.out
    by_cases hlt : k < reqs.length
    · obtain ⟨-, hcap, hsp⟩ := (HR.out.below hBw).spot
      obtain ⟨g, o, rfl, hg, hat⟩ := hsp (ne_of_lt hlt)
      obtain ⟨q1, q2, q3⟩ := req_at hat k hlt
      have HH := Lib.hid (fun e => again_1 (reps := reps) (excs := excs) (old := (r1, r2)) (m := (m1, m2)) (HN.out.hits hlt e))
      have HO := Lib.hid (fun e => HN.out.on hlt e)
      clear hat hsp
      unfold sameP at HH HO
      generalize reqs[k] = x at *
      obtain ⟨⟨p, v⟩, bb⟩ := x
      dsimp only at q1 q2 q3 HH HO
      cases e : (p.toList == x1.toList)
      · have HE := Lib.hid (HO.out e)
        go_wp2
        go_quiet (fail)
        go_wp2
        go_roundw
        case rel => exact ⟨k + 1, by omega, by go_num, HE.out, below_drewN hBw _⟩
        case measure => simp [intOf]; omega
      · have HE := Lib.hid (HH.out e)
        go_wp2
        go_quiet (fail)
        go_wp2
        go_ret
        exact ⟨ret_bool HE.out.symm, below_drewN (hb3.trans (hBw.mono hb3.size)) _⟩
    · have A1 := Lib.hid (HN.out.nones (by omega))
      go_wp2
      clear u0 u1
      obtain ⟨v0, hv0⟩ : ∃ v, v = wr := ⟨_, rfl⟩
      subst hv0
      go_loopw [10] (fun i wr => ∃ k : Nat, k ≤ reps.length ∧ i = .int .i64 k ∧ NoneTo (fun a => sameM a.1 (r1, r2)) reps k ∧ Below W.heap.size W wr) (fun i _ => reps.length - (intOf i).toNat)
      case atStart => exact ⟨0, Nat.zero_le _, rfl, NoneTo.start _ _, hBw⟩
      case round =>
        clear hBw
        obtain ⟨k, hk, rfl, hn, hBw⟩ := hrel
        have HN := Lib.hid hn
        clear hn
        have u0 := (hBw.cell (p := ⟨w.heap.size, 3, none⟩) y0).trans f3.out
        have u1 := (hBw.cell (p := ⟨w.heap.size + 1, 0, none⟩) y1).trans g0.out
        have u2 := (hBw.cell (p := ⟨w.heap.size + 1, 1, none⟩) y1).trans g1.out
        by_cases hlt : k < reps.length
        · obtain ⟨-, hcap, hsp⟩ := (HP.out.below hBw).spot
          obtain ⟨g, o, rfl, hg, hat⟩ := hsp (ne_of_lt hlt)
          obtain ⟨q1, q2, q3, q4⟩ := rep_at hat k hlt
          have HH := Lib.hid (fun e => again_2 (reqs := reqs) (excs := excs) (q := x1) (m := (m1, m2)) (HN.out.hits hlt e))
          have HO := Lib.hid (fun e => HN.out.on hlt e)
          clear hat hsp
          generalize reps[k] = x at *
          obtain ⟨⟨p, v⟩, p2, v2⟩ := x
          dsimp only at q1 q2 q3 q4 HH HO
          cases e : (p.toList == r1.toList)
          · have HE := Lib.hid (HO.out (sameM_f e))
            go_wp2
            go_quiet (fail)
            go_wp2
            go_roundw
            case rel => exact ⟨k + 1, by omega, by go_num, HE.out, below_drewN hBw _⟩
            case measure => simp [intOf]; omega
          · cases e2 : (v.toList == r2.toList)
            · have HE := Lib.hid (HO.out (sameM_tf e e2))
              go_wp2
              go_quiet (fail)
              go_wp2
              go_roundw
              case rel => exact ⟨k + 1, by omega, by go_num, HE.out, below_drewN hBw _⟩
              case measure => simp [intOf]; omega
            · have HE := Lib.hid (HH.out (sameM_tt e e2))
              go_wp2
              go_quiet (fail)
              go_wp2
              go_ret
              exact ⟨ret_bool HE.out.symm, below_drewN (hb3.trans (hBw.mono hb3.size)) _⟩
        · have A2 := Lib.hid (HN.out.nones (by omega))
          go_wp2
          clear u0 u1 u2
          obtain ⟨v1, hv1⟩ : ∃ v, v = wr := ⟨_, rfl⟩
          subst hv1
          go_loopw [11] (fun i wr => ∃ k : Nat, k ≤ excs.length ∧ i = .int .i64 k ∧ NoneTo (fun a => sameM a (m1, m2)) excs k ∧ Below W.heap.size W wr) (fun i _ => excs.length - (intOf i).toNat)
          case atStart => exact ⟨0, Nat.zero_le _, rfl, NoneTo.start _ _, hBw⟩
          case round =>
            clear hBw
            obtain ⟨k, hk, rfl, hn, hBw⟩ := hrel
            have HN := Lib.hid hn
            clear hn
            have u0 := (hBw.cell (p := ⟨w.heap.size, 4, none⟩) y0).trans f4.out
            have u1 := (hBw.cell (p := ⟨w.heap.size + 1 + 1 + 1, 0, none⟩) hz).trans k0.out
            have u2 := (hBw.cell (p := ⟨w.heap.size + 1 + 1 + 1, 1, none⟩) hz).trans k1.out
            by_cases hlt : k < excs.length
            · obtain ⟨-, hcap, hsp⟩ := (HX.out.below hBw).spot
              obtain ⟨g, o, rfl, hg, hat⟩ := hsp (ne_of_lt hlt)
              obtain ⟨q1, q2⟩ := mod_at hat k hlt
              have HH := Lib.hid (fun e => again_3 (reqs := reqs) (reps := reps) (q := x1) (old := (r1, r2)) (HN.out.hits hlt e))
              have HO := Lib.hid (fun e => HN.out.on hlt e)
              clear hat hsp
              generalize excs[k] = x at *
              obtain ⟨p, v⟩ := x
              dsimp only at q1 q2 HH HO
              cases e : (p.toList == m1.toList)
              · have HE := Lib.hid (HO.out (sameM_f e))
                go_wp2
                go_quiet (fail)
                go_wp2
                go_roundw
                case rel => exact ⟨k + 1, by omega, by go_num, HE.out, below_drewN hBw _⟩
                case measure => simp [intOf]; omega
              · cases e2 : (v.toList == m2.toList)
                · have HE := Lib.hid (HO.out (sameM_tf e e2))
                  go_wp2
                  go_quiet (fail)
                  go_wp2
                  go_roundw
                  case rel => exact ⟨k + 1, by omega, by go_num, HE.out, below_drewN hBw _⟩
                  case measure => simp [intOf]; omega
                · have HE := Lib.hid (HH.out (sameM_tt e e2))
                  go_wp2
                  go_quiet (fail)
                  go_wp2
                  go_ret
                  exact ⟨ret_bool HE.out.symm, below_drewN (hb3.trans (hBw.mono hb3.size)) _⟩
            · have A3 := Lib.hid (HN.out.nones (by omega))
              have HE := Lib.hid (again_4 A1.out A2.out A3.out)
              go_wp2
              go_ret
              exact ⟨ret_bool HE.out.symm, hb3.trans (hBw.mono hb3.size)⟩
end Go.Proofs.YtmdlmjcejeejfaaGreatDoor

/-
  A struct variable in memory beside lists that grow, of whatever program.
-/
namespace Go.Proofs.YtmdlmjcejeejfaaGreatDoor
open Go.RowKit Go.Shelf

/-- A block that holds just these cells. -/
def GBlk (w : World) (B : Nat) (t : TypeId) (cs : Array Value) : Prop := w.heap[B]? = some (.cells cs t (0, 0))
theorem GBlk.lt {w : World} {B : Nat} {t : TypeId} {cs : Array Value} (h : GBlk w B t cs) : B < w.heap.size := (Array.getElem?_eq_some_iff.1 h).1
theorem GBlk.new (w : World) (t : TypeId) (cs : Array Value) : GBlk (w.alloc (.cells cs t)) w.heap.size t cs := World.alloc_heap_new w _
theorem GBlk.below {w w' : World} {B : Nat} {t : TypeId} {cs : Array Value} (h : GBlk w B t cs) (hb : Below w.heap.size w w') : GBlk w' B t cs := (hb.block B h.lt).trans h
theorem GBlk.alloc {w : World} {B : Nat} {t : TypeId} {cs : Array Value} (h : GBlk w B t cs) (o : Obj) : GBlk (w.alloc o) B t cs := h.below ((Below.refl _ _).alloc (Nat.le_refl _) _)
theorem GBlk.drew {w : World} {B : Nat} {t : TypeId} {cs : Array Value} (h : GBlk w B t cs) : GBlk w.drew B t cs := h
theorem GBlk.drewN {w : World} {B : Nat} {t : TypeId} {cs : Array Value} (h : GBlk w B t cs) (n : Nat) : GBlk (w.drewN n) B t cs := h
theorem GBlk.cell {w : World} {B : Nat} {t : TypeId} {cs : Array Value} (h : GBlk w B t cs) (i : Nat) : w.cell? ⟨B, i, none⟩ = cs[i]? := by
  unfold GBlk at h
  simp [World.cell?, h]
theorem GBlk.frozen {w : World} {B : Nat} {t : TypeId} {cs : Array Value} (h : GBlk w B t cs) (i : Nat) : w.frozen? ⟨B, i, none⟩ = false := by
  unfold GBlk at h
  simp [World.frozen?, h]
theorem GBlk.set {w : World} {B : Nat} {t : TypeId} {cs : Array Value} (h : GBlk w B t cs) (i : Nat) (u : Value) : GBlk (w.setCell ⟨B, i, none⟩ u) B t (cs.setIfInBounds i u) := by
  unfold GBlk at h ⊢
  simp [World.setCell, Array.getElem?_modify, h]

variable {α β : Type} {R : Rec α} {Q : Rec β} {et et' : TypeId}
theorem GBlk.ne {w : World} {B base : Nat} {t : TypeId} {cs : Array Value} {u : Value} {xs : List α} (h : GBlk w B t cs) (ho : ROwn R et w base u xs) (hne : t ≠ et) : u.ownBlock ≠ some B := by
  intro e
  obtain ⟨_, ⟨rfl, _⟩ | ⟨g, cap, cur, rfl, _, hh, _⟩⟩ := ho
  · cases e
  · simp only [Value.ownBlock, Option.some.injEq] at e
    subst e
    unfold GBlk at h
    rw [h] at hh
    simp only [Option.some.injEq, Obj.cells.injEq] at hh
    exact hne hh.2.1
theorem RAcc.set {w0 w : World} {B i : Nat} {t : TypeId} {cs : Array Value} {v u : Value} {xs : List α} (h : RAcc R et w0 w v xs) (hs : GBlk w B t cs) (hne : t ≠ et) (hB : w0.heap.size ≤ B) : RAcc R et w0 (w.setCell ⟨B, i, none⟩ u) v xs := by
  have hne := hs.ne h.own hne
  refine ⟨?_, h.below.setCell (p := ⟨B, i, none⟩) hB _⟩
  obtain ⟨hl, ⟨rfl, h0⟩ | ⟨g, cap, cur, rfl, hg, hh, hr⟩⟩ := h.own
  · exact ⟨hl, .inl ⟨rfl, h0⟩⟩
  · refine ⟨hl, .inr ⟨g, cap, cur, rfl, hg, (Below.heap_setCell w ⟨B, i, none⟩ u g ?_).trans hh, hr⟩⟩
    intro e
    exact hne (by simp [Value.ownBlock, e])
theorem RAcc.drew {w0 w : World} {v : Value} {xs : List α} (h : RAcc R et w0 w v xs) : RAcc R et w0 w.drew v xs := ⟨h.own, h.below.drew⟩
theorem RAcc.drewN {w0 w : World} {v : Value} {xs : List α} (h : RAcc R et w0 w v xs) (n : Nat) : RAcc R et w0 (w.drewN n) v xs := ⟨h.own, below_drewN h.below n⟩
/-- One list grows; another one, of other records, stays. -/
theorem RAcc.other {w0 w : World} {v v' : Value} {xs : List α} {ys zs ts : List β} {A : Option Addr} {c : Nat} {w' : World} (h : RAcc R et w0 w v xs) (ho : ROwn Q et' w w0.heap.size v' ys) (hg : RGrew Q et' w0 w v' ys zs A c ts w') (hne : et ≠ et') : RAcc R et w0 w' v xs := by
  refine ⟨?_, hg.acc.below⟩
  obtain ⟨hl, ⟨rfl, h0⟩ | ⟨g, cap, cur, rfl, hgb, hh, hr⟩⟩ := h.own
  · exact ⟨hl, .inl ⟨rfl, h0⟩⟩
  · refine ⟨hl, .inr ⟨g, cap, cur, rfl, hgb, (hg.far g (Array.getElem?_eq_some_iff.1 hh).1 ?_).trans hh, hr⟩⟩
    intro e
    obtain ⟨_, ⟨rfl, _⟩ | ⟨g', cap', cur', rfl, _, hh', _⟩⟩ := ho
    · cases e
    · simp only [Value.ownBlock, Option.some.injEq] at e
      subst e
      rw [hh] at hh'
      simp only [Option.some.injEq, Obj.cells.injEq] at hh'
      exact hne hh'.2.1
theorem GBlk.grew {w0 w : World} {B : Nat} {t : TypeId} {cs : Array Value} {v' : Value} {ys zs ts : List β} {A : Option Addr} {c : Nat} {w' : World} (h : GBlk w B t cs) (ho : ROwn Q et' w w0.heap.size v' ys) (hg : RGrew Q et' w0 w v' ys zs A c ts w') (hne : t ≠ et') : GBlk w' B t cs :=
  (hg.far B h.lt (h.ne ho hne)).trans h
theorem RRow.one' {w : World} (t : TypeId) (x : α) (cs : Array Value) (b : Nat) (hb : b = w.heap.size) (h : cs = (R.cells x).toArray) : RRow R (w.alloc (.cells cs t)) (.slice (some ⟨b, 0, none⟩) 1 1) [x] := by
  subst hb h; exact RRow.one w x t

theorem reqT : RTy Tryz.prog reqR 31 61 (.agg #[.string ⟨#[]⟩, .string ⟨#[]⟩, .bool false]) 40 := ⟨Tryz.underlying31, by kernel_rfl, rfl, by decide⟩
theorem repT : RTy Tryz.prog repR 32 62 (.agg #[.string ⟨#[]⟩, .string ⟨#[]⟩, .string ⟨#[]⟩, .string ⟨#[]⟩]) 64 := ⟨Tryz.underlying32, by kernel_rfl, rfl, by decide⟩
theorem modT : RTy Tryz.prog modR 24 41 (.agg #[.string ⟨#[]⟩, .string ⟨#[]⟩]) 32 := ⟨Tryz.underlying24, by kernel_rfl, rfl, by decide⟩
theorem retT : RTy Tryz.prog retR 33 63 (.agg #[.string ⟨#[]⟩, .string ⟨#[]⟩, .string ⟨#[]⟩]) 48 := ⟨Tryz.underlying33, by kernel_rfl, rfl, by decide⟩

theorem module_ne {s : ByteArray} (h : moduleN s = 0) : (s.toList == []) = false := by
  have hv : validB s = true := by
    unfold moduleN at h
    split at h
    · unfold checkN at h
      split at h
      · rename_i h2; simp at h2; exact h2.1
      · cases h
    · cases h
  have := valid_ne hv
  cases e : s.toList
  · exact absurd e this
  · rfl
theorem orI_l {a b : Int} (h : orI a b = 0) : a = 0 := (orI_zero.1 h).1
theorem modE_path {m : ModB} (h : modE m = 0) : moduleN m.1 = 0 := orI_l h
theorem oldE_path {m : ModB} (h : oldE m = 0) : moduleN m.1 = 0 := by
  unfold oldE at h
  split at h
  · exact h
  · exact modE_path h
theorem noP {reqs : List ReqB} (h : ∀ k (hk : k < reqs.length), reqE reqs[k] (reqs.take k) = 0) : reqs.any (fun a => sameP a ⟨#[]⟩) = false := by
  rw [List.any_eq_false]
  intro x hx
  obtain ⟨k, hk, rfl⟩ := List.getElem_of_mem hx
  have h1 := module_ne (modE_path (orI_l (h k hk)))
  simp only [sameP, Lib.toList_data (⟨#[]⟩ : ByteArray)]
  rw [h1]; simp
theorem noM {reps : List RepB} (h : ∀ k (hk : k < reps.length), repE reps[k] (reps.take k) = 0) : reps.any (fun a => sameM a.1 (⟨#[]⟩, ⟨#[]⟩)) = false := by
  rw [List.any_eq_false]
  intro x hx
  obtain ⟨k, hk, rfl⟩ := List.getElem_of_mem hx
  have h1 := module_ne (oldE_path (orI_l (h k hk)))
  simp only [sameM, Lib.toList_data (⟨#[]⟩ : ByteArray)]
  rw [h1]; simp
end Go.Proofs.YtmdlmjcejeejfaaGreatDoor
