/-
  CacheTurned holds of every list of entries, every number and every module: entries of which no two have one module tell the same in whatever order they stand. No condition.
-/
import Derived.Test.YtcbpkbemnaondaaGreatDoorRows
import Derived.Test.YtcbpkbemnaondaaGreatDoorCards
import Derived.Test.YtcbpkbemnaondaaGreatDoorTie
import Derived.Test.YtcbpkbemnaondaaGreatDoorL1
import Derived.Test.YtcbpkbemnaondaaGreatDoorK8
import Derived.SevenTiedAt
set_option linter.unusedVariables false
namespace Go.Proofs.YtcbpkbemnaondaaGreatDoor
open Go.RowKit Go.Shelf

/-- No two have one module. -/
def NoTwo (xs : List EntB) : Prop := xs.Pairwise fun x y => ¬ x.m = y.m
theorem NoTwo.perm {xs ys : List EntB} (h : NoTwo xs) (p : xs.Perm ys) : NoTwo ys := (p.pairwise_iff (fun {a b} k e => k e.symm)).1 h
theorem NoTwo.eq {xs : List EntB} (h : NoTwo xs) {x y : EntB} (hx : x ∈ xs) (hy : y ∈ xs) (e : x.m = y.m) : x = y := by
  induction xs with
  | nil => cases hx
  | cons z zs ih =>
    obtain ⟨h1, h2⟩ := List.pairwise_cons.1 h
    rcases List.mem_cons.1 hx with e1 | k1
    · rcases List.mem_cons.1 hy with e2 | k2
      · rw [e1, e2]
      · exact absurd (by rw [← e1]; exact e) (h1 y k2)
    · rcases List.mem_cons.1 hy with e2 | k2
      · exact absurd (by rw [← e2]; exact e.symm) (h1 x k1)
      · exact ih h2 k1 k2
theorem entC_zero {x y : EntB} : entC x y = 0 ↔ x.m = y.m := modCmp_zero
theorem NoTwo.few {xs : List EntB} (h : NoTwo xs) (q : EntB) : (xs.filter fun f => decide (entC f q = 0)).length ≤ 1 := by
  induction xs with
  | nil => simp
  | cons z zs ih =>
    obtain ⟨h1, h2⟩ := List.pairwise_cons.1 h
    rw [List.filter_cons]
    split
    · rename_i hz
      have e : zs.filter (fun f => decide (entC f q = 0)) = [] := by
        rw [List.filter_eq_nil_iff]
        intro f hf hc
        exact h1 f hf ((entC_zero.1 (of_decide_eq_true hz)).trans (entC_zero.1 (of_decide_eq_true hc)).symm)
      rw [e]; simp
    · exact ih h2
theorem perm_few {α : Type} {a b : List α} (p : a.Perm b) (h : b.length ≤ 1) : a = b := by
  match b, h with
  | [], _ => exact List.Perm.eq_nil p
  | [x], _ => exact List.perm_singleton.1 p
theorem sortE_turn {xs ts : List EntB} (h : NoTwo xs) (p : ts.Perm xs) : sortE ts = sortE xs := by
  refine rises_one (O := entO) (sortE xs) (sortE ts) (sortE_rises xs) (sortE_rises ts) fun q => ?_
  have p2 : (sortE ts).Perm (sortE xs) := (sortE_perm ts).trans (p.trans (sortE_perm xs).symm)
  exact perm_few (p2.filter _) ((h.perm (sortE_perm xs).symm).few q)
theorem LightE.perm {xs ts : List EntB} (h : LightE xs) (p : ts.Perm xs) : LightE ts := ⟨by rw [p.length_eq]; exact h.1, fun x hx => h.2 x (p.mem_iff.1 hx)⟩
theorem FiledW.perm {w : World} {xs ts : List EntB} {φ : EntB → List FileB} (h : FiledW w xs φ) (p : ts.Perm xs) : FiledW w ts φ := fun x hx => h x (p.mem_iff.1 hx)
/-- What a search comes to, where no two have one module. -/
def Found' (xs : List EntB) (φ : EntB → List FileB) (m : ModB) (b : Bool) (p' v' g' : ByteArray) (fs : List FileB) : Prop :=
  (b = true ∧ ∃ x ∈ xs, x.m = m ∧ p' = x.p ∧ v' = x.v ∧ g' = x.g ∧ fs = φ x) ∨ (b = false ∧ (∀ x ∈ xs, ¬ x.m = m) ∧ p' = ⟨#[]⟩ ∧ v' = ⟨#[]⟩ ∧ g' = ⟨#[]⟩ ∧ fs = [])
theorem Found.loose {xs : List EntB} {φ : EntB → List FileB} {m : ModB} {b : Bool} {p v g : ByteArray} {fs : List FileB} (h : Found xs φ m b p v g fs) : Found' xs φ m b p v g fs := by
  rcases h with ⟨h0, i, hi, _, e, h1, h2, h3, h4⟩ | ⟨h0, hn, h⟩
  · exact .inl ⟨h0, xs[i], List.getElem_mem hi, e, h1, h2, h3, h4⟩
  · refine .inr ⟨h0, fun x hx e => ?_, h⟩
    obtain ⟨i, hi, rfl⟩ := List.getElem_of_mem hx
    exact hn i hi hi e
theorem Found.turn {xs ts : List EntB} {φ : EntB → List FileB} {m : ModB} {b c : Bool} {p v g q u h : ByteArray} {fs gs : List FileB} (hn : NoTwo xs) (hp : ts.Perm xs) (H : Found xs φ m b p v g fs) (K : Found ts φ m c q u h gs) : b = c ∧ p = q ∧ v = u ∧ g = h ∧ fs = gs := by
  rcases H.loose with ⟨rfl, x, hx, e1, rfl, rfl, rfl, rfl⟩ | ⟨rfl, n1, rfl, rfl, rfl, rfl⟩ <;> rcases K.loose with ⟨rfl, y, hy, e2, rfl, rfl, rfl, rfl⟩ | ⟨rfl, n2, rfl, rfl, rfl, rfl⟩
  · have := hn.eq hx (hp.mem_iff.1 hy) (e1.trans e2.symm)
    subst this
    exact ⟨rfl, rfl, rfl, rfl, rfl⟩
  · exact absurd e1 (n2 x (hp.mem_iff.2 hx))
  · exact absurd e2 (n1 y (hp.mem_iff.1 hy))
  · exact ⟨rfl, rfl, rfl, rfl, rfl⟩
theorem good_iff {φ : EntB → List FileB} {xs : List EntB} (hn : NoTwo xs) : GoodTo φ xs xs.length ↔ ∀ x ∈ xs, checkEN x.m x.g (φ x) = 0 := by
  constructor
  · intro h x hx
    obtain ⟨i, hi, rfl⟩ := List.getElem_of_mem hx
    have := h i hi
    by_cases e : checkEN xs[i].m xs[i].g (φ xs[i]) = 0
    · exact e
    · rw [badE_1 hi rfl e] at this; exact this
  · intro h i hi
    refine badE_3 hi (h _ (List.getElem_mem hi)) ?_
    cases hin : inM ((xs.take i).map EntB.m) xs[i].m
    · rfl
    · exfalso
      obtain ⟨y, hy, e⟩ := List.mem_map.1 (inM_iff.1 hin)
      obtain ⟨j, hj, rfl⟩ := List.getElem_of_mem hy
      rw [List.length_take] at hj
      rw [List.getElem_take] at e
      exact List.pairwise_iff_getElem.1 hn j i (by omega) hi (by omega) e
/-- Nothing is wrong. -/
def well (f : Int × ByteArray) : Bool := decide (f.1 = 0)
theorem ChkIs.turn {φ : EntB → List FileB} {xs ts : List EntB} (hn : NoTwo xs) (hp : ts.Perm xs) {f g : Int × ByteArray} (H : ChkIs φ xs f) (K : ChkIs φ ts g) : well f = well g := by
  unfold well
  have h1 := H.none
  have h2 := K.none
  rw [good_iff hn] at h1
  rw [good_iff (hn.perm hp.symm), hp.length_eq] at h2
  have h3 : (∀ x ∈ ts, checkEN x.m x.g (φ x) = 0) ↔ ∀ x ∈ xs, checkEN x.m x.g (φ x) = 0 := ⟨fun h x hx => h x (hp.mem_iff.2 hx), fun h x hx => h x (hp.mem_iff.1 hx)⟩
  rw [h3] at h2
  exact decide_eq_decide.2 (h1.trans h2.symm)
theorem ChkIs.empty {φ : EntB → List FileB} {xs : List EntB} {f : Int × ByteArray} (H : ChkIs φ xs f) (h : f.1 = 0) : f = (0, ⟨#[]⟩) := by
  rcases H with ⟨i, hi, h1, h2, rfl⟩ | ⟨h1, rfl⟩
  · exact absurd h h2
  · split at h
    · cases h
    · rename_i h40; rw [if_neg h40]
theorem Vers.turn {path : ByteArray} {xs ts : List EntB} (hp : ts.Perm xs) {a b : List ByteArray} (ha : Vers path xs a) (hb : Vers path ts b) : b = a :=
  strict_unique hb.strict ha.strict fun s => by
    rw [ha.mem, hb.mem]
    constructor
    · rintro ⟨x, hx, h⟩; exact ⟨x, hp.mem_iff.1 hx, h⟩
    · rintro ⟨x, hx, h⟩; exact ⟨x, hp.mem_iff.2 hx, h⟩
theorem turned_perm {α : Type} (xs : List α) (k : Nat) : (xs.drop k ++ xs.take k).Perm xs := by
  conv => rhs; rw [← List.take_append_drop k xs]
  exact List.perm_append_comm
theorem likeP_two {xs ys zs : List EntB} {φ : EntB → List FileB} {w : World} (h : All2 (LikeO φ w) ys (sortE xs)) (k : All2 (LikeO φ w) zs (sortE xs)) (hF : FiledW w xs φ) (hL : LightE xs) : All2 (LikeP w) ys zs :=
  All2.of_get (h.len.trans k.len.symm) fun i h1 h2 => by
    have h3 : i < (sortE xs).length := by rw [← h.len]; exact h1
    obtain ⟨a1, a2, a3, a4⟩ := h.get i h1 h3
    obtain ⟨b1, b2, b3, b4⟩ := k.get i h2 h3
    have hm : (sortE xs)[i] ∈ xs := (sortE_perm xs).mem_iff.1 (List.getElem_mem h3)
    have := hF.len hm
    have := (hL.2 _ hm).2.2.2
    exact ⟨a1.trans b1.symm, a2.trans b2.symm, a3.trans b3.symm, _, a4.row, b4.row, by omega⟩
theorem RRow.drop {α : Type} {R : Rec α} {w : World} {a : Option Addr} {n c : Nat} {xs : List α} (h : RRow R w (.slice a n c) xs) {g o : Nat} (ha : a = some ⟨g, o, none⟩) (k : Nat) (hk : k ≤ xs.length) : RRow R w (.slice (some ⟨g, o + k * R.k, none⟩) (n - k) (c - k)) (xs.drop k) := by
  obtain ⟨a', c', e, hl, hc⟩ := h
  simp only [Value.slice.injEq] at e
  obtain ⟨rfl, rfl, rfl⟩ := e
  refine ⟨_, _, by rw [List.length_drop], by rw [List.length_drop]; omega, fun hne => ?_⟩
  have hlt : k < xs.length := by
    rcases Nat.lt_or_ge k xs.length with h | h
    · exact h
    · exact absurd (List.drop_of_length_le h) hne
  obtain ⟨g', o', e, hg, hat⟩ := hc (fun e => by rw [e] at hlt; simp at hlt)
  rw [ha] at e
  simp only [Option.some.injEq, Addr.mk.injEq, and_true] at e
  obtain ⟨rfl, rfl⟩ := e
  refine ⟨g, _, rfl, hg, fun i hi j u hu => ?_⟩
  rw [List.length_drop] at hi
  rw [List.getElem_drop] at hu
  have := hat (k + i) (by omega) j u hu
  rw [← this]
  congr 2
  rw [Nat.add_mul]; omega
theorem RRow.take {α : Type} {R : Rec α} {w : World} {a : Option Addr} {n c : Nat} {xs : List α} (h : RRow R w (.slice a n c) xs) (k : Nat) (hk : k ≤ xs.length) : RRow R w (.slice a k c) (xs.take k) := by
  obtain ⟨a', c', e, hl, hc⟩ := h
  simp only [Value.slice.injEq] at e
  obtain ⟨rfl, rfl, rfl⟩ := e
  refine ⟨_, _, by rw [List.length_take, Nat.min_eq_left hk], by rw [List.length_take]; omega, fun hne => ?_⟩
  obtain ⟨g', o', e, hg, hat⟩ := hc (fun e => by rw [e] at hne; simp at hne)
  refine ⟨g', o', e, hg, fun i hi j u hu => ?_⟩
  rw [List.length_take] at hi
  rw [List.getElem_take] at hu
  exact hat i (by omega) j u hu
end Go.Proofs.YtcbpkbemnaondaaGreatDoor

/-
  CacheTurned, walked.
-/
namespace Go.Proofs.YtcbpkbemnaondaaGreatDoor
open Go.RowKit Go.Shelf

def NoneTo2 (xs : List EntB) (m : ModB) (k : Nat) : Prop := ∀ q (h : q < xs.length), q < k → ¬ m = xs[q].m
def NoTwoTo (xs : List EntB) (i : Nat) : Prop := ∀ p q (hp : p < xs.length) (hq : q < xs.length), q < p → p < i → ¬ xs[p].m = xs[q].m
theorem NoneTo2.snoc {xs : List EntB} {m : ModB} {k : Nat} (h : NoneTo2 xs m k) (hk : k < xs.length) (e : ¬ m = xs[k].m) : NoneTo2 xs m (k + 1) := fun q hq hqk => by
  by_cases hx : q = k
  · subst hx; exact e
  · exact h q hq (by omega)
theorem NoTwoTo.snoc {xs : List EntB} {i : Nat} (h : NoTwoTo xs i) (hi : i < xs.length) (e : NoneTo2 xs xs[i].m i) : NoTwoTo xs (i + 1) := fun p q hp hq hqp hpi => by
  by_cases hx : p = i
  · subst hx; exact e q hq hqp
  · exact h p q hp hq hqp (by omega)
theorem NoTwoTo.all {xs : List EntB} (h : NoTwoTo xs xs.length) : NoTwo xs := by
  refine List.pairwise_iff_getElem.2 fun i j hi hj hij e => ?_
  exact h j i hj hi hij hj e.symm

set_option maxRecDepth 100000 in
set_option maxHeartbeats 4000000 in
theorem turned_walk (xs : List EntB) (V : Value) (by' : Nat) (hby : by' < 256) (mp mv : ByteArray) (w : World) (hV : RRow entR w V xs) (hm : xs.length ≤ maxLen) (φ : EntB → List FileB) (hF : FiledW w xs φ) :
    Calls Tryz.prog 4 #[V, .int .u8 by', .agg #[.string mp, .string mv]] w fun e w' => e = .returned (.bool true) ∧ Below w.heap.size w w' := by
  have hb0 := (Below.refl w.heap.size w).alloc (Nat.le_refl _) (.cells #[.string mp, .string mv] 24)
  have g0 := GBlk.new w 24 #[.string mp, .string mv]
  have HV := Lib.hid hV
  have HF := Lib.hid hF
  have HH := Lib.hid (heavy_any xs V _ (hV.below hb0) hm (hF.below hb0).filed)
  have HB0 := Lib.hid hb0
  have HG0 := Lib.hid g0
  obtain ⟨a, c, rfl, hl, -⟩ := hV
  clear hF hb0 g0
  go_enter Tryz.func4, Tryz.ntmps4
  go_wp2_with fail
  refine HH.out.mono ?_
  rintro _ w1 ⟨b, n1, rfl, hLt, rfl⟩
  have hb1 : Below w.heap.size w ((w.alloc (.cells #[.string mp, .string mv] 24)).drewN n1) := below_drewN HB0.out n1
  have d0 : ((w.alloc (.cells #[.string mp, .string mv] 24)).drewN n1).cell? ⟨w.heap.size, 0, none⟩ = some (.string mp) := HG0.out.cell 0
  have d1 : ((w.alloc (.cells #[.string mp, .string mv] 24)).drewN n1).cell? ⟨w.heap.size, 1, none⟩ = some (.string mv) := HG0.out.cell 1
  have hg1 : GBlk ((w.alloc (.cells #[.string mp, .string mv] 24)).drewN n1) w.heap.size 24 #[.string mp, .string mv] := HG0.out.drewN n1
  clear HH
  generalize (w.alloc (.cells #[.string mp, .string mv] 24)).drewN n1 = W at *
  cases b
  case true =>
    go_wp2_with fail
    refine (shown_any _).mono ?_
    rintro _ w2 ⟨rfl, hb2⟩
    go_wp2
    go_ret
    exact ⟨rfl, hb1.trans (hb2.mono hb1.size)⟩
  have hL := hLt rfl
  clear hLt
  have h50 := hL.1
  by_cases h0 : xs.length = 0
  case pos =>
    have h0' : ((xs.length : Int) == 0) = true := by simp [h0]
    clear h0
    go_wp2_with fail
    refine (shown_any _).mono ?_
    rintro _ w2 ⟨rfl, hb2⟩
    go_wp2
    go_ret
    exact ⟨rfl, hb1.trans (hb2.mono hb1.size)⟩
  have h0' : ((xs.length : Int) == 0) = false := by simp; intro e; rw [e] at h0; simp at h0
  have hpos : 0 < xs.length := by omega
  clear h0
  by_cases hp : mp.size ≤ 1024
  case neg =>
    go_wp2_with fail
    refine (shown_any _).mono ?_
    rintro _ w2 ⟨rfl, hb2⟩
    go_wp2
    go_ret
    exact ⟨rfl, hb1.trans (hb2.mono hb1.size)⟩
  by_cases hv : mv.size ≤ 1024
  case neg =>
    go_wp2_with fail
    refine (shown_any _).mono ?_
    rintro _ w2 ⟨rfl, hb2⟩
    go_wp2
    go_ret
    exact ⟨rfl, hb1.trans (hb2.mono hb1.size)⟩
  go_wp2_with fail
  refine (shown_any _).mono ?_
  rintro _ w2 ⟨rfl, hb2⟩
  have hB2 := hb1.trans (hb2.mono hb1.size)
  have hg2 := hg1.below hb2
  have HB2 := Lib.hid hB2
  have HG2 := Lib.hid hg2
  have HL := Lib.hid hL
  clear hb1 hb2 hL hB2 hg1 hg2 d0 d1 HB0 HG0
  go_wp2
  rw [show decide ((1024 : Int) < (mp.size : Int)) = false from decide_eq_false (by omega), show decide ((1024 : Int) < (mv.size : Int)) = false from decide_eq_false (by omega)]
  go_loopw [7] (fun i wr => ∃ k q : Nat, k ≤ xs.length ∧ i = .int .i64 k ∧ NoTwoTo xs k ∧ wr = w2.drewN q) (fun i _ => xs.length - (intOf i).toNat)
  case atStart => exact ⟨0, 0, Nat.zero_le _, rfl, (fun p q hp hq h1 h2 => absurd h2 (Nat.not_lt_zero _)), rfl⟩
  case round =>
    obtain ⟨k, q, hk, rfl, hN, rfl⟩ := hrel
    have HN := Lib.hid hN
    clear hN
    by_cases hlt : k < xs.length
    · obtain ⟨a', c', e, -, hsp⟩ := HV.out.below HB2.out
      simp only [Value.slice.injEq] at e
      obtain ⟨rfl, -, rfl⟩ := e
      obtain ⟨g, o, rfl, hg, hat⟩ := hsp (ne_of_lt hlt)
      have hg0 : g < w2.heap.size := hg
      have HAt := Lib.hid (show ∀ j (hj : j < xs.length), w2.cell? ⟨g, o + j * 4, none⟩ = some (.string xs[j].p) ∧ w2.cell? ⟨g, o + j * 4 + 1, none⟩ = some (.string xs[j].v) from fun j hj => ⟨(ent_at hat j hj).1, (ent_at hat j hj).2.1⟩)
      obtain ⟨q1, q2⟩ := HAt.out k hlt
      have HSn := Lib.hid (HN.out.snoc hlt)
      have hkx : (k : Int) < (xs.length : Int) := by omega
      have HMs := Lib.hid (fun j (hj : j < xs.length) (h : NoneTo2 xs xs[k].m j) e => h.snoc hj e)
      clear hat hsp
      generalize hx : xs[k] = x at *
      clear hx
      obtain ⟨xp, xv, xg, xa, xn, xc⟩ := x
      dsimp only [EntB.m] at q1 q2 HSn HMs
      go_wp2
      go_loopw [8] (fun i wi => ∃ j r : Nat, j ≤ k ∧ i = .int .i64 j ∧ NoneTo2 xs (xp, xv) j ∧ wi = w2.drewN r) (fun i _ => k - (intOf i).toNat)
      case atStart => exact ⟨0, q, Nat.zero_le _, rfl, (fun p hp h2 => absurd h2 (Nat.not_lt_zero _)), rfl⟩
      case round =>
        obtain ⟨j, r, hj, rfl, hM, rfl⟩ := hrel
        by_cases hjk : j < k
        · have hjl : j < xs.length := by omega
          have HM := Lib.hid (HMs.out j hjl hM)
          obtain ⟨z1, z2⟩ := HAt.out j hjl
          have E0 := Lib.hid (@mod_ne1 ⟨xp, xv, xg, xa, xn, xc⟩ xs[j].p xs[j].v)
          have E1 := Lib.hid (@mod_ne2 ⟨xp, xv, xg, xa, xn, xc⟩ xs[j].p xs[j].v)
          have hjx : (j : Int) < (xs.length : Int) := by omega
          have hjki : (j : Int) < (k : Int) := by omega
          clear hM
          generalize xs[j] = y at *
          obtain ⟨yp, yv, yg, ya, yn, yc⟩ := y
          dsimp only [EntB.m] at z1 z2 E0 E1 HM
          have K0 := Lib.hid (show (w2.drewN r).drew.cell? ⟨g, o + k * 4, none⟩ = some (.string xp) ∧ (w2.drewN r).drew.cell? ⟨g, o + k * 4 + 1, none⟩ = some (.string xv) ∧ (w2.drewN r).drew.cell? ⟨g, o + j * 4, none⟩ = some (.string yp) ∧ (w2.drewN r).drew.cell? ⟨g, o + j * 4 + 1, none⟩ = some (.string yv) from ⟨q1, q2, z1, z2⟩)
          clear z1 z2
          cases hp1 : (xp.toList == yp.toList)
          · have HY := Lib.hid (HM.out (E0.out hp1))
            clear E0 E1 HM
            go_wp2
            go_region_held3 (fun w' => w'.cell? ⟨g, o + k * 4, none⟩ = some (.string xp) ∧ w'.cell? ⟨g, o + k * 4 + 1, none⟩ = some (.string xv) ∧ w'.cell? ⟨g, o + j * 4, none⟩ = some (.string yp) ∧ w'.cell? ⟨g, o + j * 4 + 1, none⟩ = some (.string yv)) (first | with_reducible exact K0.out | go_keep) (fail)
            go_wp2
            go_roundw
            case rel => exact ⟨j + 1, r + 1, by omega, by go_num, HY.out, rfl⟩
            case measure => simp [intOf]; omega
          · cases hv1 : (xv.toList == yv.toList)
            · have HY := Lib.hid (HM.out (E1.out hv1))
              clear E0 E1 HM
              go_wp2
              go_region_held3 (fun w' => w'.cell? ⟨g, o + k * 4, none⟩ = some (.string xp) ∧ w'.cell? ⟨g, o + k * 4 + 1, none⟩ = some (.string xv) ∧ w'.cell? ⟨g, o + j * 4, none⟩ = some (.string yp) ∧ w'.cell? ⟨g, o + j * 4 + 1, none⟩ = some (.string yv)) (first | with_reducible exact K0.out | go_keep) (fail)
              go_wp2
              go_roundw
              case rel => exact ⟨j + 1, r + 1, by omega, by go_num, HY.out, rfl⟩
              case measure => simp [intOf]; omega
            · clear E0 E1 HM
              go_wp2
              go_region_held3 (fun w' => w'.cell? ⟨g, o + k * 4, none⟩ = some (.string xp) ∧ w'.cell? ⟨g, o + k * 4 + 1, none⟩ = some (.string xv) ∧ w'.cell? ⟨g, o + j * 4, none⟩ = some (.string yp) ∧ w'.cell? ⟨g, o + j * 4 + 1, none⟩ = some (.string yv)) (first | with_reducible exact K0.out | go_keep) (fail)
              go_wp2_with fail
              refine (shown_any _).mono ?_
              rintro _ w3 ⟨rfl, hb3⟩
              go_wp2
              go_ret
              exact ⟨rfl, HB2.out.trans ((below_drewN' (n := r + 1) hb3).mono HB2.out.size)⟩
        · obtain rfl : j = k := by omega
          have HY := Lib.hid (HSn.out hM)
          clear hM
          go_wp2
          go_roundw
          case rel => exact ⟨j + 1, r, by omega, by go_num, HY.out, rfl⟩
          case measure => simp [intOf]; omega
    · obtain rfl : k = xs.length := by omega
      have HNo := Lib.hid HN.out.all
      obtain ⟨m, hm1⟩ : ∃ m, by' % xs.length = m := ⟨_, rfl⟩
      have hm2 : (by' : Int) % (xs.length : Int) = (m : Int) := by rw [← hm1]; rfl
      have hm3 : m < xs.length := by rw [← hm1]; exact Nat.mod_lt _ hpos
      have hm4 : (xs.length : Int) - (m : Int) = ((xs.length - m : Nat) : Int) := by omega
      have hV2 := HV.out.below HB2.out
      obtain ⟨a', c', e, -, hsp⟩ := hV2
      simp only [Value.slice.injEq] at e
      obtain ⟨rfl, -, rfl⟩ := e
      obtain ⟨g, o, rfl, hg, -⟩ := hsp (by intro e; rw [e] at hpos; simp at hpos)
      have HB3 := Lib.hid (show Below w.heap.size w (w2.drewN q) from below_drewN HB2.out q)
      have HG3 := Lib.hid (HG2.out.drewN q)
      have hg3 : g < (w2.drewN q).heap.size := hg
      clear HB2 HG2 hg
      generalize w2.drewN q = W3 at *
      have HA0 := Lib.hid (RAcc.start (R := entR) (et := 29) W3)
      have HVd := Lib.hid (((HV.out.below HB3.out).drop rfl m (by omega)).below ((Below.refl _ W3).alloc (Nat.le_refl _) (.cells #[] 29)))
      have HVt := Lib.hid ((HV.out.below HB3.out).take m (by omega))
      have hl1 : (xs.drop m).length ≤ 50 := by rw [List.length_drop]; omega
      have hl2 : (xs.take m).length ≤ 50 := by rw [List.length_take]; omega
      have HPm := Lib.hid (turned_perm xs m)
      clear HN hsp hm1
      go_wp2_with (first
        | (at_builtin; refine wpList_racc entTy rfl _ _ rfl HA1.out rfl (HVt.out.below HA1.out.below) rfl (by have := HL1.out; omega) ?_; intro A2 c2 ts2 w6 hgr2; have hla2 := hgr2.list; rw [HL0.out] at hla2; have HA2 := Lib.hid hgr2.acc; have HTs := Lib.hid (show ts2.Perm xs by rw [hla2]; exact HPm.out); clear hgr2 hla2; have e0 : w6.cell? ⟨w.heap.size, 0, none⟩ = some (.string mp) := (HG3.out.below HA2.out.below).cell 0; have e1 : w6.cell? ⟨w.heap.size, 1, none⟩ = some (.string mv) := (HG3.out.below HA2.out.below).cell 1; have HB6 := Lib.hid (HB3.out.trans (HA2.out.below.mono HB3.out.size)); have HG6 := Lib.hid (HG3.out.below HA2.out.below); have HT6 := Lib.hid HA2.out.own.row; have HTl := Lib.hid (HL.out.perm HTs.out))
        | (at_builtin; refine wpList_racc entTy rfl _ _ rfl HA0.out rfl HVd.out rfl (by simp; omega) ?_; intro A1 c1 ts1 w5 hgr1; have hla1 := hgr1.list; rw [List.nil_append] at hla1; have HA1 := Lib.hid hgr1.acc; have HL0 := Lib.hid hla1; have HL1 := Lib.hid (show ts1.length ≤ 50 by rw [hla1]; exact hl1); clear hgr1 hla1)
        | (go_at_call 8; have hz := HFa.out; refine (findW_any ts2 _ mp mv _ HT7.out HTl.out φ ((HF.out.below HB7.out).perm HTs.out)).mono ?_; rintro e w9 ⟨b2, p2, v2, g2, B2, d2, fs2, rfl, hr2, hb9, hf2⟩; obtain ⟨rfl, rfl, rfl, rfl, rfl⟩ := Found.turn HNo.out HTs.out HFa.out (show Found ts2 φ (mp, mv) b2 p2 v2 g2 fs2 from hf2); have HB9 := Lib.hid ((HB7.out.trans (hb9.mono HB7.out.size)).alloc (HB7.out.trans (hb9.mono HB7.out.size)).size (.cells #[.string p1, .string v1, .string g1, .slice B2 fs1.length d2] 29)); have HG9 := Lib.hid ((HG7.out.below hb9).alloc (.cells #[.string p1, .string v1, .string g1, .slice B2 fs1.length d2] 29)); have HE9 := Lib.hid ((HE7.out.below hb9).alloc (.cells #[.string p1, .string v1, .string g1, .slice B2 fs1.length d2] 29)); have HE9b := Lib.hid (GBlk.new w9 29 #[.string p1, .string v1, .string g1, .slice B2 fs1.length d2]); have HR9 := Lib.hid ((HR7.out.below hb9).below ((Below.refl _ w9).alloc (Nat.le_refl _) (.cells #[.string p1, .string v1, .string g1, .slice B2 fs1.length d2] 29))); have HR9b := Lib.hid (hr2.below ((Below.refl _ w9).alloc (Nat.le_refl _) (.cells #[.string p1, .string v1, .string g1, .slice B2 fs1.length d2] 29))); have HT9 := Lib.hid ((HT7.out.below hb9).below ((Below.refl _ w9).alloc (Nat.le_refl _) (.cells #[.string p1, .string v1, .string g1, .slice B2 fs1.length d2] 29))); clear hr2 hb9 hf2 hz e0 e1)
        | (go_at_call 8; refine (findW_any xs _ mp mv _ (HV.out.below HB6.out) HL.out φ (HF.out.below HB6.out)).mono ?_; rintro e w7 ⟨b1, p1, v1, g1, B1, d1, fs1, rfl, hr1, hb7, hf1⟩; have HFa := Lib.hid (show Found xs φ (mp, mv) b1 p1 v1 g1 fs1 from hf1); have HB7 := Lib.hid ((HB6.out.trans (hb7.mono HB6.out.size)).alloc (HB6.out.trans (hb7.mono HB6.out.size)).size (.cells #[.string p1, .string v1, .string g1, .slice B1 fs1.length d1] 29)); have HG7 := Lib.hid ((HG6.out.below hb7).alloc (.cells #[.string p1, .string v1, .string g1, .slice B1 fs1.length d1] 29)); have HE7 := Lib.hid (GBlk.new w7 29 #[.string p1, .string v1, .string g1, .slice B1 fs1.length d1]); have HR7 := Lib.hid (hr1.below ((Below.refl _ w7).alloc (Nat.le_refl _) (.cells #[.string p1, .string v1, .string g1, .slice B1 fs1.length d1] 29))); have HT7 := Lib.hid ((HT6.out.below hb7).below ((Below.refl _ w7).alloc (Nat.le_refl _) (.cells #[.string p1, .string v1, .string g1, .slice B1 fs1.length d1] 29))); clear e0 e1; have e0 : (w7.alloc (.cells #[.string p1, .string v1, .string g1, .slice B1 fs1.length d1] 29)).cell? ⟨w.heap.size, 0, none⟩ = some (.string mp) := HG7.out.cell 0; have e1 : (w7.alloc (.cells #[.string p1, .string v1, .string g1, .slice B1 fs1.length d1] 29)).cell? ⟨w.heap.size, 1, none⟩ = some (.string mv) := HG7.out.cell 1; clear hr1 hb7 hf1)
        | (go_at_call 10; have hz := HC10.out; refine (centries_any ts2 _ _ HT10.out HTl.out φ ((HF.out.below HB10.out).perm HTs.out)).mono ?_; rintro e w11 ⟨⟨n11, s11⟩, hc11, rfl, hb11⟩; have HC11 := Lib.hid hc11; have HB11 := Lib.hid ((HB10.out.trans (hb11.mono HB10.out.size)).alloc (HB10.out.trans (hb11.mono HB10.out.size)).size (.cells #[.int .i64 n11, .string s11, .int .i64 0] 34)); have HG11 := Lib.hid ((HG10.out.below hb11).alloc (.cells #[.int .i64 n11, .string s11, .int .i64 0] 34)); have HE11 := Lib.hid ((HE10.out.below hb11).alloc (.cells #[.int .i64 n11, .string s11, .int .i64 0] 34)); have HE11b := Lib.hid ((HE10b.out.below hb11).alloc (.cells #[.int .i64 n11, .string s11, .int .i64 0] 34)); have HK11 := Lib.hid ((HK10.out.below hb11).alloc (.cells #[.int .i64 n11, .string s11, .int .i64 0] 34)); have HK11b := Lib.hid (GBlk.new w11 34 #[.int .i64 n11, .string s11, .int .i64 0]); have HR11 := Lib.hid ((HR10.out.below hb11).below ((Below.refl _ w11).alloc (Nat.le_refl _) (.cells #[.int .i64 n11, .string s11, .int .i64 0] 34))); have HR11b := Lib.hid ((HR10b.out.below hb11).below ((Below.refl _ w11).alloc (Nat.le_refl _) (.cells #[.int .i64 n11, .string s11, .int .i64 0] 34))); have HT11 := Lib.hid ((HT10.out.below hb11).below ((Below.refl _ w11).alloc (Nat.le_refl _) (.cells #[.int .i64 n11, .string s11, .int .i64 0] 34))); clear hz hc11 hb11)
        | (go_at_call 10; refine (centries_any xs _ _ (HV.out.below HB9.out) HL.out φ (HF.out.below HB9.out)).mono ?_; rintro e w10 ⟨⟨n10, s10⟩, hc10, rfl, hb10⟩; have HC10 := Lib.hid hc10; have HB10 := Lib.hid ((HB9.out.trans (hb10.mono HB9.out.size)).alloc (HB9.out.trans (hb10.mono HB9.out.size)).size (.cells #[.int .i64 n10, .string s10, .int .i64 0] 34)); have HG10 := Lib.hid ((HG9.out.below hb10).alloc (.cells #[.int .i64 n10, .string s10, .int .i64 0] 34)); have HE10 := Lib.hid ((HE9.out.below hb10).alloc (.cells #[.int .i64 n10, .string s10, .int .i64 0] 34)); have HE10b := Lib.hid ((HE9b.out.below hb10).alloc (.cells #[.int .i64 n10, .string s10, .int .i64 0] 34)); have HK10 := Lib.hid (GBlk.new w10 34 #[.int .i64 n10, .string s10, .int .i64 0]); have HR10 := Lib.hid ((HR9.out.below hb10).below ((Below.refl _ w10).alloc (Nat.le_refl _) (.cells #[.int .i64 n10, .string s10, .int .i64 0] 34))); have HR10b := Lib.hid ((HR9b.out.below hb10).below ((Below.refl _ w10).alloc (Nat.le_refl _) (.cells #[.int .i64 n10, .string s10, .int .i64 0] 34))); have HT10 := Lib.hid ((HT9.out.below hb10).below ((Below.refl _ w10).alloc (Nat.le_refl _) (.cells #[.int .i64 n10, .string s10, .int .i64 0] 34))); clear hc10 hb10)
        | go_in)
      have hwell := ChkIs.turn HNo.out HTs.out HC10.out HC11.out
      have hlen := HFa.out.len HF.out HL.out
      have HS50 := Lib.hid (show (sortE xs).length ≤ 50 by rw [(sortE_perm xs).length_eq]; exact h50)
      have he10 := HC10.out.empty
      have he11 := HC11.out.empty
      generalize hW : w11.alloc (.cells #[.int .i64 n11, .string s11, .int .i64 0] 34) = W12 at *
      have HVx := Lib.hid (fun w' (h : Below W12.heap.size W12 w') => HV.out.below (HB11.out.trans (h.mono HB11.out.size)))
      have HFx := Lib.hid (fun w' (h : Below W12.heap.size W12 w') => HF.out.below (HB11.out.trans (h.mono HB11.out.size)))
      have HTx := Lib.hid (fun w' (h : Below W12.heap.size W12 w') => HT11.out.below h)
      clear hW
      by_cases hn : n10 = 0
      · have hn2 : n11 = 0 := by
          unfold well at hwell
          rw [decide_eq_true (show (n10, s10).1 = 0 from hn)] at hwell
          exact of_decide_eq_true hwell.symm
        obtain ⟨rfl, rfl⟩ := Prod.mk.inj (he10 hn)
        obtain ⟨rfl, rfl⟩ := Prod.mk.inj (he11 hn2)
        clear hwell he10 he11 hn hn2
        have L0 := Lib.hid (show ∀ w', Below W12.heap.size W12 w' → w'.cell? ⟨w.heap.size, 0, none⟩ = some (.string mp) ∧ w'.cell? ⟨w7.heap.size, 0, none⟩ = some (.string p1) ∧ w'.cell? ⟨w7.heap.size, 1, none⟩ = some (.string v1) ∧ w'.cell? ⟨w7.heap.size, 2, none⟩ = some (.string g1) ∧ w'.cell? ⟨w7.heap.size, 3, none⟩ = some (.slice B1 fs1.length d1) ∧ w'.cell? ⟨w9.heap.size, 0, none⟩ = some (.string p1) ∧ w'.cell? ⟨w9.heap.size, 1, none⟩ = some (.string v1) ∧ w'.cell? ⟨w9.heap.size, 2, none⟩ = some (.string g1) ∧ w'.cell? ⟨w9.heap.size, 3, none⟩ = some (.slice B2 fs1.length d2) ∧ w'.cell? ⟨w10.heap.size, 0, none⟩ = some (.int .i64 0) ∧ w'.cell? ⟨w10.heap.size, 1, none⟩ = some (.string ⟨#[]⟩) ∧ w'.cell? ⟨w10.heap.size, 2, none⟩ = some (.int .i64 0) ∧ w'.cell? ⟨w11.heap.size, 0, none⟩ = some (.int .i64 0) ∧ w'.cell? ⟨w11.heap.size, 1, none⟩ = some (.string ⟨#[]⟩) ∧ w'.cell? ⟨w11.heap.size, 2, none⟩ = some (.int .i64 0) from fun w' h => ⟨(HG11.out.below h).cell 0, (HE11.out.below h).cell 0, (HE11.out.below h).cell 1, (HE11.out.below h).cell 2, (HE11.out.below h).cell 3, (HE11b.out.below h).cell 0, (HE11b.out.below h).cell 1, (HE11b.out.below h).cell 2, (HE11b.out.below h).cell 3, (HK11.out.below h).cell 0, (HK11.out.below h).cell 1, (HK11.out.below h).cell 2, (HK11b.out.below h).cell 0, (HK11b.out.below h).cell 1, (HK11b.out.below h).cell 2⟩)
        have K12 := Lib.hid (L0.out W12.drew (below_drewN (Below.refl _ _) 1))
        go_region_held3 (fun w' => w'.cell? ⟨w.heap.size, 0, none⟩ = some (.string mp) ∧ w'.cell? ⟨w7.heap.size, 0, none⟩ = some (.string p1) ∧ w'.cell? ⟨w7.heap.size, 1, none⟩ = some (.string v1) ∧ w'.cell? ⟨w7.heap.size, 2, none⟩ = some (.string g1) ∧ w'.cell? ⟨w7.heap.size, 3, none⟩ = some (.slice B1 fs1.length d1) ∧ w'.cell? ⟨w9.heap.size, 0, none⟩ = some (.string p1) ∧ w'.cell? ⟨w9.heap.size, 1, none⟩ = some (.string v1) ∧ w'.cell? ⟨w9.heap.size, 2, none⟩ = some (.string g1) ∧ w'.cell? ⟨w9.heap.size, 3, none⟩ = some (.slice B2 fs1.length d2) ∧ w'.cell? ⟨w10.heap.size, 0, none⟩ = some (.int .i64 0) ∧ w'.cell? ⟨w10.heap.size, 1, none⟩ = some (.string ⟨#[]⟩) ∧ w'.cell? ⟨w10.heap.size, 2, none⟩ = some (.int .i64 0) ∧ w'.cell? ⟨w11.heap.size, 0, none⟩ = some (.int .i64 0) ∧ w'.cell? ⟨w11.heap.size, 1, none⟩ = some (.string ⟨#[]⟩) ∧ w'.cell? ⟨w11.heap.size, 2, none⟩ = some (.int .i64 0))
          (first | with_reducible exact K20.out | with_reducible exact K19.out | with_reducible exact K18.out | with_reducible exact K17.out | with_reducible exact K16.out | with_reducible exact K15.out | with_reducible exact K14.out | with_reducible exact K13.out | with_reducible exact K12.out | go_keep)
          (first
            | (go_at_call 13; have hz := K19.out; refine (csort_any xs _ _ (HVx.out _ b19) HL.out φ (HFx.out _ b19)).mono ?_; rintro e w20 ⟨us, Au, cu, rfl, hru, hb20', hlu⟩; have b20 := b19.trans (hb20'.mono b19.size); have hul : ((us.length : Int) == (xs.length : Int)) = true := beq_iff_eq.2 (by rw [hlu.len, (sortE_perm xs).length_eq]); have K20 := Lib.hid (L0.out _ b20); clear hru hlu hz)
            | (go_at_call 13; have hz := HLt.out; refine (csort_any xs _ _ (HVx.out _ b13) HL.out φ (HFx.out _ b13)).mono ?_; rintro e w14 ⟨zs, Az, cz, rfl, hrz, hb14', hlz⟩; have b14 := b13.trans (hb14'.mono b13.size); have HRz := Lib.hid hrz; have HRy2 := Lib.hid (HRy.out.below hb14'); have HLP := Lib.hid (likeP_two (HLt.out.mono (fun y z h => h.below hb14')) hlz (HFx.out _ b14) HL.out); have K14 := Lib.hid (L0.out _ b14); clear hrz hlz hz)
            | (go_at_call 13; refine (csort_any ts2 _ _ (HTx.out _ (below_drewN (Below.refl _ _) 1)) HTl.out φ ((HFx.out _ (below_drewN (Below.refl _ _) 1)).perm HTs.out)).mono ?_; rintro e w13 ⟨ys, Ay, cy, rfl, hry, hb13', hly⟩; have b13 := below_drewN' (n := 1) hb13'; rw [sortE_turn HNo.out HTs.out] at hly; have HRy := Lib.hid hry; have HLt := Lib.hid hly; have K13 := Lib.hid (L0.out _ b13); clear hry hly)
            | (go_at_call 12; refine (ralike_any ys zs _ _ _ HRy2.out HRz.out HLP.out (by have h1 := HLt.out.len; have h2 := HS50.out; omega)).mono ?_; rintro e w15 ⟨rfl, hb15'⟩; have b15 := b14.trans (hb15'.mono b14.size); have K15 := Lib.hid (L0.out _ b15))
            | (go_at_call 15; refine (rsameE_any p1 v1 g1 _ _ fs1 _ (HR11.out.below b15) (HR11b.out.below b15) hlen).mono ?_; rintro e w16 ⟨rfl, hb16'⟩; have b16 := b15.trans (hb16'.mono b15.size); have K16 := Lib.hid (L0.out _ b16))
            | (go_at_call 17; have hz := HVt1.out; refine (versions_any xs _ mp _ (HVx.out _ b17) HL.out).mono ?_; rintro e w18 ⟨Vz, zv, rfl, hrz, hperm, hris, hb18'⟩; have b18 := b17.trans (hb18'.mono b17.size); have HVe := Lib.hid (Vers.turn HTs.out (Vers.of hperm hris) HVt1.out); have HRv := Lib.hid hrz; have HRt2 := Lib.hid (HRt1.out.below hb18'); have HZl := Lib.hid (show zv.length ≤ 1000 from Nat.le_trans (Vers.of hperm hris).len (Nat.le_trans (by have := cnt_le mp xs xs.length; rwa [List.take_length] at this) (by omega))); have K18 := Lib.hid (L0.out _ b18); clear hrz hperm hris hz)
            | (go_at_call 17; refine (versions_any ts2 _ mp _ (HTx.out _ b16) HTl.out).mono ?_; rintro e w17 ⟨Vt, tv, rfl, hrt, hperm, hris, hb17'⟩; have b17 := b16.trans (hb17'.mono b16.size); have HVt1 := Lib.hid (Vers.of hperm hris); have HRt1 := Lib.hid hrt; have K17 := Lib.hid (L0.out _ b17); clear hrt hperm hris)
            | (go_at_call 16; refine (same_any zv _ _ _ (by rw [← HVe.out]; exact HRt2.out) HRv.out HZl.out).mono ?_; rintro e w19 ⟨rfl, q19, rfl⟩; have b19 := below_drewN b18 q19; have K19 := Lib.hid (L0.out _ b19)))
        have hBw := HB11.out.trans (b20.mono HB11.out.size)
        go_wp2
        go_ret
        exact ⟨rfl, hBw⟩
      · have hn2 : ¬ n11 = 0 := by
          unfold well at hwell
          rw [decide_eq_false (show ¬ (n10, s10).1 = 0 from hn)] at hwell
          exact of_decide_eq_false hwell.symm
        have hz1 : (n10 == 0) = false := by simp [hn]
        have hz2 : (n11 == 0) = false := by simp [hn2]
        clear hwell he10 he11 hn hn2
        have L0 := Lib.hid (show ∀ w', Below W12.heap.size W12 w' → w'.cell? ⟨w.heap.size, 0, none⟩ = some (.string mp) ∧ w'.cell? ⟨w7.heap.size, 0, none⟩ = some (.string p1) ∧ w'.cell? ⟨w7.heap.size, 1, none⟩ = some (.string v1) ∧ w'.cell? ⟨w7.heap.size, 2, none⟩ = some (.string g1) ∧ w'.cell? ⟨w7.heap.size, 3, none⟩ = some (.slice B1 fs1.length d1) ∧ w'.cell? ⟨w9.heap.size, 0, none⟩ = some (.string p1) ∧ w'.cell? ⟨w9.heap.size, 1, none⟩ = some (.string v1) ∧ w'.cell? ⟨w9.heap.size, 2, none⟩ = some (.string g1) ∧ w'.cell? ⟨w9.heap.size, 3, none⟩ = some (.slice B2 fs1.length d2) ∧ w'.cell? ⟨w10.heap.size, 0, none⟩ = some (.int .i64 n10) ∧ w'.cell? ⟨w10.heap.size, 1, none⟩ = some (.string s10) ∧ w'.cell? ⟨w10.heap.size, 2, none⟩ = some (.int .i64 0) ∧ w'.cell? ⟨w11.heap.size, 0, none⟩ = some (.int .i64 n11) ∧ w'.cell? ⟨w11.heap.size, 1, none⟩ = some (.string s11) ∧ w'.cell? ⟨w11.heap.size, 2, none⟩ = some (.int .i64 0) from fun w' h => ⟨(HG11.out.below h).cell 0, (HE11.out.below h).cell 0, (HE11.out.below h).cell 1, (HE11.out.below h).cell 2, (HE11.out.below h).cell 3, (HE11b.out.below h).cell 0, (HE11b.out.below h).cell 1, (HE11b.out.below h).cell 2, (HE11b.out.below h).cell 3, (HK11.out.below h).cell 0, (HK11.out.below h).cell 1, (HK11.out.below h).cell 2, (HK11b.out.below h).cell 0, (HK11b.out.below h).cell 1, (HK11b.out.below h).cell 2⟩)
        have K12 := Lib.hid (L0.out W12.drew (below_drewN (Below.refl _ _) 1))
        go_region_held3 (fun w' => w'.cell? ⟨w.heap.size, 0, none⟩ = some (.string mp) ∧ w'.cell? ⟨w7.heap.size, 0, none⟩ = some (.string p1) ∧ w'.cell? ⟨w7.heap.size, 1, none⟩ = some (.string v1) ∧ w'.cell? ⟨w7.heap.size, 2, none⟩ = some (.string g1) ∧ w'.cell? ⟨w7.heap.size, 3, none⟩ = some (.slice B1 fs1.length d1) ∧ w'.cell? ⟨w9.heap.size, 0, none⟩ = some (.string p1) ∧ w'.cell? ⟨w9.heap.size, 1, none⟩ = some (.string v1) ∧ w'.cell? ⟨w9.heap.size, 2, none⟩ = some (.string g1) ∧ w'.cell? ⟨w9.heap.size, 3, none⟩ = some (.slice B2 fs1.length d2) ∧ w'.cell? ⟨w10.heap.size, 0, none⟩ = some (.int .i64 n10) ∧ w'.cell? ⟨w10.heap.size, 1, none⟩ = some (.string s10) ∧ w'.cell? ⟨w10.heap.size, 2, none⟩ = some (.int .i64 0) ∧ w'.cell? ⟨w11.heap.size, 0, none⟩ = some (.int .i64 n11) ∧ w'.cell? ⟨w11.heap.size, 1, none⟩ = some (.string s11) ∧ w'.cell? ⟨w11.heap.size, 2, none⟩ = some (.int .i64 0))
          (first | with_reducible exact K20.out | with_reducible exact K19.out | with_reducible exact K18.out | with_reducible exact K17.out | with_reducible exact K16.out | with_reducible exact K15.out | with_reducible exact K14.out | with_reducible exact K13.out | with_reducible exact K12.out | go_keep)
          (first
            | (go_at_call 13; have hz := K19.out; refine (csort_any xs _ _ (HVx.out _ b19) HL.out φ (HFx.out _ b19)).mono ?_; rintro e w20 ⟨us, Au, cu, rfl, hru, hb20', hlu⟩; have b20 := b19.trans (hb20'.mono b19.size); have hul : ((us.length : Int) == (xs.length : Int)) = true := beq_iff_eq.2 (by rw [hlu.len, (sortE_perm xs).length_eq]); have K20 := Lib.hid (L0.out _ b20); clear hru hlu hz)
            | (go_at_call 13; have hz := HLt.out; refine (csort_any xs _ _ (HVx.out _ b13) HL.out φ (HFx.out _ b13)).mono ?_; rintro e w14 ⟨zs, Az, cz, rfl, hrz, hb14', hlz⟩; have b14 := b13.trans (hb14'.mono b13.size); have HRz := Lib.hid hrz; have HRy2 := Lib.hid (HRy.out.below hb14'); have HLP := Lib.hid (likeP_two (HLt.out.mono (fun y z h => h.below hb14')) hlz (HFx.out _ b14) HL.out); have K14 := Lib.hid (L0.out _ b14); clear hrz hlz hz)
            | (go_at_call 13; refine (csort_any ts2 _ _ (HTx.out _ (below_drewN (Below.refl _ _) 1)) HTl.out φ ((HFx.out _ (below_drewN (Below.refl _ _) 1)).perm HTs.out)).mono ?_; rintro e w13 ⟨ys, Ay, cy, rfl, hry, hb13', hly⟩; have b13 := below_drewN' (n := 1) hb13'; rw [sortE_turn HNo.out HTs.out] at hly; have HRy := Lib.hid hry; have HLt := Lib.hid hly; have K13 := Lib.hid (L0.out _ b13); clear hry hly)
            | (go_at_call 12; refine (ralike_any ys zs _ _ _ HRy2.out HRz.out HLP.out (by have h1 := HLt.out.len; have h2 := HS50.out; omega)).mono ?_; rintro e w15 ⟨rfl, hb15'⟩; have b15 := b14.trans (hb15'.mono b14.size); have K15 := Lib.hid (L0.out _ b15))
            | (go_at_call 15; refine (rsameE_any p1 v1 g1 _ _ fs1 _ (HR11.out.below b15) (HR11b.out.below b15) hlen).mono ?_; rintro e w16 ⟨rfl, hb16'⟩; have b16 := b15.trans (hb16'.mono b15.size); have K16 := Lib.hid (L0.out _ b16))
            | (go_at_call 17; have hz := HVt1.out; refine (versions_any xs _ mp _ (HVx.out _ b17) HL.out).mono ?_; rintro e w18 ⟨Vz, zv, rfl, hrz, hperm, hris, hb18'⟩; have b18 := b17.trans (hb18'.mono b17.size); have HVe := Lib.hid (Vers.turn HTs.out (Vers.of hperm hris) HVt1.out); have HRv := Lib.hid hrz; have HRt2 := Lib.hid (HRt1.out.below hb18'); have HZl := Lib.hid (show zv.length ≤ 1000 from Nat.le_trans (Vers.of hperm hris).len (Nat.le_trans (by have := cnt_le mp xs xs.length; rwa [List.take_length] at this) (by omega))); have K18 := Lib.hid (L0.out _ b18); clear hrz hperm hris hz)
            | (go_at_call 17; refine (versions_any ts2 _ mp _ (HTx.out _ b16) HTl.out).mono ?_; rintro e w17 ⟨Vt, tv, rfl, hrt, hperm, hris, hb17'⟩; have b17 := b16.trans (hb17'.mono b16.size); have HVt1 := Lib.hid (Vers.of hperm hris); have HRt1 := Lib.hid hrt; have K17 := Lib.hid (L0.out _ b17); clear hrt hperm hris)
            | (go_at_call 16; refine (same_any zv _ _ _ (by rw [← HVe.out]; exact HRt2.out) HRv.out HZl.out).mono ?_; rintro e w19 ⟨rfl, q19, rfl⟩; have b19 := below_drewN b18 q19; have K19 := Lib.hid (L0.out _ b19)))
        have hBw := HB11.out.trans (b20.mono HB11.out.size)
        go_wp2
        go_ret
        exact ⟨rfl, hBw⟩
end Go.Proofs.YtcbpkbemnaondaaGreatDoor

namespace Go.Proofs.YtcbpkbemnaondaaGreatDoor.cacheTurned
open Go.ChangeShapes Go.WideShapes Go.ChangeAt Go.RowKit Go.Shelf
open Go.ChangeMaps (open_string shut_string)
set_option linter.unusedVariables false
theorem u8_nat {x : Int} (h : (Lit.int .u8 x).wf = true) : ∃ n : Nat, x = (n : Int) ∧ n < 256 := by
  have e1 : IntKind.u8.min = 0 := by decide
  have e2 : IntKind.u8.max = 255 := by decide
  simp [Lit.wf] at h
  exact ⟨x.toNat, by omega, by omega⟩


set_option maxRecDepth 100000 in
theorem lifted (os : Os) (started : os.Started) (H : Type) (enc : TypeId × Value → H) :
    ReturnsInHanded {} Tryz.checked os 4 .any (fun w args => (Rows.cacheTurnedSpec.pre enc Tryz.prog Tryz.f4 Rows.cacheTurnedRow.domain false w args ∧ laidMetH Tryz.prog laid0 w) ∧ sizedMet enc Tryz.prog Tryz.f4 (OpenSpec.ofChange Rows.cacheTurnedSpec) false w args)
      (Rows.cacheTurnedSpec.post enc Tryz.prog Tryz.f4 false true false false) := by
  refine returnsInHanded_of_change_and (C := Tryz.checked) (X := fun w _ => laidMetH Tryz.prog laid0 w) (fun _ _ _ hh h => h.of_heap hh) own started (by kernel_rfl) Tryz.func4
    (ChangeSpec.witness_shaped (enc := enc) (C := Tryz.checked) (os := os) (X := fun w _ => laidMetH Tryz.prog laid0 w) false (World.laidAll Tryz.prog os laid0) #[.slice none 0 0, .int .u8 0, .agg #[.string ByteArray.empty, .string ByteArray.empty]] 8 (World.laidAll_os _ _ _) (World.shaped_of_ZipB (by kernel_rfl) (by kernel_rfl)) (by kernel_rfl) (by kernel_rfl) (by kernel_rfl) (door_met os _)) ?_
  intro W base args ds gs before hval0 hW _ _ hL _
  have hval : ∀ (j : Nat) t v, Tryz.f4.params[j]? = some t → args[j]? = some v → Value.okWide Tryz.prog W .any base t v := hval0
  have hW' := hW
  obtain ⟨p, q, hA0, hV, rfl, hfz, hnd⟩ := hW
  have hA : DataW.TrodAll enc Tryz.prog W 0 (fun _ => true) true Tryz.f4.params.toList args.toList ds p := hA0
  rw [Tryz.params4] at hA hval
  obtain ⟨v0, vs0, d0, ds0, p0, q0, hargs, rfl, rfl, h0, r0⟩ := trodAll_cons hA
  obtain ⟨v1, vs1, d1, ds1, p1, q1, rfl, rfl, rfl, h1, r1⟩ := trodAll_cons r0
  obtain ⟨v2, vs2, d2, ds2, p2, q2, rfl, rfl, rfl, h2, r2⟩ := trodAll_cons r1
  obtain ⟨rfl, rfl, rfl⟩ := trodAll_nil r2
  obtain rfl : args = #[v0, v1, v2] := by cases args; simp_all
  obtain ⟨rfl, rfl⟩ := trodVars_none hV
  obtain ⟨a0, ph0, eR0, eL0, eF0, eZ0, u0⟩ := open_ents2 (hval 0 22 v0 rfl rfl) h0
  obtain ⟨x1, rfl, rfl, rfl, w1⟩ := open_int Tryz.underlying5 (hval 1 5 v1 rfl rfl) h1
  obtain ⟨a1, rfl, k1⟩ := u8_nat w1
  obtain ⟨a2, rfl, w2, u2⟩ := open_mod (hval 2 24 v2 rfl rfl) h2
  clear hA0 hval0
  simp only [List.append_nil] at hW'
  refine (turned_walk a0 v0 a1 k1 a2.1 a2.2 W eR0 eL0 ph0 eF0).mono fun e W' ⟨he, bel⟩ => ?_
  subst he
  exact ⟨_, rfl, _, _, _, [], _, [], hW', trodAll_mk1 (shut_bool Tryz.underlying4 _), (trodAll_cons_mk (u0 _ bel) (trodAll_cons_mk (shut_int Tryz.underlying5 w1) (trodAll_cons_mk (u2 _ _) trodAll_mk0))), rfl, bel.frame _, fun h => by cases h⟩

theorem over : Rows.cacheTurnedRow.holds Tryz.pinned (OpenSpec.ofChange Rows.cacheTurnedSpec) :=
  OpenClaim.holds_of_wide 4 Tryz.f4 rfl rfl rfl rfl rfl rfl rfl ⟨rfl, rfl, rfl, rfl, rfl⟩ rfl rfl rfl rfl rfl (by kernel_rfl) Tryz.func4 (by kernel_rfl)
    (of_decide_eq_true (by kernel_rfl)) (by unfold Func.isWrapper; first | (rw [if_pos (by decide +kernel)]; kernel_rfl) | (rw [if_neg (by decide +kernel)]; exact ⟨rfl, rfl⟩))
    (fun os started H enc _ => lifted os started H enc)

theorem proved : Rows.CacheTurnedCardSaid :=
  Claim7.holds_tied_plain_at .later [] [.data, .data, .data, .sentinel, .sentinel] true (true, "07d34ad4e3c8e650294916f1c9b8cfd7f2d0debd49f269622e2b0cae7c9d0b0f") true
    over (fun _ h => by cases h) (by kernel_rfl) (fun _ h => by cases h) cacheTurned_row_tie rfl ⟨rfl, rfl⟩ (by kernel_rfl) rfl
    (fun f fn hf hfn => by
      obtain rfl : f = 4 := Option.some.inj ((show Tryz.prog.funcNamed "graftbed/graftbedlaw07.CacheTurned" = some 4 by kernel_rfl).symm.trans hf) |>.symm
      obtain rfl : fn = Tryz.f4 := (Option.some.inj (Tryz.func4.symm.trans hfn)).symm
      exact ⟨by kernel_rfl, fun j t ht => by
        rw [Tryz.params4] at ht
        have hm : t ∈ [22, 5, 24] := by simpa using Array.mem_of_getElem? ht
        have hall : ([22, 5, 24].all fun u => !Tryz.prog.wantsStandIn u) = true := by kernel_rfl
        exact (show Tryz.prog.wantsStandIn t = false by simpa using List.all_eq_true.1 hall t hm)⟩)
    (by kernel_rfl)
#print axioms proved
end Go.Proofs.YtcbpkbemnaondaaGreatDoor.cacheTurned
