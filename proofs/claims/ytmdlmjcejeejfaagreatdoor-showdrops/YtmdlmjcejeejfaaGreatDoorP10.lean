/-
  The document's own Parse.
-/
import Derived.Test.YtmdlmjcejeejfaaGreatDoorP7
import Derived.Test.YtmdlmjcejeejfaaGreatDoorP9
namespace Go.Proofs.YtmdlmjcejeejfaaGreatDoor
open Go.RowKit Go.Shelf

theorem headL_size {d : UInt8} (l : List UInt8) : l.length = findN d l + (if hasL d l then (restL d l).length + 1 else 0) := by
  conv => lhs; rw [headL_whole (d := d) l]
  rw [List.length_append, findN]
  split <;> simp
theorem find_has {d : UInt8} {s : ByteArray} (h : hasL d s.data.toList = true) : findN d s.data.toList < s.size := by
  have := headL_size (d := d) s.data.toList
  rw [h, if_pos rfl, size_data] at this; omega
theorem find_hasnt {d : UInt8} {s : ByteArray} (h : hasL d s.data.toList = false) : findN d s.data.toList = s.size := by
  have := headL_size (d := d) s.data.toList
  rw [h, size_data] at this; simp at this; omega
theorem take_find (d : UInt8) : ∀ l : List UInt8, l.take (findN d l) = headL d l
  | [] => rfl
  | c :: r => by
    have ih := take_find d r
    by_cases h : c = d
    · simp [findN, headL, h]
    · unfold findN at ih
      simp [findN, headL, h, ih]
theorem drop_find (d : UInt8) : ∀ l : List UInt8, hasL d l = true → l.drop (findN d l + 1) = restL d l
  | [], h => by simp [hasL] at h
  | c :: r, hh => by
    by_cases h : c = d
    · simp [findN, headL, restL, h]
    · have ih := drop_find d r (by simpa [hasL, h] using hh)
      unfold findN at ih
      simp [findN, headL, restL, h, ih]
theorem find_front (d : UInt8) (s : ByteArray) : s.extract 0 (findN d s.data.toList) = mkB (headL d s.data.toList) := by
  apply data_inj
  rw [extract_front, data_mkB, take_find]
theorem find_back {d : UInt8} {s : ByteArray} (h : hasL d s.data.toList = true) : s.extract (findN d s.data.toList + 1) s.size = mkB (restL d s.data.toList) := by
  apply data_inj
  rw [extract_tail, data_mkB, drop_find d _ h]
theorem extract_all (s : ByteArray) : s.extract 0 s.size = s := by
  apply data_inj
  rw [extract_front, List.take_of_length_le (by rw [size_data]; omega)]
theorem len_three {T : List (List UInt8)} {xs : List ByteArray} (hX : xs = T.map mkB) (h3 : ¬ xs.length = 3) : decide (T.length = 3) = false := by
  rw [hX, List.length_map] at h3
  exact decide_eq_false h3
theorem okV_v (T : List UInt8) : okV (118 :: T) = (decide (T.length + 1 ≤ 60) && (decide ((sp 46 (headL 45 (headL 43 T))).length = 3) && (sp 46 (headL 45 (headL 43 T))).all numOk) && (!hasL 45 (headL 43 T) || (sp 46 (restL 45 (headL 43 T))).all preId) && (!hasL 43 T || (sp 46 (restL 43 T)).all idn)) := by
  have h1 : headL 43 (118 :: T) = 118 :: headL 43 T := by simp [headL]
  have h2 : restL 43 (118 :: T) = restL 43 T := by simp [restL]
  have h3 : hasL 43 (118 :: T) = hasL 43 T := by simp [hasL]
  have h4 : coreOf (118 :: T) = 118 :: headL 45 (headL 43 T) := by rw [coreOf, h1]; simp [headL]
  have h5 : preOf (118 :: T) = restL 45 (headL 43 T) := by rw [preOf, h1]; simp [restL]
  have h6 : hasL 45 (118 :: headL 43 T) = hasL 45 (headL 43 T) := by simp [hasL]
  unfold okV numsOk
  rw [h4, h5, h1, h6, h3, metaOf, h2]
  simp [numsIn]
theorem nums_v (T : List UInt8) (k : Nat) : nth (coreOf (118 :: T)) k = numV ((sp 46 (headL 45 (headL 43 T))).getD k []) := by
  have h1 : headL 43 (118 :: T) = 118 :: headL 43 T := by simp [headL]
  have h4 : coreOf (118 :: T) = 118 :: headL 45 (headL 43 T) := by rw [coreOf, h1]; simp [headL]
  rw [nth, h4]; simp [numsIn]
theorem pre_v (T : List UInt8) : preOf (118 :: T) = restL 45 (headL 43 T) := by
  have h1 : headL 43 (118 :: T) = 118 :: headL 43 T := by simp [headL]
  rw [preOf, h1]; simp [restL]
theorem meta_v (T : List UInt8) : metaOf (118 :: T) = restL 43 T := by simp [metaOf, restL]
theorem okV_nil : okV [] = false := by decide
theorem okV_other {c : UInt8} {r : List UInt8} (h : c ≠ 118) : okV (c :: r) = false := by
  have hn : numsIn (coreOf (c :: r)) = [] := by
    rw [coreOf]
    by_cases h1 : c = 43
    · simp [headL, h1, numsIn]
    · have e1 : headL 43 (c :: r) = c :: headL 43 r := by simp [headL, h1]
      rw [e1]
      by_cases h2 : c = 45
      · simp [headL, h2, numsIn]
      · have e2 : headL 45 (c :: headL 43 r) = c :: headL 45 (headL 43 r) := by simp [headL, h2]
        rw [e2]; simp [numsIn, h]
  unfold okV numsOk
  rw [hn]; simp
theorem okV_long {l : List UInt8} (h : ¬ l.length ≤ 60) : okV l = false := by unfold okV; rw [decide_eq_false h]; simp
theorem okV_first {s : ByteArray} (h : 0 < s.size) (k : ((s[0].toNat : Int) == 118) = false) : okV s.data.toList = false := by
  have := drop_get s 0 h
  rw [List.drop_zero] at this
  rw [this]
  refine okV_other ?_
  intro e
  rw [e] at k
  exact absurd k (by decide)
theorem v_first {s : ByteArray} (h : 0 < s.size) (k : ((s[0].toNat : Int) == 118) = true) : s.data.toList = 118 :: (s.extract 1 s.size).data.toList := by
  have := drop_get s 0 h
  rw [List.drop_zero] at this
  have e : s[0] = 118 := UInt8.toNat.inj (by have := eq_of_beq k; show s[0].toNat = 118; omega)
  rw [e] at this
  rw [extract_tail]; exact this
theorem size_nil {s : ByteArray} (h : ¬ 0 < s.size) : s.data.toList = [] := by
  rw [← List.length_eq_zero_iff, size_data]; omega

theorem VerC.set {B b o : Nat} {A : World} {a x c : Int} {p m : ByteArray} (h : VerC B A a x c p m) (hb : b ≠ B) (u : Value) : VerC B (A.setCell ⟨b, o, none⟩ u) a x c p m :=
  ⟨h.c0.other u (addr_ne (.inl hb)), h.c1.other u (addr_ne (.inl hb)), h.c2.other u (addr_ne (.inl hb)), h.c3.other u (addr_ne (.inl hb)), h.c4.other u (addr_ne (.inl hb))⟩
theorem VerC.set0 {B : Nat} {A : World} {a x c : Int} {p m : ByteArray} (h : VerC B A a x c p m) (v : Int) : VerC B (A.setCell ⟨B, 0, none⟩ (.int .i64 v)) v x c p m :=
  ⟨h.c0.same _, h.c1.other _ (addr_ne (by omega)), h.c2.other _ (addr_ne (by omega)), h.c3.other _ (addr_ne (by omega)), h.c4.other _ (addr_ne (by omega))⟩
theorem VerC.set1 {B : Nat} {A : World} {a x c : Int} {p m : ByteArray} (h : VerC B A a x c p m) (v : Int) : VerC B (A.setCell ⟨B, 1, none⟩ (.int .i64 v)) a v c p m :=
  ⟨h.c0.other _ (addr_ne (by omega)), h.c1.same _, h.c2.other _ (addr_ne (by omega)), h.c3.other _ (addr_ne (by omega)), h.c4.other _ (addr_ne (by omega))⟩
theorem VerC.set2 {B : Nat} {A : World} {a x c : Int} {p m : ByteArray} (h : VerC B A a x c p m) (v : Int) : VerC B (A.setCell ⟨B, 2, none⟩ (.int .i64 v)) a x v p m :=
  ⟨h.c0.other _ (addr_ne (by omega)), h.c1.other _ (addr_ne (by omega)), h.c2.same _, h.c3.other _ (addr_ne (by omega)), h.c4.other _ (addr_ne (by omega))⟩
theorem VerC.set3 {B : Nat} {A : World} {a x c : Int} {p m : ByteArray} (h : VerC B A a x c p m) (v : ByteArray) : VerC B (A.setCell ⟨B, 3, none⟩ (.string v)) a x c v m :=
  ⟨h.c0.other _ (addr_ne (by omega)), h.c1.other _ (addr_ne (by omega)), h.c2.other _ (addr_ne (by omega)), h.c3.same _, h.c4.other _ (addr_ne (by omega))⟩
theorem VerC.set4 {B : Nat} {A : World} {a x c : Int} {p m : ByteArray} (h : VerC B A a x c p m) (v : ByteArray) : VerC B (A.setCell ⟨B, 4, none⟩ (.string v)) a x c p v :=
  ⟨h.c0.other _ (addr_ne (by omega)), h.c1.other _ (addr_ne (by omega)), h.c2.other _ (addr_ne (by omega)), h.c3.other _ (addr_ne (by omega)), h.c4.same _⟩
theorem cell_far {w : World} {b g o i : Nat} (h : b ≠ g) (u : Value) : (w.setCell ⟨b, o, none⟩ u).cell? ⟨g, i, none⟩ = w.cell? ⟨g, i, none⟩ := World.cell?_setCell_other _ _ _ _ (addr_ne (.inl h))
theorem ret_some' {l : List UInt8} {T : List UInt8} {a b c : Int} {p m : ByteArray} (hl : l = 118 :: T) (h : okV l = true) {x y z : List UInt8} (hs : sp 46 (headL 45 (headL 43 T)) = [x, y, z]) (ha : a = numV x) (hb : b = numV y) (hc : c = numV z) (hp : p = mkB (restL 45 (headL 43 T))) (hm : m = mkB (restL 43 T)) : Ending.returned (.tuple #[.agg #[.int .i64 a, .int .i64 b, .int .i64 c, .string p, .string m], .int .i64 0]) = .returned (retP l) := by
  subst hl
  simp only [retP, verL, errL, h, ha, hb, hc, hp, hm, nums_v, pre_v, meta_v, hs]; rfl
theorem restL_no {d : UInt8} {l : List UInt8} (h : hasL d l = false) : (⟨#[]⟩ : ByteArray) = mkB (restL d l) := by rw [(hasL_no h).2]; rfl

theorem three_of {T : List (List UInt8)} {a b c : ByteArray} (h : [a, b, c] = T.map mkB) : T = [a.data.toList, b.data.toList, c.data.toList] := by
  have := congrArg (List.map fun x : ByteArray => x.data.toList) h
  rw [List.map_map] at this
  have e : T.map ((fun x : ByteArray => x.data.toList) ∘ mkB) = T := by
    conv => rhs; rw [← List.map_id T]
    rfl
  rw [e] at this
  exact this.symm

set_option maxRecDepth 100000 in
set_option maxHeartbeats 4000000 in
theorem rparse_any (s : ByteArray) (hs : s.size ≤ 20400) (w : World) :
    Calls Tryz.prog 38 #[.string s] w fun e w' => e = .returned (retP s.data.toList) ∧ Below w.heap.size w w' := by
  have hb0 : Below w.heap.size w (w.alloc (.cells #[.int .i64 0, .int .i64 0, .int .i64 0, .string ⟨#[]⟩, .string ⟨#[]⟩] 83)) := (Below.refl _ w).alloc (Nat.le_refl _) _
  by_cases h1 : 0 < s.size
  · by_cases h60 : s.size ≤ 60
    · cases hv0 : ((s[0].toNat : Int) == 118)
      · have H := Lib.hid (okV_first h1 hv0)
        have hv1 : ((s[0].toNat : Int) != 118) = true := by rw [bne, hv0]; rfl
        go_enter Tryz.func38, Tryz.ntmps38
        go_wp2
        exact bodyPost_ret (v := .tuple #[.agg #[.int .i64 0, .int .i64 0, .int .i64 0, .string ⟨#[]⟩, .string ⟨#[]⟩], .int .i64 30]) (by simp [results, Tryz.results38, go_sem]) rfl ⟨ret_none H.out, hb0⟩
      · have HLs := Lib.hid (v_first h1 hv0)
        have hv1 : ((s[0].toNat : Int) != 118) = false := by rw [bne, hv0]; rfl
        have hR := (VerC.new w 83).kept (World.grownBy_alloc _ (.cells #[.int .i64 0, .int .i64 0, .int .i64 0, .string ⟨#[]⟩, .string ⟨#[]⟩] 83) none) (fun r e => by cases e)
        have hv := VerC.new (w.alloc (.cells #[.int .i64 0, .int .i64 0, .int .i64 0, .string ⟨#[]⟩, .string ⟨#[]⟩] 83)) 83
        rw [World.size_alloc] at hv
        have hb : Below w.heap.size w ((w.alloc (.cells #[.int .i64 0, .int .i64 0, .int .i64 0, .string ⟨#[]⟩, .string ⟨#[]⟩] 83)).alloc (.cells #[.int .i64 0, .int .i64 0, .int .i64 0, .string ⟨#[]⟩, .string ⟨#[]⟩] 83)) := hb0.alloc (by simp) _
        have hts : (s.extract 1 s.size).size + 1 ≤ 60 := by have := extract_size_le s 1 s.size; omega
        go_enter Tryz.func38, Tryz.ntmps38
        go_wp2_with fail
        generalize (w.alloc (.cells #[.int .i64 0, .int .i64 0, .int .i64 0, .string ⟨#[]⟩, .string ⟨#[]⟩] 83)).alloc (.cells #[.int .i64 0, .int .i64 0, .int .i64 0, .string ⟨#[]⟩, .string ⟨#[]⟩] 83) = w1 at *
        generalize s.extract 1 s.size = t at *
        clear hb0
        refine (rfind_any t 43 (by omega) _).mono ?_
        rintro _ w' ⟨rfl, rfl⟩
        cases b43 : hasL 43 t.data.toList
        · have hk := find_hasnt b43
          have HT1' := find_front 43 t
          rw [hk] at HT1'
          have HQ2 := Lib.hid (show (!hasL 43 t.data.toList || (sp 46 (restL 43 t.data.toList)).all idn) = true by rw [b43]; rfl)
          have HMm := Lib.hid (show (⟨#[]⟩ : ByteArray) = mkB (restL 43 t.data.toList) from restL_no b43)
          have HT1h := Lib.hid (hasL_no b43).1.symm
          rw [hk]
          clear hk b43
          clear HT1'
          go_wp2_with fail
          obtain ⟨t1, e1⟩ : ∃ x, x = t := ⟨_, rfl⟩
          have HT1 := Lib.hid (show t1.data.toList = headL 43 t.data.toList by rw [e1]; exact HT1h.out)
          have ht1s : t1.size ≤ 60 := by rw [e1]; omega
          rw [← e1]
          clear e1
          refine (rfind_any t1 45 (by omega) _).mono ?_
          rintro _ w' ⟨rfl, rfl⟩
          have hf := find_front 45 t1
          rw [HT1.out] at hf
          cases b45 : hasL 45 t1.data.toList
          · have hk := find_hasnt b45
            have HT2 := Lib.hid (show t1.extract 0 t1.size = mkB (headL 45 (headL 43 t.data.toList)) by rw [← hk, find_front, HT1.out])
            have HQ1 := Lib.hid (show (!hasL 45 (headL 43 t.data.toList) || (sp 46 (restL 45 (headL 43 t.data.toList))).all preId) = true by rw [← HT1.out, b45]; rfl)
            have HPm := Lib.hid (show (⟨#[]⟩ : ByteArray) = mkB (restL 45 (headL 43 t.data.toList)) by rw [← HT1.out]; exact restL_no b45)
            rw [hk]
            clear hf hk b45
            go_wp2_with fail
            obtain ⟨t2, e2⟩ : ∃ x, x = t1 := ⟨_, rfl⟩
            replace HT2 := Lib.hid (show t2 = mkB (headL 45 (headL 43 t.data.toList)) by rw [e2, ← HT2.out, extract_all])
            have ht2s : t2.size ≤ 60 := by rw [e2]; exact ht1s
            rw [← e2]
            clear e2
            refine (rsplit_any 46 _ (by omega) _).mono ?_
            rintro _ w5 ⟨v, rfl, ⟨ad, cap, rfl, hc⟩, hb5⟩
            replace hR := hR.below hb5
            replace hv := hv.below hb5
            replace hb := hb.trans (hb5.mono hb.size)
            have hX : partsD 46 t2 = (sp 46 (headL 45 (headL 43 t.data.toList))).map mkB := by rw [HT2.out]; rfl
            have hxs := fun x (hx : x ∈ partsD 46 t2) => Nat.le_trans (partsD_size hx) ht2s
            generalize partsD 46 t2 = xs at *
            by_cases h3 : xs.length = 3
            · obtain ⟨xa, xb, xc, rfl⟩ : ∃ a b c, xs = [a, b, c] := by
                match xs, h3 with
                | [a, b, c], _ => exact ⟨a, b, c, rfl⟩
              obtain ⟨g, rfl, hg, hcell⟩ := hc (by simp)
              have r0 : w5.cell? ⟨g, 0, none⟩ = some (.string xa) := hcell 0 (by simp)
              have r1 : w5.cell? ⟨g, 1, none⟩ = some (.string xb) := hcell 1 (by simp)
              have r2 : w5.cell? ⟨g, 2, none⟩ = some (.string xc) := hcell 2 (by simp)
              have hsa := hxs xa (by simp)
              have hsb := hxs xb (by simp)
              have hsc := hxs xc (by simp)
              have hgne : w.heap.size + 1 ≠ g := by
                intro e
                have := hv.c0.cell
                rw [e, r0] at this
                cases this
              have HS : Hid (sp 46 (headL 45 (headL 43 t.data.toList)) = [xa.data.toList, xb.data.toList, xc.data.toList]) := Lib.hid (three_of hX)
              clear hcell hX hxs hc h3 hb5
              go_wp2_with fail
              refine (rnumber_any xa (by omega) _).mono ?_
              rintro _ w' ⟨rfl, rfl⟩
              obtain ⟨na, hna⟩ : ∃ n, n = numR xa.data.toList := ⟨_, rfl⟩
              rw [← hna]
              have HNa := Lib.hid hna
              clear hna
              have s0 := hv.c0.cell
              have t0 := hv.c0.frozen
              replace hR := hR.set (b := w.heap.size + 1) (o := 0) (by omega) (.int .i64 na)
              replace hv := hv.set0 na
              replace hb := hb.setCell (p := ⟨w.heap.size + 1, 0, none⟩) (by simp) (.int .i64 na)
              have r1' : (w5.setCell ⟨w.heap.size + 1, 0, none⟩ (.int .i64 na)).cell? ⟨g, 1, none⟩ = some (.string xb) := (cell_far hgne _).trans r1
              have r2' : (w5.setCell ⟨w.heap.size + 1, 0, none⟩ (.int .i64 na)).cell? ⟨g, 2, none⟩ = some (.string xc) := (cell_far hgne _).trans r2
              go_wp2_with fail
              clear r0 s0 t0
              generalize w5.setCell ⟨w.heap.size + 1, 0, none⟩ (.int .i64 na) = w5' at *
              clear r1; have r1 := r1'; clear r1'
              clear r2; have r2 := r2'; clear r2'
              go_wp2_with fail
              refine (rnumber_any xb (by omega) _).mono ?_
              rintro _ w' ⟨rfl, rfl⟩
              obtain ⟨nb, hnb⟩ : ∃ n, n = numR xb.data.toList := ⟨_, rfl⟩
              rw [← hnb]
              have HNb := Lib.hid hnb
              clear hnb
              have s1 := hv.c1.cell
              have t1 := hv.c1.frozen
              replace hR := hR.set (b := w.heap.size + 1) (o := 1) (by omega) (.int .i64 nb)
              replace hv := hv.set1 nb
              replace hb := hb.setCell (p := ⟨w.heap.size + 1, 1, none⟩) (by simp) (.int .i64 nb)
              have r2' : (w5'.setCell ⟨w.heap.size + 1, 1, none⟩ (.int .i64 nb)).cell? ⟨g, 2, none⟩ = some (.string xc) := (cell_far hgne _).trans r2
              go_wp2_with fail
              clear r1 s1 t1
              generalize w5'.setCell ⟨w.heap.size + 1, 1, none⟩ (.int .i64 nb) = w5'' at *
              clear r2; have r2 := r2'; clear r2'
              go_wp2_with fail
              refine (rnumber_any xc (by omega) _).mono ?_
              rintro _ w' ⟨rfl, rfl⟩
              obtain ⟨nc, hnc⟩ : ∃ n, n = numR xc.data.toList := ⟨_, rfl⟩
              rw [← hnc]
              have HNc := Lib.hid hnc
              clear hnc
              have s2 := hv.c2.cell
              have t2 := hv.c2.frozen
              replace hR := hR.set (b := w.heap.size + 1) (o := 2) (by omega) (.int .i64 nc)
              replace hv := hv.set2 nc
              replace hb := hb.setCell (p := ⟨w.heap.size + 1, 2, none⟩) (by simp) (.int .i64 nc)
              cases ea : numOk xa.data.toList
              · have q0 := hR.c0.cell
                have q1 := hR.c1.cell
                have q2 := hR.c2.cell
                have q3 := hR.c3.cell
                have q4 := hR.c4.cell
                have f0 := hR.c0.frozen
                have f1 := hR.c1.frozen
                have f2 := hR.c2.frozen
                have f3 := hR.c3.frozen
                have f4 := hR.c4.frozen
                have H := Lib.hid (show okV s.data.toList = false by rw [HLs.out, okV_v, HS.out]; simp [ea])
                have u0 := hv.c0.cell
                have u1 := hv.c1.cell
                have u2 := hv.c2.cell
                have u3 := hv.c3.cell
                have u4 := hv.c4.cell
                have fu0 := hv.c0.frozen
                have fu1 := hv.c1.frozen
                have fu2 := hv.c2.frozen
                have fu3 := hv.c3.frozen
                have fu4 := hv.c4.frozen
                have p0 : na < 0 := by rw [HNa.out, numR_no ea]; omega
                go_wp2
                have z := hR.full 0 0 0 ⟨#[]⟩ ⟨#[]⟩
                have y0 := z.c0.cell
                have y1 := z.c1.cell
                have y2 := z.c2.cell
                have y3 := z.c3.cell
                have y4 := z.c4.cell
                exact bodyPost_ret (v := .tuple #[.agg #[.int .i64 0, .int .i64 0, .int .i64 0, .string ⟨#[]⟩, .string ⟨#[]⟩], .int .i64 30]) (by simp [results, Tryz.results38, go_sem, y0, y1, y2, y3, y4]) rfl ⟨ret_none H.out, Below.five hb (Nat.le_refl _) _ _ _ _ _⟩
              · cases eb : numOk xb.data.toList
                · have q0 := hR.c0.cell
                  have q1 := hR.c1.cell
                  have q2 := hR.c2.cell
                  have q3 := hR.c3.cell
                  have q4 := hR.c4.cell
                  have f0 := hR.c0.frozen
                  have f1 := hR.c1.frozen
                  have f2 := hR.c2.frozen
                  have f3 := hR.c3.frozen
                  have f4 := hR.c4.frozen
                  have H := Lib.hid (show okV s.data.toList = false by rw [HLs.out, okV_v, HS.out]; simp [eb])
                  have u0 := hv.c0.cell
                  have u1 := hv.c1.cell
                  have u2 := hv.c2.cell
                  have u3 := hv.c3.cell
                  have u4 := hv.c4.cell
                  have fu0 := hv.c0.frozen
                  have fu1 := hv.c1.frozen
                  have fu2 := hv.c2.frozen
                  have fu3 := hv.c3.frozen
                  have fu4 := hv.c4.frozen
                  have p0 : ¬ na < 0 := by rw [HNa.out, numR_yes ea]; omega
                  have p1 : nb < 0 := by rw [HNb.out, numR_no eb]; omega
                  go_wp2
                  have z := hR.full 0 0 0 ⟨#[]⟩ ⟨#[]⟩
                  have y0 := z.c0.cell
                  have y1 := z.c1.cell
                  have y2 := z.c2.cell
                  have y3 := z.c3.cell
                  have y4 := z.c4.cell
                  exact bodyPost_ret (v := .tuple #[.agg #[.int .i64 0, .int .i64 0, .int .i64 0, .string ⟨#[]⟩, .string ⟨#[]⟩], .int .i64 30]) (by simp [results, Tryz.results38, go_sem, y0, y1, y2, y3, y4]) rfl ⟨ret_none H.out, Below.five hb (Nat.le_refl _) _ _ _ _ _⟩
                · cases ec : numOk xc.data.toList
                  · have q0 := hR.c0.cell
                    have q1 := hR.c1.cell
                    have q2 := hR.c2.cell
                    have q3 := hR.c3.cell
                    have q4 := hR.c4.cell
                    have f0 := hR.c0.frozen
                    have f1 := hR.c1.frozen
                    have f2 := hR.c2.frozen
                    have f3 := hR.c3.frozen
                    have f4 := hR.c4.frozen
                    have H := Lib.hid (show okV s.data.toList = false by rw [HLs.out, okV_v, HS.out]; simp [ec])
                    have u0 := hv.c0.cell
                    have u1 := hv.c1.cell
                    have u2 := hv.c2.cell
                    have u3 := hv.c3.cell
                    have u4 := hv.c4.cell
                    have fu0 := hv.c0.frozen
                    have fu1 := hv.c1.frozen
                    have fu2 := hv.c2.frozen
                    have fu3 := hv.c3.frozen
                    have fu4 := hv.c4.frozen
                    have p0 : ¬ na < 0 := by rw [HNa.out, numR_yes ea]; omega
                    have p1 : ¬ nb < 0 := by rw [HNb.out, numR_yes eb]; omega
                    have p2 : nc < 0 := by rw [HNc.out, numR_no ec]; omega
                    go_wp2
                    have z := hR.full 0 0 0 ⟨#[]⟩ ⟨#[]⟩
                    have y0 := z.c0.cell
                    have y1 := z.c1.cell
                    have y2 := z.c2.cell
                    have y3 := z.c3.cell
                    have y4 := z.c4.cell
                    exact bodyPost_ret (v := .tuple #[.agg #[.int .i64 0, .int .i64 0, .int .i64 0, .string ⟨#[]⟩, .string ⟨#[]⟩], .int .i64 30]) (by simp [results, Tryz.results38, go_sem, y0, y1, y2, y3, y4]) rfl ⟨ret_none H.out, Below.five hb (Nat.le_refl _) _ _ _ _ _⟩
                  · have q0 := hR.c0.cell
                    have q1 := hR.c1.cell
                    have q2 := hR.c2.cell
                    have q3 := hR.c3.cell
                    have q4 := hR.c4.cell
                    have f0 := hR.c0.frozen
                    have f1 := hR.c1.frozen
                    have f2 := hR.c2.frozen
                    have f3 := hR.c3.frozen
                    have f4 := hR.c4.frozen
                    have u0 := hv.c0.cell
                    have u1 := hv.c1.cell
                    have u2 := hv.c2.cell
                    have u3 := hv.c3.cell
                    have u4 := hv.c4.cell
                    have fu0 := hv.c0.frozen
                    have fu1 := hv.c1.frozen
                    have fu2 := hv.c2.frozen
                    have fu3 := hv.c3.frozen
                    have fu4 := hv.c4.frozen
                    have H := Lib.hid (show okV s.data.toList = true by rw [HLs.out, okV_v, HS.out, HQ1.out, HQ2.out, decide_eq_true (show t.data.toList.length + 1 ≤ 60 by rw [size_data]; exact hts)]; simp [ea, eb, ec])
                    have HZ := Lib.hid (And.intro (HNa.out.trans (numR_yes ea)) (And.intro (HNb.out.trans (numR_yes eb)) (HNc.out.trans (numR_yes ec))))
                    have p0 : ¬ na < 0 := by rw [HZ.out.1]; omega
                    have p1 : ¬ nb < 0 := by rw [HZ.out.2.1]; omega
                    have p2 : ¬ nc < 0 := by rw [HZ.out.2.2]; omega
                    go_wp2
                    have z := hR.full na nb nc ⟨#[]⟩ ⟨#[]⟩
                    have y0 := z.c0.cell
                    have y1 := z.c1.cell
                    have y2 := z.c2.cell
                    have y3 := z.c3.cell
                    have y4 := z.c4.cell
                    exact bodyPost_ret (v := .tuple #[.agg #[.int .i64 na, .int .i64 nb, .int .i64 nc, .string ⟨#[]⟩, .string ⟨#[]⟩], .int .i64 0]) (by simp [results, Tryz.results38, go_sem, y0, y1, y2, y3, y4]) rfl ⟨ret_some' HLs.out H.out HS.out HZ.out.1 HZ.out.2.1 HZ.out.2.2 HPm.out HMm.out, Below.five hb (Nat.le_refl _) _ _ _ _ _⟩
            · have hn3 : ((xs.length : Int) == 3) = false := by rw [beq_eq_false_iff_ne]; omega
              have q0 := hR.c0.cell
              have q1 := hR.c1.cell
              have q2 := hR.c2.cell
              have q3 := hR.c3.cell
              have q4 := hR.c4.cell
              have f0 := hR.c0.frozen
              have f1 := hR.c1.frozen
              have f2 := hR.c2.frozen
              have f3 := hR.c3.frozen
              have f4 := hR.c4.frozen
              have H := Lib.hid (show okV s.data.toList = false by rw [HLs.out, okV_v, len_three hX h3]; simp)
              have hn4 : ((xs.length : Int) != 3) = true := by rw [bne, hn3]; rfl
              clear hX hxs hc h3
              go_wp2
              have z := hR.full 0 0 0 ⟨#[]⟩ ⟨#[]⟩
              have y0 := z.c0.cell
              have y1 := z.c1.cell
              have y2 := z.c2.cell
              have y3 := z.c3.cell
              have y4 := z.c4.cell
              exact bodyPost_ret (v := .tuple #[.agg #[.int .i64 0, .int .i64 0, .int .i64 0, .string ⟨#[]⟩, .string ⟨#[]⟩], .int .i64 30]) (by simp [results, Tryz.results38, go_sem, y0, y1, y2, y3, y4]) rfl ⟨ret_none H.out, Below.five hb (Nat.le_refl _) _ _ _ _ _⟩
          · have hk := find_has b45
            have hP := find_back b45
            have HT2' := find_front 45 t1
            generalize findN 45 t1.data.toList = k2 at *
            have HT2 := Lib.hid (show t1.extract 0 k2 = mkB (headL 45 (headL 43 t.data.toList)) by rw [HT2', HT1.out])
            have HPm := Lib.hid (show t1.extract (k2 + 1) t1.size = mkB (restL 45 (headL 43 t.data.toList)) by rw [hP, HT1.out])
            have HB45 := Lib.hid (show hasL 45 (headL 43 t.data.toList) = true by rw [← HT1.out]; exact b45)
            clear hf hP HT2' b45
            have hps : (t1.extract (k2 + 1) t1.size).size ≤ 60 := Nat.le_trans (extract_size_le _ _ _) (by omega)
            have ht2s : (t1.extract 0 k2).size ≤ 60 := Nat.le_trans (extract_size_le _ _ _) (by omega)
            have u3 := hv.c3.cell
            have v3 := hv.c3.frozen
            replace hR := hR.set (b := w.heap.size + 1) (o := 3) (by omega) (.string (t1.extract (k2 + 1) t1.size))
            replace hv := hv.set3 (t1.extract (k2 + 1) t1.size)
            replace hb := hb.setCell (p := ⟨w.heap.size + 1, 3, none⟩) (by simp) (.string (t1.extract (k2 + 1) t1.size))
            go_wp2_with fail
            clear u3 v3
            refine (ridentifiers_t _ (by omega) _).mono ?_
            rintro _ w4 ⟨rfl, hb4⟩
            replace hR := hR.below hb4
            replace hv := hv.below hb4
            replace hb := hb.trans (hb4.mono hb.size)
            clear hb4
            obtain ⟨p, hpe⟩ : ∃ p, p = t1.extract (k2 + 1) t1.size := ⟨_, rfl⟩
            rw [← hpe] at HPm hps hv ⊢
            clear hpe
            have HE := Lib.hid (show everyD p preId = (sp 46 (restL 45 (headL 43 t.data.toList))).all preId by rw [HPm.out]; rfl)
            cases e2 : everyD p preId
            · rw [e2] at HE
              have q0 := hR.c0.cell
              have q1 := hR.c1.cell
              have q2 := hR.c2.cell
              have q3 := hR.c3.cell
              have q4 := hR.c4.cell
              have f0 := hR.c0.frozen
              have f1 := hR.c1.frozen
              have f2 := hR.c2.frozen
              have f3 := hR.c3.frozen
              have f4 := hR.c4.frozen
              have H := Lib.hid (show okV s.data.toList = false by rw [HLs.out, okV_v, HB45.out, ← HE.out]; simp)
              go_wp2
              have z := hR.full 0 0 0 ⟨#[]⟩ ⟨#[]⟩
              have y0 := z.c0.cell
              have y1 := z.c1.cell
              have y2 := z.c2.cell
              have y3 := z.c3.cell
              have y4 := z.c4.cell
              exact bodyPost_ret (v := .tuple #[.agg #[.int .i64 0, .int .i64 0, .int .i64 0, .string ⟨#[]⟩, .string ⟨#[]⟩], .int .i64 30]) (by simp [results, Tryz.results38, go_sem, y0, y1, y2, y3, y4]) rfl ⟨ret_none H.out, Below.five hb (Nat.le_refl _) _ _ _ _ _⟩
            · rw [e2] at HE
              have HQ1 := Lib.hid (show (!hasL 45 (headL 43 t.data.toList) || (sp 46 (restL 45 (headL 43 t.data.toList))).all preId) = true by rw [← HE.out]; simp)
              clear HE e2
              go_wp2_with fail
              generalize t1.extract 0 k2 = t2 at *
              refine (rsplit_any 46 _ (by omega) _).mono ?_
              rintro _ w5 ⟨v, rfl, ⟨ad, cap, rfl, hc⟩, hb5⟩
              replace hR := hR.below hb5
              replace hv := hv.below hb5
              replace hb := hb.trans (hb5.mono hb.size)
              have hX : partsD 46 t2 = (sp 46 (headL 45 (headL 43 t.data.toList))).map mkB := by rw [HT2.out]; rfl
              have hxs := fun x (hx : x ∈ partsD 46 t2) => Nat.le_trans (partsD_size hx) ht2s
              generalize partsD 46 t2 = xs at *
              by_cases h3 : xs.length = 3
              · obtain ⟨xa, xb, xc, rfl⟩ : ∃ a b c, xs = [a, b, c] := by
                  match xs, h3 with
                  | [a, b, c], _ => exact ⟨a, b, c, rfl⟩
                obtain ⟨g, rfl, hg, hcell⟩ := hc (by simp)
                have r0 : w5.cell? ⟨g, 0, none⟩ = some (.string xa) := hcell 0 (by simp)
                have r1 : w5.cell? ⟨g, 1, none⟩ = some (.string xb) := hcell 1 (by simp)
                have r2 : w5.cell? ⟨g, 2, none⟩ = some (.string xc) := hcell 2 (by simp)
                have hsa := hxs xa (by simp)
                have hsb := hxs xb (by simp)
                have hsc := hxs xc (by simp)
                have hgne : w.heap.size + 1 ≠ g := by
                  intro e
                  have := hv.c0.cell
                  rw [e, r0] at this
                  cases this
                have HS : Hid (sp 46 (headL 45 (headL 43 t.data.toList)) = [xa.data.toList, xb.data.toList, xc.data.toList]) := Lib.hid (three_of hX)
                clear hcell hX hxs hc h3 hb5
                go_wp2_with fail
                refine (rnumber_any xa (by omega) _).mono ?_
                rintro _ w' ⟨rfl, rfl⟩
                obtain ⟨na, hna⟩ : ∃ n, n = numR xa.data.toList := ⟨_, rfl⟩
                rw [← hna]
                have HNa := Lib.hid hna
                clear hna
                have s0 := hv.c0.cell
                have t0 := hv.c0.frozen
                replace hR := hR.set (b := w.heap.size + 1) (o := 0) (by omega) (.int .i64 na)
                replace hv := hv.set0 na
                replace hb := hb.setCell (p := ⟨w.heap.size + 1, 0, none⟩) (by simp) (.int .i64 na)
                have r1' : (w5.setCell ⟨w.heap.size + 1, 0, none⟩ (.int .i64 na)).cell? ⟨g, 1, none⟩ = some (.string xb) := (cell_far hgne _).trans r1
                have r2' : (w5.setCell ⟨w.heap.size + 1, 0, none⟩ (.int .i64 na)).cell? ⟨g, 2, none⟩ = some (.string xc) := (cell_far hgne _).trans r2
                go_wp2_with fail
                clear r0 s0 t0
                generalize w5.setCell ⟨w.heap.size + 1, 0, none⟩ (.int .i64 na) = w5' at *
                clear r1; have r1 := r1'; clear r1'
                clear r2; have r2 := r2'; clear r2'
                go_wp2_with fail
                refine (rnumber_any xb (by omega) _).mono ?_
                rintro _ w' ⟨rfl, rfl⟩
                obtain ⟨nb, hnb⟩ : ∃ n, n = numR xb.data.toList := ⟨_, rfl⟩
                rw [← hnb]
                have HNb := Lib.hid hnb
                clear hnb
                have s1 := hv.c1.cell
                have t1 := hv.c1.frozen
                replace hR := hR.set (b := w.heap.size + 1) (o := 1) (by omega) (.int .i64 nb)
                replace hv := hv.set1 nb
                replace hb := hb.setCell (p := ⟨w.heap.size + 1, 1, none⟩) (by simp) (.int .i64 nb)
                have r2' : (w5'.setCell ⟨w.heap.size + 1, 1, none⟩ (.int .i64 nb)).cell? ⟨g, 2, none⟩ = some (.string xc) := (cell_far hgne _).trans r2
                go_wp2_with fail
                clear r1 s1 t1
                generalize w5'.setCell ⟨w.heap.size + 1, 1, none⟩ (.int .i64 nb) = w5'' at *
                clear r2; have r2 := r2'; clear r2'
                go_wp2_with fail
                refine (rnumber_any xc (by omega) _).mono ?_
                rintro _ w' ⟨rfl, rfl⟩
                obtain ⟨nc, hnc⟩ : ∃ n, n = numR xc.data.toList := ⟨_, rfl⟩
                rw [← hnc]
                have HNc := Lib.hid hnc
                clear hnc
                have s2 := hv.c2.cell
                have t2 := hv.c2.frozen
                replace hR := hR.set (b := w.heap.size + 1) (o := 2) (by omega) (.int .i64 nc)
                replace hv := hv.set2 nc
                replace hb := hb.setCell (p := ⟨w.heap.size + 1, 2, none⟩) (by simp) (.int .i64 nc)
                cases ea : numOk xa.data.toList
                · have q0 := hR.c0.cell
                  have q1 := hR.c1.cell
                  have q2 := hR.c2.cell
                  have q3 := hR.c3.cell
                  have q4 := hR.c4.cell
                  have f0 := hR.c0.frozen
                  have f1 := hR.c1.frozen
                  have f2 := hR.c2.frozen
                  have f3 := hR.c3.frozen
                  have f4 := hR.c4.frozen
                  have H := Lib.hid (show okV s.data.toList = false by rw [HLs.out, okV_v, HS.out]; simp [ea])
                  have u0 := hv.c0.cell
                  have u1 := hv.c1.cell
                  have u2 := hv.c2.cell
                  have u3 := hv.c3.cell
                  have u4 := hv.c4.cell
                  have fu0 := hv.c0.frozen
                  have fu1 := hv.c1.frozen
                  have fu2 := hv.c2.frozen
                  have fu3 := hv.c3.frozen
                  have fu4 := hv.c4.frozen
                  have p0 : na < 0 := by rw [HNa.out, numR_no ea]; omega
                  go_wp2
                  have z := hR.full 0 0 0 ⟨#[]⟩ ⟨#[]⟩
                  have y0 := z.c0.cell
                  have y1 := z.c1.cell
                  have y2 := z.c2.cell
                  have y3 := z.c3.cell
                  have y4 := z.c4.cell
                  exact bodyPost_ret (v := .tuple #[.agg #[.int .i64 0, .int .i64 0, .int .i64 0, .string ⟨#[]⟩, .string ⟨#[]⟩], .int .i64 30]) (by simp [results, Tryz.results38, go_sem, y0, y1, y2, y3, y4]) rfl ⟨ret_none H.out, Below.five hb (Nat.le_refl _) _ _ _ _ _⟩
                · cases eb : numOk xb.data.toList
                  · have q0 := hR.c0.cell
                    have q1 := hR.c1.cell
                    have q2 := hR.c2.cell
                    have q3 := hR.c3.cell
                    have q4 := hR.c4.cell
                    have f0 := hR.c0.frozen
                    have f1 := hR.c1.frozen
                    have f2 := hR.c2.frozen
                    have f3 := hR.c3.frozen
                    have f4 := hR.c4.frozen
                    have H := Lib.hid (show okV s.data.toList = false by rw [HLs.out, okV_v, HS.out]; simp [eb])
                    have u0 := hv.c0.cell
                    have u1 := hv.c1.cell
                    have u2 := hv.c2.cell
                    have u3 := hv.c3.cell
                    have u4 := hv.c4.cell
                    have fu0 := hv.c0.frozen
                    have fu1 := hv.c1.frozen
                    have fu2 := hv.c2.frozen
                    have fu3 := hv.c3.frozen
                    have fu4 := hv.c4.frozen
                    have p0 : ¬ na < 0 := by rw [HNa.out, numR_yes ea]; omega
                    have p1 : nb < 0 := by rw [HNb.out, numR_no eb]; omega
                    go_wp2
                    have z := hR.full 0 0 0 ⟨#[]⟩ ⟨#[]⟩
                    have y0 := z.c0.cell
                    have y1 := z.c1.cell
                    have y2 := z.c2.cell
                    have y3 := z.c3.cell
                    have y4 := z.c4.cell
                    exact bodyPost_ret (v := .tuple #[.agg #[.int .i64 0, .int .i64 0, .int .i64 0, .string ⟨#[]⟩, .string ⟨#[]⟩], .int .i64 30]) (by simp [results, Tryz.results38, go_sem, y0, y1, y2, y3, y4]) rfl ⟨ret_none H.out, Below.five hb (Nat.le_refl _) _ _ _ _ _⟩
                  · cases ec : numOk xc.data.toList
                    · have q0 := hR.c0.cell
                      have q1 := hR.c1.cell
                      have q2 := hR.c2.cell
                      have q3 := hR.c3.cell
                      have q4 := hR.c4.cell
                      have f0 := hR.c0.frozen
                      have f1 := hR.c1.frozen
                      have f2 := hR.c2.frozen
                      have f3 := hR.c3.frozen
                      have f4 := hR.c4.frozen
                      have H := Lib.hid (show okV s.data.toList = false by rw [HLs.out, okV_v, HS.out]; simp [ec])
                      have u0 := hv.c0.cell
                      have u1 := hv.c1.cell
                      have u2 := hv.c2.cell
                      have u3 := hv.c3.cell
                      have u4 := hv.c4.cell
                      have fu0 := hv.c0.frozen
                      have fu1 := hv.c1.frozen
                      have fu2 := hv.c2.frozen
                      have fu3 := hv.c3.frozen
                      have fu4 := hv.c4.frozen
                      have p0 : ¬ na < 0 := by rw [HNa.out, numR_yes ea]; omega
                      have p1 : ¬ nb < 0 := by rw [HNb.out, numR_yes eb]; omega
                      have p2 : nc < 0 := by rw [HNc.out, numR_no ec]; omega
                      go_wp2
                      have z := hR.full 0 0 0 ⟨#[]⟩ ⟨#[]⟩
                      have y0 := z.c0.cell
                      have y1 := z.c1.cell
                      have y2 := z.c2.cell
                      have y3 := z.c3.cell
                      have y4 := z.c4.cell
                      exact bodyPost_ret (v := .tuple #[.agg #[.int .i64 0, .int .i64 0, .int .i64 0, .string ⟨#[]⟩, .string ⟨#[]⟩], .int .i64 30]) (by simp [results, Tryz.results38, go_sem, y0, y1, y2, y3, y4]) rfl ⟨ret_none H.out, Below.five hb (Nat.le_refl _) _ _ _ _ _⟩
                    · have q0 := hR.c0.cell
                      have q1 := hR.c1.cell
                      have q2 := hR.c2.cell
                      have q3 := hR.c3.cell
                      have q4 := hR.c4.cell
                      have f0 := hR.c0.frozen
                      have f1 := hR.c1.frozen
                      have f2 := hR.c2.frozen
                      have f3 := hR.c3.frozen
                      have f4 := hR.c4.frozen
                      have u0 := hv.c0.cell
                      have u1 := hv.c1.cell
                      have u2 := hv.c2.cell
                      have u3 := hv.c3.cell
                      have u4 := hv.c4.cell
                      have fu0 := hv.c0.frozen
                      have fu1 := hv.c1.frozen
                      have fu2 := hv.c2.frozen
                      have fu3 := hv.c3.frozen
                      have fu4 := hv.c4.frozen
                      have H := Lib.hid (show okV s.data.toList = true by rw [HLs.out, okV_v, HS.out, HQ1.out, HQ2.out, decide_eq_true (show t.data.toList.length + 1 ≤ 60 by rw [size_data]; exact hts)]; simp [ea, eb, ec])
                      have HZ := Lib.hid (And.intro (HNa.out.trans (numR_yes ea)) (And.intro (HNb.out.trans (numR_yes eb)) (HNc.out.trans (numR_yes ec))))
                      have p0 : ¬ na < 0 := by rw [HZ.out.1]; omega
                      have p1 : ¬ nb < 0 := by rw [HZ.out.2.1]; omega
                      have p2 : ¬ nc < 0 := by rw [HZ.out.2.2]; omega
                      go_wp2
                      have z := hR.full na nb nc p ⟨#[]⟩
                      have y0 := z.c0.cell
                      have y1 := z.c1.cell
                      have y2 := z.c2.cell
                      have y3 := z.c3.cell
                      have y4 := z.c4.cell
                      exact bodyPost_ret (v := .tuple #[.agg #[.int .i64 na, .int .i64 nb, .int .i64 nc, .string p, .string ⟨#[]⟩], .int .i64 0]) (by simp [results, Tryz.results38, go_sem, y0, y1, y2, y3, y4]) rfl ⟨ret_some' HLs.out H.out HS.out HZ.out.1 HZ.out.2.1 HZ.out.2.2 HPm.out HMm.out, Below.five hb (Nat.le_refl _) _ _ _ _ _⟩
              · have hn3 : ((xs.length : Int) == 3) = false := by rw [beq_eq_false_iff_ne]; omega
                have q0 := hR.c0.cell
                have q1 := hR.c1.cell
                have q2 := hR.c2.cell
                have q3 := hR.c3.cell
                have q4 := hR.c4.cell
                have f0 := hR.c0.frozen
                have f1 := hR.c1.frozen
                have f2 := hR.c2.frozen
                have f3 := hR.c3.frozen
                have f4 := hR.c4.frozen
                have H := Lib.hid (show okV s.data.toList = false by rw [HLs.out, okV_v, len_three hX h3]; simp)
                have hn4 : ((xs.length : Int) != 3) = true := by rw [bne, hn3]; rfl
                clear hX hxs hc h3
                go_wp2
                have z := hR.full 0 0 0 ⟨#[]⟩ ⟨#[]⟩
                have y0 := z.c0.cell
                have y1 := z.c1.cell
                have y2 := z.c2.cell
                have y3 := z.c3.cell
                have y4 := z.c4.cell
                exact bodyPost_ret (v := .tuple #[.agg #[.int .i64 0, .int .i64 0, .int .i64 0, .string ⟨#[]⟩, .string ⟨#[]⟩], .int .i64 30]) (by simp [results, Tryz.results38, go_sem, y0, y1, y2, y3, y4]) rfl ⟨ret_none H.out, Below.five hb (Nat.le_refl _) _ _ _ _ _⟩
        · have hk := find_has b43
          have hM := find_back b43
          have HT1' := find_front 43 t
          generalize findN 43 t.data.toList = k1 at *
          have HT1 := Lib.hid (show (t.extract 0 k1).data.toList = headL 43 t.data.toList by rw [HT1']; rfl)
          have HMm := Lib.hid hM
          have HB43 := Lib.hid b43
          clear hM HT1' b43
          have hms : (t.extract (k1 + 1) t.size).size ≤ 60 := Nat.le_trans (extract_size_le _ _ _) (by omega)
          have ht1s : (t.extract 0 k1).size ≤ 60 := Nat.le_trans (extract_size_le _ _ _) (by omega)
          have u4 := hv.c4.cell
          have v4 := hv.c4.frozen
          replace hR := hR.set (b := w.heap.size + 1) (o := 4) (by omega) (.string (t.extract (k1 + 1) t.size))
          replace hv := hv.set4 (t.extract (k1 + 1) t.size)
          replace hb := hb.setCell (p := ⟨w.heap.size + 1, 4, none⟩) (by simp) (.string (t.extract (k1 + 1) t.size))
          go_wp2_with fail
          clear u4 v4
          refine (ridentifiers_f _ (by omega) _).mono ?_
          rintro _ w3 ⟨rfl, hb3⟩
          replace hR := hR.below hb3
          replace hv := hv.below hb3
          replace hb := hb.trans (hb3.mono hb.size)
          clear hb3
          obtain ⟨m, hme⟩ : ∃ m, m = t.extract (k1 + 1) t.size := ⟨_, rfl⟩
          rw [← hme] at HMm hms hv ⊢
          clear hme
          have HE := Lib.hid (show everyD m idn = (sp 46 (restL 43 t.data.toList)).all idn by rw [HMm.out]; rfl)
          cases e1 : everyD m idn
          · rw [e1] at HE
            have q0 := hR.c0.cell
            have q1 := hR.c1.cell
            have q2 := hR.c2.cell
            have q3 := hR.c3.cell
            have q4 := hR.c4.cell
            have f0 := hR.c0.frozen
            have f1 := hR.c1.frozen
            have f2 := hR.c2.frozen
            have f3 := hR.c3.frozen
            have f4 := hR.c4.frozen
            have H := Lib.hid (show okV s.data.toList = false by rw [HLs.out, okV_v, HB43.out, ← HE.out]; simp)
            go_wp2
            have z := hR.full 0 0 0 ⟨#[]⟩ ⟨#[]⟩
            have y0 := z.c0.cell
            have y1 := z.c1.cell
            have y2 := z.c2.cell
            have y3 := z.c3.cell
            have y4 := z.c4.cell
            exact bodyPost_ret (v := .tuple #[.agg #[.int .i64 0, .int .i64 0, .int .i64 0, .string ⟨#[]⟩, .string ⟨#[]⟩], .int .i64 30]) (by simp [results, Tryz.results38, go_sem, y0, y1, y2, y3, y4]) rfl ⟨ret_none H.out, Below.five hb (Nat.le_refl _) _ _ _ _ _⟩
          · rw [e1] at HE
            have HQ2 := Lib.hid (show (!hasL 43 t.data.toList || (sp 46 (restL 43 t.data.toList)).all idn) = true by rw [← HE.out]; simp)
            clear HE e1
            go_wp2_with fail
            generalize t.extract 0 k1 = t1 at *
            refine (rfind_any t1 45 (by omega) _).mono ?_
            rintro _ w' ⟨rfl, rfl⟩
            have hf := find_front 45 t1
            rw [HT1.out] at hf
            cases b45 : hasL 45 t1.data.toList
            · have hk := find_hasnt b45
              have HT2 := Lib.hid (show t1.extract 0 t1.size = mkB (headL 45 (headL 43 t.data.toList)) by rw [← hk, find_front, HT1.out])
              have HQ1 := Lib.hid (show (!hasL 45 (headL 43 t.data.toList) || (sp 46 (restL 45 (headL 43 t.data.toList))).all preId) = true by rw [← HT1.out, b45]; rfl)
              have HPm := Lib.hid (show (⟨#[]⟩ : ByteArray) = mkB (restL 45 (headL 43 t.data.toList)) by rw [← HT1.out]; exact restL_no b45)
              rw [hk]
              clear hf hk b45
              go_wp2_with fail
              obtain ⟨t2, e2⟩ : ∃ x, x = t1 := ⟨_, rfl⟩
              replace HT2 := Lib.hid (show t2 = mkB (headL 45 (headL 43 t.data.toList)) by rw [e2, ← HT2.out, extract_all])
              have ht2s : t2.size ≤ 60 := by rw [e2]; exact ht1s
              rw [← e2]
              clear e2
              refine (rsplit_any 46 _ (by omega) _).mono ?_
              rintro _ w5 ⟨v, rfl, ⟨ad, cap, rfl, hc⟩, hb5⟩
              replace hR := hR.below hb5
              replace hv := hv.below hb5
              replace hb := hb.trans (hb5.mono hb.size)
              have hX : partsD 46 t2 = (sp 46 (headL 45 (headL 43 t.data.toList))).map mkB := by rw [HT2.out]; rfl
              have hxs := fun x (hx : x ∈ partsD 46 t2) => Nat.le_trans (partsD_size hx) ht2s
              generalize partsD 46 t2 = xs at *
              by_cases h3 : xs.length = 3
              · obtain ⟨xa, xb, xc, rfl⟩ : ∃ a b c, xs = [a, b, c] := by
                  match xs, h3 with
                  | [a, b, c], _ => exact ⟨a, b, c, rfl⟩
                obtain ⟨g, rfl, hg, hcell⟩ := hc (by simp)
                have r0 : w5.cell? ⟨g, 0, none⟩ = some (.string xa) := hcell 0 (by simp)
                have r1 : w5.cell? ⟨g, 1, none⟩ = some (.string xb) := hcell 1 (by simp)
                have r2 : w5.cell? ⟨g, 2, none⟩ = some (.string xc) := hcell 2 (by simp)
                have hsa := hxs xa (by simp)
                have hsb := hxs xb (by simp)
                have hsc := hxs xc (by simp)
                have hgne : w.heap.size + 1 ≠ g := by
                  intro e
                  have := hv.c0.cell
                  rw [e, r0] at this
                  cases this
                have HS : Hid (sp 46 (headL 45 (headL 43 t.data.toList)) = [xa.data.toList, xb.data.toList, xc.data.toList]) := Lib.hid (three_of hX)
                clear hcell hX hxs hc h3 hb5
                go_wp2_with fail
                refine (rnumber_any xa (by omega) _).mono ?_
                rintro _ w' ⟨rfl, rfl⟩
                obtain ⟨na, hna⟩ : ∃ n, n = numR xa.data.toList := ⟨_, rfl⟩
                rw [← hna]
                have HNa := Lib.hid hna
                clear hna
                have s0 := hv.c0.cell
                have t0 := hv.c0.frozen
                replace hR := hR.set (b := w.heap.size + 1) (o := 0) (by omega) (.int .i64 na)
                replace hv := hv.set0 na
                replace hb := hb.setCell (p := ⟨w.heap.size + 1, 0, none⟩) (by simp) (.int .i64 na)
                have r1' : (w5.setCell ⟨w.heap.size + 1, 0, none⟩ (.int .i64 na)).cell? ⟨g, 1, none⟩ = some (.string xb) := (cell_far hgne _).trans r1
                have r2' : (w5.setCell ⟨w.heap.size + 1, 0, none⟩ (.int .i64 na)).cell? ⟨g, 2, none⟩ = some (.string xc) := (cell_far hgne _).trans r2
                go_wp2_with fail
                clear r0 s0 t0
                generalize w5.setCell ⟨w.heap.size + 1, 0, none⟩ (.int .i64 na) = w5' at *
                clear r1; have r1 := r1'; clear r1'
                clear r2; have r2 := r2'; clear r2'
                go_wp2_with fail
                refine (rnumber_any xb (by omega) _).mono ?_
                rintro _ w' ⟨rfl, rfl⟩
                obtain ⟨nb, hnb⟩ : ∃ n, n = numR xb.data.toList := ⟨_, rfl⟩
                rw [← hnb]
                have HNb := Lib.hid hnb
                clear hnb
                have s1 := hv.c1.cell
                have t1 := hv.c1.frozen
                replace hR := hR.set (b := w.heap.size + 1) (o := 1) (by omega) (.int .i64 nb)
                replace hv := hv.set1 nb
                replace hb := hb.setCell (p := ⟨w.heap.size + 1, 1, none⟩) (by simp) (.int .i64 nb)
                have r2' : (w5'.setCell ⟨w.heap.size + 1, 1, none⟩ (.int .i64 nb)).cell? ⟨g, 2, none⟩ = some (.string xc) := (cell_far hgne _).trans r2
                go_wp2_with fail
                clear r1 s1 t1
                generalize w5'.setCell ⟨w.heap.size + 1, 1, none⟩ (.int .i64 nb) = w5'' at *
                clear r2; have r2 := r2'; clear r2'
                go_wp2_with fail
                refine (rnumber_any xc (by omega) _).mono ?_
                rintro _ w' ⟨rfl, rfl⟩
                obtain ⟨nc, hnc⟩ : ∃ n, n = numR xc.data.toList := ⟨_, rfl⟩
                rw [← hnc]
                have HNc := Lib.hid hnc
                clear hnc
                have s2 := hv.c2.cell
                have t2 := hv.c2.frozen
                replace hR := hR.set (b := w.heap.size + 1) (o := 2) (by omega) (.int .i64 nc)
                replace hv := hv.set2 nc
                replace hb := hb.setCell (p := ⟨w.heap.size + 1, 2, none⟩) (by simp) (.int .i64 nc)
                cases ea : numOk xa.data.toList
                · have q0 := hR.c0.cell
                  have q1 := hR.c1.cell
                  have q2 := hR.c2.cell
                  have q3 := hR.c3.cell
                  have q4 := hR.c4.cell
                  have f0 := hR.c0.frozen
                  have f1 := hR.c1.frozen
                  have f2 := hR.c2.frozen
                  have f3 := hR.c3.frozen
                  have f4 := hR.c4.frozen
                  have H := Lib.hid (show okV s.data.toList = false by rw [HLs.out, okV_v, HS.out]; simp [ea])
                  have u0 := hv.c0.cell
                  have u1 := hv.c1.cell
                  have u2 := hv.c2.cell
                  have u3 := hv.c3.cell
                  have u4 := hv.c4.cell
                  have fu0 := hv.c0.frozen
                  have fu1 := hv.c1.frozen
                  have fu2 := hv.c2.frozen
                  have fu3 := hv.c3.frozen
                  have fu4 := hv.c4.frozen
                  have p0 : na < 0 := by rw [HNa.out, numR_no ea]; omega
                  go_wp2
                  have z := hR.full 0 0 0 ⟨#[]⟩ ⟨#[]⟩
                  have y0 := z.c0.cell
                  have y1 := z.c1.cell
                  have y2 := z.c2.cell
                  have y3 := z.c3.cell
                  have y4 := z.c4.cell
                  exact bodyPost_ret (v := .tuple #[.agg #[.int .i64 0, .int .i64 0, .int .i64 0, .string ⟨#[]⟩, .string ⟨#[]⟩], .int .i64 30]) (by simp [results, Tryz.results38, go_sem, y0, y1, y2, y3, y4]) rfl ⟨ret_none H.out, Below.five hb (Nat.le_refl _) _ _ _ _ _⟩
                · cases eb : numOk xb.data.toList
                  · have q0 := hR.c0.cell
                    have q1 := hR.c1.cell
                    have q2 := hR.c2.cell
                    have q3 := hR.c3.cell
                    have q4 := hR.c4.cell
                    have f0 := hR.c0.frozen
                    have f1 := hR.c1.frozen
                    have f2 := hR.c2.frozen
                    have f3 := hR.c3.frozen
                    have f4 := hR.c4.frozen
                    have H := Lib.hid (show okV s.data.toList = false by rw [HLs.out, okV_v, HS.out]; simp [eb])
                    have u0 := hv.c0.cell
                    have u1 := hv.c1.cell
                    have u2 := hv.c2.cell
                    have u3 := hv.c3.cell
                    have u4 := hv.c4.cell
                    have fu0 := hv.c0.frozen
                    have fu1 := hv.c1.frozen
                    have fu2 := hv.c2.frozen
                    have fu3 := hv.c3.frozen
                    have fu4 := hv.c4.frozen
                    have p0 : ¬ na < 0 := by rw [HNa.out, numR_yes ea]; omega
                    have p1 : nb < 0 := by rw [HNb.out, numR_no eb]; omega
                    go_wp2
                    have z := hR.full 0 0 0 ⟨#[]⟩ ⟨#[]⟩
                    have y0 := z.c0.cell
                    have y1 := z.c1.cell
                    have y2 := z.c2.cell
                    have y3 := z.c3.cell
                    have y4 := z.c4.cell
                    exact bodyPost_ret (v := .tuple #[.agg #[.int .i64 0, .int .i64 0, .int .i64 0, .string ⟨#[]⟩, .string ⟨#[]⟩], .int .i64 30]) (by simp [results, Tryz.results38, go_sem, y0, y1, y2, y3, y4]) rfl ⟨ret_none H.out, Below.five hb (Nat.le_refl _) _ _ _ _ _⟩
                  · cases ec : numOk xc.data.toList
                    · have q0 := hR.c0.cell
                      have q1 := hR.c1.cell
                      have q2 := hR.c2.cell
                      have q3 := hR.c3.cell
                      have q4 := hR.c4.cell
                      have f0 := hR.c0.frozen
                      have f1 := hR.c1.frozen
                      have f2 := hR.c2.frozen
                      have f3 := hR.c3.frozen
                      have f4 := hR.c4.frozen
                      have H := Lib.hid (show okV s.data.toList = false by rw [HLs.out, okV_v, HS.out]; simp [ec])
                      have u0 := hv.c0.cell
                      have u1 := hv.c1.cell
                      have u2 := hv.c2.cell
                      have u3 := hv.c3.cell
                      have u4 := hv.c4.cell
                      have fu0 := hv.c0.frozen
                      have fu1 := hv.c1.frozen
                      have fu2 := hv.c2.frozen
                      have fu3 := hv.c3.frozen
                      have fu4 := hv.c4.frozen
                      have p0 : ¬ na < 0 := by rw [HNa.out, numR_yes ea]; omega
                      have p1 : ¬ nb < 0 := by rw [HNb.out, numR_yes eb]; omega
                      have p2 : nc < 0 := by rw [HNc.out, numR_no ec]; omega
                      go_wp2
                      have z := hR.full 0 0 0 ⟨#[]⟩ ⟨#[]⟩
                      have y0 := z.c0.cell
                      have y1 := z.c1.cell
                      have y2 := z.c2.cell
                      have y3 := z.c3.cell
                      have y4 := z.c4.cell
                      exact bodyPost_ret (v := .tuple #[.agg #[.int .i64 0, .int .i64 0, .int .i64 0, .string ⟨#[]⟩, .string ⟨#[]⟩], .int .i64 30]) (by simp [results, Tryz.results38, go_sem, y0, y1, y2, y3, y4]) rfl ⟨ret_none H.out, Below.five hb (Nat.le_refl _) _ _ _ _ _⟩
                    · have q0 := hR.c0.cell
                      have q1 := hR.c1.cell
                      have q2 := hR.c2.cell
                      have q3 := hR.c3.cell
                      have q4 := hR.c4.cell
                      have f0 := hR.c0.frozen
                      have f1 := hR.c1.frozen
                      have f2 := hR.c2.frozen
                      have f3 := hR.c3.frozen
                      have f4 := hR.c4.frozen
                      have u0 := hv.c0.cell
                      have u1 := hv.c1.cell
                      have u2 := hv.c2.cell
                      have u3 := hv.c3.cell
                      have u4 := hv.c4.cell
                      have fu0 := hv.c0.frozen
                      have fu1 := hv.c1.frozen
                      have fu2 := hv.c2.frozen
                      have fu3 := hv.c3.frozen
                      have fu4 := hv.c4.frozen
                      have H := Lib.hid (show okV s.data.toList = true by rw [HLs.out, okV_v, HS.out, HQ1.out, HQ2.out, decide_eq_true (show t.data.toList.length + 1 ≤ 60 by rw [size_data]; exact hts)]; simp [ea, eb, ec])
                      have HZ := Lib.hid (And.intro (HNa.out.trans (numR_yes ea)) (And.intro (HNb.out.trans (numR_yes eb)) (HNc.out.trans (numR_yes ec))))
                      have p0 : ¬ na < 0 := by rw [HZ.out.1]; omega
                      have p1 : ¬ nb < 0 := by rw [HZ.out.2.1]; omega
                      have p2 : ¬ nc < 0 := by rw [HZ.out.2.2]; omega
                      go_wp2
                      have z := hR.full na nb nc ⟨#[]⟩ m
                      have y0 := z.c0.cell
                      have y1 := z.c1.cell
                      have y2 := z.c2.cell
                      have y3 := z.c3.cell
                      have y4 := z.c4.cell
                      exact bodyPost_ret (v := .tuple #[.agg #[.int .i64 na, .int .i64 nb, .int .i64 nc, .string ⟨#[]⟩, .string m], .int .i64 0]) (by simp [results, Tryz.results38, go_sem, y0, y1, y2, y3, y4]) rfl ⟨ret_some' HLs.out H.out HS.out HZ.out.1 HZ.out.2.1 HZ.out.2.2 HPm.out HMm.out, Below.five hb (Nat.le_refl _) _ _ _ _ _⟩
              · have hn3 : ((xs.length : Int) == 3) = false := by rw [beq_eq_false_iff_ne]; omega
                have q0 := hR.c0.cell
                have q1 := hR.c1.cell
                have q2 := hR.c2.cell
                have q3 := hR.c3.cell
                have q4 := hR.c4.cell
                have f0 := hR.c0.frozen
                have f1 := hR.c1.frozen
                have f2 := hR.c2.frozen
                have f3 := hR.c3.frozen
                have f4 := hR.c4.frozen
                have H := Lib.hid (show okV s.data.toList = false by rw [HLs.out, okV_v, len_three hX h3]; simp)
                have hn4 : ((xs.length : Int) != 3) = true := by rw [bne, hn3]; rfl
                clear hX hxs hc h3
                go_wp2
                have z := hR.full 0 0 0 ⟨#[]⟩ ⟨#[]⟩
                have y0 := z.c0.cell
                have y1 := z.c1.cell
                have y2 := z.c2.cell
                have y3 := z.c3.cell
                have y4 := z.c4.cell
                exact bodyPost_ret (v := .tuple #[.agg #[.int .i64 0, .int .i64 0, .int .i64 0, .string ⟨#[]⟩, .string ⟨#[]⟩], .int .i64 30]) (by simp [results, Tryz.results38, go_sem, y0, y1, y2, y3, y4]) rfl ⟨ret_none H.out, Below.five hb (Nat.le_refl _) _ _ _ _ _⟩
            · have hk := find_has b45
              have hP := find_back b45
              have HT2' := find_front 45 t1
              generalize findN 45 t1.data.toList = k2 at *
              have HT2 := Lib.hid (show t1.extract 0 k2 = mkB (headL 45 (headL 43 t.data.toList)) by rw [HT2', HT1.out])
              have HPm := Lib.hid (show t1.extract (k2 + 1) t1.size = mkB (restL 45 (headL 43 t.data.toList)) by rw [hP, HT1.out])
              have HB45 := Lib.hid (show hasL 45 (headL 43 t.data.toList) = true by rw [← HT1.out]; exact b45)
              clear hf hP HT2' b45
              have hps : (t1.extract (k2 + 1) t1.size).size ≤ 60 := Nat.le_trans (extract_size_le _ _ _) (by omega)
              have ht2s : (t1.extract 0 k2).size ≤ 60 := Nat.le_trans (extract_size_le _ _ _) (by omega)
              have u3 := hv.c3.cell
              have v3 := hv.c3.frozen
              replace hR := hR.set (b := w.heap.size + 1) (o := 3) (by omega) (.string (t1.extract (k2 + 1) t1.size))
              replace hv := hv.set3 (t1.extract (k2 + 1) t1.size)
              replace hb := hb.setCell (p := ⟨w.heap.size + 1, 3, none⟩) (by simp) (.string (t1.extract (k2 + 1) t1.size))
              go_wp2_with fail
              clear u3 v3
              refine (ridentifiers_t _ (by omega) _).mono ?_
              rintro _ w4 ⟨rfl, hb4⟩
              replace hR := hR.below hb4
              replace hv := hv.below hb4
              replace hb := hb.trans (hb4.mono hb.size)
              clear hb4
              obtain ⟨p, hpe⟩ : ∃ p, p = t1.extract (k2 + 1) t1.size := ⟨_, rfl⟩
              rw [← hpe] at HPm hps hv ⊢
              clear hpe
              have HE := Lib.hid (show everyD p preId = (sp 46 (restL 45 (headL 43 t.data.toList))).all preId by rw [HPm.out]; rfl)
              cases e2 : everyD p preId
              · rw [e2] at HE
                have q0 := hR.c0.cell
                have q1 := hR.c1.cell
                have q2 := hR.c2.cell
                have q3 := hR.c3.cell
                have q4 := hR.c4.cell
                have f0 := hR.c0.frozen
                have f1 := hR.c1.frozen
                have f2 := hR.c2.frozen
                have f3 := hR.c3.frozen
                have f4 := hR.c4.frozen
                have H := Lib.hid (show okV s.data.toList = false by rw [HLs.out, okV_v, HB45.out, ← HE.out]; simp)
                go_wp2
                have z := hR.full 0 0 0 ⟨#[]⟩ ⟨#[]⟩
                have y0 := z.c0.cell
                have y1 := z.c1.cell
                have y2 := z.c2.cell
                have y3 := z.c3.cell
                have y4 := z.c4.cell
                exact bodyPost_ret (v := .tuple #[.agg #[.int .i64 0, .int .i64 0, .int .i64 0, .string ⟨#[]⟩, .string ⟨#[]⟩], .int .i64 30]) (by simp [results, Tryz.results38, go_sem, y0, y1, y2, y3, y4]) rfl ⟨ret_none H.out, Below.five hb (Nat.le_refl _) _ _ _ _ _⟩
              · rw [e2] at HE
                have HQ1 := Lib.hid (show (!hasL 45 (headL 43 t.data.toList) || (sp 46 (restL 45 (headL 43 t.data.toList))).all preId) = true by rw [← HE.out]; simp)
                clear HE e2
                go_wp2_with fail
                generalize t1.extract 0 k2 = t2 at *
                refine (rsplit_any 46 _ (by omega) _).mono ?_
                rintro _ w5 ⟨v, rfl, ⟨ad, cap, rfl, hc⟩, hb5⟩
                replace hR := hR.below hb5
                replace hv := hv.below hb5
                replace hb := hb.trans (hb5.mono hb.size)
                have hX : partsD 46 t2 = (sp 46 (headL 45 (headL 43 t.data.toList))).map mkB := by rw [HT2.out]; rfl
                have hxs := fun x (hx : x ∈ partsD 46 t2) => Nat.le_trans (partsD_size hx) ht2s
                generalize partsD 46 t2 = xs at *
                by_cases h3 : xs.length = 3
                · obtain ⟨xa, xb, xc, rfl⟩ : ∃ a b c, xs = [a, b, c] := by
                    match xs, h3 with
                    | [a, b, c], _ => exact ⟨a, b, c, rfl⟩
                  obtain ⟨g, rfl, hg, hcell⟩ := hc (by simp)
                  have r0 : w5.cell? ⟨g, 0, none⟩ = some (.string xa) := hcell 0 (by simp)
                  have r1 : w5.cell? ⟨g, 1, none⟩ = some (.string xb) := hcell 1 (by simp)
                  have r2 : w5.cell? ⟨g, 2, none⟩ = some (.string xc) := hcell 2 (by simp)
                  have hsa := hxs xa (by simp)
                  have hsb := hxs xb (by simp)
                  have hsc := hxs xc (by simp)
                  have hgne : w.heap.size + 1 ≠ g := by
                    intro e
                    have := hv.c0.cell
                    rw [e, r0] at this
                    cases this
                  have HS : Hid (sp 46 (headL 45 (headL 43 t.data.toList)) = [xa.data.toList, xb.data.toList, xc.data.toList]) := Lib.hid (three_of hX)
                  clear hcell hX hxs hc h3 hb5
                  go_wp2_with fail
                  refine (rnumber_any xa (by omega) _).mono ?_
                  rintro _ w' ⟨rfl, rfl⟩
                  obtain ⟨na, hna⟩ : ∃ n, n = numR xa.data.toList := ⟨_, rfl⟩
                  rw [← hna]
                  have HNa := Lib.hid hna
                  clear hna
                  have s0 := hv.c0.cell
                  have t0 := hv.c0.frozen
                  replace hR := hR.set (b := w.heap.size + 1) (o := 0) (by omega) (.int .i64 na)
                  replace hv := hv.set0 na
                  replace hb := hb.setCell (p := ⟨w.heap.size + 1, 0, none⟩) (by simp) (.int .i64 na)
                  have r1' : (w5.setCell ⟨w.heap.size + 1, 0, none⟩ (.int .i64 na)).cell? ⟨g, 1, none⟩ = some (.string xb) := (cell_far hgne _).trans r1
                  have r2' : (w5.setCell ⟨w.heap.size + 1, 0, none⟩ (.int .i64 na)).cell? ⟨g, 2, none⟩ = some (.string xc) := (cell_far hgne _).trans r2
                  go_wp2_with fail
                  clear r0 s0 t0
                  generalize w5.setCell ⟨w.heap.size + 1, 0, none⟩ (.int .i64 na) = w5' at *
                  clear r1; have r1 := r1'; clear r1'
                  clear r2; have r2 := r2'; clear r2'
                  go_wp2_with fail
                  refine (rnumber_any xb (by omega) _).mono ?_
                  rintro _ w' ⟨rfl, rfl⟩
                  obtain ⟨nb, hnb⟩ : ∃ n, n = numR xb.data.toList := ⟨_, rfl⟩
                  rw [← hnb]
                  have HNb := Lib.hid hnb
                  clear hnb
                  have s1 := hv.c1.cell
                  have t1 := hv.c1.frozen
                  replace hR := hR.set (b := w.heap.size + 1) (o := 1) (by omega) (.int .i64 nb)
                  replace hv := hv.set1 nb
                  replace hb := hb.setCell (p := ⟨w.heap.size + 1, 1, none⟩) (by simp) (.int .i64 nb)
                  have r2' : (w5'.setCell ⟨w.heap.size + 1, 1, none⟩ (.int .i64 nb)).cell? ⟨g, 2, none⟩ = some (.string xc) := (cell_far hgne _).trans r2
                  go_wp2_with fail
                  clear r1 s1 t1
                  generalize w5'.setCell ⟨w.heap.size + 1, 1, none⟩ (.int .i64 nb) = w5'' at *
                  clear r2; have r2 := r2'; clear r2'
                  go_wp2_with fail
                  refine (rnumber_any xc (by omega) _).mono ?_
                  rintro _ w' ⟨rfl, rfl⟩
                  obtain ⟨nc, hnc⟩ : ∃ n, n = numR xc.data.toList := ⟨_, rfl⟩
                  rw [← hnc]
                  have HNc := Lib.hid hnc
                  clear hnc
                  have s2 := hv.c2.cell
                  have t2 := hv.c2.frozen
                  replace hR := hR.set (b := w.heap.size + 1) (o := 2) (by omega) (.int .i64 nc)
                  replace hv := hv.set2 nc
                  replace hb := hb.setCell (p := ⟨w.heap.size + 1, 2, none⟩) (by simp) (.int .i64 nc)
                  cases ea : numOk xa.data.toList
                  · have q0 := hR.c0.cell
                    have q1 := hR.c1.cell
                    have q2 := hR.c2.cell
                    have q3 := hR.c3.cell
                    have q4 := hR.c4.cell
                    have f0 := hR.c0.frozen
                    have f1 := hR.c1.frozen
                    have f2 := hR.c2.frozen
                    have f3 := hR.c3.frozen
                    have f4 := hR.c4.frozen
                    have H := Lib.hid (show okV s.data.toList = false by rw [HLs.out, okV_v, HS.out]; simp [ea])
                    have u0 := hv.c0.cell
                    have u1 := hv.c1.cell
                    have u2 := hv.c2.cell
                    have u3 := hv.c3.cell
                    have u4 := hv.c4.cell
                    have fu0 := hv.c0.frozen
                    have fu1 := hv.c1.frozen
                    have fu2 := hv.c2.frozen
                    have fu3 := hv.c3.frozen
                    have fu4 := hv.c4.frozen
                    have p0 : na < 0 := by rw [HNa.out, numR_no ea]; omega
                    go_wp2
                    have z := hR.full 0 0 0 ⟨#[]⟩ ⟨#[]⟩
                    have y0 := z.c0.cell
                    have y1 := z.c1.cell
                    have y2 := z.c2.cell
                    have y3 := z.c3.cell
                    have y4 := z.c4.cell
                    exact bodyPost_ret (v := .tuple #[.agg #[.int .i64 0, .int .i64 0, .int .i64 0, .string ⟨#[]⟩, .string ⟨#[]⟩], .int .i64 30]) (by simp [results, Tryz.results38, go_sem, y0, y1, y2, y3, y4]) rfl ⟨ret_none H.out, Below.five hb (Nat.le_refl _) _ _ _ _ _⟩
                  · cases eb : numOk xb.data.toList
                    · have q0 := hR.c0.cell
                      have q1 := hR.c1.cell
                      have q2 := hR.c2.cell
                      have q3 := hR.c3.cell
                      have q4 := hR.c4.cell
                      have f0 := hR.c0.frozen
                      have f1 := hR.c1.frozen
                      have f2 := hR.c2.frozen
                      have f3 := hR.c3.frozen
                      have f4 := hR.c4.frozen
                      have H := Lib.hid (show okV s.data.toList = false by rw [HLs.out, okV_v, HS.out]; simp [eb])
                      have u0 := hv.c0.cell
                      have u1 := hv.c1.cell
                      have u2 := hv.c2.cell
                      have u3 := hv.c3.cell
                      have u4 := hv.c4.cell
                      have fu0 := hv.c0.frozen
                      have fu1 := hv.c1.frozen
                      have fu2 := hv.c2.frozen
                      have fu3 := hv.c3.frozen
                      have fu4 := hv.c4.frozen
                      have p0 : ¬ na < 0 := by rw [HNa.out, numR_yes ea]; omega
                      have p1 : nb < 0 := by rw [HNb.out, numR_no eb]; omega
                      go_wp2
                      have z := hR.full 0 0 0 ⟨#[]⟩ ⟨#[]⟩
                      have y0 := z.c0.cell
                      have y1 := z.c1.cell
                      have y2 := z.c2.cell
                      have y3 := z.c3.cell
                      have y4 := z.c4.cell
                      exact bodyPost_ret (v := .tuple #[.agg #[.int .i64 0, .int .i64 0, .int .i64 0, .string ⟨#[]⟩, .string ⟨#[]⟩], .int .i64 30]) (by simp [results, Tryz.results38, go_sem, y0, y1, y2, y3, y4]) rfl ⟨ret_none H.out, Below.five hb (Nat.le_refl _) _ _ _ _ _⟩
                    · cases ec : numOk xc.data.toList
                      · have q0 := hR.c0.cell
                        have q1 := hR.c1.cell
                        have q2 := hR.c2.cell
                        have q3 := hR.c3.cell
                        have q4 := hR.c4.cell
                        have f0 := hR.c0.frozen
                        have f1 := hR.c1.frozen
                        have f2 := hR.c2.frozen
                        have f3 := hR.c3.frozen
                        have f4 := hR.c4.frozen
                        have H := Lib.hid (show okV s.data.toList = false by rw [HLs.out, okV_v, HS.out]; simp [ec])
                        have u0 := hv.c0.cell
                        have u1 := hv.c1.cell
                        have u2 := hv.c2.cell
                        have u3 := hv.c3.cell
                        have u4 := hv.c4.cell
                        have fu0 := hv.c0.frozen
                        have fu1 := hv.c1.frozen
                        have fu2 := hv.c2.frozen
                        have fu3 := hv.c3.frozen
                        have fu4 := hv.c4.frozen
                        have p0 : ¬ na < 0 := by rw [HNa.out, numR_yes ea]; omega
                        have p1 : ¬ nb < 0 := by rw [HNb.out, numR_yes eb]; omega
                        have p2 : nc < 0 := by rw [HNc.out, numR_no ec]; omega
                        go_wp2
                        have z := hR.full 0 0 0 ⟨#[]⟩ ⟨#[]⟩
                        have y0 := z.c0.cell
                        have y1 := z.c1.cell
                        have y2 := z.c2.cell
                        have y3 := z.c3.cell
                        have y4 := z.c4.cell
                        exact bodyPost_ret (v := .tuple #[.agg #[.int .i64 0, .int .i64 0, .int .i64 0, .string ⟨#[]⟩, .string ⟨#[]⟩], .int .i64 30]) (by simp [results, Tryz.results38, go_sem, y0, y1, y2, y3, y4]) rfl ⟨ret_none H.out, Below.five hb (Nat.le_refl _) _ _ _ _ _⟩
                      · have q0 := hR.c0.cell
                        have q1 := hR.c1.cell
                        have q2 := hR.c2.cell
                        have q3 := hR.c3.cell
                        have q4 := hR.c4.cell
                        have f0 := hR.c0.frozen
                        have f1 := hR.c1.frozen
                        have f2 := hR.c2.frozen
                        have f3 := hR.c3.frozen
                        have f4 := hR.c4.frozen
                        have u0 := hv.c0.cell
                        have u1 := hv.c1.cell
                        have u2 := hv.c2.cell
                        have u3 := hv.c3.cell
                        have u4 := hv.c4.cell
                        have fu0 := hv.c0.frozen
                        have fu1 := hv.c1.frozen
                        have fu2 := hv.c2.frozen
                        have fu3 := hv.c3.frozen
                        have fu4 := hv.c4.frozen
                        have H := Lib.hid (show okV s.data.toList = true by rw [HLs.out, okV_v, HS.out, HQ1.out, HQ2.out, decide_eq_true (show t.data.toList.length + 1 ≤ 60 by rw [size_data]; exact hts)]; simp [ea, eb, ec])
                        have HZ := Lib.hid (And.intro (HNa.out.trans (numR_yes ea)) (And.intro (HNb.out.trans (numR_yes eb)) (HNc.out.trans (numR_yes ec))))
                        have p0 : ¬ na < 0 := by rw [HZ.out.1]; omega
                        have p1 : ¬ nb < 0 := by rw [HZ.out.2.1]; omega
                        have p2 : ¬ nc < 0 := by rw [HZ.out.2.2]; omega
                        go_wp2
                        have z := hR.full na nb nc p m
                        have y0 := z.c0.cell
                        have y1 := z.c1.cell
                        have y2 := z.c2.cell
                        have y3 := z.c3.cell
                        have y4 := z.c4.cell
                        exact bodyPost_ret (v := .tuple #[.agg #[.int .i64 na, .int .i64 nb, .int .i64 nc, .string p, .string m], .int .i64 0]) (by simp [results, Tryz.results38, go_sem, y0, y1, y2, y3, y4]) rfl ⟨ret_some' HLs.out H.out HS.out HZ.out.1 HZ.out.2.1 HZ.out.2.2 HPm.out HMm.out, Below.five hb (Nat.le_refl _) _ _ _ _ _⟩
                · have hn3 : ((xs.length : Int) == 3) = false := by rw [beq_eq_false_iff_ne]; omega
                  have q0 := hR.c0.cell
                  have q1 := hR.c1.cell
                  have q2 := hR.c2.cell
                  have q3 := hR.c3.cell
                  have q4 := hR.c4.cell
                  have f0 := hR.c0.frozen
                  have f1 := hR.c1.frozen
                  have f2 := hR.c2.frozen
                  have f3 := hR.c3.frozen
                  have f4 := hR.c4.frozen
                  have H := Lib.hid (show okV s.data.toList = false by rw [HLs.out, okV_v, len_three hX h3]; simp)
                  have hn4 : ((xs.length : Int) != 3) = true := by rw [bne, hn3]; rfl
                  clear hX hxs hc h3
                  go_wp2
                  have z := hR.full 0 0 0 ⟨#[]⟩ ⟨#[]⟩
                  have y0 := z.c0.cell
                  have y1 := z.c1.cell
                  have y2 := z.c2.cell
                  have y3 := z.c3.cell
                  have y4 := z.c4.cell
                  exact bodyPost_ret (v := .tuple #[.agg #[.int .i64 0, .int .i64 0, .int .i64 0, .string ⟨#[]⟩, .string ⟨#[]⟩], .int .i64 30]) (by simp [results, Tryz.results38, go_sem, y0, y1, y2, y3, y4]) rfl ⟨ret_none H.out, Below.five hb (Nat.le_refl _) _ _ _ _ _⟩
    · have H := Lib.hid (okV_long (l := s.data.toList) (by rw [size_data]; exact h60))
      go_enter Tryz.func38, Tryz.ntmps38
      go_wp2
      exact bodyPost_ret (v := .tuple #[.agg #[.int .i64 0, .int .i64 0, .int .i64 0, .string ⟨#[]⟩, .string ⟨#[]⟩], .int .i64 30]) (by simp [results, Tryz.results38, go_sem]) rfl ⟨ret_none H.out, hb0⟩
  · have H := Lib.hid (show okV s.data.toList = false by rw [size_nil h1]; exact okV_nil)
    go_enter Tryz.func38, Tryz.ntmps38
    go_wp2
    exact bodyPost_ret (v := .tuple #[.agg #[.int .i64 0, .int .i64 0, .int .i64 0, .string ⟨#[]⟩, .string ⟨#[]⟩], .int .i64 30]) (by simp [results, Tryz.results38, go_sem]) rfl ⟨ret_none H.out, hb0⟩
end Go.Proofs.YtmdlmjcejeejfaaGreatDoor
