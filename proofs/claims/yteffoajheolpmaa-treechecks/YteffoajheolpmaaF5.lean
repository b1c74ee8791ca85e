/-
  The document's own Put into a sorted list.
-/
import Derived.Test.YteffoajheolpmaaF4
namespace Go.Proofs.Yteffoajheolpmaa
open Go.RowKit Go.Shelf

def loF (xs : List FileB) (q : ByteArray) : List FileB := xs.filter fun f => decide (compareN f.1 q < 0)
def hiF (xs : List FileB) (q : ByteArray) : List FileB := xs.filter fun f => decide (0 < compareN f.1 q)
def putL (xs : List FileB) (f : FileB) : List FileB := loF xs f.1 ++ f :: hiF xs f.1
def insC (p q : ByteArray) : Bool := insideB p q || insideB q p
def clashI (xs : List FileB) (q : ByteArray) : Bool := xs.any fun g => insC g.1 q
def putE (xs : List FileB) (f : FileB) : Int :=
  if validB f.1 then (if 4000 < f.2.size then 2 else if clashI xs f.1 then 4 else if 60 < (putL xs f).length then 2 else 0) else 10
def putR (xs : List FileB) (f : FileB) : List FileB := if putE xs f = 0 then putL xs f else []

theorem putE_1 {xs : List FileB} {f : FileB} (h : validB f.1 = false) : putE xs f = 10 := by simp [putE, h]
theorem putE_2 {xs : List FileB} {f : FileB} (h : validB f.1 = true) (k : 4000 < f.2.size) : putE xs f = 2 := by simp [putE, h, k]
theorem putE_3 {xs : List FileB} {f : FileB} (h : validB f.1 = true) (k : ¬ 4000 < f.2.size) (l : clashI xs f.1 = true) : putE xs f = 4 := by simp [putE, h, k, l]
theorem putE_4 {xs : List FileB} {f : FileB} (h : validB f.1 = true) (k : ¬ 4000 < f.2.size) (l : clashI xs f.1 = false) (m : 60 < (putL xs f).length) : putE xs f = 2 := by simp [putE, h, k, l, m]
theorem putE_5 {xs : List FileB} {f : FileB} (h : validB f.1 = true) (k : ¬ 4000 < f.2.size) (l : clashI xs f.1 = false) (m : ¬ 60 < (putL xs f).length) : putE xs f = 0 := by simp [putE, h, k, l, m]
theorem putR_no {xs : List FileB} {f : FileB} {n : Int} (h : putE xs f = n) (hn : ¬ n = 0) : putR xs f = [] := by rw [putR, if_neg (by rw [h]; exact hn)]
theorem putR_yes {xs : List FileB} {f : FileB} (h : putE xs f = 0) : putR xs f = putL xs f := by rw [putR, if_pos h]

theorem loF_snoc (xs : List FileB) (q : ByteArray) {k : Nat} (h : k < xs.length) : loF (xs.take (k + 1)) q = loF (xs.take k) q ++ if compareN xs[k].1 q < 0 then [xs[k]] else [] := by
  unfold loF
  rw [List.take_succ_eq_append_getElem h, List.filter_append]
  congr 1
  by_cases e : compareN xs[k].1 q < 0 <;> simp [e]
theorem hiF_snoc (xs : List FileB) (q : ByteArray) {k : Nat} (h : k < xs.length) : hiF (xs.take (k + 1)) q = hiF (xs.take k) q ++ if 0 < compareN xs[k].1 q then [xs[k]] else [] := by
  unfold hiF
  rw [List.take_succ_eq_append_getElem h, List.filter_append]
  congr 1
  by_cases e : 0 < compareN xs[k].1 q <;> simp [e]
theorem loF_all {xs : List FileB} {q : ByteArray} (h : ∀ g ∈ xs, compareN g.1 q < 0) : loF xs q = xs := List.filter_eq_self.2 fun g hg => decide_eq_true (h g hg)
theorem hiF_none {xs : List FileB} {q : ByteArray} (h : ∀ g ∈ xs, compareN g.1 q < 0) : hiF xs q = [] := List.filter_eq_nil_iff.2 fun g hg => by have := h g hg; simp; omega

theorem mem_take_succ {xs : List FileB} {k : Nat} (hk : k < xs.length) : xs[k] ∈ xs.take (k + 1) := by
  rw [List.take_succ_eq_append_getElem hk]; exact List.mem_append.2 (.inr (List.mem_singleton.2 rfl))

/-- A file lies in that block. -/
def FBox (w : World) (B : Nat) (f : FileB) : Prop := B < w.heap.size ∧ w.cell? ⟨B, 0, none⟩ = some (.string f.1) ∧ w.cell? ⟨B, 1, none⟩ = some (.string f.2)
theorem FBox.below {w w' : World} {B : Nat} {f : FileB} (h : FBox w B f) (hb : Below w.heap.size w w') : FBox w' B f :=
  ⟨Nat.lt_of_lt_of_le h.1 hb.size, (hb.cell (p := ⟨B, 0, none⟩) h.1).trans h.2.1, (hb.cell (p := ⟨B, 1, none⟩) h.1).trans h.2.2⟩
theorem FBox.alloc {w : World} {B : Nat} {f : FileB} (h : FBox w B f) (o : Obj) : FBox (w.alloc o) B f := h.below ((Below.refl _ w).alloc (Nat.le_refl _) _)
theorem FBox.new (w : World) (p d : ByteArray) : FBox (w.alloc (.cells #[.string p, .string d] 32)) w.heap.size (p, d) := ⟨by simp, cell_new _ _ _ 0, cell_new _ _ _ 1⟩
theorem FBox.grown {w w' : World} {B base : Nat} {f : FileB} {v : Value} {xs : List FileB} (h : FBox w B f) (ho : FOwn w base v xs) (hB : B < base) (hg : w.grownBy w' v.ownBlock) : FBox w' B f := by
  have hb : w'.heap[B]? = w.heap[B]? := hg.block B h.1 (fun e => by have := ho.block B e.symm; omega)
  exact ⟨Nat.lt_of_lt_of_le h.1 hg.size, (World.cell?_of_block (a := ⟨B, 0, none⟩) hb).trans h.2.1, (World.cell?_of_block (a := ⟨B, 1, none⟩) hb).trans h.2.2⟩

/-- How far Put has come. -/
def Ins (xs : List FileB) (f : FileB) (k : Nat) (b : Bool) (acc : List FileB) : Prop :=
  (b = false ∧ acc = xs.take k ∧ ∀ g ∈ xs.take k, compareN g.1 f.1 < 0) ∨ (b = true ∧ acc = putL (xs.take k) f ∧ ∃ g ∈ xs.take k, ¬ compareN g.1 f.1 < 0)
theorem Ins.start (xs : List FileB) (f : FileB) : Ins xs f 0 false [] := .inl ⟨rfl, rfl, by simp⟩
theorem Ins.low {xs : List FileB} {f : FileB} {k : Nat} {acc : List FileB} (h : Ins xs f k false acc) (hk : k < xs.length) (e : compareN xs[k].1 f.1 < 0) : Ins xs f (k + 1) false (acc ++ [xs[k]]) := by
  rcases h with ⟨_, rfl, h⟩ | ⟨h, _⟩
  · refine .inl ⟨rfl, (List.take_succ_eq_append_getElem hk).symm, ?_⟩
    rw [List.take_succ_eq_append_getElem hk]
    intro g hg
    rcases List.mem_append.1 hg with hg | hg
    · exact h g hg
    · simp at hg; subst hg; exact e
  · cases h
theorem Ins.hit {xs : List FileB} {f : FileB} {k : Nat} {acc : List FileB} (h : Ins xs f k false acc) (hk : k < xs.length) (e : compareN xs[k].1 f.1 = 0) : Ins xs f (k + 1) true (acc ++ [f]) := by
  rcases h with ⟨_, rfl, h⟩ | ⟨h, _⟩
  · refine .inr ⟨rfl, ?_, xs[k], ?_, by omega⟩
    · rw [putL, loF_snoc _ _ hk, hiF_snoc _ _ hk, if_neg (by omega), if_neg (by omega), loF_all h, hiF_none h]; simp
    · exact mem_take_succ hk
  · cases h
theorem Ins.pass {xs : List FileB} {f : FileB} {k : Nat} {acc : List FileB} (h : Ins xs f k false acc) (hk : k < xs.length) (e : 0 < compareN xs[k].1 f.1) : Ins xs f (k + 1) true (acc ++ [f] ++ [xs[k]]) := by
  rcases h with ⟨_, rfl, h⟩ | ⟨h, _⟩
  · refine .inr ⟨rfl, ?_, xs[k], ?_, by omega⟩
    · rw [putL, loF_snoc _ _ hk, hiF_snoc _ _ hk, if_neg (by omega), if_pos e, loF_all h, hiF_none h]; simp
    · exact mem_take_succ hk
  · cases h
theorem Ins.above {xs : List FileB} {f : FileB} {k : Nat} {acc : List FileB} (h : Ins xs f k true acc) (hu : Up xs) (hk : k < xs.length) : 0 < compareN xs[k].1 f.1 := by
  rcases h with ⟨h, _⟩ | ⟨_, _, g, hg, h⟩
  · cases h
  · obtain ⟨j, hj, rfl⟩ := List.mem_iff_getElem.1 hg
    rw [List.length_take] at hj
    rw [List.getElem_take] at h
    have := up_at hu (i := j) (j := k) (by omega) hk
    by_cases hc : compareN xs[k].1 f.1 ≤ 0
    · exact absurd (cmp_lt (b := xs[k].1) (by omega) hc) h
    · omega
theorem Ins.on {xs : List FileB} {f : FileB} {k : Nat} {acc : List FileB} (h : Ins xs f k true acc) (hu : Up xs) (hk : k < xs.length) : Ins xs f (k + 1) true (acc ++ [xs[k]]) := by
  have e := h.above hu hk
  rcases h with ⟨h, _⟩ | ⟨_, rfl, g, hg, h⟩
  · cases h
  · refine .inr ⟨rfl, ?_, g, ?_, h⟩
    · rw [putL, putL, loF_snoc _ _ hk, hiF_snoc _ _ hk, if_neg (by omega), if_pos e]; simp
    · rw [List.take_succ_eq_append_getElem hk]; exact List.mem_append.2 (.inl hg)
theorem Ins.len {xs : List FileB} {f : FileB} {k : Nat} {b : Bool} {acc : List FileB} (h : Ins xs f k b acc) (hu : k ≤ xs.length) : acc.length ≤ 2 * xs.length + 1 := by
  rcases h with ⟨_, rfl, _⟩ | ⟨_, rfl, _⟩
  · rw [List.length_take]; omega
  · have h1 : (loF (xs.take k) f.1).length ≤ (xs.take k).length := List.length_filter_le _ _
    have h2 : (hiF (xs.take k) f.1).length ≤ (xs.take k).length := List.length_filter_le _ _
    rw [List.length_take] at h1 h2
    rw [putL, List.length_append, List.length_cons]; omega
theorem Ins.done {xs : List FileB} {f : FileB} {k : Nat} {acc : List FileB} (h : Ins xs f k true acc) (hk : xs.length ≤ k) : acc = putL xs f := by
  rcases h with ⟨h, _⟩ | ⟨_, rfl, _⟩
  · cases h
  · rw [List.take_of_length_le hk]
theorem Ins.last {xs : List FileB} {f : FileB} {k : Nat} {acc : List FileB} (h : Ins xs f k false acc) (hk : xs.length ≤ k) : acc ++ [f] = putL xs f := by
  rcases h with ⟨_, rfl, h⟩ | ⟨h, _⟩
  · rw [List.take_of_length_le hk] at h ⊢
    rw [putL, loF_all h, hiF_none h]
  · cases h

/-- What Put hands back. -/
def PutOut (xs : List FileB) (n : Int) (w : World) (e : Ending) (w' : World) : Prop :=
  ∃ A c, e = .returned (.tuple #[.slice A xs.length c, .int .i64 n]) ∧ FRow w' (.slice A xs.length c) xs ∧ Below w.heap.size w w'

theorem insC_1 {p q : ByteArray} (h : insideB p q = true) : insC p q = true := by simp [insC, h]
theorem insC_2 {p q : ByteArray} (h : insideB p q = false) (k : insideB q p = true) : insC p q = true := by simp [insC, h, k]
theorem insC_3 {p q : ByteArray} (h : insideB p q = false) (k : insideB q p = false) : insC p q = false := by simp [insC, h, k]

theorem cmp_ne {a b : ByteArray} (h : ¬ compareN a b = 0) : (a.toList == b.toList) = false ∧ (a.toList != b.toList) = true := by
  have : ¬ a.toList = b.toList := fun e => h (cmp_zero.2 (toList_inj.1 e))
  simp [this]
theorem inside_q {p d : ByteArray} {b : Bool} (h : insideB p d = b) (w : World) (n : Nat) (hd : d.size ≤ 20300) : Calls Try.prog 44 #[.string p, .string d] (w.drewN n) fun e w' => e = .returned (.bool b) ∧ w' = w.drewN n :=
  (inside_any p d _ hd).mono fun _ _ ⟨h', e⟩ => ⟨by rw [h', h], e.symm⟩

set_option maxRecDepth 100000 in
set_option maxHeartbeats 2000000 in
theorem rput_any (xs : List FileB) (f : FileB) (v : Value) (w : World) (hv : FRow w v xs) (h1 : Short xs) (hf1 : f.1.size ≤ maxLen) (hf2 : f.2.size ≤ maxLen) (hm : xs.length ≤ 1000) (hu : Up xs) :
    Calls Try.prog 22 #[v, fileV f] w (PutOut (putR xs f) (putE xs f) w) := by
  obtain ⟨p, d⟩ := f
  have hb0 : Below w.heap.size w (w.alloc (.cells #[.string p, .string d] 32)) := (Below.refl _ _).alloc (Nat.le_refl _) _
  have HV := Lib.hid hv
  obtain ⟨a, c, rfl, hl, -⟩ := hv
  have H1 := Lib.hid h1
  have HU := Lib.hid hu
  clear h1 hu
  unfold fileV
  cases hvd : validB p
  · have HE := Lib.hid (putE_1 (xs := xs) (f := (p, d)) hvd)
    have HR := Lib.hid (putR_no HE.out (by decide))
    go_enter Try.func22, Try.ntmps22
    go_wp2_with (go_at_call 27; refine (rvalid_all _ _ hf1).mono ?_; rintro e w1 ⟨rfl, hb⟩)
    go_ret2
    rw [HE.out, HR.out]
    exact ⟨none, 0, rfl, FRow.nil _, hb0.trans (hb.mono hb0.size)⟩
  · by_cases hd : 4000 < d.size
    · have HE := Lib.hid (putE_2 (xs := xs) (f := (p, d)) hvd hd)
      have HR := Lib.hid (putR_no HE.out (by decide))
      go_enter Try.func22, Try.ntmps22
      go_wp2_with (go_at_call 27; refine (rvalid_all _ _ hf1).mono ?_; rintro e w1 ⟨rfl, hb⟩; have q1 := hb.cell (p := ⟨w.heap.size, 1, none⟩) (by simp))
      go_ret2
      rw [HE.out, HR.out]
      exact ⟨none, 0, rfl, FRow.nil _, hb0.trans (hb.mono hb0.size)⟩
    · have hps : p.size ≤ 60 := (valid_size hvd).2
      have hd' : decide ((4000 : Int) < d.size) = false := by simp; omega
      have HEc := Lib.hid (fun h => putE_3 (xs := xs) (f := (p, d)) hvd hd h)
      have HEm := Lib.hid (fun h k => putE_4 (xs := xs) (f := (p, d)) hvd hd h k)
      have HEo := Lib.hid (fun h k => putE_5 (xs := xs) (f := (p, d)) hvd hd h k)
      go_enter Try.func22, Try.ntmps22
      go_wp2_with (go_at_call 27; refine (rvalid_all _ _ hf1).mono ?_; rintro e w1 ⟨rfl, hb⟩; have q1 := hb.cell (p := ⟨w.heap.size, 1, none⟩) (by simp))
      have hz1 : w.heap.size + 1 ≤ w1.heap.size := by have := hb.size; simpa using this
      have HB := Lib.hid ((FBox.new w p d).below hb)
      replace hb := hb0.trans (hb.mono hb0.size)
      clear q1 hb0
      go_loopw [6, 7, 8] (fun ov dn i wr => ∃ (k : Nat) (b : Bool) (acc : List FileB) (A : Option Addr) (c' : Nat), k ≤ xs.length ∧ i = .int .i64 k ∧ dn = .bool b ∧ ov = .slice A acc.length c' ∧
          Ins xs (p, d) k b acc ∧ Acc w1 wr (.slice A acc.length c') acc ∧ clashI (xs.take k) p = false)
        (fun _ _ i _ => xs.length - (intOf i).toNat)
      case atStart => exact ⟨0, false, [], _, 0, Nat.zero_le _, rfl, rfl, rfl, Ins.start _ _, Acc.start _, rfl⟩
      case round =>
        obtain ⟨k, b, acc, A, c', hk, rfl, rfl, rfl, hins, hacc, hcl⟩ := hrel
        have hlen := hins.len hk
        have HI := Lib.hid hins
        have HC := Lib.hid hcl
        obtain ⟨-, b0, b1⟩ := HB.out.below hacc.below
        change _ = some (Value.string p) at b0
        change _ = some (Value.string d) at b1
        have hbw := hb.trans (hacc.below.mono hb.size)
        have hz := Nat.le_trans hz1 hacc.below.size
        clear hins hcl
        by_cases hlt : k < xs.length
        · obtain ⟨a', c'', e', hl', hcl⟩ := HV.out
          cases e'
          obtain ⟨g, o, rfl, hg, hcell⟩ := hcl (by intro e; rw [e] at hlt; simp at hlt)
          have HQ := Lib.hid (fun w' (h : Below w.heap.size w w') => And.intro ((h.cell (p := ⟨g, _, none⟩) hg).trans (hcell k hlt).1) ((h.cell (p := ⟨g, _, none⟩) hg).trans (hcell k hlt).2))
          obtain ⟨q1, q2⟩ := HQ.out _ hbw
          have hsh := H1.out _ (List.getElem_mem hlt)
          have HCy := Lib.hid (fun h => any_yes (p := fun g => insC g.1 p) hlt h)
          have HCn := Lib.hid (fun h => any_on (p := fun g => insC g.1 p) HC.out hlt h)
          clear hcell hcl
          cases hi1 : insideB xs[k].1 p
          · cases hi2 : insideB p xs[k].1
            · have HC' := Lib.hid (HCn.out (insC_3 hi1 hi2))
              cases b
              · rcases cmp_range xs[k].1 p with hcm | hcm | hcm
                · have HO' := Lib.hid (HI.out.low hlt (by show compareN xs[k].1 p < 0; omega))
                  have hgez : compareN xs[k].1 p < 0 := by omega
                  obtain ⟨hne, hne'⟩ := cmp_ne (a := xs[k].1) (b := p) (by omega)
                  have HM := Lib.hid hcm
                  clear hcm
                  generalize xs[k] = x at *
                  obtain ⟨x1, x2⟩ := x
                  go_wp2
                  go_quiet ((go_at_call 44; exact Calls.quiet_of_same (inside_q (by first | with_reducible exact hi1 | with_reducible exact hi2) _ _ (by first | omega | exact hsh))))
                  go_wp2
                  go_region_held3 (fun w' => w'.cell? ⟨g, o + k * 2, none⟩ = some (.string x1) ∧ w'.cell? ⟨g, o + k * 2 + 1, none⟩ = some (.string x2) ∧ w'.cell? ⟨w.heap.size, 0, none⟩ = some (.string p) ∧ w'.cell? ⟨w.heap.size, 1, none⟩ = some (.string d))
                    (first | go_keep | (go_split_ands; refine ⟨?_, ?_, ?_, ?_⟩ <;> (rw [hb2.cell (by first | (simp; omega) | omega)]; assumption)))
                    (first | (go_at_call 43; refine (rcompare_any _ _ (by omega) (by omega) _).mono ?_; rintro e w2 ⟨rfl, hb2⟩))
                  rename_i hheld
                  obtain ⟨s1, s2, s3, s4⟩ := hheld
                  have hacc2 := ((hacc.drewN _).drew).call hb2
                  clear hb2 q1 q2 b0 b1
                  go_wp2
                  go_quiet (fail)
                  go_wp2_with (at_builtin; refine wpList_facc rfl _ _ rfl ((hacc2.drewN _).alloc _) rfl (FRow.one _ _ _) rfl (by simp; omega) ?_; intro A3 c3 acc3 w3 hgr; have hlen3 := hgr.len; have hacc3 := hgr.acc; have HL3 := Lib.hid hgr.list; clear hgr; simp only [List.length_cons, List.length_nil] at hlen3)
                  go_roundw
                  case rel => exact ⟨k + 1, false, acc3, A3, c3, by omega, by go_num, rfl, rfl, by rw [HL3.out]; exact HO'.out, hacc3, HC'.out⟩
                  case measure => simp [intOf]; omega
                · have HO' := Lib.hid (HI.out.hit hlt hcm)
                  have hgez : 0 ≤ compareN xs[k].1 p := by omega
                  have hne : (xs[k].1.toList == p.toList) = true := by rw [cmp_zero.1 hcm]; simp
                  have hne' : (xs[k].1.toList != p.toList) = false := by rw [cmp_zero.1 hcm]; simp
                  have HM := Lib.hid hcm
                  clear hcm
                  generalize xs[k] = x at *
                  obtain ⟨x1, x2⟩ := x
                  go_wp2
                  go_quiet ((go_at_call 44; exact Calls.quiet_of_same (inside_q (by first | with_reducible exact hi1 | with_reducible exact hi2) _ _ (by first | omega | exact hsh))))
                  go_wp2
                  go_region_held3 (fun w' => w'.cell? ⟨g, o + k * 2, none⟩ = some (.string x1) ∧ w'.cell? ⟨g, o + k * 2 + 1, none⟩ = some (.string x2) ∧ w'.cell? ⟨w.heap.size, 0, none⟩ = some (.string p) ∧ w'.cell? ⟨w.heap.size, 1, none⟩ = some (.string d))
                    (first | go_keep | (go_split_ands; refine ⟨?_, ?_, ?_, ?_⟩ <;> (rw [hb2.cell (by first | (simp; omega) | omega)]; assumption)))
                    (first | (go_at_call 43; refine (rcompare_any _ _ (by omega) (by omega) _).mono ?_; rintro e w2 ⟨rfl, hb2⟩))
                  rename_i hheld
                  obtain ⟨s1, s2, s3, s4⟩ := hheld
                  have hacc2 := ((hacc.drewN _).drew).call hb2
                  clear hb2 q1 q2 b0 b1
                  go_wp2_with (at_builtin; refine wpList_facc rfl _ _ rfl (hacc2.alloc _) rfl (FRow.one _ _ _) rfl (by simp; omega) ?_; intro A3 c3 acc3 w3 hgr; have hlen3 := hgr.len; have hacc3 := hgr.acc; have HL3 := Lib.hid hgr.list; clear hgr; simp only [List.length_cons, List.length_nil] at hlen3)
                  obtain ⟨-, t0, t1⟩ := HB.out.below hacc3.below
                  change _ = some (Value.string p) at t0
                  obtain ⟨q1, q2⟩ := HQ.out _ (hb.trans (hacc3.below.mono hb.size))
                  clear s1 s2 s3 s4
                  go_quiet (fail)
                  go_wp2
                  go_roundw
                  case rel => exact ⟨k + 1, true, acc3, A3, c3, by omega, by go_num, rfl, rfl, by rw [HL3.out]; exact HO'.out, hacc3.drewN _, HC'.out⟩
                  case measure => simp [intOf]; omega
                · have HO' := Lib.hid (HI.out.pass hlt (by show 0 < compareN xs[k].1 p; omega))
                  have hgez : 0 ≤ compareN xs[k].1 p := by omega
                  obtain ⟨hne, hne'⟩ := cmp_ne (a := xs[k].1) (b := p) (by omega)
                  have HM := Lib.hid hcm
                  clear hcm
                  generalize xs[k] = x at *
                  obtain ⟨x1, x2⟩ := x
                  go_wp2
                  go_quiet ((go_at_call 44; exact Calls.quiet_of_same (inside_q (by first | with_reducible exact hi1 | with_reducible exact hi2) _ _ (by first | omega | exact hsh))))
                  go_wp2
                  go_region_held3 (fun w' => w'.cell? ⟨g, o + k * 2, none⟩ = some (.string x1) ∧ w'.cell? ⟨g, o + k * 2 + 1, none⟩ = some (.string x2) ∧ w'.cell? ⟨w.heap.size, 0, none⟩ = some (.string p) ∧ w'.cell? ⟨w.heap.size, 1, none⟩ = some (.string d))
                    (first | go_keep | (go_split_ands; refine ⟨?_, ?_, ?_, ?_⟩ <;> (rw [hb2.cell (by first | (simp; omega) | omega)]; assumption)))
                    (first | (go_at_call 43; refine (rcompare_any _ _ (by omega) (by omega) _).mono ?_; rintro e w2 ⟨rfl, hb2⟩))
                  rename_i hheld
                  obtain ⟨s1, s2, s3, s4⟩ := hheld
                  have hacc2 := ((hacc.drewN _).drew).call hb2
                  clear hb2 q1 q2 b0 b1
                  go_wp2_with (at_builtin; refine wpList_facc rfl _ _ rfl (hacc2.alloc _) rfl (FRow.one _ _ _) rfl (by simp; omega) ?_; intro A3 c3 acc3 w3 hgr; have hlen3 := hgr.len; have hacc3 := hgr.acc; have HL3 := Lib.hid hgr.list; clear hgr; simp only [List.length_cons, List.length_nil] at hlen3)
                  obtain ⟨-, t0, t1⟩ := HB.out.below hacc3.below
                  change _ = some (Value.string p) at t0
                  obtain ⟨q1, q2⟩ := HQ.out _ (hb.trans (hacc3.below.mono hb.size))
                  clear s1 s2 s3 s4
                  go_quiet (fail)
                  go_wp2_with (at_builtin; refine wpList_facc rfl _ _ rfl ((hacc3.drewN _).alloc _) rfl (FRow.one _ _ _) rfl (by simp; omega) ?_; intro A4 c4 acc4 w4 hgr; have hlen4 := hgr.len; have hacc4 := hgr.acc; have HL4 := Lib.hid hgr.list; clear hgr; simp only [List.length_cons, List.length_nil] at hlen4)
                  go_roundw
                  case rel => exact ⟨k + 1, true, acc4, A4, c4, by omega, by go_num, rfl, rfl, by rw [HL4.out, HL3.out]; exact HO'.out, hacc4, HC'.out⟩
                  case measure => simp [intOf]; omega
              · have HO' := Lib.hid (HI.out.on HU.out hlt)
                have hab := HI.out.above HU.out hlt
                obtain ⟨hne, hne'⟩ := cmp_ne (a := xs[k].1) (b := p) (by intro e; simp only [e] at hab; omega)
                clear hab
                generalize xs[k] = x at *
                obtain ⟨x1, x2⟩ := x
                go_wp2
                go_quiet ((go_at_call 44; exact Calls.quiet_of_same (inside_q (by first | with_reducible exact hi1 | with_reducible exact hi2) _ _ (by first | omega | exact hsh))))
                go_wp2
                go_quiet (fail)
                go_wp2
                go_quiet (fail)
                go_wp2_with (at_builtin; refine wpList_facc rfl _ _ rfl ((hacc.drewN _).alloc _) rfl (FRow.one _ _ _) rfl (by simp; omega) ?_; intro A3 c3 acc3 w3 hgr; have hlen3 := hgr.len; have hacc3 := hgr.acc; have HL3 := Lib.hid hgr.list; clear hgr; simp only [List.length_cons, List.length_nil] at hlen3)
                go_roundw
                case rel => exact ⟨k + 1, true, acc3, A3, c3, by omega, by go_num, rfl, rfl, by rw [HL3.out]; exact HO'.out, hacc3, HC'.out⟩
                case measure => simp [intOf]; omega
            · have HE := Lib.hid (HEc.out (HCy.out (insC_2 hi1 hi2)))
              have HR := Lib.hid (putR_no HE.out (by decide))
              generalize xs[k] = x at *
              obtain ⟨x1, x2⟩ := x
              go_wp2
              go_quiet ((go_at_call 44; exact Calls.quiet_of_same (inside_q (by first | with_reducible exact hi1 | with_reducible exact hi2) _ _ (by first | omega | exact hsh))))
              go_wp2
              go_ret2
              rw [HE.out, HR.out]
              exact ⟨none, 0, rfl, FRow.nil _, below_drewN hbw _⟩
          · have HE := Lib.hid (HEc.out (HCy.out (insC_1 hi1)))
            have HR := Lib.hid (putR_no HE.out (by decide))
            generalize xs[k] = x at *
            obtain ⟨x1, x2⟩ := x
            go_wp2
            go_quiet ((go_at_call 44; exact Calls.quiet_of_same (inside_q hi1 _ _ (by omega))))
            go_wp2
            go_ret2
            rw [HE.out, HR.out]
            exact ⟨none, 0, rfl, FRow.nil _, below_drewN hbw _⟩
        · have HCl := Lib.hid (any_end HC.out (by omega))
          have hke : xs.length ≤ k := by omega
          cases b
          · have HL := Lib.hid (HI.out.last hke)
            go_wp2_with (at_builtin; refine wpList_facc rfl _ _ rfl (hacc.alloc _) rfl (FRow.one _ _ _) rfl (by simp; omega) ?_; intro A3 c3 acc3 w3 hgr; have hlen3 := hgr.len; have hacc3 := hgr.acc; have HL3 := Lib.hid hgr.list; clear hgr; simp only [List.length_cons, List.length_nil] at hlen3)
            · have HE := Lib.hid (HEm.out HCl.out (by rw [← HL.out, ← HL3.out]; omega))
              have HR := Lib.hid (putR_no HE.out (by decide))
              go_ret2
              rw [HE.out, HR.out]
              exact ⟨none, 0, rfl, FRow.nil _, hb.trans (hacc3.below.mono hb.size)⟩
            · have HE := Lib.hid (HEo.out HCl.out (by rw [← HL.out, ← HL3.out]; omega))
              have HR := Lib.hid (putR_yes HE.out)
              go_ret2
              rw [HE.out, HR.out, ← HL.out, ← HL3.out]
              exact ⟨A3, c3, rfl, hacc3.own.row, hb.trans (hacc3.below.mono hb.size)⟩
          · have HL := Lib.hid (HI.out.done hke)
            by_cases h60 : 60 < acc.length
            · have HE := Lib.hid (HEm.out HCl.out (by rw [← HL.out]; exact h60))
              have HR := Lib.hid (putR_no HE.out (by decide))
              go_wp2
              go_ret2
              rw [HE.out, HR.out]
              exact ⟨none, 0, rfl, FRow.nil _, hbw⟩
            · have HE := Lib.hid (HEo.out HCl.out (by rw [← HL.out]; exact h60))
              have HR := Lib.hid (putR_yes HE.out)
              go_wp2
              go_ret2
              rw [HE.out, HR.out, ← HL.out]
              exact ⟨A, c', rfl, hacc.own.row, hbw⟩
end Go.Proofs.Yteffoajheolpmaa
