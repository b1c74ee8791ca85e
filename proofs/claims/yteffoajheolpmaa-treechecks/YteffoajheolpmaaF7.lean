/-
  The sorted list with more files, each in its place.
-/
import Derived.Test.YteffoajheolpmaaF6
namespace Go.Proofs.Yteffoajheolpmaa
open Go.RowKit Go.Shelf

def withL : List FileB → List FileB → List FileB
  | xs, [] => xs
  | xs, x :: r => loF xs x.1 ++ x :: withL (hiF xs x.1) r

theorem take_place {xs : List FileB} {q : ByteArray} (h : Up xs) : xs.take (placeN xs q) = loF xs q := by
  have hs := seek_place q h
  unfold loF
  conv => rhs; rw [← List.take_append_drop (placeN xs q) xs]
  rw [List.filter_append, List.filter_eq_self.2 (fun f hf => decide_eq_true (hs.2.2.1 f hf)), List.filter_eq_nil_iff.2 (fun f hf => by simpa using hs.2.2.2 f hf), List.append_nil]
theorem drop_place {xs : List FileB} {q : ByteArray} (h : Up xs) : xs.drop (placeN xs q + if hasP xs q then 1 else 0) = hiF xs q := by
  have hs := seek_place q h
  have h1 : hiF (xs.take (placeN xs q)) q = [] := List.filter_eq_nil_iff.2 (fun f hf => by have := hs.2.2.1 f hf; simp; omega)
  have h2 : hiF xs q = hiF (xs.drop (placeN xs q)) q := by
    conv => lhs; rw [← List.take_append_drop (placeN xs q) xs]
    unfold hiF at h1 ⊢
    rw [List.filter_append, h1, List.nil_append]
  rw [h2]
  have key : ∀ (j : Nat), placeN xs q ≤ j → (hj : j < xs.length) → (j = placeN xs q → hasP xs q = false) → 0 < compareN xs[j].1 q := by
    intro j hj1 hj2 hj3
    by_cases e : j = placeN xs q
    · have hh := hs.has h (by omega)
      rw [hj3 e] at hh
      have hd := of_decide_eq_false hh.symm
      have hge := hs.2.2.2 xs[placeN xs q] (by rw [List.mem_iff_getElem]; exact ⟨0, by rw [List.length_drop]; omega, by rw [List.getElem_drop]; rfl⟩)
      subst e
      omega
    · have hp : placeN xs q < xs.length := by omega
      have hge := hs.2.2.2 xs[placeN xs q] (by rw [List.mem_iff_getElem]; exact ⟨0, by rw [List.length_drop]; omega, by rw [List.getElem_drop]; rfl⟩)
      have hlt := up_at h (i := placeN xs q) (j := j) (by omega) hj2
      by_cases hc : compareN xs[j].1 q ≤ 0
      · exact absurd (cmp_lt (b := xs[j].1) (by omega) hc) hge
      · omega
  cases hh : hasP xs q
  · simp only [Bool.false_eq_true, if_false, Nat.add_zero]
    refine (List.filter_eq_self.2 fun f hf => ?_).symm
    obtain ⟨k, hk, rfl⟩ := List.mem_iff_getElem.1 hf
    rw [List.length_drop] at hk
    rw [List.getElem_drop]
    exact decide_eq_true (key _ (by omega) (by omega) (fun _ => hh))
  · simp only [if_true]
    obtain ⟨hp, e⟩ := has_place h hh
    rw [List.drop_eq_getElem_cons hp]
    unfold hiF
    rw [List.filter_cons, if_neg (by simp only [e, cmp_self]; decide)]
    refine (List.filter_eq_self.2 fun f hf => ?_).symm
    obtain ⟨k, hk, rfl⟩ := List.mem_iff_getElem.1 hf
    rw [List.length_drop] at hk
    rw [List.getElem_drop]
    exact decide_eq_true (key _ (by omega) (by omega) (fun e => by omega))
theorem up_hi {xs : List FileB} (h : Up xs) (q : ByteArray) : Up (hiF xs q) := h.filter _
theorem withL_len : ∀ (more xs : List FileB), (withL xs more).length ≤ xs.length * (more.length + 1) + more.length
  | [], xs => by simp [withL]
  | x :: r, xs => by
    have h1 : (loF xs x.1).length ≤ xs.length := List.length_filter_le _ _
    have h2 : (hiF xs x.1).length ≤ xs.length := List.length_filter_le _ _
    have h3 := withL_len r (hiF xs x.1)
    have h4 : (hiF xs x.1).length * (r.length + 1) ≤ xs.length * (r.length + 1) := Nat.mul_le_mul_right _ h2
    rw [withL, List.length_append, List.length_cons, List.length_cons]
    have h5 : xs.length * (r.length + 1 + 1) = xs.length * (r.length + 1) + xs.length := Nat.mul_succ _ _
    omega

theorem FAt.sub {w : World} {g o : Nat} {xs : List FileB} (h : FAt w g o xs) (n m : Nat) : FAt w g (o + n * 2) ((xs.drop n).take m) := by
  intro i hi
  rw [List.length_take, List.length_drop] at hi
  rw [List.getElem_take, List.getElem_drop]
  have := h (n + i) (by omega)
  rw [show o + n * 2 + i * 2 = o + (n + i) * 2 by omega]
  exact this
theorem FRow.first {w : World} {a : Option Addr} {n c : Nat} {xs : List FileB} (h : FRow w (.slice a n c) xs) {k : Nat} (hk : k ≤ xs.length) : FRow w (.slice a k c) (xs.take k) := by
  obtain ⟨a', c', e, hl, hc⟩ := h
  cases e
  refine ⟨a, c, by rw [List.length_take, Nat.min_eq_left hk], by rw [List.length_take]; omega, fun hne => ?_⟩
  obtain ⟨g, o, rfl, hg, hat⟩ := hc (by intro e; subst e; simp at hne)
  have := hat.sub 0 k
  simp only [Nat.zero_mul, Nat.add_zero, List.drop_zero] at this
  exact ⟨g, o, rfl, hg, this⟩
/-- A slice cut off at its head, as the model tells it. -/
theorem FRow.rest {w : World} {a : Option Addr} {n c : Nat} {xs : List FileB} (h : FRow w (.slice a n c) xs) {k : Nat} (hk : k ≤ xs.length) {a' : Option Addr} (ha : k < xs.length → ∀ g o, a = some ⟨g, o, none⟩ → a' = some ⟨g, o + k * 2, none⟩) :
    FRow w (.slice a' (n - k) (c - k)) (xs.drop k) := by
  obtain ⟨a1, c1, e, hl, hc⟩ := h
  cases e
  refine ⟨a', c - k, by rw [List.length_drop], by rw [List.length_drop]; omega, fun hne => ?_⟩
  have hlt : k < xs.length := by
    apply Classical.byContradiction
    intro hn
    exact hne (List.drop_of_length_le (by omega))
  obtain ⟨g, o, rfl, hg, hat⟩ := hc (by intro e; subst e; simp at hlt)
  have := hat.sub k xs.length
  rw [List.take_of_length_le (by rw [List.length_drop]; omega)] at this
  exact ⟨g, _, ha hlt g o rfl, hg, this⟩

/-- The sorted list's own block, whole. -/
def SBlk (w : World) (B : Nat) (v : Value) : Prop := w.heap[B]? = some (.cells #[v, .func (.func 59) #[] #[], .func (.func 60) #[] #[]] 54 (0, 0))
theorem SBlk.lt {w : World} {B : Nat} {v : Value} (h : SBlk w B v) : B < w.heap.size := (Array.getElem?_eq_some_iff.1 h).1
theorem SBlk.new (w : World) (v : Value) : SBlk (w.alloc (.cells #[v, .func (.func 59) #[] #[], .func (.func 60) #[] #[]] 54)) w.heap.size v := World.alloc_heap_new w _
theorem SBlk.below {w w' : World} {B : Nat} {v : Value} (h : SBlk w B v) (hb : Below w.heap.size w w') : SBlk w' B v := (hb.block B h.lt).trans h
theorem SBlk.drew {w : World} {B : Nat} {v : Value} (h : SBlk w B v) : SBlk w.drew B v := h
theorem SBlk.alloc {w : World} {B : Nat} {v : Value} (h : SBlk w B v) (o : Obj) : SBlk (w.alloc o) B v := h.below ((Below.refl _ _).alloc (Nat.le_refl _) _)
theorem SBlk.cells {w : World} {B : Nat} {v : Value} (h : SBlk w B v) : w.cell? ⟨B, 0, none⟩ = some v ∧ w.cell? ⟨B, 1, none⟩ = some (.func (.func 59) #[] #[]) ∧ w.cell? ⟨B, 2, none⟩ = some (.func (.func 60) #[] #[]) ∧ w.frozen? ⟨B, 0, none⟩ = false := by
  unfold SBlk at h
  refine ⟨?_, ?_, ?_, ?_⟩ <;> simp [World.cell?, World.frozen?, h]
theorem SBlk.box {w : World} {B : Nat} {v : Value} (h : SBlk w B v) : SBox w B v := ⟨h.lt, h.cells.1, h.cells.2.1, h.cells.2.2.1⟩
theorem SBlk.set {w : World} {B : Nat} {v : Value} (h : SBlk w B v) (u : Value) : SBlk (w.setCell ⟨B, 0, none⟩ u) B u := by
  unfold SBlk at h ⊢
  simp [World.setCell, Array.getElem?_modify, h]

theorem SBlk.ne {w : World} {B base : Nat} {v u : Value} {xs : List FileB} (h : SBlk w B v) (ho : FOwn w base u xs) : u.ownBlock ≠ some B := by
  intro e
  obtain ⟨_, ⟨rfl, _⟩ | ⟨g, cap, cur, rfl, _, hh, _⟩⟩ := ho
  · cases e
  · simp only [Value.ownBlock, Option.some.injEq] at e
    subst e
    unfold SBlk at h
    rw [hh] at h
    injection h with h
    injection h with _ h
    cases h

theorem lies_ne {u v : Value} {n b : Nat} (h : u.ownBlock = v.ownBlock ∨ u.ownBlock = some n) (h1 : v.ownBlock ≠ some b) (h2 : b < n) : u.ownBlock ≠ some b := by
  rcases h with e | e
  · rw [e]; exact h1
  · rw [e]; intro h; injection h with h; omega

theorem FRow.kept {w w' : World} {b o n c : Nat} {xs : List FileB} (h : FRow w (.slice (some ⟨b, o, none⟩) n c) xs) (e : w'.heap[b]? = w.heap[b]?) (hs : w.heap.size ≤ w'.heap.size) : FRow w' (.slice (some ⟨b, o, none⟩) n c) xs := by
  obtain ⟨a, c1, e1, hl, hc⟩ := h
  cases e1
  refine ⟨_, _, rfl, hl, fun hne => ?_⟩
  obtain ⟨g, o', e2, hg, hat⟩ := hc hne
  cases e2
  exact ⟨_, _, rfl, Nat.lt_of_lt_of_le hg hs, fun i hi => ⟨kept_cell e (hat i hi).1, kept_cell e (hat i hi).2⟩⟩

theorem alloc_cell {w : World} {b i : Nat} {u : Value} (o : Obj) (hb : b < w.heap.size) (h : w.cell? ⟨b, i, none⟩ = some u) : (w.alloc o).cell? ⟨b, i, none⟩ = some u := (World.cell?_alloc_lt _ _ ⟨b, i, none⟩ hb).trans h

theorem Acc.set {w0 w : World} {B : Nat} {v rv u : Value} {xs : List FileB} (h : Acc w0 w v xs) (hs : SBlk w B rv) (hB : w0.heap.size ≤ B) : Acc w0 (w.setCell ⟨B, 0, none⟩ u) v xs := by
  have hne := hs.ne h.own
  refine ⟨?_, h.below.setCell (p := ⟨B, 0, none⟩) hB _⟩
  obtain ⟨hl, ⟨rfl, h0⟩ | ⟨g, cap, cur, rfl, hg, hh, hr⟩⟩ := h.own
  · exact ⟨hl, .inl ⟨rfl, h0⟩⟩
  · refine ⟨hl, .inr ⟨g, cap, cur, rfl, hg, (Below.heap_setCell w ⟨B, 0, none⟩ u g ?_).trans hh, hr⟩⟩
    intro e
    exact hne (by simp [Value.ownBlock, e])
theorem rest_map {w : World} {ra : Option Addr} {n c k : Nat} {xs : List FileB} (h : FRow w (.slice ra n c) xs) (hk : k ≤ xs.length) : FRow w (.slice (Option.map (fun x => x.add (k * 2)) ra) (n - k) (c - k)) (xs.drop k) :=
  h.rest hk fun _ g o e => by rw [e]; simp [add_plain']
theorem rest_end {w : World} {ra : Option Addr} {n c k : Nat} {xs : List FileB} (h : FRow w (.slice ra n c) xs) (hk : k ≤ xs.length) (hc : c = k) : FRow w (.slice ra (n - k) 0) (xs.drop k) := by
  have hl : xs.length ≤ c := by obtain ⟨_, _, e, hl, _⟩ := h; cases e; exact hl
  have := h.rest hk (a' := ra) (fun hlt => by omega)
  rwa [hc, Nat.sub_self] at this
theorem short_hi {xs : List FileB} (h : Short xs) (q : ByteArray) : Short (hiF xs q) := fun f hf => h f (List.mem_filter.1 hf).1
theorem hi_len {xs : List FileB} (q : ByteArray) : (hiF xs q).length ≤ xs.length := List.length_filter_le _ _

def OwnOut (xs : List FileB) (w : World) (e : Ending) (w' : World) : Prop := ∃ A c, e = .returned (.slice A xs.length c) ∧ FOwn w' w.heap.size (.slice A xs.length c) xs ∧ Below w.heap.size w w'

set_option maxRecDepth 100000 in
set_option maxHeartbeats 2000000 in
theorem with_any (xs more : List FileB) (v u : Value) (w : World) (hv : FRow w v xs) (hu : FRow w u more) (h1 : Short xs) (h2 : Short more) (hm : xs.length ≤ 160) (hn : more.length ≤ 160) (hup : more ≠ [] → Up xs) :
    Calls Try.prog 47 #[sortV v, u] w (OwnOut (withL xs more) w) := by
  obtain ⟨i0, hi, hz0, hz1, hz2⟩ := info_parts Try.info32
  have HV := Lib.hid hv
  have HU := Lib.hid hu
  have H1 := Lib.hid h1
  have H2 := Lib.hid h2
  have HP := Lib.hid hup
  obtain ⟨a, c, rfl, hlc, -⟩ := hv
  obtain ⟨b, d, rfl, hld, -⟩ := hu
  clear h1 h2 hup
  have hb0 : Below w.heap.size w (w.alloc (.cells #[.slice a xs.length c, .func (.func 59) #[] #[], .func (.func 60) #[] #[]] 54)) := (Below.refl _ _).alloc (Nat.le_refl _) _
  have hs0 := SBlk.new w (.slice a xs.length c)
  obtain ⟨w1, hrun, hown, hgr⟩ := run_make_own (P := Try.prog) (w.alloc (.cells #[.slice a xs.length c, .func (.func 59) #[] #[], .func (.func 60) #[] #[]] 54)) w.heap.size 22 32 i0 _ 2 Try.underlying22 hi hz0 hz1 .i64 .i64 (xs.length + more.length) (by rw [hz2]; omega) (by unfold maxLen; omega) hb0.size
  rw [Int.natCast_add, World.size_alloc] at hrun
  have hb1 := (Below.refl _ _).grown hgr (Nat.le_refl _) (by simp)
  have hacc0 : Acc w w1 (.slice (some ⟨w.heap.size + 1, 0, none⟩) 0 (xs.length + more.length)) [] := ⟨by rw [World.size_alloc] at hown; exact hown, hb0.trans (hb1.mono hb0.size)⟩
  have hs1 := hs0.below hb1
  have HS1 := Lib.hid hs1
  clear hs0 hs1 hown hgr hb1 hb0
  unfold sortV
  go_enter Try.func47, Try.ntmps47
  go_wp2
  clear hrun
  go_loopw [5, 19] (fun av i wr => ∃ (k : Nat) (rest acc : List FileB) (A : Option Addr) (c' : Nat) (rv : Value), k ≤ more.length ∧ i = .int .i64 k ∧ av = .slice A acc.length c' ∧ Acc w wr (.slice A acc.length c') acc ∧
      SBlk wr w.heap.size rv ∧ FRow w rv rest ∧ acc ++ withL rest (more.drop k) = withL xs more ∧ (k < more.length → Up rest) ∧ Short rest ∧ rest.length ≤ 160 ∧ acc.length ≤ 161 * k)
    (fun _ i _ => more.length - (intOf i).toNat)
  case atStart => exact ⟨0, xs, [], _, _, _, Nat.zero_le _, rfl, rfl, hacc0, HS1.out, HV.out, rfl, fun h => HP.out (by intro e; subst e; simp at h), H1.out, hm, by simp⟩
  case round =>
    obtain ⟨k, rest, acc, A, c', rv, hk, rfl, rfl, hacc, hsb, hrow, hL, hR⟩ := hrel
    obtain ⟨hRu, hRs, hRl, hal⟩ := hR
    have HL := Lib.hid hL
    have HRu := Lib.hid hRu
    have HRs := Lib.hid hRs
    have HSB := Lib.hid hsb
    have HR := Lib.hid hrow
    clear hL hRu hRs hsb
    obtain ⟨ra, rc, rfl, hrlc, -⟩ := hrow
    obtain ⟨s0, s1, s2, s3⟩ := HSB.out.cells
    have hBlt := HSB.out.lt
    by_cases hlt : k < more.length
    · obtain ⟨b', d', e', hl', hcl⟩ := HU.out
      cases e'
      obtain ⟨g, o, rfl, hg, hcell⟩ := hcl (by intro e; rw [e] at hlt; simp at hlt)
      have HQ := Lib.hid (fun w' (h : Below w.heap.size w w') => And.intro ((h.cell (p := ⟨g, _, none⟩) hg).trans (hcell k hlt).1) ((h.cell (p := ⟨g, _, none⟩) hg).trans (hcell k hlt).2))
      obtain ⟨q1, q2⟩ := HQ.out _ hacc.below
      have hsh := H2.out _ (List.getElem_mem hlt)
      have HD := Lib.hid (List.drop_eq_getElem_cons hlt)
      have HUp := Lib.hid (HRu.out hlt)
      clear hcell hcl
      generalize more[k] = x at *
      obtain ⟨x1, x2⟩ := x
      go_wp2
      have haccX := hacc.alloc (.cells #[.string x1, .string x2] 32)
      have hsX := HSB.out.below ((Below.refl _ _).alloc (Nat.le_refl _) (.cells #[.string x1, .string x2] 32))
      obtain ⟨p0, p1, p2, p3⟩ := hsX.cells
      have HBX := Lib.hid (FBox.new wr x1 x2)
      obtain ⟨-, y0, y1⟩ := HBX.out
      change _ = some (Value.string x1) at y0
      change _ = some (Value.string x2) at y1
      have HSX := Lib.hid hsX
      clear hsX
      go_region_held3 (fun w' => w'.cell? ⟨w.heap.size, 0, none⟩ = some (.slice ra rest.length rc) ∧ w'.cell? ⟨w.heap.size, 1, none⟩ = some (.func (.func 59) #[] #[]) ∧ w'.cell? ⟨w.heap.size, 2, none⟩ = some (.func (.func 60) #[] #[]) ∧ w'.cell? ⟨wr.heap.size, 0, none⟩ = some (.string x1) ∧ w'.cell? ⟨wr.heap.size, 1, none⟩ = some (.string x2))
        (first | go_keep | (go_split_ands; refine ⟨?_, ?_, ?_, ?_, ?_⟩ <;> (rw [hb2.cell (by simp; omega)]; assumption)))
        (first | (go_at_call 59; refine (pathOf_any (x1, x2) _).mono ?_; rintro e w' ⟨rfl, rfl⟩) | (go_at_call 48; refine (find_any rest (.slice ra rest.length rc) x1 _ (HR.out.below ((haccX.drew).alloc _).below) HRs.out hsh (by omega) HUp.out).mono ?_; rintro e w2 ⟨rfl, hb2⟩))
      rename_i hHeld
      have hacc2 := ((haccX.drew).alloc _).call hb2
      have hs2 := ((HSX.out.drew).alloc _).below hb2
      have hbx2 := (((show FBox _ _ _ from HBX.out : FBox (wr.alloc (.cells #[.string x1, .string x2] 32)).drew wr.heap.size (x1, x2)).alloc _).below hb2)
      have HS2 := Lib.hid hs2
      have HX2 := Lib.hid hbx2
      obtain ⟨p0, p1, p2, p3⟩ := hs2.cells
      obtain ⟨hxl, y0, y1⟩ := hbx2
      have hz2' := hs2.lt
      change _ = some (Value.string x1) at y0
      change _ = some (Value.string x2) at y1
      clear hs2 hHeld haccX HSX HBX hb2 s0 s1 s2 s3 q1 q2
      have hpl := place_le rest x1
      have HT := Lib.hid (take_place (q := x1) HUp.out)
      have hdr := drop_place (q := x1) HUp.out
      cases hh : hasP rest x1
      · rw [hh] at hdr
        simp only [Bool.false_eq_true, if_false, Nat.add_zero] at hdr
        have HDr := Lib.hid hdr
        clear hdr
        generalize placeN rest x1 = n at *
        have hpe : n ≤ rest.length := hpl
        have HF := Lib.hid (HR.out.first hpl)
        have i1 : (0 : Int) ≤ (n : Int) := by omega
        have i2 : (n : Int) ≤ (rc : Int) := by omega
        have i3 : (n : Int) ≤ (rest.length : Int) := by omega
        have hneB := HS2.out.ne hacc2.own
        have hneX := hacc.far (Nat.le_refl _)
        go_wp2
        go_region_held3 (fun w' => w'.cell? ⟨w.heap.size, 0, none⟩ = some (.slice ra rest.length rc) ∧ w'.cell? ⟨wr.heap.size, 0, none⟩ = some (.string x1) ∧ w'.cell? ⟨wr.heap.size, 1, none⟩ = some (.string x2))
          (first | go_keep | exact ⟨k0, k1, k2⟩ | exact ⟨m0, m1, m2⟩)
          (first
            | (refine step_facc rfl _ _ rfl hacc2.drew rfl (HF.out.below hacc2.drew.below) rfl (by rw [List.length_take]; omega) ?_; have n0 := p0; have n1 := y0; have n2 := y1; have hsc := HS2.out; intro A3 c3 acc3 w3 hgr; have hlen3 := hgr.len; (rw [List.length_take] at hlen3); have hacc3 := hgr.acc; have HL3 := Lib.hid hgr.list; have fB := hgr.far _ (by simp; omega) hneB; have fX := hgr.far _ (by simp; omega) hneX; have k0 := kept_cell fB n0; have k1 := kept_cell fX n1; have k2 := kept_cell fX n2; have hs3 : SBlk w3 w.heap.size (.slice ra rest.length rc) := fB.trans hsc; have hneB3 := hs3.ne hacc3.own; have hneX3 := lies_ne hgr.lies hneX (by simp; omega); have hsz3 := hgr.size; (simp at hsz3); have hBl3 := hs3.lt; have HS3 := Lib.hid hs3; clear hs3 hsc hgr)
            | (refine step_facc rfl _ _ rfl (hacc2.drew.alloc _) rfl (HF.out.below (hacc2.drew.alloc _).below) rfl (by rw [List.length_take]; omega) ?_; have n0 := alloc_cell (.cells #[.string x1, .string x2] 32) hz2' p0; have n1 := alloc_cell (.cells #[.string x1, .string x2] 32) hxl y0; have n2 := alloc_cell (.cells #[.string x1, .string x2] 32) hxl y1; have hsc := HS2.out.alloc (.cells #[.string x1, .string x2] 32); intro A3 c3 acc3 w3 hgr; have hlen3 := hgr.len; (rw [List.length_take] at hlen3); have hacc3 := hgr.acc; have HL3 := Lib.hid hgr.list; have fB := hgr.far _ (by simp; omega) hneB; have fX := hgr.far _ (by simp; omega) hneX; have k0 := kept_cell fB n0; have k1 := kept_cell fX n1; have k2 := kept_cell fX n2; have hs3 : SBlk w3 w.heap.size (.slice ra rest.length rc) := fB.trans hsc; have hneB3 := hs3.ne hacc3.own; have hneX3 := lies_ne hgr.lies hneX (by simp; omega); have hsz3 := hgr.size; (simp at hsz3); have hBl3 := hs3.lt; have HS3 := Lib.hid hs3; have hone := (FRow.one w2.drew x1 x2).kept (hgr.far w2.heap.size (by simp) (hacc2.far (Nat.le_refl _))) hgr.size; clear hs3 hsc hgr)
            | (refine step_facc rfl _ _ rfl (hacc3.alloc _) rfl (FRow.one _ _ _) rfl (by simp; omega) ?_; have j0 := alloc_cell (.cells #[.string x1, .string x2] 32) hBl3 k0; have j1 := alloc_cell (.cells #[.string x1, .string x2] 32) (by omega) k1; have j2 := alloc_cell (.cells #[.string x1, .string x2] 32) (by omega) k2; have hsd := HS3.out.alloc (.cells #[.string x1, .string x2] 32); intro A4 c4 acc4 w4 hgr; have hlen4 := hgr.len; (simp only [List.length_cons, List.length_nil] at hlen4); have hacc4 := hgr.acc; have HL4 := Lib.hid hgr.list; have gB := hgr.far _ (by first | omega | (simp; omega)) hneB3; have gX := hgr.far _ (by first | omega | (simp; omega)) hneX3; have m0 := kept_cell gB j0; have m1 := kept_cell gX j1; have m2 := kept_cell gX j2; have HS4 := Lib.hid (show SBlk w4 w.heap.size (.slice ra rest.length rc) from gB.trans hsd); clear hgr)
            | (refine step_facc rfl _ _ rfl hacc3 rfl hone rfl (by simp; omega) ?_; have j0 := k0; have j1 := k1; have j2 := k2; have hsd := HS3.out; intro A4 c4 acc4 w4 hgr; have hlen4 := hgr.len; (simp only [List.length_cons, List.length_nil] at hlen4); have hacc4 := hgr.acc; have HL4 := Lib.hid hgr.list; have gB := hgr.far _ (by first | omega | (simp; omega)) hneB3; have gX := hgr.far _ (by first | omega | (simp; omega)) hneX3; have m0 := kept_cell gB j0; have m1 := kept_cell gX j1; have m2 := kept_cell gX j2; have HS4 := Lib.hid (show SBlk w4 w.heap.size (.slice ra rest.length rc) from gB.trans hsd); clear hgr))
        all_goals
          rename_i hHeld
          clear hHeld n0 n1 n2 fB fX k0 k1 k2 gB gX j0 j1 j2 hsd m0 m1 m2 p0 p1 p2 p3 y0 y1
          obtain ⟨m0, -, -, m3⟩ := HS4.out.cells
          have HLL := Lib.hid (show acc4 ++ withL (hiF rest x1) (more.drop (k + 1)) = withL xs more by rw [HL4.out, HL3.out, HT.out, ← HL.out, HD.out, withL]; simp)
          have hwz : w.heap.size ≤ w.heap.size := Nat.le_refl _
          have hhl := hi_len (xs := rest) x1
          by_cases hcn : rc = n
          · have HRow := Lib.hid (show FRow w _ (hiF rest x1) from HDr.out ▸ rest_end HR.out hpe hcn)
            go_wp2
            exact ⟨⟨k + 1, hiF rest x1, acc4, A4, c4, _, by omega, by go_num, rfl, hacc4.set HS4.out hwz, HS4.out.set _, HRow.out, HLL.out, fun _ => up_hi HUp.out x1, short_hi HRs.out x1, by omega, by omega⟩, by simp [intOf]; omega⟩
          · have HRow := Lib.hid (show FRow w _ (hiF rest x1) from HDr.out ▸ rest_map HR.out hpe)
            go_wp2
            exact ⟨⟨k + 1, hiF rest x1, acc4, A4, c4, _, by omega, by go_num, rfl, hacc4.set HS4.out hwz, HS4.out.set _, HRow.out, HLL.out, fun _ => up_hi HUp.out x1, short_hi HRs.out x1, by omega, by omega⟩, by simp [intOf]; omega⟩
      · have hplt := (has_place HUp.out hh).1
        rw [hh] at hdr
        simp only [if_true] at hdr
        have HDr := Lib.hid hdr
        clear hdr
        generalize placeN rest x1 = n at *
        have hpe : n + 1 ≤ rest.length := hplt
        have i4 : (n : Int) + 1 ≤ (rest.length : Int) := by omega
        have HF := Lib.hid (HR.out.first hpl)
        have i1 : (0 : Int) ≤ (n : Int) := by omega
        have i2 : (n : Int) ≤ (rc : Int) := by omega
        have i3 : (n : Int) ≤ (rest.length : Int) := by omega
        have hneB := HS2.out.ne hacc2.own
        have hneX := hacc.far (Nat.le_refl _)
        go_wp2
        go_region_held3 (fun w' => w'.cell? ⟨w.heap.size, 0, none⟩ = some (.slice ra rest.length rc) ∧ w'.cell? ⟨wr.heap.size, 0, none⟩ = some (.string x1) ∧ w'.cell? ⟨wr.heap.size, 1, none⟩ = some (.string x2))
          (first | go_keep | exact ⟨k0, k1, k2⟩ | exact ⟨m0, m1, m2⟩)
          (first
            | (refine step_facc rfl _ _ rfl hacc2.drew rfl (HF.out.below hacc2.drew.below) rfl (by rw [List.length_take]; omega) ?_; have n0 := p0; have n1 := y0; have n2 := y1; have hsc := HS2.out; intro A3 c3 acc3 w3 hgr; have hlen3 := hgr.len; (rw [List.length_take] at hlen3); have hacc3 := hgr.acc; have HL3 := Lib.hid hgr.list; have fB := hgr.far _ (by simp; omega) hneB; have fX := hgr.far _ (by simp; omega) hneX; have k0 := kept_cell fB n0; have k1 := kept_cell fX n1; have k2 := kept_cell fX n2; have hs3 : SBlk w3 w.heap.size (.slice ra rest.length rc) := fB.trans hsc; have hneB3 := hs3.ne hacc3.own; have hneX3 := lies_ne hgr.lies hneX (by simp; omega); have hsz3 := hgr.size; (simp at hsz3); have hBl3 := hs3.lt; have HS3 := Lib.hid hs3; clear hs3 hsc hgr)
            | (refine step_facc rfl _ _ rfl (hacc2.drew.alloc _) rfl (HF.out.below (hacc2.drew.alloc _).below) rfl (by rw [List.length_take]; omega) ?_; have n0 := alloc_cell (.cells #[.string x1, .string x2] 32) hz2' p0; have n1 := alloc_cell (.cells #[.string x1, .string x2] 32) hxl y0; have n2 := alloc_cell (.cells #[.string x1, .string x2] 32) hxl y1; have hsc := HS2.out.alloc (.cells #[.string x1, .string x2] 32); intro A3 c3 acc3 w3 hgr; have hlen3 := hgr.len; (rw [List.length_take] at hlen3); have hacc3 := hgr.acc; have HL3 := Lib.hid hgr.list; have fB := hgr.far _ (by simp; omega) hneB; have fX := hgr.far _ (by simp; omega) hneX; have k0 := kept_cell fB n0; have k1 := kept_cell fX n1; have k2 := kept_cell fX n2; have hs3 : SBlk w3 w.heap.size (.slice ra rest.length rc) := fB.trans hsc; have hneB3 := hs3.ne hacc3.own; have hneX3 := lies_ne hgr.lies hneX (by simp; omega); have hsz3 := hgr.size; (simp at hsz3); have hBl3 := hs3.lt; have HS3 := Lib.hid hs3; have hone := (FRow.one w2.drew x1 x2).kept (hgr.far w2.heap.size (by simp) (hacc2.far (Nat.le_refl _))) hgr.size; clear hs3 hsc hgr)
            | (refine step_facc rfl _ _ rfl (hacc3.alloc _) rfl (FRow.one _ _ _) rfl (by simp; omega) ?_; have j0 := alloc_cell (.cells #[.string x1, .string x2] 32) hBl3 k0; have j1 := alloc_cell (.cells #[.string x1, .string x2] 32) (by omega) k1; have j2 := alloc_cell (.cells #[.string x1, .string x2] 32) (by omega) k2; have hsd := HS3.out.alloc (.cells #[.string x1, .string x2] 32); intro A4 c4 acc4 w4 hgr; have hlen4 := hgr.len; (simp only [List.length_cons, List.length_nil] at hlen4); have hacc4 := hgr.acc; have HL4 := Lib.hid hgr.list; have gB := hgr.far _ (by first | omega | (simp; omega)) hneB3; have gX := hgr.far _ (by first | omega | (simp; omega)) hneX3; have m0 := kept_cell gB j0; have m1 := kept_cell gX j1; have m2 := kept_cell gX j2; have HS4 := Lib.hid (show SBlk w4 w.heap.size (.slice ra rest.length rc) from gB.trans hsd); clear hgr)
            | (refine step_facc rfl _ _ rfl hacc3 rfl hone rfl (by simp; omega) ?_; have j0 := k0; have j1 := k1; have j2 := k2; have hsd := HS3.out; intro A4 c4 acc4 w4 hgr; have hlen4 := hgr.len; (simp only [List.length_cons, List.length_nil] at hlen4); have hacc4 := hgr.acc; have HL4 := Lib.hid hgr.list; have gB := hgr.far _ (by first | omega | (simp; omega)) hneB3; have gX := hgr.far _ (by first | omega | (simp; omega)) hneX3; have m0 := kept_cell gB j0; have m1 := kept_cell gX j1; have m2 := kept_cell gX j2; have HS4 := Lib.hid (show SBlk w4 w.heap.size (.slice ra rest.length rc) from gB.trans hsd); clear hgr))
        all_goals
          rename_i hHeld
          clear hHeld n0 n1 n2 fB fX k0 k1 k2 gB gX j0 j1 j2 hsd m0 m1 m2 p0 p1 p2 p3 y0 y1
          obtain ⟨m0, -, -, m3⟩ := HS4.out.cells
          have HLL := Lib.hid (show acc4 ++ withL (hiF rest x1) (more.drop (k + 1)) = withL xs more by rw [HL4.out, HL3.out, HT.out, ← HL.out, HD.out, withL]; simp)
          have hwz : w.heap.size ≤ w.heap.size := Nat.le_refl _
          have hhl := hi_len (xs := rest) x1
          by_cases hcn : rc = n + 1
          · have HRow := Lib.hid (show FRow w _ (hiF rest x1) from HDr.out ▸ rest_end HR.out hpe hcn)
            go_wp2
            exact ⟨⟨k + 1, hiF rest x1, acc4, A4, c4, _, by omega, by go_num, rfl, hacc4.set HS4.out hwz, HS4.out.set _, HRow.out, HLL.out, fun _ => up_hi HUp.out x1, short_hi HRs.out x1, by omega, by omega⟩, by simp [intOf]; omega⟩
          · have HRow := Lib.hid (show FRow w _ (hiF rest x1) from HDr.out ▸ rest_map HR.out hpe)
            go_wp2
            exact ⟨⟨k + 1, hiF rest x1, acc4, A4, c4, _, by omega, by go_num, rfl, hacc4.set HS4.out hwz, HS4.out.set _, HRow.out, HLL.out, fun _ => up_hi HUp.out x1, short_hi HRs.out x1, by omega, by omega⟩, by simp [intOf]; omega⟩
    · have HE := Lib.hid (show acc ++ rest = withL xs more by rw [← HL.out, List.drop_of_length_le (by omega)]; rfl)
      go_wp2_with (at_builtin; refine wpList_facc rfl _ _ rfl hacc rfl (HR.out.below hacc.below) rfl (by omega) ?_; intro A3 c3 acc3 w3 hgr; have hacc3 := hgr.acc; have HL3 := Lib.hid hgr.list; clear hgr)
      go_ret
      rw [← HE.out, ← HL3.out]
      exact ⟨A3, c3, rfl, hacc3.own, hacc3.below⟩
end Go.Proofs.Yteffoajheolpmaa
