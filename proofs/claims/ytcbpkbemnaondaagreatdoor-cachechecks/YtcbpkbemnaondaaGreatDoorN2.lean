/-
  Entries in memory, and as a law's argument: a slice of structs, each with a slice of files of its own.
-/
import Derived.Test.YtcbpkbemnaondaaGreatDoorL1
namespace Go.Proofs.YtcbpkbemnaondaaGreatDoor
open Go.ChangeShapes Go.WideShapes Go.ChangeAt Go.RowKit Go.Deep Go.Joins
open Go.ChangeMaps (open_string shut_string)

/-- An entry: its module, its go.mod text, where its files lie. -/
structure EntB where
  p : ByteArray
  v : ByteArray
  g : ByteArray
  a : Option Addr
  n : Nat
  c : Nat
instance : Inhabited EntB := ⟨⟨⟨#[]⟩, ⟨#[]⟩, ⟨#[]⟩, none, 0, 0⟩⟩
def EntB.m (x : EntB) : ModB := (x.p, x.v)
def EntB.f (x : EntB) : Value := .slice x.a x.n x.c
def entR : Rec EntB := ⟨4, fun x => [.string x.p, .string x.v, .string x.g, x.f], fun _ => rfl, fun x u hu => by simp at hu; rcases hu with rfl | rfl | rfl | rfl <;> rfl, by decide⟩
abbrev FileB := ByteArray × ByteArray
def fileR : Rec FileB := ⟨2, fun x => [.string x.1, .string x.2], fun _ => rfl, fun x u hu => by simp at hu; rcases hu with rfl | rfl <;> rfl, by decide⟩
/-- The entries' files can be read. -/
def Filed (w : World) (xs : List EntB) : Prop := ∀ x ∈ xs, ∃ fs, RRow fileR w x.f fs ∧ fs.length ≤ maxLen
theorem Filed.below {w w' : World} {xs : List EntB} (h : Filed w xs) (hb : Below w.heap.size w w') : Filed w' xs := fun x hx => by
  obtain ⟨fs, h1, h2⟩ := h x hx
  exact ⟨fs, h1.below hb, h2⟩

section
variable {α H : Type} {enc : TypeId × Value → H} {P : Program} {W : World}

/-- What a record reads as, in that world; and that it reads so where nothing of it has changed. -/
structure RDataW (enc : TypeId × Value → H) (P : Program) (R : Rec α) (et : TypeId) (W : World) (OK : α → DataW H × List MemPlace → Prop) : Prop where
  opens : ∀ {fuel : Nat} {cs : List Value} {x : DataW H × List MemPlace}, DataW.trod enc P W 0 (fun _ => true) true fuel et cs = some x → ∃ y, cs = R.cells y ∧ OK y x
  shuts : ∀ {y : α} {x : DataW H × List MemPlace}, OK y x → ∀ W', Below W.heap.size W W' → ∃ n, DataW.trod enc P W' 0 (fun b => decide (b < W.heap.size)) true n et (R.cells y) = some x
  cellsOf : P.cellsOf et = R.k

theorem open_recsW [Inhabited α] {R : Rec α} {et st : TypeId} {OK : α → DataW H × List MemPlace → Prop} (T : RDataW enc P R et W OK) (ht : P.underlying st = some (.slice et)) {v : Value} {fuel : Nat} {x : DataW H × List MemPlace}
    (h : DataW.trod enc P W 0 (fun _ => true) true fuel st [v] = some x) :
    ∃ xs : List α, RRow R W v xs ∧ xs.length ≤ maxLen ∧ (∀ y ∈ xs, ∃ z, OK y z) ∧ ∀ W', Below W.heap.size W W' → ∃ n, DataW.trod enc P W' 0 (fun b => decide (b < W.heap.size)) true n st [v] = some x := by
  rcases open_slice ht h with ⟨hcs, rfl⟩ | ⟨a, len, cap, m, n, D', Pl, hcs, _, hl, hm, hmeq, rfl, hall⟩
  · simp only [List.cons.injEq, and_true] at hcs
    subst hcs
    exact ⟨[], RRow.nil W, Nat.zero_le _, by simp, fun W' _ => ⟨1, by unfold DataW.trod; rw [ht]; rfl⟩⟩
  · simp only [if_true] at hmeq
    subst hmeq
    simp only [List.cons.injEq, and_true] at hcs
    subst hcs
    rw [T.cellsOf] at hall
    obtain ⟨Y, hY⟩ := choose_lt (α := α) (n := m) (p := fun i y => W.cells? 0 (a.add (i * R.k)) R.k = some (R.cells y) ∧ OK y (D' i, Pl i)) (fun i hi => by
      obtain ⟨cs', h1, h2⟩ := hall i hi
      obtain ⟨y, rfl, hy⟩ := T.opens h2
      exact ⟨y, h1, hy⟩)
    have hk := R.pos
    have spot : 0 < m → ∃ g o, a = ⟨g, o, none⟩ ∧ g < W.heap.size := fun hi => by
      obtain ⟨_, hlen, hc⟩ := World.cells?_some (hY 0 hi).1
      have h0 := hc 0 hk
      rw [List.getElem?_eq_getElem (by rw [R.len]; exact hk)] at h0
      obtain ⟨g, o, sp⟩ := a
      have hsp : sp = none := by
        have := World.cell?_spot h0
        cases sp with
        | none => rfl
        | some z => simp [Addr.add] at this
      subst hsp
      refine ⟨g, o, rfl, ?_⟩
      have := World.block_lt_of_cell? W _ h0
      rwa [add_plainR, add_plainR] at this
    refine ⟨(List.range len).map Y, ?_, by simp; omega, ?_, ?_⟩
    · refine ⟨some a, m, by simp, by simpa using hl, fun hne => ?_⟩
      have hpos : 0 < len := by
        rcases Nat.eq_zero_or_pos len with h0 | h0
        · subst h0; exact absurd rfl hne
        · exact h0
      obtain ⟨g, o, rfl, hg⟩ := spot (by omega)
      refine ⟨g, o, rfl, hg, fun i hi j u hu => ?_⟩
      simp only [List.length_map, List.length_range] at hi
      simp only [List.getElem_map, List.getElem_range] at hu
      obtain ⟨_, hlen, hc⟩ := World.cells?_some (hY i (by omega)).1
      have hj : j < R.k := by rw [← R.len (Y i)]; exact (List.getElem?_eq_some_iff.1 hu).1
      have := hc j hj
      rwa [hu, add_plainR, add_plainR] at this
    · intro y hy
      obtain ⟨i, hi, rfl⟩ := List.mem_map.1 hy
      exact ⟨_, (hY i (by have := List.mem_range.1 hi; omega)).2⟩
    · intro W' hb
      by_cases h0 : m = 0
      · subst h0
        have hl0 : len = 0 := by omega
        subst hl0
        by_cases hlt : a.block < W.heap.size
        · have := shut_slice_whole_cells (enc := enc) (P := P) (w := W') (base := 0) (spare := fun b => decide (b < W.heap.size)) (held := true) (a := a) (len := 0) (cap := 0) ht (Nat.zero_le _) (Nat.le_refl _) hm (by simpa using hlt) D' Pl (fun i hi => absurd hi (by omega))
          simpa using this
        · have := shut_slice_cells (enc := enc) (P := P) (w := W') (base := 0) (spare := fun b => decide (b < W.heap.size)) (held := true) (a := a) (len := 0) (cap := 0) ht (Nat.zero_le _) (Nat.le_refl _) hm (by simpa using hlt) D' Pl (fun i hi => absurd hi (by omega))
          simpa using this
      · obtain ⟨g, o, rfl, hg⟩ := spot (by omega)
        refine shut_slice_whole_cells (enc := enc) (P := P) (w := W') (base := 0) (spare := fun b => decide (b < W.heap.size)) (held := true) (a := ⟨g, o, none⟩) ht (Nat.zero_le _) hl hm (by simpa using hg) D' Pl (fun i hi => ?_)
        obtain ⟨h1, h2⟩ := hY i hi
        obtain ⟨n', hn'⟩ := T.shuts h2 W' hb
        refine ⟨R.cells (Y i), n', ?_, hn'⟩
        rw [T.cellsOf, ← h1]
        unfold World.cells?
        simp only [Nat.zero_le, if_true]
        congr 1
        funext j
        rw [add_plainR, add_plainR]
        exact hb.cell (p := ⟨g, _, none⟩) hg

set_option maxRecDepth 100000 in
theorem cells58 : Tryz.prog.cellsOf 56 = 2 := by kernel_rfl
set_option maxRecDepth 100000 in
theorem cells34 : Tryz.prog.cellsOf 29 = 4 := by kernel_rfl
set_option maxRecDepth 100000 in
theorem cells32 : Tryz.prog.cellsOf 27 = 1 := by kernel_rfl
theorem len4 {α : Type} {l : List α} (h : l.length = 4) : ∃ a b c d, l = [a, b, c, d] := by
  match l, h with
  | [a, b, c, d], _ => exact ⟨a, b, c, d, rfl⟩
theorem len3 {α : Type} {l : List α} (h : l.length = 3) : ∃ a b c, l = [a, b, c] := by
  match l, h with
  | [a, b, c], _ => exact ⟨a, b, c, rfl⟩

theorem fileRD : RData enc Tryz.prog fileR 56 modOk (modD (H := H)) where
  opens := by
    intro W base fuel sp cs x h
    obtain ⟨xs, n, _, rfl, hl, hlen, hall⟩ := DataW.trod_struct Tryz.underlying56 h
    rw [cells58] at hl
    obtain ⟨c0, c1, rfl⟩ := len2 hl
    obtain ⟨x0, x1, rfl⟩ := len2 hlen
    have h0 := hall 0 _ rfl
    have h1 := hall 1 _ rfl
    simp [cells9] at h0 h1
    obtain ⟨s, rfl, rfl, hs⟩ := str_opens h0
    obtain ⟨s', rfl, rfl, hs'⟩ := str_opens h1
    exact ⟨(s, s'), rfl, rfl, hs, hs'⟩
  shuts := by
    intro y hy W base sp
    obtain ⟨n0, h0⟩ := str_shuts (enc := enc) hy.1 W base sp
    obtain ⟨n1, h1⟩ := str_shuts (enc := enc) hy.2 W base sp
    have h0' := DataW.trod_le (Nat.le_max_left n0 n1) h0
    have h1' := DataW.trod_le (Nat.le_max_right n0 n1) h1
    refine ⟨max n0 n1 + 1, ?_⟩
    have := trod_struct_mk (enc := enc) (w := W) (base := base) (spare := sp) (held := true) (n := max n0 n1) (cs := [.string y.1, .string y.2]) (xs := [(litS y.1, []), (litS y.2, [])]) Tryz.underlying56 (by rw [cells58]; rfl) (by simp [cells9, h0', h1']; exact ⟨rfl, rfl⟩)
    exact this
  cellsOf := cells58

def entOK (enc : TypeId × Value → H) (W : World) (y : EntB) (x : DataW H × List MemPlace) : Prop :=
  y.p.size ≤ maxLen ∧ y.v.size ≤ maxLen ∧ y.g.size ≤ maxLen ∧ (∃ fs, RRow fileR W y.f fs ∧ fs.length ≤ maxLen) ∧
  ∃ z : DataW H × List MemPlace, x = (.agg [modD (y.p, y.v), litS y.g, z.1], z.2) ∧ ∀ W', Below W.heap.size W W' → ∃ n, DataW.trod enc Tryz.prog W' 0 (fun b => decide (b < W.heap.size)) true n 27 [y.f] = some z
theorem entRD : RDataW enc Tryz.prog entR 29 W (entOK enc W) where
  opens := by
    intro fuel cs x h
    obtain ⟨xs, n, _, rfl, hl, hlen, hall⟩ := DataW.trod_struct Tryz.underlying29 h
    rw [cells34] at hl
    obtain ⟨c0, c1, c2, c3, rfl⟩ := len4 hl
    obtain ⟨x0, x1, x2, rfl⟩ := len3 hlen
    have h0 := hall 0 _ rfl
    have h1 := hall 1 _ rfl
    have h2 := hall 2 _ rfl
    simp [cells9, cells23, cells32] at h0 h1 h2
    obtain ⟨m, e, rfl, hm⟩ := modRD.opens h0
    obtain ⟨s, rfl, rfl, hs⟩ := str_opens h1
    obtain ⟨fs, hR, hf, _, hsh⟩ := open_recs fileRD Tryz.underlying27 h2
    simp only [modR, List.cons.injEq, and_true] at e
    obtain ⟨rfl, rfl⟩ := e
    obtain ⟨A, C, rfl⟩ := hR.form
    exact ⟨⟨m.1, m.2, s, A, fs.length, C⟩, rfl, hm.1, hm.2, hs, ⟨fs, hR, hf⟩, x2, by simp [litS], hsh⟩
  shuts := by
    rintro y x ⟨hp, hv, hg, _, z, rfl, hz⟩ W' hb
    obtain ⟨n0, h0⟩ := modRD.shuts (enc := enc) (y := (y.p, y.v)) ⟨hp, hv⟩ W' 0 (fun b => decide (b < W.heap.size))
    obtain ⟨n1, h1⟩ := str_shuts (enc := enc) hg W' 0 (fun b => decide (b < W.heap.size))
    obtain ⟨n2, h2⟩ := hz W' hb
    have h0' := DataW.trod_le (show n0 ≤ max n0 (max n1 n2) by omega) h0
    have h1' := DataW.trod_le (show n1 ≤ max n0 (max n1 n2) by omega) h1
    have h2' := DataW.trod_le (show n2 ≤ max n0 (max n1 n2) by omega) h2
    refine ⟨max n0 (max n1 n2) + 1, ?_⟩
    simp only [modR] at h0'
    have := trod_struct_mk (enc := enc) (w := W') (base := 0) (spare := fun b => decide (b < W.heap.size)) (held := true) (n := max n0 (max n1 n2)) (cs := [.string y.p, .string y.v, .string y.g, y.f]) (xs := [(modD (y.p, y.v), []), (litS y.g, []), z]) Tryz.underlying29 (by rw [cells34]; rfl) (by simp [cells9, cells23, cells32, h0', h1', h2']; rfl)
    simp only [List.map_cons, List.map_nil, List.flatMap_cons, List.flatMap_nil, List.nil_append, List.append_nil] at this
    exact this
  cellsOf := cells34

set_option maxRecDepth 100000 in
theorem open_ents {r : Reach} {b0 : Nat} {v : Value} {d : DataW H} {p : List MemPlace} (hval : Value.okWide Tryz.prog W r b0 22 v) (h : DataW.Trod enc Tryz.prog W 0 (fun _ => true) true 22 v d p) :
    ∃ xs : List EntB, RRow entR W v xs ∧ xs.length ≤ maxLen ∧ Filed W xs ∧ (∀ x ∈ xs, x.p.size ≤ maxLen ∧ x.v.size ≤ maxLen) ∧ ∀ W', Below W.heap.size W W' → DataW.Trod enc Tryz.prog W' 0 (fun b => decide (b < W.heap.size)) true 22 v d p := by
  obtain ⟨a, len, cap, rfl⟩ := okWide_slice Tryz.underlying22 hval
  obtain ⟨fuel, hf⟩ := h
  obtain ⟨xs, h1, h2, h3, h4⟩ := open_recsW entRD Tryz.underlying22 (by simpa [Value.cells] using hf)
  refine ⟨xs, h1, h2, fun x hx => ?_, fun x hx => ?_, fun W' hb => ?_⟩
  · obtain ⟨z, hz⟩ := h3 x hx
    exact hz.2.2.2.1
  · obtain ⟨z, hz⟩ := h3 x hx
    exact ⟨hz.1, hz.2.1⟩
  · obtain ⟨n, hn⟩ := h4 W' hb
    exact ⟨n, by simpa [Value.cells] using hn⟩
end
end Go.Proofs.YtcbpkbemnaondaaGreatDoor

/-
  Whether entries are too many, or too great.
-/
namespace Go.Proofs.YtcbpkbemnaondaaGreatDoor
open Go.RowKit Go.Shelf

theorem ent_at {w : World} {g o : Nat} {xs : List EntB} (h : RAt entR w g o xs) (i : Nat) (hi : i < xs.length) :
    w.cell? ⟨g, o + i * 4, none⟩ = some (.string xs[i].p) ∧ w.cell? ⟨g, o + i * 4 + 1, none⟩ = some (.string xs[i].v) ∧ w.cell? ⟨g, o + i * 4 + 2, none⟩ = some (.string xs[i].g) ∧ w.cell? ⟨g, o + i * 4 + 3, none⟩ = some (.slice xs[i].a xs[i].n xs[i].c) :=
  ⟨h i hi 0 _ rfl, h i hi 1 _ rfl, h i hi 2 _ rfl, h i hi 3 _ rfl⟩
theorem file_at {w : World} {g o : Nat} {xs : List FileB} (h : RAt fileR w g o xs) (i : Nat) (hi : i < xs.length) :
    w.cell? ⟨g, o + i * 2, none⟩ = some (.string xs[i].1) ∧ w.cell? ⟨g, o + i * 2 + 1, none⟩ = some (.string xs[i].2) :=
  ⟨h i hi 0 _ rfl, h i hi 1 _ rfl⟩
theorem ne_of_lt {α : Type} {xs : List α} {k : Nat} (h : k < xs.length) : xs ≠ [] := by
  intro e; rw [e] at h; simp at h
/-- Few and small enough. -/
def LightE (xs : List EntB) : Prop := xs.length ≤ 50 ∧ ∀ x ∈ xs, x.p.size ≤ 16384 ∧ x.v.size ≤ 16384 ∧ x.g.size ≤ 16384 ∧ x.n ≤ 16384
def Upto (xs : List EntB) (k N : Nat) : Prop := ∀ i (h : i < xs.length), i < k → min xs[i].p.size 1048576 ≤ N ∧ min xs[i].v.size 1048576 ≤ N ∧ min xs[i].g.size 1048576 ≤ N ∧ min xs[i].n 1048576 ≤ N
theorem Upto.mono {xs : List EntB} {k N N' : Nat} (h : Upto xs k N) (hN : N ≤ N') : Upto xs k N' := fun i hi hk => by
  obtain ⟨a, b, c, d⟩ := h i hi hk
  exact ⟨by omega, by omega, by omega, by omega⟩
theorem Upto.snoc {xs : List EntB} {k N N' : Nat} (h : Upto xs k N) (hN : N ≤ N') (hk : k < xs.length) (h1 : min xs[k].p.size 1048576 ≤ N' ∧ min xs[k].v.size 1048576 ≤ N' ∧ min xs[k].g.size 1048576 ≤ N' ∧ min xs[k].n 1048576 ≤ N') : Upto xs (k + 1) N' := fun i hi hik => by
  by_cases e : i = k
  · subst e; exact h1
  · exact h.mono hN i hi (by omega)
theorem light_ofE {xs : List EntB} {N : Nat} (h : xs.length ≤ 50) (hu : Upto xs xs.length N) (hN : N ≤ 16384) : LightE xs := by
  refine ⟨h, fun x hx => ?_⟩
  obtain ⟨i, hi, rfl⟩ := List.getElem_of_mem hx
  obtain ⟨a, b, c, d⟩ := hu i hi hi
  exact ⟨by omega, by omega, by omega, by omega⟩
def HeavyOut (xs : List EntB) (w : World) (e : Ending) (w' : World) : Prop := ∃ b n, e = .returned (.bool b) ∧ (b = false → LightE xs) ∧ w' = w.drewN n

set_option maxRecDepth 100000 in
set_option maxHeartbeats 2000000 in
theorem heavy_any (xs : List EntB) (v : Value) (w : World) (hv : RRow entR w v xs) (hm : xs.length ≤ maxLen) (hf : Filed w xs) :
    Calls Tryz.prog 6 #[v] w (HeavyOut xs w) := by
  obtain ⟨a, c, rfl, hl, hc⟩ := hv
  have HC := Lib.hid hc
  have HF := Lib.hid hf
  clear hc hf
  unfold maxLen at hm
  by_cases h50 : xs.length ≤ 50
  · go_enter Tryz.func6, Tryz.ntmps6
    go_wp2
    go_loopw [3, 4] (fun n i wr => ∃ k N m : Nat, k ≤ xs.length ∧ i = .int .i64 k ∧ n = .int .i64 N ∧ N ≤ 5000000 ∧ Upto xs k N ∧ wr = w.drewN m) (fun _ i _ => xs.length - (intOf i).toNat)
    case atStart => exact ⟨0, 0, 0, Nat.zero_le _, rfl, rfl, Nat.zero_le _, (fun i hi h => absurd h (Nat.not_lt_zero _)), rfl⟩
    case round =>
      obtain ⟨k, N, m, hk, rfl, rfl, hN, hu, rfl⟩ := hrel
      by_cases hlt : k < xs.length
      · by_cases hbig : N ≤ 16384
        · obtain ⟨g, o, rfl, hg, hat⟩ := HC.out (ne_of_lt hlt)
          obtain ⟨q1, q2, q3, q4⟩ := ent_at hat k hlt
          obtain ⟨fs, hfs, hfl⟩ := HF.out xs[k] (List.getElem_mem hlt)
          have HS := Lib.hid (@Upto.snoc xs k N (N + (1 + min xs[k].p.size 1048576 + min xs[k].v.size 1048576 + min xs[k].g.size 1048576 + min xs[k].n 1048576)) hu (by omega) hlt ⟨by omega, by omega, by omega, by omega⟩)
          clear hat hu
          generalize xs[k] = x at *
          obtain ⟨xp, xv, xg, xa, xn, xc⟩ := x
          dsimp only at q1 q2 q3 q4 HS
          obtain ⟨A, C, e, hle, hcf⟩ := hfs
          simp only [EntB.f, Value.slice.injEq] at e
          obtain ⟨rfl, rfl, rfl⟩ := e
          have HCF := Lib.hid hcf
          clear hcf
          unfold maxLen at hfl
          go_upto_region 7 with fail
          go_cut [3] (fun s3 wx => ∃ N' : Nat, s3 = .int .i64 N' ∧ N' = N + (1 + min xp.size 1048576 + min xv.size 1048576 + min xg.size 1048576 + min fs.length 1048576) ∧ wx = w.drewN (m + 1))
          case first =>
            go_region
            all_goals
              go_wp2
              go_meet
              refine ⟨N + (1 + min xp.size 1048576 + min xv.size 1048576 + min xg.size 1048576 + min fs.length 1048576), ?_, rfl, rfl⟩
              congr 1
              (repeat' split) <;> omega
          case rest =>
            obtain ⟨N', rfl, hN', rfl⟩ := hcut
            rw [← hN'] at HS
            have hN2 : N' ≤ 5000000 := by omega
            clear hN'
            go_wp2
            go_loopw [3, 5] (fun n i wr => ∃ k2 N2 m2 : Nat, k2 ≤ fs.length ∧ i = .int .i64 k2 ∧ n = .int .i64 N2 ∧ N' ≤ N2 ∧ N2 ≤ 5000000 ∧ wr = w.drewN m2) (fun _ i _ => fs.length - (intOf i).toNat)
            case atStart => exact ⟨0, N', m + 1, Nat.zero_le _, rfl, rfl, Nat.le_refl _, hN2, rfl⟩
            case round =>
              obtain ⟨k2, N2, m2, hk2, rfl, rfl, hle2, hN3, rfl⟩ := hrel
              by_cases hlt2 : k2 < fs.length
              · by_cases hbig2 : N2 ≤ 16384
                · obtain ⟨g2, o2, rfl, hg2, hat2⟩ := HCF.out (ne_of_lt hlt2)
                  obtain ⟨r1, r2⟩ := file_at hat2 k2 hlt2
                  clear hat2
                  generalize fs[k2] = y at *
                  obtain ⟨y1, y2⟩ := y
                  dsimp only at r1 r2
                  go_wp2
                  go_region
                  all_goals
                    go_wp2
                    refine ⟨⟨k2 + 1, N2 + (min y1.size 1048576 + min y2.size 1048576), m2 + 1, by omega, by go_num, ?_, by omega, by omega, rfl⟩, by simp [intOf]; omega⟩
                    congr 1
                    (repeat' split) <;> omega
                · go_wp2
                  refine ⟨⟨k + 1, N2, m2, by omega, by go_num, rfl, hN3, HS.out.mono hle2, rfl⟩, by simp [intOf]; omega⟩
              · go_wp2
                refine ⟨⟨k + 1, N2, m2, by omega, by go_num, rfl, hN3, HS.out.mono hle2, rfl⟩, by simp [intOf]; omega⟩
        · go_wp2
          go_ret
          exact ⟨true, _, by first | rfl | (simp; done) | (simp; omega), (fun h => by cases h), rfl⟩
      · have hkl : k = xs.length := by omega
        subst hkl
        have HL := Lib.hid (fun h => light_ofE h50 hu h)
        clear hu
        go_wp2
        go_ret
        exact ⟨_, _, rfl, (fun h => HL.out (by simp at h; omega)), rfl⟩
  · go_enter Tryz.func6, Tryz.ntmps6
    go_wp2
    all_goals
      go_ret
      exact ⟨true, 0, rfl, (fun h => by cases h), rfl⟩
end Go.Proofs.YtcbpkbemnaondaaGreatDoor
