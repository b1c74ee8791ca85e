/-
  The versions that there are of a path: the program's.
-/
import Derived.Test.YtcbpkbemnaondaaGreatDoorN7
import Derived.Test.YtcbpkbemnaondaaGreatDoorN5
import Derived.Shelf.SlSortCmp.NoneTotal
import Derived.Deep.RegionHeld3
import Derived.Lib.QuietBelow
import Derived.BigQuiet
namespace Go.Proofs.YtcbpkbemnaondaaGreatDoor
open Go.RowKit Go.Shelf

set_option maxRecDepth 100000 in
theorem sort_none (cap : Nat) (fv : Value) (w : World) : Calls Tryz.prog 37 #[.slice none 0 cap, fv] w fun e w' => e = .returned (.tuple #[]) ∧ w' = w := by
  have h := AnyF.slices_SortFunc_none (P := Tryz.prog) (ρ := Tryz.sortS_ren) { Tryz.sortS with } none cap fv w
  exact h
theorem sortV_any (base : Nat) (V : Value) (ys : List ByteArray) (w : World) (h : ROwn strR 9 w base V ys) (hs : ∀ y ∈ ys, y.size ≤ 20400) (hl : ys.length ≤ 1000) :
    Calls Tryz.prog 37 #[V, .func (.func 38) #[] #[]] w fun e w' => e = .returned (.tuple #[]) ∧ ∃ zs : List ByteArray, zs.Perm ys ∧ Rising zs ∧ RRow strR w' V zs ∧ w.grownBy w' V.ownBlock := by
  obtain ⟨_, ⟨rfl, h0⟩ | ⟨g, cap, cur, rfl, hg, hh, hle, _, hcs, ht⟩⟩ := h
  · have : ys = [] := List.length_eq_zero_iff.1 h0
    subst this
    refine (sort_none 0 _ w).mono ?_
    rintro _ w' ⟨rfl, rfl⟩
    exact ⟨rfl, [], List.Perm.refl _, List.Pairwise.nil, RRow.nil _, World.grownBy.refl _ _⟩
  · refine (sort_some g cap cur ys w hh hle ?_ hs hl).mono ?_
    · rw [strR_flat] at ht
      simpa [strR] using ht
    · rintro _ w' ⟨rfl, zs, h1, h2, h3, h4⟩
      exact ⟨rfl, zs, h1, h2, h3, h4⟩

set_option maxRecDepth 100000 in
theorem strTy : RTy Tryz.prog strR 40 9 (.string ⟨#[]⟩) 16 := ⟨Tryz.underlying40, by kernel_rfl, rfl, by decide⟩
theorem wpList_rapp {α : Type} {R : Rec α} {P : Program} {st et : TypeId} {z : Value} {bytes : Nat} (T : RTy P R st et z bytes) {w : World} {ops : Array Oper} {rest : List Oper} {o : Oper} {a : Act} {Q : Exit → Act → World → Prop} (hgd : o.guard = none) (s x : Operand)
    (ho : o.op = .call { callee := .builtin .append, args := #[s, x], argTypes := #[st, st] })
    (base : Nat) {v : Value} {xs : List α} (h : ROwn R et w base v xs) (hs : a.eval s = v) {A : Option Addr} {m c : Nat} {ys : List α} (hr : RRow R w (.slice A m c) ys) (hx : a.eval x = .slice A m c) (hn : xs.length + ys.length ≤ 100000) (hb : base ≤ w.heap.size)
    (hk : ∀ A' c' w', RApp R et w base v xs ys (.slice A' (xs ++ ys).length c') w' → wpList P ops Q rest (a.put o.dst (.slice A' (xs ++ ys).length c')) w') : wpList P ops Q (o :: rest) a w :=
  wpList_plain hgd fun _ hK => wp_rapp T s x ho base hs h hx hr hn hb fun A' c' w' h2 => hK _ _ (hk A' c' w' h2)
theorem ROwn.kept {α : Type} {R : Rec α} {et : TypeId} {w w' : World} {base : Nat} {v : Value} {xs : List α} {row : Option Nat} (h : ROwn R et w base v xs) (hg : w.grownBy w' row) (hne : ∀ b, row = some b → b < base) : ROwn R et w' base v xs := by
  refine World.ownsRow.kept h hg ?_
  cases hv : v.ownBlock with
  | none => exact .inl rfl
  | some k =>
    refine .inr fun e => ?_
    have h1 := h.block k hv
    have h2 := hne k e.symm
    omega

/-- The modules of a path among the entries, each once, as they are met. -/
def metL (path : ByteArray) (xs : List EntB) : List ModB := xs.foldl (fun S x => if decide (x.p = path) then addM S x.m else S) []
theorem metL_snoc (path : ByteArray) (xs : List EntB) (k : Nat) (h : k < xs.length) : metL path (xs.take (k + 1)) = if decide (xs[k].p = path) then addM (metL path (xs.take k)) xs[k].m else metL path (xs.take k) := by
  unfold metL
  rw [List.take_succ_eq_append_getElem h, List.foldl_append]
  rfl
theorem addM_len (S : List ModB) (m : ModB) : (addM S m).length ≤ S.length + 1 := by
  unfold addM; split <;> simp
theorem metL_len (path : ByteArray) (xs : List EntB) : ∀ k, (metL path (xs.take k)).length ≤ k := by
  intro k
  induction k with
  | zero => simp [metL]
  | succ k ih =>
    by_cases h : k < xs.length
    · rw [metL_snoc path xs k h]
      split
      · have := addM_len (metL path (xs.take k)) xs[k].m; omega
      · omega
    · rw [List.take_of_length_le (by omega)] at ih ⊢
      omega
theorem addM_mem {S : List ModB} {m x : ModB} : x ∈ addM S m ↔ x ∈ S ∨ x = m := by
  unfold addM
  split
  · rename_i h
    constructor
    · exact .inl
    · rintro (h1 | rfl)
      · exact h1
      · exact inM_iff.1 h
  · simp
theorem metL_mem (path : ByteArray) (xs : List EntB) : ∀ k, k ≤ xs.length → ∀ m, m ∈ metL path (xs.take k) ↔ ∃ x ∈ xs.take k, x.p = path ∧ x.m = m := by
  intro k
  induction k with
  | zero => intro _ m; simp [metL]
  | succ k ih =>
    intro hk m
    have h : k < xs.length := by omega
    have ih := ih (by omega) m
    rw [metL_snoc path xs k h, List.take_succ_eq_append_getElem h]
    simp only [List.mem_append, List.mem_singleton]
    split
    · rename_i hp
      rw [decide_eq_true_eq] at hp
      rw [addM_mem, ih]
      constructor
      · rintro (⟨x, hx, h1, h2⟩ | rfl)
        · exact ⟨x, .inl hx, h1, h2⟩
        · exact ⟨_, .inr rfl, hp, rfl⟩
      · rintro ⟨x, hx | rfl, h1, h2⟩
        · exact .inl ⟨x, hx, h1, h2⟩
        · exact .inr h2.symm
    · rename_i hp
      rw [decide_eq_true_eq] at hp
      rw [ih]
      constructor
      · rintro ⟨x, hx, h1, h2⟩
        exact ⟨x, .inl hx, h1, h2⟩
      · rintro ⟨x, hx | rfl, h1, h2⟩
        · exact ⟨x, hx, h1, h2⟩
        · exact absurd h1 hp
theorem metL_in {path : ByteArray} {xs : List EntB} {m : ModB} : m ∈ metL path xs ↔ ∃ x ∈ xs, x.p = path ∧ x.m = m := by
  have := metL_mem path xs xs.length (Nat.le_refl _) m
  rwa [List.take_length] at this
def VersOut (path : ByteArray) (xs : List EntB) (w : World) (e : Ending) (w' : World) : Prop :=
  ∃ V zs, e = .returned V ∧ RRow strR w' V zs ∧ zs.Perm ((metL path xs).map (·.2)) ∧ Rising zs ∧ Below w.heap.size w w'
theorem Below.grownB {B : Nat} {w a b : World} {row : Option Nat} (h : Below B w a) (hg : a.grownBy b row) (hB : B ≤ a.heap.size) (hne : ∀ k, row = some k → B ≤ k) : Below B w b := h.grown hg hB hne
theorem cells_kept {w w' : World} {b : Nat} {row : Option Nat} (hg : w.grownBy w' row) (hb : b < w.heap.size) (hne : some b ≠ row) (i : Nat) : w'.cell? ⟨b, i, none⟩ = w.cell? ⟨b, i, none⟩ := World.cell?_of_block (a := ⟨b, i, none⟩) (hg.block b hb hne)
theorem RRow.oneB {α : Type} {R : Rec α} {w : World} (t : TypeId) (x : α) (cs : Array Value) (h : cs = (R.cells x).toArray) : RRow R (w.alloc (.cells cs t)) (.slice (some ⟨w.heap.size, 0, none⟩) 1 1) [x] := by
  subst h; exact RRow.one w x t

set_option maxRecDepth 100000 in
set_option maxHeartbeats 2000000 in
theorem versions_any (xs : List EntB) (v : Value) (path : ByteArray) (w : World) (hv : RRow entR w v xs) (hL : LightE xs) :
    Calls Tryz.prog 17 #[v, .string path] w (VersOut path xs w) := by
  have hmm := @run_makeMap Tryz.prog
  have HV := Lib.hid hv
  obtain ⟨a, c, rfl, hl, -⟩ := hv
  have HL := Lib.hid hL.2
  have h50 := hL.1
  clear hL
  go_enter Tryz.func17, Tryz.ntmps17
  go_wp2
  go_loopw [6, 12] (fun V i wr => ∃ k : Nat, k ≤ xs.length ∧ i = .int .i64 k ∧ SetAt wr w.heap.size (metL path (xs.take k)) ∧ ROwn strR 9 wr (w.heap.size + 1) V ((metL path (xs.take k)).map (·.2)) ∧ Below w.heap.size w wr ∧ w.heap.size + 1 ≤ wr.heap.size) (fun _ i _ => xs.length - (intOf i).toNat)
  case atStart => exact ⟨0, Nat.zero_le _, rfl, ⟨World.ownsMap_made _ _ _ _, by simp [metL]⟩, ROwn.nil _ _, (Below.refl _ _).alloc (Nat.le_refl _) _, by simp⟩
  case round =>
    obtain ⟨k, hk, rfl, hS, hO, hB, hz⟩ := hrel
    by_cases hlt : k < xs.length
    · obtain ⟨a', c', e, -, hsp⟩ := HV.out.below hB
      simp only [Value.slice.injEq] at e
      obtain ⟨rfl, -, rfl⟩ := e
      obtain ⟨g, o, rfl, hg, hat⟩ := hsp (ne_of_lt hlt)
      obtain ⟨q1, q2, q3, q4⟩ := ent_at hat k hlt
      obtain ⟨s1, s2, -, -⟩ := HL.out _ (List.getElem_mem hlt)
      have HM := Lib.hid (metL_snoc path xs k hlt)
      have HN := Lib.hid (metL_len path xs k)
      clear hat hsp
      generalize xs[k] = x at *
      generalize metL path (xs.take k) = S at *
      obtain ⟨xp, xv, xg, xa, xn, xc⟩ := x
      dsimp only [EntB.m] at q1 q2 q3 q4 s1 s2 HM
      have hS2 := hS.below ((Below.refl _ wr).alloc (Nat.le_refl _) (.cells #[.string xp, .string xv, .string xg, .slice xa xn xc] 29))
      have hO2 := hO.alloc (.cells #[.string xp, .string xv, .string xg, .slice xa xn xc] 29)
      have hB2 := hB.alloc hB.size (.cells #[.string xp, .string xv, .string xg, .slice xa xn xc] 29)
      have hz2 : w.heap.size + 1 ≤ (wr.alloc (.cells #[.string xp, .string xv, .string xg, .slice xa xn xc] 29)).heap.size := by simp; omega
      have hn2 : wr.heap.size < (wr.alloc (.cells #[.string xp, .string xv, .string xg, .slice xa xn xc] 29)).heap.size := by simp
      have hne : wr.heap.size ≠ w.heap.size := by omega
      cases hp : (xp.toList == path.toList)
      · have hM : metL path (xs.take (k + 1)) = S := by
          rw [HM.out, if_neg]
          intro e
          rw [decide_eq_true_eq] at e
          rw [e] at hp
          simp at hp
        have HS := Lib.hid hS2
        have HO := Lib.hid hO2
        have HB := Lib.hid hB2
        have HM2 := Lib.hid hM
        clear hS2 hO2 hB2 hS hO hM HM
        go_wp2
        go_roundw
        case rel => exact ⟨k + 1, by omega, by go_num, by rw [HM2.out]; exact HS.out, by rw [HM2.out]; exact HO.out, HB.out, hz2⟩
        case measure => simp [intOf]; omega
      · have hpe : xp = path := eq_size (eq_of_beq hp)
        have hM : metL path (xs.take (k + 1)) = addM S (xp, xv) := by rw [HM.out, if_pos (by rw [decide_eq_true_eq]; exact hpe)]
        have d1 := cell_newR wr #[.string xp, .string xv, .string xg, .slice xa xn xc] 29 1
        have HD := Lib.hid d1
        have HO := Lib.hid hO2
        have HB := Lib.hid hB2
        have HM2 := Lib.hid hM
        have HC := Lib.hid (seen_any w.heap.size S xp xv (by unfold maxLen; omega) (by unfold maxLen; omega) _ hS2 (by have := HN.out; omega))
        clear hS2 hO2 hB2 hS hO hM HM hpe d1
        go_wp2_with fail
        refine HC.out.mono ?_
        rintro _ w3 ⟨rfl, hS3, hg3⟩
        have d3 := (cells_kept hg3 hn2 (by simp; omega) 1).trans HD.out
        simp only [List.getElem?_toArray, List.getElem?_cons_succ, List.getElem?_cons_zero] at d3
        have hO3 := HO.out.kept hg3 (fun b e => by cases e; omega)
        have hB3 := HB.out.grown hg3 (by omega) (fun b e => by cases e; exact Nat.le_refl _)
        have hz3 := Nat.le_trans hz2 hg3.size
        clear HC HO HB HD hg3
        cases hin : inM S (xp, xv)
        · have hA : addM S (xp, xv) = S ++ [(xp, xv)] := by simp [addM, hin]
          rw [hA] at hS3
          have HM3 := Lib.hid (HM2.out.trans hA)
          have HN2 := Lib.hid (show (S.map (·.2)).length + [xv].length ≤ 100000 by have := HN.out; simp; omega)
          have hrow := RRow.oneB (R := strR) (w := w3) 9 xv #[.string xv] rfl
          have hO4 := hO3.alloc (.cells #[.string xv] 9)
          have hS4 := hS3.below ((Below.refl _ w3).alloc (Nat.le_refl _) (.cells #[.string xv] 9))
          have hB4 := hB3.alloc (by omega) (.cells #[.string xv] 9)
          have hz4 : w.heap.size + 1 ≤ (w3.alloc (.cells #[.string xv] 9)).heap.size := by simp; omega
          have HO4 := Lib.hid hO4
          have HR := Lib.hid hrow
          have HS4 := Lib.hid hS4
          have HB4 := Lib.hid hB4
          clear hO4 hrow hS4 hB4 hO3 hS3 hB3 hA HM2
          go_wp2_with (first
            | (at_builtin; refine wpList_rapp strTy rfl _ _ rfl (w.heap.size + 1) HO4.out rfl HR.out rfl HN2.out hz4 ?_; intro A' c' w5 happ)
            | go_in)
          obtain ⟨p1, p2, p3⟩ := happ
          rw [show (S.map (·.2) ++ [xv]).length = S.length + 1 by simp] at p1
          have hfar : ∀ b, u6.ownBlock = some b → w.heap.size + 1 ≤ b := HO4.out.block
          go_roundw
          case rel =>
            refine ⟨k + 1, by omega, by go_num, ?_, ?_, ?_, Nat.le_trans hz4 p2.size⟩
            · rw [HM3.out]
              exact HS4.out.kept p2 (fun e => by have := hfar _ e.symm; omega)
            · rw [HM3.out, List.map_append]
              exact p1
            · exact HB4.out.grown p2 (by omega) (fun b e => by have := hfar _ e; omega)
          case measure => simp [intOf]; omega
        · have hA : addM S (xp, xv) = S := by simp [addM, hin]
          rw [hA] at hS3
          have HM3 := Lib.hid (HM2.out.trans hA)
          have HS := Lib.hid hS3
          have HO := Lib.hid hO3
          have HB := Lib.hid hB3
          clear hS3 hO3 hB3 hA HM2
          go_wp2
          go_roundw
          case rel => exact ⟨k + 1, by omega, by go_num, by rw [HM3.out]; exact HS.out, by rw [HM3.out]; exact HO.out, HB.out, hz3⟩
          case measure => simp [intOf]; omega
    · obtain rfl : k = xs.length := by omega
      rw [List.take_length] at hS hO
      have hn := metL_len path xs xs.length
      rw [List.take_length] at hn
      have HC := Lib.hid (sortV_any (w.heap.size + 1) u6 ((metL path xs).map (·.2)) wr hO (by
        intro y hy
        obtain ⟨m, hm, rfl⟩ := List.mem_map.1 hy
        obtain ⟨x, hx, _, rfl⟩ := metL_in.1 hm
        have h1 : x.v.size ≤ 16384 := (HL.out x hx).2.1
        show x.v.size ≤ 20400
        omega) (by simp; omega))
      have hfar : ∀ b, u6.ownBlock = some b → w.heap.size + 1 ≤ b := hO.block
      have HFa := Lib.hid hfar
      have HB := Lib.hid hB
      clear hS hO hfar hB
      go_wp2_with fail
      refine HC.out.mono ?_
      rintro _ w3 ⟨rfl, zs, hperm, hris, hrow, hg3⟩
      have HE := Lib.hid (show VersOut path xs w (.returned u6) w3 from ⟨u6, zs, rfl, hrow, hperm, hris, HB.out.grown hg3 (by omega) (fun b e => by have := HFa.out b e; omega)⟩)
      clear hperm hris hrow hg3
      go_wp2
      go_ret
      exact HE.out
end Go.Proofs.YtcbpkbemnaondaaGreatDoor

/-
  Plain facts, of no program: the versions of a path rise; each is an entry's, each entry's is there.
-/
namespace Go.Proofs.YtcbpkbemnaondaaGreatDoor
open Go.RowKit Go.Shelf

theorem addM_nodup {S : List ModB} {m : ModB} (h : S.Nodup) : (addM S m).Nodup := by
  unfold addM
  split
  · exact h
  · rename_i hn
    have hm : ¬ m ∈ S := fun e => hn (inM_iff.2 e)
    rw [List.nodup_append]
    refine ⟨h, by simp, fun a ha b hb => ?_⟩
    rw [List.mem_singleton.1 hb]
    exact fun e => hm (e ▸ ha)
theorem metL_nodup (path : ByteArray) (xs : List EntB) : ∀ k, k ≤ xs.length → (metL path (xs.take k)).Nodup := by
  intro k
  induction k with
  | zero => intro _; simp [metL]
  | succ k ih =>
    intro hk
    rw [metL_snoc path xs k (by omega)]
    split
    · exact addM_nodup (ih (by omega))
    · exact ih (by omega)
/-- How many entries have that path. -/
def cnt (path : ByteArray) (xs : List EntB) : Nat := (xs.filter fun x => decide (x.p = path)).length
theorem cnt_snoc (path : ByteArray) (xs : List EntB) (k : Nat) (h : k < xs.length) : cnt path (xs.take (k + 1)) = cnt path (xs.take k) + (if decide (xs[k].p = path) then 1 else 0) := by
  unfold cnt
  rw [List.take_succ_eq_append_getElem h, List.filter_append, List.length_append, List.filter_cons]
  split <;> simp
theorem cnt_le (path : ByteArray) (xs : List EntB) (k : Nat) : cnt path (xs.take k) ≤ k := by
  unfold cnt
  exact Nat.le_trans (List.length_filter_le _ _) (by simp; omega)
theorem metL_cnt (path : ByteArray) (xs : List EntB) : ∀ k, k ≤ xs.length → (metL path (xs.take k)).length ≤ cnt path (xs.take k) := by
  intro k
  induction k with
  | zero => intro _; simp [metL]
  | succ k ih =>
    intro hk
    have := ih (by omega)
    rw [metL_snoc path xs k (by omega), cnt_snoc path xs k (by omega)]
    split
    · have := addM_len (metL path (xs.take k)) xs[k].m; omega
    · omega
theorem verCmp_zero {a b : ByteArray} : verCmp a b = 0 ↔ a = b := by
  constructor
  · intro h
    exact data_inj (tcmp_zero.1 (orI_zero.1 h).2)
  · rintro rfl
    exact verCmp_cmp.self a
theorem modCmp_path (p a b : ByteArray) : modCmp (p, a) (p, b) = verCmp a b := by
  unfold modCmp
  rw [show compareN p p = 0 from compareN_cmp.self p]
  rfl

/-- What the versions of a path are. -/
structure Vers (path : ByteArray) (xs : List EntB) (zs : List ByteArray) : Prop where
  mem : ∀ s, s ∈ zs ↔ ∃ x ∈ xs, x.p = path ∧ x.v = s
  strict : zs.Pairwise fun a b => verCmp a b = -1
  len : zs.length ≤ cnt path xs
theorem Vers.of {path : ByteArray} {xs : List EntB} {zs : List ByteArray} (hp : zs.Perm ((metL path xs).map (·.2))) (hr : Rising zs) : Vers path xs zs where
  mem s := by
    rw [hp.mem_iff, List.mem_map]
    constructor
    · rintro ⟨m, hm, rfl⟩
      obtain ⟨x, hx, h1, rfl⟩ := metL_in.1 hm
      exact ⟨x, hx, h1, rfl⟩
    · rintro ⟨x, hx, h1, rfl⟩
      exact ⟨x.m, metL_in.2 ⟨x, hx, h1, rfl⟩, rfl⟩
  strict := by
    have hn : (metL path xs).Nodup := by
      have := metL_nodup path xs xs.length (Nat.le_refl _)
      rwa [List.take_length] at this
    have hn2 : ((metL path xs).map (·.2)).Nodup := by
      refine List.Pairwise.map _ ?_ (List.Pairwise.and_mem.1 hn)
      rintro a b ⟨ha, hb, hab⟩ e
      obtain ⟨x, _, h1, rfl⟩ := metL_in.1 ha
      obtain ⟨y, _, h2, rfl⟩ := metL_in.1 hb
      exact hab (Prod.ext (h1.trans h2.symm) e)
    have hz : zs.Nodup := hp.nodup_iff.2 hn2
    refine (List.Pairwise.and hr hz).imp ?_
    rintro a b ⟨h1, h2⟩
    have h3 := verCmp_cmp.neg a b
    rcases verCmp_cmp.range a b with e | e | e
    · exact e
    · exact absurd (verCmp_zero.1 e) h2
    · omega
  len := by
    have := metL_cnt path xs xs.length (Nat.le_refl _)
    rw [List.take_length] at this
    rw [hp.length_eq, List.length_map]
    exact this
theorem Vers.next {path : ByteArray} {xs : List EntB} {zs : List ByteArray} (h : Vers path xs zs) {k : Nat} (h1 : k + 1 < zs.length) : modCmp (path, zs[k]) (path, zs[k + 1]) = -1 := by
  rw [modCmp_path]
  exact List.pairwise_iff_getElem.1 h.strict k (k + 1) (by omega) h1 (by omega)
theorem Vers.small {path : ByteArray} {xs : List EntB} {zs : List ByteArray} (h : Vers path xs zs) (hL : LightE xs) {k : Nat} (hk : k < zs.length) : zs[k].size ≤ 16384 := by
  obtain ⟨x, hx, _, e⟩ := (h.mem zs[k]).1 (List.getElem_mem hk)
  rw [← e]
  exact (hL.2 x hx).2.1
/-- Two lists that say so are one. -/
theorem strict_unique : ∀ {a b : List ByteArray}, a.Pairwise (fun x y => verCmp x y = -1) → b.Pairwise (fun x y => verCmp x y = -1) → (∀ s, s ∈ a ↔ s ∈ b) → a = b
  | [], [], _, _, _ => rfl
  | [], y :: b, _, _, h => by have := (h y).2 (by simp); simp at this
  | x :: a, [], _, _, h => by have := (h x).1 (by simp); simp at this
  | x :: a, y :: b, ha, hb, h => by
    obtain ⟨h1, h2⟩ := List.pairwise_cons.1 ha
    obtain ⟨k1, k2⟩ := List.pairwise_cons.1 hb
    have hxy : x = y := by
      have hx := (h x).1 (by simp)
      have hy := (h y).2 (by simp)
      rcases List.mem_cons.1 hx with e | e
      · exact e
      · rcases List.mem_cons.1 hy with e' | e'
        · exact e'.symm
        · have a1 := k1 x e
          have a2 := h1 y e'
          have := verCmp_cmp.neg x y
          omega
    subst hxy
    rw [strict_unique h2 k2 fun s => ?_]
    have irr : ∀ {c : List ByteArray}, (∀ y ∈ c, verCmp x y = -1) → ¬ x ∈ c := fun hc e => by
      have := hc x e
      rw [verCmp_cmp.self] at this
      omega
    have hs := h s
    simp only [List.mem_cons] at hs
    constructor
    · intro e
      rcases hs.1 (.inr e) with rfl | e'
      · exact absurd e (irr h1)
      · exact e'
    · intro e
      rcases hs.2 (.inr e) with rfl | e'
      · exact absurd e (irr k1)
      · exact e'
theorem str_at {w : World} {g o : Nat} {zs : List ByteArray} (h : RAt strR w g o zs) (i : Nat) (hi : i < zs.length) : w.cell? ⟨g, o + i, none⟩ = some (.string zs[i]) := by
  have := h i hi 0 _ rfl
  simpa [strR] using this
end Go.Proofs.YtcbpkbemnaondaaGreatDoor

/-
  Each entry's module is found, and its version is among its path's, which rise; no other version is: the law's own walk.
-/
namespace Go.Proofs.YtcbpkbemnaondaaGreatDoor
open Go.RowKit Go.Shelf

def HasNot (zs : List ByteArray) (s : ByteArray) (k : Nat) : Prop := ∀ i (h : i < zs.length), i < k → ¬ zs[i] = s
theorem HasNot.snoc {zs : List ByteArray} {s : ByteArray} {k : Nat} (h : HasNot zs s k) (hk : k < zs.length) (hn : ¬ zs[k] = s) : HasNot zs s (k + 1) := fun i hi hik => by
  by_cases e : i = k
  · subst e; exact hn
  · exact h i hi (by omega)
theorem HasNot.all {zs : List ByteArray} {s : ByteArray} (h : HasNot zs s zs.length) : ¬ s ∈ zs := fun hm => by
  obtain ⟨i, hi, rfl⟩ := List.getElem_of_mem hm
  exact h i hi hi rfl
theorem ne_list {a b : ByteArray} (h : (a.toList == b.toList) = false) : ¬ a = b := fun e => by rw [e] at h; simp at h

theorem order_big (p v q u : ByteArray) (hp : p.size ≤ 20400) (hv : v.size ≤ 20400) (hq : q.size ≤ 20400) (hu : u.size ≤ 20400) {n : Int} (h : modCmp (p, v) (q, u) = n) (w : World) :
    Calls Tryz.prog 34 #[.agg #[.string p, .string v], .agg #[.string q, .string u]] w fun e w' => e = .returned (.int .i64 n) ∧ Below w.heap.size w w' :=
  (order_any p v q u hp hv hq hu w).mono fun _ _ k => ⟨by rw [k.1, h], k.2⟩

end Go.Proofs.YtcbpkbemnaondaaGreatDoor
