/-
  The small checks of gomod.
-/
import Derived.Test.YtmdlmjcejeejfaaGreatDoorC3
import Derived.Test.YtmdlmjcejeejfaaGreatDoorG2
import Derived.Test.YtmdlmjcejeejfaaGreatDoorW10
import Derived.Deep.RegionHeld3
import Derived.Shelf.Strings.SlTrimAscii
import Derived.Ground.NamesProg
import Derived.Test.YtmdlmjcejeejfaaGreatDoorProg
namespace Go.Proofs.YtmdlmjcejeejfaaGreatDoor
open Go.RowKit Go.Shelf

set_option maxRecDepth 100000 in
set_option maxHeartbeats 800000 in
theorem first_any (g cap : Nat) (zs : List Int) (hz : zs.length ≤ 1000) (w : World) (hc : ∀ i (h : i < zs.length), w.cell? ⟨g, i, none⟩ = some (.int .i64 zs[i])) :
    Calls Tryz.prog 42 #[.slice (some ⟨g, 0, none⟩) zs.length cap] w fun e w' => e = .returned (.int .i64 (orL zs)) ∧ w = w' := by
  have HC := Lib.hid hc
  clear hc
  go_enter Tryz.func42, Tryz.ntmps42
  go_wp2
  go_loop [7] (fun i => ∃ k : Nat, k ≤ zs.length ∧ i = .int .i64 k ∧ OrAt zs k) (fun i => zs.length - (intOf i).toNat)
  case atStart => exact ⟨0, Nat.zero_le _, rfl, rfl⟩
  case round =>
    obtain ⟨k, hk, rfl, ht⟩ := hrel
    have HT := Lib.hid ht
    clear ht
    by_cases hlt : k < zs.length
    · have q := HC.out k hlt
      cases e : (zs[k] == 0)
      · have H := Lib.hid (HT.out.stop hlt (ne_of_beq_false e))
        generalize zs[k] = z at *
        have e' : (z != 0) = true := by rw [bne, e]; rfl
        go_wp2
        go_ret
        exact ⟨ret_int H.out.symm, rfl⟩
      · have H := Lib.hid (HT.out.on hlt (eq_of_beq e))
        generalize zs[k] = z at *
        have e' : (z != 0) = false := by rw [bne, e]; rfl
        go_wp2
        go_round
        case rel => exact ⟨k + 1, by omega, by go_num, H.out⟩
        case measure => simp [intOf]; omega
    · have H := Lib.hid (HT.out.done (by omega))
      go_wp2
      go_ret
      exact ⟨ret_int H.out.symm, rfl⟩

set_option maxRecDepth 100000 in
theorem unless_any (b : Bool) (e : Int) (w : World) :
    Calls Tryz.prog 96 #[.bool b, .int .i64 e] w fun r w' => r = .returned (.int .i64 (unl b e)) ∧ w = w' := by
  cases b
  all_goals
    go_enter Tryz.func96, Tryz.ntmps96
    go_wp2
    go_ret
    exact ⟨rfl, rfl⟩

theorem canonB_1 {v : ByteArray} (h : v.toList.isEmpty = true) : canonB v = false := by simp [canonB, h]
theorem canonB_2 {v : ByteArray} (h : v.toList.isEmpty = false) : canonB v = ((canonS v).toList == v.toList) := by simp [canonB, h]

set_option maxRecDepth 100000 in
set_option maxHeartbeats 1000000 in
theorem checkCanonical_any (s : ByteArray) (hs : s.size ≤ 20400) (w : World) :
    Calls Tryz.prog 101 #[.string s] w fun e w' => e = .returned (.int .i64 (canonE s)) ∧ Below w.heap.size w w' := by
  cases h : s.toList.isEmpty
  · have H := Lib.hid (canonB_2 h)
    have h' : (s.toList != []) = true := by cases hs : s.toList <;> simp_all
    go_enter Tryz.func101, Tryz.ntmps101
    go_wp2_with fail
    refine (canon_any s hs _).mono ?_
    rintro _ w1 ⟨rfl, hb⟩
    generalize hq : ((canonS s).toList == s.toList) = q at *
    go_wp2_with fail
    refine (unless_any _ _ _).mono ?_
    rintro _ w2 ⟨rfl, rfl⟩
    go_wp2
    go_ret
    exact ⟨ret_int (by rw [canonE, H.out]), hb⟩
  · have H := Lib.hid (canonB_1 h)
    go_enter Tryz.func101, Tryz.ntmps101
    go_wp2_with fail
    refine (unless_any _ _ _).mono ?_
    rintro _ w2 ⟨rfl, rfl⟩
    go_wp2
    go_ret
    exact ⟨ret_int (by rw [canonE, H.out]), Below.refl _ _⟩

set_option maxRecDepth 100000 in
theorem checkRelease_any (s : ByteArray) (hs : s.size ≤ 20000) (w : World) :
    Calls Tryz.prog 92 #[.string s] w fun e w' => e = .returned (.int .i64 (unl (relL s.data.toList) 30)) ∧ Below w.heap.size w w' := by
  go_enter Tryz.func92, Tryz.ntmps92
  go_wp2_with fail
  refine (release_any s hs _).mono ?_
  rintro _ w1 ⟨rfl, hb⟩
  go_wp2_with fail
  refine (unless_any _ _ _).mono ?_
  rintro _ w2 ⟨rfl, rfl⟩
  go_wp2
  go_ret
  exact ⟨rfl, hb⟩
set_option maxRecDepth 100000 in
theorem checkLocal_any (s : ByteArray) (hs : s.size ≤ 20400) (w : World) :
    Calls Tryz.prog 98 #[.string s] w fun e w' => e = .returned (.int .i64 (locE s)) ∧ Below w.heap.size w w' := by
  go_enter Tryz.func98, Tryz.ntmps98
  go_wp2_with fail
  refine (local_any s hs _).mono ?_
  rintro _ w1 ⟨rfl, hb⟩
  go_wp2_with fail
  refine (unless_any _ _ _).mono ?_
  rintro _ w2 ⟨rfl, rfl⟩
  go_wp2
  go_ret
  exact ⟨rfl, hb⟩
theorem goE_1 {s : ByteArray} (h : s.toList.isEmpty = true) : goE s = 0 := by simp [goE, h]
theorem goE_2 {s : ByteArray} (h : s.toList.isEmpty = false) : goE s = unl (relL s.data.toList) 30 := by simp [goE, h]
set_option maxRecDepth 100000 in
theorem checkGo_any (s : ByteArray) (hs : s.size ≤ 20000) (w : World) :
    Calls Tryz.prog 44 #[.string s] w fun e w' => e = .returned (.int .i64 (goE s)) ∧ Below w.heap.size w w' := by
  cases h : s.toList.isEmpty
  · have H := Lib.hid (goE_2 h)
    go_enter Tryz.func44, Tryz.ntmps44
    go_wp2_with fail
    refine (checkRelease_any s hs _).mono ?_
    rintro _ w1 ⟨rfl, hb⟩
    go_wp2
    go_ret
    exact ⟨ret_int H.out.symm, hb⟩
  · have H := Lib.hid (goE_1 h)
    go_enter Tryz.func44, Tryz.ntmps44
    go_wp2
    go_ret
    exact ⟨ret_int H.out.symm, Below.refl _ _⟩

theorem ints_cells (w : World) (t : TypeId) (xs : List Int) (vs : Array Value) (hv : vs = (xs.map (Value.int .i64)).toArray) : ∀ i (h : i < xs.length), (w.alloc (.cells vs t)).cell? ⟨w.heap.size, i, none⟩ = some (.int .i64 xs[i]) := by
  intro i h
  rw [cell_newR, hv]
  simp [h]

set_option maxRecDepth 100000 in
set_option maxHeartbeats 2000000 in
theorem checkMod_any (p v : ByteArray) (hp : p.size ≤ 20400) (hv : v.size ≤ 20400) (w : World) :
    Calls Tryz.prog 95 #[.agg #[.string p, .string v]] w fun e w' => e = .returned (.int .i64 (modE (p, v))) ∧ Below w.heap.size w w' := by
  have hb0 := (Below.refl w.heap.size w).alloc (Nat.le_refl _) (.cells #[.string p, .string v] 41)
  have c0 : (w.alloc (.cells #[.string p, .string v] 41)).cell? ⟨w.heap.size, 0, none⟩ = some (.string p) := by rw [cell_newR]; rfl
  have c1 : (w.alloc (.cells #[.string p, .string v] 41)).cell? ⟨w.heap.size, 1, none⟩ = some (.string v) := by rw [cell_newR]; rfl
  have hz : w.heap.size < (w.alloc (.cells #[.string p, .string v] 41)).heap.size := by simp
  go_enter Tryz.func95, Tryz.ntmps95
  go_wp2
  generalize w.alloc (.cells #[.string p, .string v] 41) = W at *
  go_region_held3 (fun w' => w'.cell? ⟨w.heap.size, 0, none⟩ = some (.string p) ∧ w'.cell? ⟨w.heap.size, 1, none⟩ = some (.string v))
    (first
      | go_keep
      | (go_split_ands; refine ⟨?_, ?_⟩ <;> (rw [hb6.cell hs5]; assumption))
      | (go_split_ands; refine ⟨?_, ?_⟩ <;> (rw [hb5.cell hs4]; assumption))
      | (go_split_ands; refine ⟨?_, ?_⟩ <;> (rw [hb4.cell hz]; assumption)))
    (first
      | (go_at_call 43; refine (module_any _ (by omega) _).mono ?_; rintro e w4 ⟨rfl, hb4⟩; have hs4 := Nat.lt_of_lt_of_le hz hb4.size)
      | (go_at_call 101; refine (checkCanonical_any _ (by omega) _).mono ?_; rintro e w5 ⟨rfl, hb5⟩; have hs5 := Nat.lt_of_lt_of_le hs4 hb5.size)
      | (go_at_call 144; refine (fits_any _ _ (by omega) (by omega) _).mono ?_; rintro e w6 ⟨rfl, hb6⟩; have hs6 := Nat.lt_of_lt_of_le hs5 hb6.size)
      | (go_at_call 42; refine (first_any _ _ [moduleN p, canonE v, fitN p v.data.toList] (by simp) _ (ints_cells _ _ _ _ (by rfl))).mono ?_; rintro e w' ⟨rfl, rfl⟩))
  rename_i hheld
  clear hheld
  have hB4 := hb0.drew.trans (hb4.mono hb0.size)
  have hB5 := hB4.trans (hb5.mono hB4.size)
  have hB6 := hB5.trans (hb6.mono hB5.size)
  go_wp2
  go_ret
  exact ⟨rfl, hB6.alloc hB6.size _⟩
end Go.Proofs.YtmdlmjcejeejfaaGreatDoor

/-
  What is wrong with a require, an exclude, a retract.
-/
namespace Go.Proofs.YtmdlmjcejeejfaaGreatDoor
open Go.RowKit Go.Shelf

set_option maxRecDepth 100000 in
set_option maxHeartbeats 2000000 in
theorem checkRequire_any (p v : ByteArray) (b : Bool) (hp : p.size ≤ 20400) (hv : v.size ≤ 20400) (r : Value) (xs : List ReqB) (w : World) (hr : RRow reqR w r xs) (hx : xs.length ≤ 1000) :
    Calls Tryz.prog 45 #[.agg #[.string p, .string v, .bool b], r] w fun e w' => e = .returned (.int .i64 (reqE ((p, v), b) xs)) ∧ Below w.heap.size w w' := by
  have hb0 := (Below.refl w.heap.size w).alloc (Nat.le_refl _) (.cells #[.string p, .string v, .bool b] 50)
  have c0 : (w.alloc (.cells #[.string p, .string v, .bool b] 50)).cell? ⟨w.heap.size, 0, none⟩ = some (.string p) := by rw [cell_newR]; rfl
  have c1 : (w.alloc (.cells #[.string p, .string v, .bool b] 50)).cell? ⟨w.heap.size, 1, none⟩ = some (.string v) := by rw [cell_newR]; rfl
  have hz : w.heap.size < (w.alloc (.cells #[.string p, .string v, .bool b] 50)).heap.size := by simp
  have HK := Lib.hid (contReq_any 94 again1_test r xs w.heap.size p _ (hr.below hb0) hx hz c0)
  obtain ⟨a, c, rfl, -⟩ := hr
  go_enter Tryz.func45, Tryz.ntmps45
  go_wp2_with fail
  refine HK.out.mono ?_
  rintro _ w1 ⟨rfl, hb1⟩
  have q0 := (hb1.cell (p := ⟨w.heap.size, 0, none⟩) hz).trans c0
  have q1 := (hb1.cell (p := ⟨w.heap.size, 1, none⟩) hz).trans c1
  have hB1 := hb0.trans (hb1.mono hb0.size)
  generalize hA : (xs.any fun a => sameP a p) = A at *
  have HA := Lib.hid hA
  clear hA
  go_wp2_with fail
  refine (checkMod_any p v hp hv _).mono ?_
  rintro _ w2 ⟨rfl, hb2⟩
  have hB2 := hB1.trans (hb2.mono hB1.size)
  go_wp2_with fail
  refine (unless_any _ _ _).mono ?_
  rintro _ w3 ⟨rfl, rfl⟩
  go_wp2_with fail
  refine (first_any _ _ [modE (p, v), unl (!A) 52] (by simp) _ (ints_cells _ _ _ _ (by rfl))).mono ?_
  rintro _ w4 ⟨rfl, rfl⟩
  go_wp2
  go_ret
  exact ⟨ret_int (by rw [← HA.out]; rfl), hB2.alloc hB2.size _⟩

set_option maxRecDepth 100000 in
set_option maxHeartbeats 2000000 in
theorem checkExclude_any (p v : ByteArray) (hp : p.size ≤ 20400) (hv : v.size ≤ 20400) (r : Value) (xs : List ModB) (w : World) (hr : RRow modR w r xs) (hx : xs.length ≤ 1000) :
    Calls Tryz.prog 47 #[.agg #[.string p, .string v], r] w fun e w' => e = .returned (.int .i64 (excE (p, v) xs)) ∧ Below w.heap.size w w' := by
  have hb0 := (Below.refl w.heap.size w).alloc (Nat.le_refl _) (.cells #[.string p, .string v] 41)
  have c0 : (w.alloc (.cells #[.string p, .string v] 41)).cell? ⟨w.heap.size, 0, none⟩ = some (.string p) := by rw [cell_newR]; rfl
  have c1 : (w.alloc (.cells #[.string p, .string v] 41)).cell? ⟨w.heap.size, 1, none⟩ = some (.string v) := by rw [cell_newR]; rfl
  have hz : w.heap.size < (w.alloc (.cells #[.string p, .string v] 41)).heap.size := by simp
  have HR := Lib.hid (hr.below hb0)
  obtain ⟨a, c, rfl, -⟩ := hr
  have HQ := Lib.hid (show orL [modE (p, v), unl (!xs.any fun a => sameM a (p, v)) 52] = excE (p, v) xs from rfl)
  go_enter Tryz.func47, Tryz.ntmps47
  go_wp2
  generalize w.alloc (.cells #[.string p, .string v] 41) = W at *
  go_region_held3 (fun w' => w'.cell? ⟨w.heap.size, 0, none⟩ = some (.string p) ∧ w'.cell? ⟨w.heap.size, 1, none⟩ = some (.string v))
    (first
      | go_keep
      | (go_split_ands; refine ⟨?_, ?_⟩ <;> (rw [hb5.cell hs4]; assumption))
      | (go_split_ands; refine ⟨?_, ?_⟩ <;> (rw [hb4.cell hz]; assumption)))
    (first
      | (go_at_call 95; refine (checkMod_any _ _ hp hv _).mono ?_; rintro e w4 ⟨rfl, hb4⟩; have hs4 := Nat.lt_of_lt_of_le hz hb4.size; have HR4 := Lib.hid (HR.out.below (w' := w4) (below_drewN' (n := 1) hb4)))
      | (go_at_call 100; refine (contMod_any _ xs _ _ _ HR4.out hx).mono ?_; rintro e w5 ⟨rfl, hb5⟩; have hs5 := Nat.lt_of_lt_of_le hs4 hb5.size)
      | (go_at_call 96; refine (unless_any _ _ _).mono ?_; rintro e w' ⟨rfl, rfl⟩)
      | (go_at_call 42; refine (first_any _ _ [modE (p, v), unl (!xs.any fun a => sameM a (p, v)) 52] (by simp) _ (ints_cells _ _ _ _ (by rfl))).mono ?_; rintro e w' ⟨rfl, rfl⟩))
  rename_i hheld
  clear hheld
  have hB4 := hb0.drew.trans (hb4.mono hb0.size)
  have hB5 := hB4.trans (hb5.mono hB4.size)
  go_wp2
  go_ret
  exact ⟨ret_int HQ.out, hB5.alloc hB5.size _⟩

set_option maxRecDepth 100000 in
set_option maxHeartbeats 2000000 in
theorem checkRetract_any (l h y : ByteArray) (hl : l.size ≤ 20400) (hh : h.size ≤ 20400) (w : World) :
    Calls Tryz.prog 48 #[.agg #[.string l, .string h, .string y]] w fun e w' => e = .returned (.int .i64 (retE (l, h, y))) ∧ Below w.heap.size w w' := by
  have hb0 := (Below.refl w.heap.size w).alloc (Nat.le_refl _) (.cells #[.string l, .string h, .string y] 58)
  have c0 : (w.alloc (.cells #[.string l, .string h, .string y] 58)).cell? ⟨w.heap.size, 0, none⟩ = some (.string l) := by rw [cell_newR]; rfl
  have c1 : (w.alloc (.cells #[.string l, .string h, .string y] 58)).cell? ⟨w.heap.size, 1, none⟩ = some (.string h) := by rw [cell_newR]; rfl
  have hz : w.heap.size < (w.alloc (.cells #[.string l, .string h, .string y] 58)).heap.size := by simp
  have HQ := Lib.hid (show orL [canonE l, canonE h, unl (decide (scmp l.data.toList h.data.toList ≤ 0)) 30] = retE (l, h, y) from rfl)
  go_enter Tryz.func48, Tryz.ntmps48
  go_wp2_with fail
  refine (compare_any' l h hl hh _).mono ?_
  rintro _ w1 ⟨rfl, hb1⟩
  have q0 := (hb1.cell (p := ⟨w.heap.size, 0, none⟩) hz).trans c0
  have q1 := (hb1.cell (p := ⟨w.heap.size, 1, none⟩) hz).trans c1
  have hB1 := hb0.trans (hb1.mono hb0.size)
  replace hz := Nat.lt_of_lt_of_le hz hb1.size
  generalize scmp l.data.toList h.data.toList = s at *
  clear c0 c1 hb0 hb1
  have main : ∀ bb : Bool, decide (s ≤ 0) = bb → orL [canonE l, canonE h, unl bb 30] = retE (l, h, y) := fun bb e => by rw [← e]; exact HQ.out
  have HM := Lib.hid main
  clear main HQ
  go_wp2
  generalize hd : decide (s ≤ 0) = bb at *
  have HD := Lib.hid (HM.out bb rfl)
  clear HM hd
  go_region_held3 (fun w' => w'.cell? ⟨w.heap.size, 0, none⟩ = some (.string l) ∧ w'.cell? ⟨w.heap.size, 1, none⟩ = some (.string h))
      (first
        | go_keep
        | (go_split_ands; refine ⟨?_, ?_⟩ <;> (rw [hb5.cell hs4]; assumption))
        | (go_split_ands; refine ⟨?_, ?_⟩ <;> (rw [hb4.cell hz]; assumption)))
      (first
        | (go_at_call 96; refine (unless_any _ _ _).mono ?_; rintro e w' ⟨rfl, rfl⟩)
        | (go_at_call 42; refine (first_any _ _ [canonE l, canonE h, unl bb 30] (by simp) _ (ints_cells _ _ _ _ (by rfl))).mono ?_; rintro e w' ⟨rfl, rfl⟩)
        | (go_at_call 101; refine (checkCanonical_any _ (by assumption) _).mono ?_; first | (have := hb4; rintro e w5 ⟨rfl, hb5⟩; have hs5 := Nat.lt_of_lt_of_le hs4 hb5.size) | (rintro e w4 ⟨rfl, hb4⟩; have hs4 := Nat.lt_of_lt_of_le hz hb4.size)))
  rename_i hheld
  clear hheld
  have hB4 := hB1.drew.trans (hb4.mono hB1.size)
  have hB5 := hB4.trans (hb5.mono hB4.size)
  go_wp2
  go_ret
  exact ⟨ret_int HD.out, hB5.alloc hB5.size _⟩
end Go.Proofs.YtmdlmjcejeejfaaGreatDoor

/-
  DERIVED: THE SHELF's CONTRACTS AT THIS DUMP, IN PLAIN WORDS (tools/lay-plain.mjs out of 'TryzShelf.lean', which tools/lay-shelf.mjs wrote): THE SAME DECLARATIONS UNDER THE SAME NAMES: 'import', 'namespace', 'open', 'def', 'theorem' AND NOTHING ELSE: no command of the shelf's: FOR A HAND-IN. Each laying: the table of numbers ('.._ren') and one theorem, a field a fact of the dump's own or the kernel's comparison; each contract: ONE APPLICATION.
-/
namespace Go.Proofs
open Go.Shelf
def Tryz.lays160_ren : Go.Shelf.Ren := ⟨fun | 160 => 102 | 232 => 151 | 231 => 150 | 227 => 152 | 234 => 154 | 233 => 153 | 236 => 156 | 235 => 155 | 228 => 184 | 271 => 187 | 151 => 186 | 197 => 185 | 120 => 208 | 152 => 207 | 260 => 206 | 137 => 180 | 119 => 215 | 224 => 202 | 225 => 201 | 217 => 200 | 266 => 213 | n => n, fun | 9 => 9 | 4 => 4 | 3 => 3 | 5 => 5 | 117 => 175 | 116 => 174 | 0 => 0 | 124 => 178 | 21 => 21 | 105 => 189 | 46 => 180 | 119 => 202 | 139 => 205 | 138 => 204 | n => n, fun | 3 => 1 | 4 => 2 | n => n⟩
theorem Tryz.lays160 : Go.Proofs.Lays.n160 Tryz.prog Tryz.lays160_ren := {
  mixed := by kernel_rfl
  f119 := Tryz.func215.trans (congrArg some (by kernel_rfl))
  f120 := Tryz.func208.trans (congrArg some (by kernel_rfl))
  f137 := Tryz.func180.trans (congrArg some (by kernel_rfl))
  f151 := Tryz.func186.trans (congrArg some (by kernel_rfl))
  f152 := Tryz.func207.trans (congrArg some (by kernel_rfl))
  f160 := Tryz.func102.trans (congrArg some (by kernel_rfl))
  f197 := Tryz.func185.trans (congrArg some (by kernel_rfl))
  f217 := Tryz.func200.trans (congrArg some (by kernel_rfl))
  f224 := Tryz.func202.trans (congrArg some (by kernel_rfl))
  f225 := Tryz.func201.trans (congrArg some (by kernel_rfl))
  f227 := Tryz.func152.trans (congrArg some (by kernel_rfl))
  f228 := Tryz.func184.trans (congrArg some (by kernel_rfl))
  f231 := Tryz.func150.trans (congrArg some (by kernel_rfl))
  f232 := Tryz.func151.trans (congrArg some (by kernel_rfl))
  f233 := Tryz.func153.trans (congrArg some (by kernel_rfl))
  f234 := Tryz.func154.trans (congrArg some (by kernel_rfl))
  f235 := Tryz.func155.trans (congrArg some (by kernel_rfl))
  f236 := Tryz.func156.trans (congrArg some (by kernel_rfl))
  f260 := Tryz.func206.trans (congrArg some (by kernel_rfl))
  f266 := Tryz.func213.trans (congrArg some (by kernel_rfl))
  f271 := Tryz.func187.trans (congrArg some (by kernel_rfl))
  t0 := Tryz.underlying0
  a0 := Tryz.isAgg0
  z0 := Tryz.sizeOf0
  v0 := Tryz.zeroValue0
  t3 := Tryz.underlying3
  a3 := Tryz.isAgg3
  z3 := Tryz.sizeOf3
  v3 := Tryz.zeroValue3
  t4 := Tryz.underlying4
  a4 := Tryz.isAgg4
  z4 := Tryz.sizeOf4
  v4 := Tryz.zeroValue4
  t5 := Tryz.underlying5
  a5 := Tryz.isAgg5
  z5 := Tryz.sizeOf5
  v5 := Tryz.zeroValue5
  t9 := Tryz.underlying9
  a9 := Tryz.isAgg9
  z9 := Tryz.sizeOf9
  v9 := Tryz.zeroValue9
  t21 := Tryz.underlying21
  a21 := Tryz.isAgg21
  z21 := Tryz.sizeOf21
  v21 := Tryz.zeroValue21
  t46 := Tryz.underlying180
  a46 := Tryz.isAgg180
  z46 := Tryz.sizeOf180
  v46 := Tryz.zeroValue180
  t105 := Tryz.underlying189
  a105 := Tryz.isAgg189
  z105 := Tryz.sizeOf189
  v105 := Tryz.zeroValue189
  t116 := Tryz.underlying174
  a116 := Tryz.isAgg174
  z116 := Tryz.sizeOf174
  t117 := Tryz.underlying175
  a117 := Tryz.isAgg175
  z117 := Tryz.sizeOf175
  v117 := Tryz.zeroValue175
  t119 := Tryz.underlying202
  a119 := Tryz.isAgg202
  z119 := Tryz.sizeOf202
  t124 := Tryz.underlying178
  a124 := Tryz.isAgg178
  z124 := Tryz.sizeOf178
  v124 := Tryz.zeroValue178
  t138 := Tryz.underlying204
  a138 := Tryz.isAgg204
  z138 := Tryz.sizeOf204
  v138 := Tryz.zeroValue204
  t139 := Tryz.underlying205
  a139 := Tryz.isAgg205
  z139 := Tryz.sizeOf205
  v139 := Tryz.zeroValue205
  g3 := by kernel_rfl
  g4 := by kernel_rfl }
end Go.Proofs

/-
  What is wrong with a replace, and with why versions are retracted.
-/
namespace Go.Proofs.YtmdlmjcejeejfaaGreatDoor
open Go.RowKit Go.Shelf

theorem dw_self (p : UInt8 → Bool) : ∀ l : List UInt8, l.dropWhile p = l ↔ l.head?.any p = false
  | [] => by simp
  | x :: r => by
    cases h : p x
    · simp [h]
    · simp only [List.dropWhile_cons, h, if_true, List.head?_cons, Option.any_some]
      constructor
      · intro e
        have h1 := congrArg List.length e
        have h2 := (List.dropWhile_sublist (l := r) p).length_le
        simp at h1; omega
      · intro e; cases e
theorem trim_self (l cs : List UInt8) : Lib.trimS l cs = l ↔ l.head?.any (cs.contains ·) = false ∧ l.getLast?.any (cs.contains ·) = false := by
  have hl : l.getLast? = l.reverse.head? := by simp
  rw [hl, ← dw_self, ← dw_self]
  unfold Lib.trimS Lib.trimLeftS Lib.trimRightS
  constructor
  · intro e
    have h1 := congrArg List.length e
    have h2 := (List.dropWhile_sublist (l := (List.dropWhile (fun x => cs.contains x) l.reverse).reverse) (cs.contains ·)).length_le
    have h3 := (List.dropWhile_sublist (l := l.reverse) (cs.contains ·))
    have h4 := h3.length_le
    rw [List.length_reverse] at h2 h4
    have h5 : List.dropWhile (fun x => cs.contains x) l.reverse = l.reverse := h3.eq_of_length (by rw [List.length_reverse]; omega)
    rw [h5, List.reverse_reverse] at e
    exact ⟨e, h5⟩
  · rintro ⟨h1, h2⟩
    rw [h2, List.reverse_reverse, h1]
theorem blank_set (c : UInt8) : ([32, 9, 13] : List UInt8).contains c = blankB c := u8_all (p := fun c => ([32, 9, 13] : List UInt8).contains c = blankB c) (by decide +kernel) c
theorem why_trim (l : List UInt8) : whyB l = (!l.contains 10 && (Lib.trimS l [32, 9, 13] == l)) := by
  have e : (fun x => ([32, 9, 13] : List UInt8).contains x) = blankB := funext blank_set
  have h := trim_self l [32, 9, 13]
  rw [e] at h
  have h2 : (Lib.trimS l [32, 9, 13] == l) = (!(l.head?.any blankB) && !(l.getLast?.any blankB)) := by
    rw [Bool.eq_iff_iff, beq_iff_eq, h]; simp
  rw [h2, whyB, Bool.and_assoc]
theorem why_1 {s : ByteArray} (h : s.data.toList.contains 10 = true) : whyB s.data.toList = false := by rw [why_trim, h]; rfl
theorem why_2 {s : ByteArray} (h : s.data.toList.contains 10 = false) : whyB s.data.toList = (((⟨(Lib.trimS s.data.toList [32, 9, 13]).toArray⟩ : ByteArray).toList == s.toList)) := by
  rw [why_trim, h, Lib.toList_data, Lib.toList_data]; rfl

structure StrTest (g : Nat) (F : ByteArray → Int) : Prop where
  enters : ∀ args w, (callFunc g args).run Tryz.prog w = .ok (.enter g args) w
  tells : ∀ (s : ByteArray) (_ : s.size ≤ 20400) (w : World), Calls Tryz.prog g #[.string s] w fun e w' => e = .returned (.int .i64 (F s)) ∧ Below w.heap.size w w'
theorem module_test : StrTest 43 moduleN := ⟨enters_of Tryz.func43 (by kernel_rfl) rfl, module_any⟩
theorem local_test : StrTest 98 locE := ⟨enters_of Tryz.func98 (by kernel_rfl) rfl, checkLocal_any⟩

set_option maxRecDepth 100000 in
set_option maxHeartbeats 2000000 in
theorem checkSide_any (g : Nat) (F : ByteArray → Int) (hg : StrTest g F) (p v : ByteArray) (hp : p.size ≤ 20400) (hv : v.size ≤ 20400) (b : Bool) (w : World) :
    Calls Tryz.prog 97 #[.agg #[.string p, .string v], .bool b, .func (.func g) #[] #[]] w fun e w' => e = .returned (.int .i64 (if b then F p else modE (p, v))) ∧ Below w.heap.size w w' := by
  have hb0 := (Below.refl w.heap.size w).alloc (Nat.le_refl _) (.cells #[.string p, .string v] 41)
  have he := hg.enters
  have HT := Lib.hid hg.tells
  clear hg
  cases b
  · go_enter Tryz.func97, Tryz.ntmps97
    go_wp2_with fail
    refine (checkMod_any p v hp hv _).mono ?_
    rintro _ w1 ⟨rfl, hb1⟩
    go_wp2
    go_ret
    exact ⟨rfl, hb0.trans (hb1.mono hb0.size)⟩
  · go_enter Tryz.func97, Tryz.ntmps97
    go_wp2_with fail
    refine (HT.out p hp _).mono ?_
    rintro _ w1 ⟨rfl, hb1⟩
    go_wp2
    go_ret
    exact ⟨rfl, hb0.trans (hb1.mono hb0.size)⟩

set_option maxRecDepth 100000 in
set_option maxHeartbeats 2000000 in
theorem checkReplaced_any (p v : ByteArray) (r : Value) (xs : List RepB) (w : World) (hr : RRow repR w r xs) (hx : xs.length ≤ 1000) :
    Calls Tryz.prog 99 #[.agg #[.string p, .string v], r] w fun e w' => e = .returned (.int .i64 (unl (!xs.any fun a => sameM a.1 (p, v)) 52)) ∧ Below w.heap.size w w' := by
  have hb0 := (Below.refl w.heap.size w).alloc (Nat.le_refl _) (.cells #[.string p, .string v] 41)
  have c0 : (w.alloc (.cells #[.string p, .string v] 41)).cell? ⟨w.heap.size, 0, none⟩ = some (.string p) := by rw [cell_newR]; rfl
  have c1 : (w.alloc (.cells #[.string p, .string v] 41)).cell? ⟨w.heap.size, 1, none⟩ = some (.string v) := by rw [cell_newR]; rfl
  have hz : w.heap.size < (w.alloc (.cells #[.string p, .string v] 41)).heap.size := by simp
  have HK := Lib.hid (contRep_any r xs w.heap.size (p, v) _ (hr.below hb0) hx hz c0 c1)
  obtain ⟨a, c, rfl, -⟩ := hr
  go_enter Tryz.func99, Tryz.ntmps99
  go_wp2_with fail
  refine HK.out.mono ?_
  rintro _ w1 ⟨rfl, hb1⟩
  generalize hA : (xs.any fun a => sameM a.1 (p, v)) = A at *
  have HA := Lib.hid hA
  clear hA
  go_wp2_with fail
  refine (unless_any _ _ _).mono ?_
  rintro _ w3 ⟨rfl, rfl⟩
  go_wp2
  go_ret
  exact ⟨ret_int (by rw [← HA.out]), hb0.trans (hb1.mono hb0.size)⟩

theorem old_eq {m : ModB} {b : Bool} (h : m.2.toList.isEmpty = b) : (if b then moduleN m.1 else modE m) = oldE m := by rw [← h]; rfl
theorem new_eq {m : ModB} {b : Bool} (h : m.2.toList.isEmpty = b) : (if b then locE m.1 else modE m) = newE m := by rw [← h]; rfl
theorem sideOld_any (p v : ByteArray) (hp : p.size ≤ 20400) (hv : v.size ≤ 20400) {b : Bool} (h : v.toList.isEmpty = b) (w : World) :
    Calls Tryz.prog 97 #[.agg #[.string p, .string v], .bool b, .func (.func 43) #[] #[]] w fun e w' => e = .returned (.int .i64 (oldE (p, v))) ∧ Below w.heap.size w w' :=
  (checkSide_any 43 moduleN module_test p v hp hv b w).mono fun _ _ k => ⟨k.1.trans (ret_int (old_eq (m := (p, v)) h)), k.2⟩
theorem sideNew_any (p v : ByteArray) (hp : p.size ≤ 20400) (hv : v.size ≤ 20400) {b : Bool} (h : v.toList.isEmpty = b) (w : World) :
    Calls Tryz.prog 97 #[.agg #[.string p, .string v], .bool b, .func (.func 98) #[] #[]] w fun e w' => e = .returned (.int .i64 (newE (p, v))) ∧ Below w.heap.size w w' :=
  (checkSide_any 98 locE local_test p v hp hv b w).mono fun _ _ k => ⟨k.1.trans (ret_int (new_eq (m := (p, v)) h)), k.2⟩

set_option maxRecDepth 100000 in
set_option maxHeartbeats 4000000 in
theorem checkReplace_any (p v p2 v2 : ByteArray) (hp : p.size ≤ 20400) (hv : v.size ≤ 20400) (hp2 : p2.size ≤ 20400) (hv2 : v2.size ≤ 20400) (r : Value) (xs : List RepB) (w : World) (hr : RRow repR w r xs) (hx : xs.length ≤ 1000) :
    Calls Tryz.prog 46 #[.agg #[.string p, .string v, .string p2, .string v2], r] w fun e w' => e = .returned (.int .i64 (repE ((p, v), p2, v2) xs)) ∧ Below w.heap.size w w' := by
  have hb0 := (Below.refl w.heap.size w).alloc (Nat.le_refl _) (.cells #[.string p, .string v, .string p2, .string v2] 56)
  have c0 : (w.alloc (.cells #[.string p, .string v, .string p2, .string v2] 56)).cell? ⟨w.heap.size, 0, none⟩ = some (.string p) := by rw [cell_newR]; rfl
  have c1 : (w.alloc (.cells #[.string p, .string v, .string p2, .string v2] 56)).cell? ⟨w.heap.size, 1, none⟩ = some (.string v) := by rw [cell_newR]; rfl
  have c2 : (w.alloc (.cells #[.string p, .string v, .string p2, .string v2] 56)).cell? ⟨w.heap.size, 2, none⟩ = some (.string p2) := by rw [cell_newR]; rfl
  have c3 : (w.alloc (.cells #[.string p, .string v, .string p2, .string v2] 56)).cell? ⟨w.heap.size, 3, none⟩ = some (.string v2) := by rw [cell_newR]; rfl
  have hz : w.heap.size < (w.alloc (.cells #[.string p, .string v, .string p2, .string v2] 56)).heap.size := by simp
  have HR := Lib.hid (hr.below hb0)
  obtain ⟨a, c, rfl, -⟩ := hr
  have HQ := Lib.hid (show orL [oldE (p, v), newE (p2, v2), unl (!xs.any fun a => sameM a.1 (p, v)) 52] = repE ((p, v), p2, v2) xs from rfl)
  cases e1 : v.toList.isEmpty <;> cases e2 : v2.toList.isEmpty
  all_goals
    have H1 := Lib.hid (fun w => sideOld_any p v hp hv e1 w)
    have H2 := Lib.hid (fun w => sideNew_any p2 v2 hp2 hv2 e2 w)
    go_enter Tryz.func46, Tryz.ntmps46
    go_wp2
    generalize w.alloc (.cells #[.string p, .string v, .string p2, .string v2] 56) = W at *
    go_region_held3 (fun w' => w'.cell? ⟨w.heap.size, 0, none⟩ = some (.string p) ∧ w'.cell? ⟨w.heap.size, 1, none⟩ = some (.string v) ∧ w'.cell? ⟨w.heap.size, 2, none⟩ = some (.string p2) ∧ w'.cell? ⟨w.heap.size, 3, none⟩ = some (.string v2))
      (first
        | go_keep
        | (go_split_ands; refine ⟨?_, ?_, ?_, ?_⟩ <;> (rw [hb6.cell hs5]; assumption))
        | (go_split_ands; refine ⟨?_, ?_, ?_, ?_⟩ <;> (rw [hb5.cell hs4]; assumption))
        | (go_split_ands; refine ⟨?_, ?_, ?_, ?_⟩ <;> (rw [hb4.cell hz]; assumption)))
      (first
        | (go_at_call 97; have := hb4; refine (H2.out _).mono ?_; rintro e w5 ⟨rfl, hb5⟩; have hs5 := Nat.lt_of_lt_of_le hs4 hb5.size; have HR5 := Lib.hid (HR4.out.below hb5))
        | (go_at_call 97; refine (H1.out _).mono ?_; rintro e w4 ⟨rfl, hb4⟩; have hs4 := Nat.lt_of_lt_of_le hz hb4.size; have HR4 := Lib.hid (HR.out.below (w' := w4) (below_drewN' (n := 1) hb4)))
        | (go_at_call 99; refine (checkReplaced_any _ _ _ xs _ HR5.out hx).mono ?_; rintro e w6 ⟨rfl, hb6⟩; have hs6 := Nat.lt_of_lt_of_le hs5 hb6.size)
        | (go_at_call 42; refine (first_any _ _ [oldE (p, v), newE (p2, v2), unl (!xs.any fun a => sameM a.1 (p, v)) 52] (by simp) _ (ints_cells _ _ _ _ (by rfl))).mono ?_; rintro e w' ⟨rfl, rfl⟩))
    rename_i hheld
    clear hheld
    have hB4 := hb0.drew.trans (hb4.mono hb0.size)
    have hB5 := hB4.trans (hb5.mono hB4.size)
    have hB6 := hB5.trans (hb6.mono hB5.size)
    go_wp2
    go_ret
    exact ⟨ret_int HQ.out, hB6.alloc hB6.size _⟩
end Go.Proofs.YtmdlmjcejeejfaaGreatDoor

/-
  gomod.Check.
-/
namespace Go.Proofs.YtmdlmjcejeejfaaGreatDoor
open Go.RowKit Go.Shelf

theorem has_index (l : List UInt8) (c : UInt8) {b : Bool} (h : l.contains c = b) : decide (0 ≤ Lib.indexByte l c) = b := by rw [← Lib.contains_iff_indexByte]; exact h
theorem blanks_ascii : ∀ (j : Nat) (b : UInt8), (⟨#[32, 9, 13]⟩ : ByteArray).data.toList[j]? = some b → b.toNat < 128 := by
  intro j b h
  rcases j with _ | _ | _ | j
  · cases h; decide
  · cases h; decide
  · cases h; decide
  · cases h
theorem trim_any (s : ByteArray) (hs : s.size ≤ 20400) (w : World) :
    Calls Tryz.prog 102 #[.string s, .string ⟨#[32, 9, 13]⟩] w fun e w' => e = .returned (.string ⟨(Lib.trimS s.data.toList [32, 9, 13]).toArray⟩) ∧ Below w.heap.size w w' :=
  Any.strings_Trim_laid Tryz.lays160 (by kernel_rfl) s ⟨#[32, 9, 13]⟩ w (by omega) (by decide) blanks_ascii

set_option maxRecDepth 100000 in
set_option maxHeartbeats 1000000 in
theorem checkWhy_any (s : ByteArray) (hs : s.size ≤ 20400) (w : World) :
    Calls Tryz.prog 49 #[.string s] w fun e w' => e = .returned (.int .i64 (whyE s)) ∧ Below w.heap.size w w' := by
  cases h : s.data.toList.contains 10
  · have H := Lib.hid (why_2 h)
    have HI := Lib.hid (has_index s.data.toList 10 h)
    clear h
    go_enter Tryz.func49, Tryz.ntmps49
    go_wp2_with fail
    refine (contains_any s 10 _).mono ?_
    rintro _ w1 ⟨rfl, rfl⟩
    rw [HI.out]
    go_wp2_with fail
    refine (trim_any s hs _).mono ?_
    rintro _ w1 ⟨rfl, hb⟩
    generalize hA : ((⟨(Lib.trimS s.data.toList [32, 9, 13]).toArray⟩ : ByteArray).toList == s.toList) = A at *
    go_wp2_with fail
    refine (unless_any _ _ _).mono ?_
    rintro _ w2 ⟨rfl, rfl⟩
    go_wp2
    go_ret
    exact ⟨ret_int (by rw [whyE, H.out, ← hA, Lib.toList_data ⟨(Lib.trimS s.data.toList [32, 9, 13]).toArray⟩]), hb⟩
  · have H := Lib.hid (why_1 h)
    have HI := Lib.hid (has_index s.data.toList 10 h)
    clear h
    go_enter Tryz.func49, Tryz.ntmps49
    go_wp2_with fail
    refine (contains_any s 10 _).mono ?_
    rintro _ w1 ⟨rfl, rfl⟩
    rw [HI.out]
    go_wp2_with fail
    refine (unless_any _ _ _).mono ?_
    rintro _ w2 ⟨rfl, rfl⟩
    go_wp2
    go_ret
    exact ⟨ret_int (by rw [whyE, H.out]), Below.refl _ _⟩

/-- Its texts and lists are not too long. -/
structure Sized (f : FileG) : Prop where
  mo : f.mo.size ≤ 20000
  go : f.go.size ≤ 20000
  nreqs : f.reqs.length ≤ 1000
  nreps : f.reps.length ≤ 1000
  nexcs : f.excs.length ≤ 1000
  nrets : f.rets.length ≤ 1000
  reqs : ∀ x ∈ f.reqs, x.1.1.size ≤ 20000 ∧ x.1.2.size ≤ 20000
  reps : ∀ x ∈ f.reps, x.1.1.size ≤ 20000 ∧ x.1.2.size ≤ 20000 ∧ x.2.1.size ≤ 20000 ∧ x.2.2.size ≤ 20000
  excs : ∀ x ∈ f.excs, x.1.size ≤ 20000 ∧ x.2.size ≤ 20000
  rets : ∀ x ∈ f.rets, x.1.size ≤ 20000 ∧ x.2.1.size ≤ 20000 ∧ x.2.2.size ≤ 20000

theorem RRow.take {α : Type} {R : Rec α} {w : World} {a : Option Addr} {n c : Nat} {xs : List α} (h : RRow R w (.slice a n c) xs) {k : Nat} (hk : k ≤ xs.length) : RRow R w (.slice a k c) (xs.take k) := by
  obtain ⟨a', c', e, hl, hc⟩ := h
  injection e with e1 e2 e3
  subst e1 e3
  refine ⟨a, c, by rw [List.length_take_of_le hk], by rw [List.length_take_of_le hk]; omega, fun hne => ?_⟩
  have hx : xs ≠ [] := by rintro rfl; simp at hne
  obtain ⟨g, o, rfl, hg, hat⟩ := hc hx
  refine ⟨g, o, rfl, hg, fun i hi j u hu => ?_⟩
  rw [List.length_take_of_le hk] at hi
  rw [List.getElem_take] at hu
  exact hat i (by omega) j u hu
theorem RRow.spot {α : Type} {R : Rec α} {w : World} {a : Option Addr} {n c : Nat} {xs : List α} (h : RRow R w (.slice a n c) xs) : n = xs.length ∧ xs.length ≤ c ∧ (xs ≠ [] → ∃ g o, a = some ⟨g, o, none⟩ ∧ g < w.heap.size ∧ RAt R w g o xs) := by
  obtain ⟨a', c', e, hl, hc⟩ := h
  injection e with e1 e2 e3
  subst e1 e2 e3
  exact ⟨rfl, hl, hc⟩
theorem orL_two (a b : Int) : orL [a, b] = orI a b := by simp only [orL, orI_nought]
theorem accE_two {α : Type} {F : α → List α → Int} {xs : List α} {e : Int} {k : Nat} (h : k < xs.length) : orL [accE F xs e k, F xs[k] (xs.take k)] = accE F xs e (k + 1) := by rw [orL_two, accE_snoc h]
theorem ne_of_lt {α : Type} {xs : List α} {k : Nat} (h : k < xs.length) : xs ≠ [] := by rintro rfl; simp at h
end Go.Proofs.YtmdlmjcejeejfaaGreatDoor
