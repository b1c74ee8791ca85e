/-
  Lists of what a file says, searched.
-/
import Derived.Test.YtmdlmjcejeejfaaGreatDoorRec
import Derived.Test.YtmdlmjcejeejfaaGreatDoorS1
import Derived.Test.YtmdlmjcejeejfaaGreatDoorW5m
import Derived.BigRegion
import Derived.Test.YtmdlmjcejeejfaaGreatDoorG2
import Derived.Test.YtmdlmjcejeejfaaGreatDoorP18
import Derived.Test.YtmdlmjcejeejfaaGreatDoorP15
import Derived.Test.YtmdlmjcejeejfaaGreatDoorP14
import Derived.Test.YtmdlmjcejeejfaaGreatDoorW8
import Derived.Deep.QuietTactic
import Derived.BigQuiet
namespace Go.Proofs.YtmdlmjcejeejfaaGreatDoor
open Go.RowKit Go.Shelf

abbrev ModB := ByteArray × ByteArray
abbrev ReqB := ModB × Bool
abbrev RepB := ModB × ModB
abbrev RetB := ByteArray × ByteArray × ByteArray
structure FileG where
  mo : ByteArray
  go : ByteArray
  reqs : List ReqB
  reps : List RepB
  excs : List ModB
  rets : List RetB

def modR : Rec ModB := ⟨2, fun x => [.string x.1, .string x.2], fun _ => rfl, fun x u hu => by simp at hu; rcases hu with rfl | rfl <;> rfl, by decide⟩
def reqR : Rec ReqB := ⟨3, fun x => [.string x.1.1, .string x.1.2, .bool x.2], fun _ => rfl, fun x u hu => by simp at hu; rcases hu with rfl | rfl | rfl <;> rfl, by decide⟩
def repR : Rec RepB := ⟨4, fun x => [.string x.1.1, .string x.1.2, .string x.2.1, .string x.2.2], fun _ => rfl, fun x u hu => by simp at hu; rcases hu with rfl | rfl | rfl | rfl <;> rfl, by decide⟩
def retR : Rec RetB := ⟨3, fun x => [.string x.1, .string x.2.1, .string x.2.2], fun _ => rfl, fun x u hu => by simp at hu; rcases hu with rfl | rfl | rfl <;> rfl, by decide⟩

theorem mod_at {w : World} {g o : Nat} {xs : List ModB} (h : RAt modR w g o xs) (i : Nat) (hi : i < xs.length) :
    w.cell? ⟨g, o + i * 2, none⟩ = some (.string xs[i].1) ∧ w.cell? ⟨g, o + i * 2 + 1, none⟩ = some (.string xs[i].2) := ⟨h i hi 0 _ rfl, h i hi 1 _ rfl⟩
theorem req_at {w : World} {g o : Nat} {xs : List ReqB} (h : RAt reqR w g o xs) (i : Nat) (hi : i < xs.length) :
    w.cell? ⟨g, o + i * 3, none⟩ = some (.string xs[i].1.1) ∧ w.cell? ⟨g, o + i * 3 + 1, none⟩ = some (.string xs[i].1.2) ∧ w.cell? ⟨g, o + i * 3 + 2, none⟩ = some (.bool xs[i].2) := ⟨h i hi 0 _ rfl, h i hi 1 _ rfl, h i hi 2 _ rfl⟩
theorem rep_at {w : World} {g o : Nat} {xs : List RepB} (h : RAt repR w g o xs) (i : Nat) (hi : i < xs.length) :
    w.cell? ⟨g, o + i * 4, none⟩ = some (.string xs[i].1.1) ∧ w.cell? ⟨g, o + i * 4 + 1, none⟩ = some (.string xs[i].1.2) ∧ w.cell? ⟨g, o + i * 4 + 2, none⟩ = some (.string xs[i].2.1) ∧ w.cell? ⟨g, o + i * 4 + 3, none⟩ = some (.string xs[i].2.2) :=
  ⟨h i hi 0 _ rfl, h i hi 1 _ rfl, h i hi 2 _ rfl, h i hi 3 _ rfl⟩
theorem ret_at {w : World} {g o : Nat} {xs : List RetB} (h : RAt retR w g o xs) (i : Nat) (hi : i < xs.length) :
    w.cell? ⟨g, o + i * 3, none⟩ = some (.string xs[i].1) ∧ w.cell? ⟨g, o + i * 3 + 1, none⟩ = some (.string xs[i].2.1) ∧ w.cell? ⟨g, o + i * 3 + 2, none⟩ = some (.string xs[i].2.2) := ⟨h i hi 0 _ rfl, h i hi 1 _ rfl, h i hi 2 _ rfl⟩
def sameP (a : ReqB) (p : ByteArray) : Bool := a.1.1.toList == p.toList
def sameM (a b : ModB) : Bool := a.1.toList == b.1.toList && a.2.toList == b.2.toList

/-- The first place at which p holds, or -1. -/
def idxL {α : Type} (p : α → Bool) : List α → Int
  | [] => -1
  | x :: r => if p x then 0 else if idxL p r < 0 then -1 else idxL p r + 1
theorem idxL_range {α : Type} (p : α → Bool) : ∀ xs : List α, idxL p xs = -1 ∨ 0 ≤ idxL p xs
  | [] => .inl rfl
  | x :: r => by
    unfold idxL
    rcases idxL_range p r with h | h
    · split
      · omega
      · simp [h]
    · split
      · omega
      · split <;> omega
theorem idxL_hit {α : Type} (p : α → Bool) : ∀ (xs : List α) (k : Nat) (hk : k < xs.length), (∀ j (hj : j < xs.length), j < k → p xs[j] = false) → p xs[k] = true → idxL p xs = k
  | x :: r, 0, _, _, h => by simp at h; simp [idxL, h]
  | x :: r, k + 1, hk, ha, h => by
    have h0 := ha 0 (by simp) (by omega)
    have ih := idxL_hit p r k (by simpa using hk) (fun j hj hjk => ha (j + 1) (by simpa using hj) (by omega)) (by simpa using h)
    simp only [List.getElem_cons_zero] at h0
    simp only [idxL, h0, ih, Bool.false_eq_true, if_false]
    rw [if_neg (by omega)]
    omega
theorem idxL_none {α : Type} (p : α → Bool) : ∀ (xs : List α), (∀ j (hj : j < xs.length), p xs[j] = false) → idxL p xs = -1
  | [], _ => rfl
  | x :: r, ha => by
    have h0 := ha 0 (by simp)
    have ih := idxL_none p r (fun j hj => ha (j + 1) (by simpa using hj))
    simp only [List.getElem_cons_zero] at h0
    simp [idxL, h0, ih]
theorem idxL_any {α : Type} (p : α → Bool) : ∀ xs : List α, decide (0 ≤ idxL p xs) = xs.any p
  | [] => by simp [idxL]
  | x :: r => by
    have ih := idxL_any p r
    rw [List.any_cons, ← ih, show idxL p (x :: r) = if p x then 0 else if idxL p r < 0 then -1 else idxL p r + 1 from rfl]
    cases h : p x
    · simp only [Bool.false_eq_true, if_false, Bool.false_or]
      rcases idxL_range p r with h2 | h2
      · simp [h2]
      · rw [if_neg (by omega)]; simp; omega
    · simp
def NoneTo {α : Type} (p : α → Bool) (xs : List α) (k : Nat) : Prop := ∀ j (hj : j < xs.length), j < k → p xs[j] = false
theorem NoneTo.start {α : Type} (p : α → Bool) (xs : List α) : NoneTo p xs 0 := fun _ _ h => absurd h (Nat.not_lt_zero _)
theorem NoneTo.on {α : Type} {p : α → Bool} {xs : List α} {k : Nat} (h : NoneTo p xs k) (hk : k < xs.length) (e : p xs[k] = false) : NoneTo p xs (k + 1) := fun j hj hjk => by
  by_cases ej : j = k
  · subst ej; exact e
  · exact h j hj (by omega)
theorem NoneTo.hit {α : Type} {p : α → Bool} {xs : List α} {k : Nat} (h : NoneTo p xs k) (hk : k < xs.length) (e : p xs[k] = true) : idxL p xs = k := idxL_hit p xs k hk h e
theorem NoneTo.done {α : Type} {p : α → Bool} {xs : List α} {k : Nat} (h : NoneTo p xs k) (hk : xs.length ≤ k) : idxL p xs = -1 := idxL_none p xs fun j hj => h j hj (by omega)

set_option maxRecDepth 100000 in
set_option maxHeartbeats 1000000 in
theorem again1_any (p v : ByteArray) (b : Bool) (B : Nat) (q : ByteArray) (w : World) (hB : B < w.heap.size) (hc : w.cell? ⟨B, 0, none⟩ = some (.string q)) :
    Calls Tryz.prog 94 #[.agg #[.string p, .string v, .bool b], .pointer (some ⟨B, 0, none⟩)] w fun e w' => e = .returned (.bool (p.toList == q.toList)) ∧ Below w.heap.size w w' := by
  have hc' : (w.alloc (.cells #[.string p, .string v, .bool b] 50)).cell? ⟨B, 0, none⟩ = some (.string q) := (((Below.refl w.heap.size w).alloc (Nat.le_refl _) _).cell (p := ⟨B, 0, none⟩) hB).trans hc
  go_enter Tryz.func94, Tryz.ntmps94
  go_wp2
  go_ret
  exact ⟨rfl, (Below.refl _ _).alloc (Nat.le_refl _) _⟩
set_option maxRecDepth 100000 in
set_option maxHeartbeats 1000000 in
theorem again2_any (p v : ByteArray) (b : Bool) (B : Nat) (q : ByteArray) (w : World) (hB : B < w.heap.size) (hc : w.cell? ⟨B, 0, none⟩ = some (.string q)) :
    Calls Tryz.prog 34 #[.agg #[.string p, .string v, .bool b], .pointer (some ⟨B, 0, none⟩)] w fun e w' => e = .returned (.bool (p.toList == q.toList)) ∧ Below w.heap.size w w' := by
  have hc' : (w.alloc (.cells #[.string p, .string v, .bool b] 50)).cell? ⟨B, 0, none⟩ = some (.string q) := (((Below.refl w.heap.size w).alloc (Nat.le_refl _) _).cell (p := ⟨B, 0, none⟩) hB).trans hc
  go_enter Tryz.func34, Tryz.ntmps34
  go_wp2
  go_ret
  exact ⟨rfl, (Below.refl _ _).alloc (Nat.le_refl _) _⟩
structure ReqTest (g : Nat) : Prop where
  enters : ∀ args w, (callFunc g args).run Tryz.prog w = .ok (.enter g args) w
  tells : ∀ (p v : ByteArray) (b : Bool) (B : Nat) (q : ByteArray) (w : World) (_ : B < w.heap.size) (_ : w.cell? ⟨B, 0, none⟩ = some (.string q)),
    Calls Tryz.prog g #[.agg #[.string p, .string v, .bool b], .pointer (some ⟨B, 0, none⟩)] w fun e w' => e = .returned (.bool (p.toList == q.toList)) ∧ Below w.heap.size w w'
theorem again1_test : ReqTest 94 := ⟨enters_of Tryz.func94 (by kernel_rfl) rfl, again1_any⟩
theorem again2_test : ReqTest 34 := ⟨enters_of Tryz.func34 (by kernel_rfl) rfl, again2_any⟩

set_option maxRecDepth 100000 in
set_option maxHeartbeats 1000000 in
theorem idxReq_any (t : Nat) (ht : ReqTest t) (v : Value) (xs : List ReqB) (B : Nat) (q : ByteArray) (w : World) (hv : RRow reqR w v xs) (hx : xs.length ≤ 1000) (hB : B < w.heap.size) (hc : w.cell? ⟨B, 0, none⟩ = some (.string q)) :
    Calls Tryz.prog 33 #[v, .func (.func t) #[] #[.pointer (some ⟨B, 0, none⟩)]] w fun e w' => e = .returned (.int .i64 (idxL (fun a => sameP a q) xs)) ∧ Below w.heap.size w w' := by
  have HV := Lib.hid hv
  have he := ht.enters
  have HT := Lib.hid ht.tells
  have HC := Lib.hid hc
  have HB := Lib.hid hB
  obtain ⟨a, c, rfl, -⟩ := hv
  clear ht hc hB
  go_enter Tryz.func33, Tryz.ntmps33
  go_wp2
  go_loopw [8] (fun i wr => ∃ k : Nat, k ≤ xs.length ∧ i = .int .i64 k ∧ NoneTo (fun a => sameP a q) xs k ∧ Below w.heap.size w wr) (fun i _ => xs.length - (intOf i).toNat)
  case atStart => exact ⟨0, Nat.zero_le _, rfl, NoneTo.start _ _, Below.refl _ _⟩
  case round =>
    obtain ⟨k, hk, rfl, hn, hBw⟩ := hrel
    have HN := Lib.hid hn
    clear hn
    by_cases hlt : k < xs.length
    · obtain ⟨a', c', e, hcap, hr⟩ := HV.out.below hBw
      injection e with e1 e2 e3
      subst e1 e3
      obtain ⟨g, o, rfl, hg, hat⟩ := hr (by intro e; rw [e] at hlt; simp at hlt)
      obtain ⟨q1, q2, q3⟩ := req_at hat k hlt
      have HH := Lib.hid (fun e => HN.out.hit hlt e)
      have HO := Lib.hid (fun e => HN.out.on hlt e)
      clear hat hr
      unfold sameP at HH HO
      generalize xs[k] = x at *
      obtain ⟨⟨p, u⟩, b⟩ := x
      dsimp only at q1 q2 q3 HH HO
      go_wp2_with fail
      refine (HT.out p u b B q _ (Nat.lt_of_lt_of_le HB.out hBw.size) ((hBw.cell (p := ⟨B, 0, none⟩) HB.out).trans HC.out)).mono ?_
      rintro _ w' ⟨rfl, hb'⟩
      replace hBw := hBw.trans (hb'.mono hBw.size)
      cases e : (p.toList == q.toList)
      · have HE := Lib.hid (HO.out e)
        go_wp2
        go_roundw
        case rel => exact ⟨k + 1, by omega, by go_num, HE.out, hBw⟩
        case measure => simp [intOf]; omega
      · have HE := Lib.hid (HH.out e)
        go_wp2
        go_ret
        exact ⟨ret_int HE.out.symm, hBw⟩
    · have HE := Lib.hid (HN.out.done (by omega))
      go_wp2
      go_ret
      exact ⟨ret_int HE.out.symm, hBw⟩
end Go.Proofs.YtmdlmjcejeejfaaGreatDoor

/-
  Plain facts, of no program: what is wrong with what a go.mod file says.
-/
namespace Go.Proofs.YtmdlmjcejeejfaaGreatDoor
open Go.RowKit Go.Shelf

/-- The first error of a list's things, each with those ahead of it, behind the error e. -/
def accE {α : Type} (F : α → List α → Int) (xs : List α) (e : Int) : Nat → Int
  | 0 => e
  | k + 1 => orI (accE F xs e k) (match xs[k]? with | some x => F x (xs.take k) | none => 0)
theorem accE_snoc {α : Type} {F : α → List α → Int} {xs : List α} {e : Int} {k : Nat} (h : k < xs.length) : accE F xs e (k + 1) = orI (accE F xs e k) (F xs[k] (xs.take k)) := by
  simp [accE, List.getElem?_eq_getElem h]
theorem accE_stay {α : Type} {F : α → List α → Int} {xs : List α} {e : Int} {k : Nat} (h : ¬ accE F xs e k = 0) : ∀ n, k ≤ n → accE F xs e n = accE F xs e k
  | 0, hn => by obtain rfl : k = 0 := by omega
                rfl
  | n + 1, hn => by
    by_cases hk : k = n + 1
    · rw [hk]
    · have ih := accE_stay h n (by omega)
      rw [accE, orI, if_neg (by rw [ih]; exact h), ih]
def allE {α : Type} (F : α → List α → Int) (xs : List α) (e : Int) : Int := accE F xs e xs.length
theorem accE_nought {α : Type} {F : α → List α → Int} {xs : List α} {e : Int} : ∀ {n : Nat}, accE F xs e n = 0 ↔ e = 0 ∧ ∀ k (h : k < xs.length), k < n → F xs[k] (xs.take k) = 0
  | 0 => by simp [accE]
  | n + 1 => by
    rw [accE, orI_zero, accE_nought]
    constructor
    · rintro ⟨⟨h1, h2⟩, h3⟩
      refine ⟨h1, fun k hk hn => ?_⟩
      by_cases e : k = n
      · subst e; simpa [List.getElem?_eq_getElem hk] using h3
      · exact h2 k hk (by omega)
    · rintro ⟨h1, h2⟩
      refine ⟨⟨h1, fun k hk hn => h2 k hk (by omega)⟩, ?_⟩
      by_cases hn : n < xs.length
      · simpa [List.getElem?_eq_getElem hn] using h2 n hn (by omega)
      · simp [List.getElem?_eq_none (Nat.le_of_not_lt hn)]
theorem allE_nought {α : Type} {F : α → List α → Int} {xs : List α} {e : Int} : allE F xs e = 0 ↔ e = 0 ∧ ∀ k (h : k < xs.length), F xs[k] (xs.take k) = 0 := by
  unfold allE
  rw [accE_nought]
  exact ⟨fun h => ⟨h.1, fun k hk => h.2 k hk hk⟩, fun h => ⟨h.1, fun k hk _ => h.2 k hk⟩⟩

def unl (b : Bool) (e : Int) : Int := if b then 0 else e
theorem unl_t (e : Int) : unl true e = 0 := rfl
theorem unl_f (e : Int) : unl false e = e := rfl
def canonB (v : ByteArray) : Bool := !v.toList.isEmpty && (canonS v).toList == v.toList
def canonE (v : ByteArray) : Int := unl (canonB v) 30
def modE (m : ModB) : Int := orL [moduleN m.1, canonE m.2, fitN m.1 m.2.data.toList]
def goE (s : ByteArray) : Int := if s.toList.isEmpty then 0 else unl (relL s.data.toList) 30
def reqE (r : ReqB) (ahead : List ReqB) : Int := orL [modE r.1, unl (!ahead.any fun a => sameP a r.1.1) 52]
def locE (s : ByteArray) : Int := unl (localB s) 10
def oldE (m : ModB) : Int := if m.2.toList.isEmpty then moduleN m.1 else modE m
def newE (m : ModB) : Int := if m.2.toList.isEmpty then locE m.1 else modE m
def repE (r : RepB) (ahead : List RepB) : Int := orL [oldE r.1, newE r.2, unl (!ahead.any fun a => sameM a.1 r.1) 52]
def excE (m : ModB) (ahead : List ModB) : Int := orL [modE m, unl (!ahead.any fun a => sameM a m) 52]
def retE (r : RetB) : Int := orL [canonE r.1, canonE r.2.1, unl (decide (scmp r.1.data.toList r.2.1.data.toList ≤ 0)) 30]
def blankB (c : UInt8) : Bool := c == 32 || c == 9 || c == 13
def whyB (l : List UInt8) : Bool := !l.contains 10 && !(l.head?.any blankB) && !(l.getLast?.any blankB)
def whyE (s : ByteArray) : Int := unl (whyB s.data.toList) 51
def retF (r : RetB) (_ : List RetB) : Int := orI (retE r) (whyE r.2.2)
def startE (f : FileG) : Int := orI (moduleN f.mo) (goE f.go)
def reqsE (f : FileG) : Int := allE reqE f.reqs (startE f)
def repsE (f : FileG) : Int := allE repE f.reps (reqsE f)
def excsE (f : FileG) : Int := allE excE f.excs (repsE f)
def chkE (f : FileG) : Int := allE retF f.rets (excsE f)
theorem allE_stay {α : Type} {F : α → List α → Int} {xs : List α} {e : Int} (h : ¬ e = 0) : allE F xs e = e := accE_stay (k := 0) h _ (Nat.zero_le _)
theorem accE_end {α : Type} {F : α → List α → Int} {xs : List α} {e : Int} {k : Nat} (h : k ≤ xs.length) (hn : ¬ accE F xs e k = 0) : allE F xs e = accE F xs e k := accE_stay hn _ h

/-- A file lies so, as a value. -/
structure FileAt (w : World) (a b c d : Value) (f : FileG) : Prop where
  reqs : RRow reqR w a f.reqs
  reps : RRow repR w b f.reps
  excs : RRow modR w c f.excs
  rets : RRow retR w d f.rets
theorem FileAt.below {w w' : World} {a b c d : Value} {f : FileG} (h : FileAt w a b c d f) (hb : Below w.heap.size w w') : FileAt w' a b c d f := ⟨h.reqs.below hb, h.reps.below hb, h.excs.below hb, h.rets.below hb⟩
end Go.Proofs.YtmdlmjcejeejfaaGreatDoor

/-
  Lists of modules and of replaces, searched.
-/
namespace Go.Proofs.YtmdlmjcejeejfaaGreatDoor
open Go.RowKit Go.Shelf

set_option maxRecDepth 100000 in
set_option maxHeartbeats 1000000 in
theorem contReq_any (t : Nat) (ht : ReqTest t) (v : Value) (xs : List ReqB) (B : Nat) (q : ByteArray) (w : World) (hv : RRow reqR w v xs) (hx : xs.length ≤ 1000) (hB : B < w.heap.size) (hc : w.cell? ⟨B, 0, none⟩ = some (.string q)) :
    Calls Tryz.prog 93 #[v, .func (.func t) #[] #[.pointer (some ⟨B, 0, none⟩)]] w fun e w' => e = .returned (.bool (xs.any fun a => sameP a q)) ∧ Below w.heap.size w w' := by
  have HI := Lib.hid (idxL_any (fun a => sameP a q) xs)
  have HK := Lib.hid (idxReq_any t ht v xs B q w hv hx hB hc)
  obtain ⟨a, c, rfl, -⟩ := hv
  clear ht hB hc
  go_enter Tryz.func93, Tryz.ntmps93
  go_wp2_with fail
  refine HK.out.mono ?_
  rintro _ w1 ⟨rfl, hb⟩
  go_wp2
  all_goals
    go_ret
    refine ⟨ret_bool ?_, hb⟩
    rw [← HI.out]

set_option maxRecDepth 100000 in
set_option maxHeartbeats 1000000 in
theorem sameOld_any (p v p2 v2 : ByteArray) (B : Nat) (m : ModB) (w : World) (hB : B < w.heap.size) (hc : w.cell? ⟨B, 0, none⟩ = some (.string m.1)) (hc1 : w.cell? ⟨B, 1, none⟩ = some (.string m.2)) :
    Calls Tryz.prog 147 #[.agg #[.string p, .string v, .string p2, .string v2], .pointer (some ⟨B, 0, none⟩)] w fun e w' => e = .returned (.bool (sameM (p, v) m)) ∧ Below w.heap.size w w' := by
  obtain ⟨m1, m2⟩ := m
  have hb0 := (Below.refl w.heap.size w).alloc (Nat.le_refl _) (.cells #[.string p, .string v, .string p2, .string v2] 56)
  have hc' := (hb0.cell (p := ⟨B, 0, none⟩) hB).trans hc
  have hc1' := (hb0.cell (p := ⟨B, 1, none⟩) hB).trans hc1
  unfold sameM
  dsimp only at hc' hc1' ⊢
  cases e1 : (p.toList == m1.toList) <;> cases e2 : (v.toList == m2.toList)
  all_goals
    go_enter Tryz.func147, Tryz.ntmps147
    go_wp2
    go_ret
    exact ⟨rfl, hb0⟩

set_option maxRecDepth 100000 in
set_option maxHeartbeats 1000000 in
theorem idxRep_any (v : Value) (xs : List RepB) (B : Nat) (m : ModB) (w : World) (hv : RRow repR w v xs) (hx : xs.length ≤ 1000) (hB : B < w.heap.size) (hc : w.cell? ⟨B, 0, none⟩ = some (.string m.1)) (hc1 : w.cell? ⟨B, 1, none⟩ = some (.string m.2)) :
    Calls Tryz.prog 183 #[v, .func (.func 147) #[] #[.pointer (some ⟨B, 0, none⟩)]] w fun e w' => e = .returned (.int .i64 (idxL (fun a => sameM a.1 m) xs)) ∧ Below w.heap.size w w' := by
  have HV := Lib.hid hv
  have he := enters_of Tryz.func147 (by kernel_rfl) rfl
  have HC := Lib.hid hc
  have HC1 := Lib.hid hc1
  have HB := Lib.hid hB
  obtain ⟨a, c, rfl, -⟩ := hv
  clear hc hB hc1
  go_enter Tryz.func183, Tryz.ntmps183
  go_wp2
  go_loopw [8] (fun i wr => ∃ k : Nat, k ≤ xs.length ∧ i = .int .i64 k ∧ NoneTo (fun a => sameM a.1 m) xs k ∧ Below w.heap.size w wr) (fun i _ => xs.length - (intOf i).toNat)
  case atStart => exact ⟨0, Nat.zero_le _, rfl, NoneTo.start _ _, Below.refl _ _⟩
  case round =>
    obtain ⟨k, hk, rfl, hn, hBw⟩ := hrel
    have HN := Lib.hid hn
    clear hn
    by_cases hlt : k < xs.length
    · obtain ⟨a', c', e, hcap, hr⟩ := HV.out.below hBw
      injection e with e1 e2 e3
      subst e1 e3
      obtain ⟨g, o, rfl, hg, hat⟩ := hr (by intro e; rw [e] at hlt; simp at hlt)
      obtain ⟨q1, q2, q3, q4⟩ := rep_at hat k hlt
      have HH := Lib.hid (fun e => HN.out.hit hlt e)
      have HO := Lib.hid (fun e => HN.out.on hlt e)
      clear hat hr
      generalize xs[k] = x at *
      obtain ⟨⟨p, u⟩, p2, u2⟩ := x
      dsimp only at q1 q2 q3 q4 HH HO
      go_wp2_with fail
      refine (sameOld_any p u p2 u2 B m _ (Nat.lt_of_lt_of_le HB.out hBw.size) ((hBw.cell (p := ⟨B, 0, none⟩) HB.out).trans HC.out) ((hBw.cell (p := ⟨B, 1, none⟩) HB.out).trans HC1.out)).mono ?_
      rintro _ w' ⟨rfl, hb'⟩
      replace hBw := hBw.trans (hb'.mono hBw.size)
      cases e : sameM (p, u) m
      · have HE := Lib.hid (HO.out e)
        go_wp2
        go_roundw
        case rel => exact ⟨k + 1, by omega, by go_num, HE.out, hBw⟩
        case measure => simp [intOf]; omega
      · have HE := Lib.hid (HH.out e)
        go_wp2
        go_ret
        exact ⟨ret_int HE.out.symm, hBw⟩
    · have HE := Lib.hid (HN.out.done (by omega))
      go_wp2
      go_ret
      exact ⟨ret_int HE.out.symm, hBw⟩

set_option maxRecDepth 100000 in
set_option maxHeartbeats 1000000 in
theorem contRep_any (v : Value) (xs : List RepB) (B : Nat) (m : ModB) (w : World) (hv : RRow repR w v xs) (hx : xs.length ≤ 1000) (hB : B < w.heap.size) (hc : w.cell? ⟨B, 0, none⟩ = some (.string m.1)) (hc1 : w.cell? ⟨B, 1, none⟩ = some (.string m.2)) :
    Calls Tryz.prog 146 #[v, .func (.func 147) #[] #[.pointer (some ⟨B, 0, none⟩)]] w fun e w' => e = .returned (.bool (xs.any fun a => sameM a.1 m)) ∧ Below w.heap.size w w' := by
  have HI := Lib.hid (idxL_any (fun a : RepB => sameM a.1 m) xs)
  have HK := Lib.hid (idxRep_any v xs B m w hv hx hB hc hc1)
  obtain ⟨a, c, rfl, -⟩ := hv
  clear hB hc hc1
  go_enter Tryz.func146, Tryz.ntmps146
  go_wp2_with fail
  refine HK.out.mono ?_
  rintro _ w1 ⟨rfl, hb⟩
  go_wp2
  all_goals
    go_ret
    refine ⟨ret_bool ?_, hb⟩
    rw [← HI.out]

theorem sameM_tt {a b : ModB} (h : (a.1.toList == b.1.toList) = true) (k : (a.2.toList == b.2.toList) = true) : sameM a b = true := by simp only [sameM, h, k]; rfl
theorem sameM_tf {a b : ModB} (h : (a.1.toList == b.1.toList) = true) (k : (a.2.toList == b.2.toList) = false) : sameM a b = false := by simp only [sameM, h, k]; rfl
theorem sameM_f {a b : ModB} (h : (a.1.toList == b.1.toList) = false) : sameM a b = false := by simp only [sameM, h]; rfl
theorem sameM_swap (a b : ModB) : sameM a b = sameM b a := by
  have h : ∀ x y : List UInt8, (x == y) = (y == x) := fun x y => by
    rw [Bool.eq_iff_iff, beq_iff_eq, beq_iff_eq]; exact eq_comm
  rw [sameM, sameM, h, h a.2.toList]

set_option maxRecDepth 100000 in
set_option maxHeartbeats 1000000 in
theorem idxMod_any (v : Value) (xs : List ModB) (m1 m2 : ByteArray) (w : World) (hv : RRow modR w v xs) (hx : xs.length ≤ 1000) :
    Calls Tryz.prog 148 #[v, .agg #[.string m1, .string m2]] w fun e w' => e = .returned (.int .i64 (idxL (fun a => sameM a (m1, m2)) xs)) ∧ Below w.heap.size w w' := by
  have hb0 := (Below.refl w.heap.size w).alloc (Nat.le_refl _) (.cells #[.string m1, .string m2] 41)
  have HV := Lib.hid (hv.below hb0)
  have hc0 : (w.alloc (.cells #[.string m1, .string m2] 41)).cell? ⟨w.heap.size, 0, none⟩ = some (.string m1) := by rw [cell_newR]; rfl
  have hc1 : (w.alloc (.cells #[.string m1, .string m2] 41)).cell? ⟨w.heap.size, 1, none⟩ = some (.string m2) := by rw [cell_newR]; rfl
  have HC := Lib.hid hc0
  have HC1 := Lib.hid hc1
  obtain ⟨a, c, rfl, -⟩ := hv
  clear hc0 hc1
  go_enter Tryz.func148, Tryz.ntmps148
  go_wp2
  obtain ⟨W, hW⟩ : ∃ W, W = w.alloc (.cells #[.string m1, .string m2] 41) := ⟨_, rfl⟩
  rw [← hW] at HV HC HC1 hb0 ⊢
  have HS := Lib.hid (show w.heap.size < W.heap.size by rw [hW]; simp)
  clear hW
  go_loopw [8] (fun i wr => ∃ k : Nat, k ≤ xs.length ∧ i = .int .i64 k ∧ NoneTo (fun a => sameM a (m1, m2)) xs k ∧ Below W.heap.size W wr) (fun i _ => xs.length - (intOf i).toNat)
  case atStart => exact ⟨0, Nat.zero_le _, rfl, NoneTo.start _ _, Below.refl _ _⟩
  case round =>
    obtain ⟨k, hk, rfl, hn, hBw⟩ := hrel
    have HN := Lib.hid hn
    clear hn
    by_cases hlt : k < xs.length
    · obtain ⟨a', c', e, hcap, hr⟩ := HV.out.below hBw
      injection e with e1 e2 e3
      subst e1 e3
      obtain ⟨g, o, rfl, hg, hat⟩ := hr (by intro e; rw [e] at hlt; simp at hlt)
      obtain ⟨q1, q2⟩ := mod_at hat k hlt
      have r1 := (hBw.cell (p := ⟨w.heap.size, 0, none⟩) HS.out).trans HC.out
      have r2 := (hBw.cell (p := ⟨w.heap.size, 1, none⟩) HS.out).trans HC1.out
      have HH := Lib.hid (fun e => HN.out.hit hlt e)
      have HO := Lib.hid (fun e => HN.out.on hlt e)
      clear hat hr
      generalize xs[k] = x at *
      obtain ⟨p, u⟩ := x
      dsimp only at q1 q2 HH HO
      cases e1 : (m1.toList == p.toList)
      · have HE := Lib.hid (HO.out (by rw [sameM_swap]; exact sameM_f e1))
        go_wp2
        go_quiet (fail)
        go_wp2
        go_roundw
        case rel => exact ⟨k + 1, by omega, by go_num, HE.out, below_drewN hBw _⟩
        case measure => simp [intOf]; omega
      · cases e2 : (m2.toList == u.toList)
        · have HE := Lib.hid (HO.out (by rw [sameM_swap]; exact sameM_tf e1 e2))
          go_wp2
          go_quiet (fail)
          go_wp2
          go_roundw
          case rel => exact ⟨k + 1, by omega, by go_num, HE.out, below_drewN hBw _⟩
          case measure => simp [intOf]; omega
        · have HE := Lib.hid (HH.out (by rw [sameM_swap]; exact sameM_tt e1 e2))
          go_wp2
          go_quiet (fail)
          go_wp2
          go_ret
          exact ⟨ret_int HE.out.symm, below_drewN (hb0.trans (hBw.mono hb0.size)) _⟩
    · have HE := Lib.hid (HN.out.done (by omega))
      go_wp2
      go_ret
      exact ⟨ret_int HE.out.symm, hb0.trans (hBw.mono hb0.size)⟩

set_option maxRecDepth 100000 in
set_option maxHeartbeats 1000000 in
theorem contMod_any (v : Value) (xs : List ModB) (m1 m2 : ByteArray) (w : World) (hv : RRow modR w v xs) (hx : xs.length ≤ 1000) :
    Calls Tryz.prog 100 #[v, .agg #[.string m1, .string m2]] w fun e w' => e = .returned (.bool (xs.any fun a => sameM a (m1, m2))) ∧ Below w.heap.size w w' := by
  have HI := Lib.hid (idxL_any (fun a : ModB => sameM a (m1, m2)) xs)
  have hb0 := (Below.refl w.heap.size w).alloc (Nat.le_refl _) (.cells #[.string m1, .string m2] 41)
  have HK := Lib.hid (idxMod_any v xs m1 m2 _ (hv.below hb0) hx)
  obtain ⟨a, c, rfl, -⟩ := hv
  go_enter Tryz.func100, Tryz.ntmps100
  go_wp2_with fail
  refine HK.out.mono ?_
  rintro _ w1 ⟨rfl, hb⟩
  replace hb := hb0.trans (hb.mono hb0.size)
  go_wp2
  all_goals
    go_ret
    refine ⟨ret_bool ?_, hb⟩
    rw [← HI.out]
end Go.Proofs.YtmdlmjcejeejfaaGreatDoor
