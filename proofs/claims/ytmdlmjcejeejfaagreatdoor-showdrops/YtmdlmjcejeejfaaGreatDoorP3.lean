/-
  semver's tests of signs, identifiers and numbers.
-/
import Derived.Test.YtmdlmjcejeejfaaGreatDoorP2
import Derived.Test.YtmdlmjcejeejfaaGreatDoorConv
import Derived.Lib.AtoiErrMem
namespace Go.Proofs.YtmdlmjcejeejfaaGreatDoor
open Go.RowKit Go.Shelf

theorem alldig_any (q : Addr) (s : ByteArray) (hs : s.size ≤ 20400) (w : World) (hc : w.cell? q = some (.string ⟨#[48, 57]⟩)) :
    Calls Tryz.prog 169 #[.string s, .func (.func 199) #[] #[.pointer (some q)]] w fun e w' => e = .returned (.bool (digs s.data.toList)) ∧ w = w' := by
  have := sall_any ⟨#[48, 57]⟩ 1 rfl (by decide) q s hs w hc
  rwa [show inSp (⟨#[48, 57]⟩ : ByteArray).data.toList = dig from funext inSp_dig] at this
theorem allnam_any (q : Addr) (s : ByteArray) (hs : s.size ≤ 20400) (w : World) (hc : w.cell? q = some (.string ⟨#[48, 57, 65, 90, 97, 122, 45, 45]⟩)) :
    Calls Tryz.prog 169 #[.string s, .func (.func 199) #[] #[.pointer (some q)]] w fun e w' => e = .returned (.bool (idn s.data.toList)) ∧ w = w' := by
  have := sall_any ⟨#[48, 57, 65, 90, 97, 122, 45, 45]⟩ 4 rfl (by decide) q s hs w hc
  rwa [show inSp (⟨#[48, 57, 65, 90, 97, 122, 45, 45]⟩ : ByteArray).data.toList = nam from funext inSp_nam] at this
def hexL (l : List UInt8) : Bool := allL hexS l
theorem allhex_any (q : Addr) (s : ByteArray) (hs : s.size ≤ 20400) (w : World) (hc : w.cell? q = some (.string ⟨#[48, 57, 97, 102]⟩)) :
    Calls Tryz.prog 169 #[.string s, .func (.func 199) #[] #[.pointer (some q)]] w fun e w' => e = .returned (.bool (hexL s.data.toList)) ∧ w = w' := by
  have := sall_any ⟨#[48, 57, 97, 102]⟩ 2 rfl (by decide) q s hs w hc
  rwa [show inSp (⟨#[48, 57, 97, 102]⟩ : ByteArray).data.toList = hexS from funext inSp_hex] at this
theorem newcell (w : World) (s : ByteArray) : (w.alloc (.cells #[.string s] 9)).cell? ⟨w.heap.size, 0, none⟩ = some (.string s) := (Boxed.new w 9 (.string s)).cell
theorem newbelow (w : World) (s : ByteArray) : Below w.heap.size w (w.alloc (.cells #[.string s] 9)) := (Below.refl _ w).alloc (Nat.le_refl _) _

theorem head_data {s : ByteArray} (h : 0 < s.size) : s.data.toList.head? = some s[0] := by
  rw [List.head?_eq_getElem?, get_data s 0 h]
theorem nought_1 {s : ByteArray} (h : ¬ 1 < s.size) : nought s.data.toList = false := by
  simp only [nought, size_data, h]; rfl
theorem nought_2 {s : ByteArray} (h : 1 < s.size) {b : Bool} (k : ((s[0].toNat : Int) == 48) = b) : nought s.data.toList = b := by
  simp only [nought, size_data, h, head_data (s := s) (by omega), decide_true, Bool.true_and]
  rw [← k]
  by_cases e : s[0] = 48
  · rw [e]; rfl
  · have : ¬ (s[0].toNat : Int) = 48 := fun x => e (UInt8.toNat.inj (by show s[0].toNat = 48; omega))
    rw [beq_false_of_ne this]
    exact beq_false_of_ne (fun x => e (Option.some.inj x))

set_option maxRecDepth 100000 in
set_option maxHeartbeats 400000 in
theorem nought_any (s : ByteArray) (w : World) :
    Calls Tryz.prog 171 #[.string s] w fun e w' => e = .returned (.bool (nought s.data.toList)) ∧ w = w' := by
  by_cases h : 1 < s.size
  · cases k : ((s[0].toNat : Int) == 48)
    · have H := Lib.hid (nought_2 h k)
      go_enter Tryz.func171, Tryz.ntmps171
      go_wp2
      go_ret
      exact ⟨ret_bool H.out.symm, rfl⟩
    · have H := Lib.hid (nought_2 h k)
      go_enter Tryz.func171, Tryz.ntmps171
      go_wp2
      go_ret
      exact ⟨ret_bool H.out.symm, rfl⟩
  · have H := Lib.hid (nought_1 h)
    go_enter Tryz.func171, Tryz.ntmps171
    go_wp2
    go_ret
    exact ⟨ret_bool H.out.symm, rfl⟩

set_option maxRecDepth 100000 in
set_option maxHeartbeats 400000 in
theorem identifier_any (s : ByteArray) (hs : s.size ≤ 20400) (w : World) :
    Calls Tryz.prog 120 #[.string s] w fun e w' => e = .returned (.bool (idn s.data.toList)) ∧ Below w.heap.size w w' := by
  go_enter Tryz.func120, Tryz.ntmps120
  go_wp2_with fail
  refine (within_any _ _).mono ?_
  rintro _ w1 ⟨rfl, rfl⟩
  go_wp2_with fail
  refine (allnam_any _ s hs _ (newcell _ _)).mono ?_
  rintro _ w1 ⟨rfl, rfl⟩
  go_wp2
  go_ret
  exact ⟨rfl, newbelow _ _⟩

theorem preId_1 {l : List UInt8} (h : idn l = false) : preId l = false := by simp [preId, h]
theorem preId_2 {l : List UInt8} (h : idn l = true) (k : digs l = false) : preId l = true := by simp [preId, h, k]
theorem preId_3 {l : List UInt8} (h : idn l = true) (k : digs l = true) {b : Bool} (n : nought l = b) : preId l = !b := by simp [preId, h, k, n]

set_option maxRecDepth 100000 in
set_option maxHeartbeats 800000 in
theorem preIdentifier_any (s : ByteArray) (hs : s.size ≤ 20400) (w : World) :
    Calls Tryz.prog 119 #[.string s] w fun e w' => e = .returned (.bool (preId s.data.toList)) ∧ Below w.heap.size w w' := by
  go_enter Tryz.func119, Tryz.ntmps119
  go_wp2_with fail
  refine (identifier_any s hs _).mono ?_
  rintro _ w1 ⟨rfl, hb1⟩
  cases h : idn s.data.toList
  · have H := Lib.hid (preId_1 h)
    go_wp2
    go_ret
    exact ⟨ret_bool H.out.symm, hb1⟩
  · go_wp2_with fail
    refine (within_any _ _).mono ?_
    rintro _ w2 ⟨rfl, rfl⟩
    go_wp2_with fail
    refine (alldig_any _ s hs _ (newcell _ _)).mono ?_
    rintro _ w2 ⟨rfl, rfl⟩
    have hb2 := hb1.trans ((newbelow w1 ⟨#[48, 57]⟩).mono hb1.size)
    cases k : digs s.data.toList
    · have H := Lib.hid (preId_2 h k)
      go_wp2
      go_ret
      exact ⟨ret_bool H.out.symm, hb2⟩
    · go_wp2_with fail
      refine (nought_any s _).mono ?_
      rintro _ w2 ⟨rfl, rfl⟩
      cases n : nought s.data.toList
      · have H := Lib.hid (preId_3 h k n)
        go_wp2
        go_ret
        exact ⟨ret_bool H.out.symm, hb2⟩
      · have H := Lib.hid (preId_3 h k n)
        go_wp2
        go_ret
        exact ⟨ret_bool H.out.symm, hb2⟩

theorem idtest : IdTest 120 idn := ⟨enters_of Tryz.func120 (by kernel_rfl) rfl, fun s w h => identifier_any s h w⟩
theorem pretest : IdTest 119 preId := ⟨enters_of Tryz.func119 (by kernel_rfl) rfl, fun s w h => preIdentifier_any s h w⟩

def numI (l : List UInt8) : Int := if numOk l then (numV l : Int) else 0
theorem num_1 {l : List UInt8} (h : ¬ l.length ≤ 9) : numOk l = false := by simp [numOk, h]
theorem num_2 {l : List UInt8} (h : digs l = false) : numOk l = false := by simp [numOk, h]
theorem num_3 {l : List UInt8} (h : nought l = true) : numOk l = false := by simp [numOk, h]
theorem num_4 {l : List UInt8} (h : l.length ≤ 9) (k : digs l = true) (n : nought l = false) : numOk l = true := by simp [numOk, h, k, n]
theorem ret_num {l : List UInt8} {b : Bool} {n : Int} (h : numOk l = b) (hn : n = if b then (numV l : Int) else 0) : Ending.returned (.tuple #[.int .i64 n, .bool b]) = .returned (.tuple #[.int .i64 (numI l), .bool (numOk l)]) := by
  rw [hn, numI, h]
theorem decFrom_digs : ∀ (l : List UInt8) (acc : Nat), l.all dig = true → Lib.decFrom acc l = some (l.foldl (fun n c => 10 * n + (c.toNat - 48)) acc)
  | [], _, _ => rfl
  | c :: r, acc, h => by
    rw [List.all_cons, Bool.and_eq_true] at h
    have hc : 48 ≤ c.toNat ∧ c.toNat ≤ 57 := by simpa [dig] using h.1
    rw [Lib.decFrom, Lib.digitVal, if_pos hc, List.foldl_cons, Nat.mul_comm]
    exact decFrom_digs r _ h.2
theorem atoi_digs {l : List UInt8} (h : digs l = true) : Lib.atoi l = some (numV l : Int) := by
  unfold digs allL at h
  rw [Bool.and_eq_true] at h
  obtain ⟨h1, h2⟩ := h
  cases l with
  | nil => simp at h1
  | cons c r =>
    have hc : 48 ≤ c.toNat ∧ c.toNat ≤ 57 := by
      rw [List.all_cons, Bool.and_eq_true] at h2
      simpa [dig] using h2.1
    have n1 : (c == 45) = false := by
      refine beq_false_of_ne ?_
      rintro rfl
      exact absurd hc.1 (by decide)
    have n2 : (c == 43) = false := by
      refine beq_false_of_ne ?_
      rintro rfl
      exact absurd hc.1 (by decide)
    simp only [Lib.atoi, n1, n2, Lib.decNat, List.isEmpty_cons, decFrom_digs (c :: r) 0 h2]
    rfl

set_option maxRecDepth 100000 in
set_option maxHeartbeats 800000 in
theorem number_any (s : ByteArray) (hs : s.size ≤ 20400) (w : World) :
    Calls Tryz.prog 168 #[.string s] w fun e w' => e = .returned (.tuple #[.int .i64 (numI s.data.toList), .bool (numOk s.data.toList)]) ∧ Below w.heap.size w w' := by
  by_cases h9 : s.size ≤ 9
  · have h9' : s.data.toList.length ≤ 9 := by rw [size_data]; exact h9
    have H9 := Lib.hid h9'
    clear h9'
    go_enter Tryz.func168, Tryz.ntmps168
    go_wp2_with fail
    refine (within_any _ _).mono ?_
    rintro _ w2 ⟨rfl, rfl⟩
    go_wp2_with fail
    refine (alldig_any _ s hs _ (newcell _ _)).mono ?_
    rintro _ w2 ⟨rfl, rfl⟩
    have hb1 := newbelow w ⟨#[48, 57]⟩
    cases k : digs s.data.toList
    · have H := Lib.hid (num_2 k)
      go_wp2
      go_ret2
      exact ⟨ret_num H.out rfl, hb1⟩
    · go_wp2_with fail
      refine (nought_any s _).mono ?_
      rintro _ w2 ⟨rfl, rfl⟩
      cases n : nought s.data.toList
      · have H := Lib.hid (num_4 H9.out k n)
        go_wp2_with fail
        refine (Tryz.strconv_Atoi s _ (by omega) (atoi_digs k) _).mono ?_
        rintro _ w3 ⟨rfl, t, rfl⟩
        have hb2 := hb1.trans ((Lib.bytesWorld_below (w.alloc (.cells #[.string ⟨#[48, 57]⟩] 9)) 5 t).mono hb1.size)
        generalize Lib.bytesWorld (w.alloc (.cells #[.string ⟨#[48, 57]⟩] 9)) 5 t = w3 at *
        go_wp2
        go_quiet (fail)
        go_wp2
        go_ret2
        exact ⟨ret_num H.out rfl, below_drewN hb2 _⟩
      · have H := Lib.hid (num_3 n)
        go_wp2
        go_ret2
        exact ⟨ret_num H.out rfl, hb1⟩
  · have H := Lib.hid (num_1 (l := s.data.toList) (by rw [size_data]; exact h9))
    go_enter Tryz.func168, Tryz.ntmps168
    go_wp2
    go_ret2
    exact ⟨ret_num H.out rfl, Below.refl _ _⟩
end Go.Proofs.YtmdlmjcejeejfaaGreatDoor
