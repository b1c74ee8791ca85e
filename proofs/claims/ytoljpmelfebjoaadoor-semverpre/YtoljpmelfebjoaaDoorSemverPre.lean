/-
  For every two numbers and every text, identifiers of digits alone stand by their value, ahead of all others, and more of them behind the same ones is higher; the variables that the row lists are as the program's own text lays them.
-/
import Derived.Test.YtoljpmelfebjoaaDoorRows
import Derived.Test.YtoljpmelfebjoaaDoorCards
import Derived.Test.YtoljpmelfebjoaaDoorTie
import Derived.Test.YtoljpmelfebjoaaDoorL0
import Derived.Test.YtoljpmelfebjoaaDoorP14
import Derived.Test.YtoljpmelfebjoaaDoorP15
import Derived.Test.YtoljpmelfebjoaaDoorP16
import Derived.SevenTiedAt
namespace Go.Proofs.YtoljpmelfebjoaaDoor.semverPre
open Go.ChangeShapes Go.WideShapes Go.ChangeAt Go.RowKit Go.Shelf
open Go.ChangeMaps (open_string shut_string)
set_option linter.unusedVariables false

theorem compare_at (a b : ByteArray) (ha : a.size ≤ 1024) (hb : b.size ≤ 1024) {n : Int} (h : scmp a.data.toList b.data.toList = n) (w : World) :
    Calls Tryd.prog 15 #[.string a, .string b] w fun e w' => e = .returned (.int .i64 n) ∧ Below w.heap.size w w' :=
  (compare_any' a b (by omega) (by omega) w).mono fun _ _ k => ⟨by rw [k.1, h], k.2⟩
theorem wf32 {a : Int} (h : (Lit.int .u32 a).wf = true) : ∃ n : Nat, a = n ∧ n < 4294967296 := by
  simp [Lit.wf] at h
  have e1 : IntKind.u32.min = 0 := rfl
  have e2 : IntKind.u32.max = 4294967295 := rfl
  rw [e1, e2] at h
  exact ⟨a.toNat, by omega, by omega⟩
theorem dz (n : Nat) : digZ (n : Int) = Lib.decDigits n := by
  unfold digZ; rw [if_neg (by omega)]; simp
theorem app (x y : ByteArray) : (x ++ y).data.toList = x.data.toList ++ y.data.toList := by simp
theorem fold_acc : ∀ (l : List UInt8) (a : Nat), l.foldl (fun n c => 10 * n + (c.toNat - 48)) a = a * 10 ^ l.length + numV l
  | [], a => by simp [numV]
  | c :: r, a => by
    have h1 := fold_acc r (10 * a + (c.toNat - 48))
    have h2 := fold_acc r (10 * 0 + (c.toNat - 48))
    have e : numV (c :: r) = r.foldl (fun n c => 10 * n + (c.toNat - 48)) (10 * 0 + (c.toNat - 48)) := rfl
    rw [List.foldl_cons, h1, e, h2, List.length_cons, Nat.pow_succ]
    generalize 10 ^ r.length = P
    rw [Nat.add_mul, Nat.add_mul]
    have : a * (P * 10) = 10 * a * P := by rw [Nat.mul_comm P 10, ← Nat.mul_assoc, Nat.mul_comm a 10]
    omega
theorem numV_cons (c : UInt8) (r : List UInt8) : numV (c :: r) = (c.toNat - 48) * 10 ^ r.length + numV r := by
  have e : numV (c :: r) = r.foldl (fun n c => 10 * n + (c.toNat - 48)) (10 * 0 + (c.toNat - 48)) := rfl
  rw [e, fold_acc]; simp
theorem numV_pow : ∀ (l : List UInt8), l.all dig = true → numV l < 10 ^ l.length
  | [], _ => by decide
  | c :: r, h => by
    rw [List.all_cons, Bool.and_eq_true] at h
    have hc : 48 ≤ c.toNat ∧ c.toNat ≤ 57 := by simpa [dig] using h.1
    have := numV_pow r h.2
    rw [numV_cons, List.length_cons, Nat.pow_succ]
    have : (c.toNat - 48) * 10 ^ r.length ≤ 9 * 10 ^ r.length := Nat.mul_le_mul_right _ (by omega)
    omega
theorem lex_num : ∀ (x y : List UInt8), x.length = y.length → x.all dig = true → y.all dig = true → (x < y ↔ numV x < numV y)
  | [], [], _, _, _ => by simp [numV]
  | [], _ :: _, h, _, _ => by simp at h
  | _ :: _, [], h, _, _ => by simp at h
  | a :: x, b :: y, h, hx, hy => by
    rw [List.all_cons, Bool.and_eq_true] at hx hy
    have hl : x.length = y.length := by simpa using h
    have ih := lex_num x y hl hx.2 hy.2
    have ha : 48 ≤ a.toNat ∧ a.toNat ≤ 57 := by simpa [dig] using hx.1
    have hb : 48 ≤ b.toNat ∧ b.toNat ≤ 57 := by simpa [dig] using hy.1
    have px := numV_pow x hx.2
    have py := numV_pow y hy.2
    rw [List.cons_lt_cons_iff, numV_cons, numV_cons, hl]
    rw [hl] at px
    generalize 10 ^ y.length = P at *
    by_cases h1 : a.toNat < b.toNat
    · have m : (a.toNat - 48 + 1) * P ≤ (b.toNat - 48) * P := Nat.mul_le_mul_right _ (by omega)
      rw [Nat.add_mul, Nat.one_mul] at m
      exact ⟨fun _ => by omega, fun _ => .inl h1⟩
    · by_cases h2 : b.toNat < a.toNat
      · have m : (b.toNat - 48 + 1) * P ≤ (a.toNat - 48) * P := Nat.mul_le_mul_right _ (by omega)
        rw [Nat.add_mul, Nat.one_mul] at m
        refine ⟨fun hh => ?_, fun hh => by omega⟩
        rcases hh with hh | ⟨hh, _⟩
        · exact absurd hh h1
        · rw [hh] at h2; omega
      · have e : a = b := UInt8.toNat.inj (by omega)
        rw [e]
        refine ⟨fun hh => ?_, fun hh => .inr ⟨rfl, ih.2 (by omega)⟩⟩
        rcases hh with hh | ⟨_, hh⟩
        · exact absurd hh (by simp)
        · have := ih.1 hh; omega
theorem len_mono : ∀ (a b : Nat), b ≤ a → (Lib.decDigits b).length ≤ (Lib.decDigits a).length := by
  intro a
  induction a using Nat.strongRecOn with
  | _ a ih =>
    intro b hb
    by_cases h : a < 10
    · rw [dec_small h, dec_small (show b < 10 by omega)]; simp
    · rw [dec_big h]
      by_cases k : b < 10
      · rw [dec_small k]; simp
      · rw [dec_big k]
        have := ih (a / 10) (by omega) (b / 10) (by omega)
        simp; omega
theorem idcmp_dec (a b : Nat) : idcmp (Lib.decDigits a) (Lib.decDigits b) = icmp a b := by
  rw [idcmp_both (digs_dec a) (digs_dec b)]
  have ma := len_mono a b
  have mb := len_mono b a
  by_cases h : (Lib.decDigits a).length = (Lib.decDigits b).length
  · have key := lex_num _ _ h (dec_facts a).2.1 (dec_facts b).2.1
    have key2 := lex_num _ _ h.symm (dec_facts b).2.1 (dec_facts a).2.1
    rw [numV_dec, numV_dec] at key key2
    rw [icmp_zero.2 (by rw [h])]
    show tcmp _ _ = _
    by_cases h1 : a < b
    · rw [tcmp_lt.2 (key.2 h1), icmp_1 (by omega)]
    · by_cases h2 : b < a
      · rw [tcmp_gt.2 (key2.2 h2), icmp_2 (by omega) (by omega)]
      · have : a = b := by omega
        rw [this, tcmp_zero.2 rfl, icmp_3 (by omega) (by omega)]
  · by_cases h1 : (Lib.decDigits a).length < (Lib.decDigits b).length
    · have : a < b := by
        by_cases x : a < b
        · exact x
        · exact absurd (ma (by omega)) (by omega)
      rw [icmp_1 (by omega), icmp_1 (by omega)]; rfl
    · have : b < a := by
        by_cases x : b < a
        · exact x
        · exact absurd (mb (by omega)) (by omega)
      rw [icmp_2 (by omega) (by omega), icmp_2 (by omega) (by omega)]; rfl

/-- v1.0.0- and what follows. -/
def vp (p : List UInt8) : List UInt8 := [118, 49, 46, 48, 46, 48, 45] ++ p
theorem vp_eq (p : List UInt8) : vp p = verT 1 0 0 (45 :: p) := by simp [vp, verT, dec_small (show 0 < 10 by decide), dec_small (show 1 < 10 by decide)]
theorem vp_ver {p : List UInt8} (h : okV (vp p) = true) : verL (vp p) = ⟨1, 0, 0, mkB (headL 43 p), mkB (restL 43 p)⟩ := by
  rw [vp_eq] at h ⊢
  exact (ver_pre (by decide) (by decide) (by decide) p).2 h
theorem vp_ok {p : List UInt8} (hl : p.length ≤ 50) (hf : ∀ c ∈ p, c ≠ 43) (h : (sp 46 p).all preId = true) : okV (vp p) = true := by
  have e := (ver_pre (a := 1) (b := 0) (c := 0) (by decide) (by decide) (by decide) p).1
  obtain ⟨h1, h2, h3⟩ := headL_none hf
  rw [vp_eq, e, h1, h, h3, ← vp_eq, decide_eq_true (by simp [vp]; omega)]; rfl
theorem vp_cmp {p q : List UInt8} (hp : okV (vp p) = true) (hq : okV (vp q) = true) (fp : ∀ c ∈ p, c ≠ 43) (fq : ∀ c ∈ q, c ≠ 43) (np : p ≠ []) (nq : q ≠ []) : scmp (vp p) (vp q) = lcmp idcmp (sp 46 p) (sp 46 q) := by
  rw [scmp_both hp hq, vp_ver hp, vp_ver hq, (headL_none fp).1, (headL_none fq).1]
  refine (vcmp_4 ?_ ?_ ?_).trans ?_
  · rfl
  · rfl
  · rfl
  · exact pcmp_both np nq
theorem sp_dec (n : Nat) : sp 46 (Lib.decDigits n) = [Lib.decDigits n] := sp_none (dec_free n (by decide))
theorem len10 {n : Nat} (h : n < 4294967296) : (Lib.decDigits n).length ≤ 10 := len_dec 9 n (by omega)
theorem x_ok {n : Nat} (h : n < 4294967296) : okV (vp (Lib.decDigits n)) = true :=
  vp_ok (by have := len10 h; omega) (dec_free n (by decide)) (by rw [sp_dec]; simp [preId_dec])
theorem d1 {a b : Nat} (ha : a < 4294967296) (hb : b < 4294967296) : scmp (vp (Lib.decDigits a)) (vp (Lib.decDigits b)) = icmp a b := by
  rw [vp_cmp (x_ok ha) (x_ok hb) (dec_free a (by decide)) (dec_free b (by decide)) (dec_facts a).2.2.1 (dec_facts b).2.2.1, sp_dec, sp_dec]
  simp only [lcmp, idcmp_dec]
  split
  · rename_i e; exact e.symm
  · rfl
theorem free_app {n : Nat} {t : List UInt8} (ht : ∀ c ∈ t, c ≠ 43) : ∀ c ∈ Lib.decDigits n ++ t, c ≠ 43 := by
  intro c hc
  rcases List.mem_append.1 hc with h | h
  · exact dec_free n (by decide) c h
  · exact ht c h
theorem d2 {a : Nat} (ha : a < 4294967296) : scmp (vp (Lib.decDigits a)) (vp (Lib.decDigits a ++ [46, 48])) = -1 := by
  have hs : sp 46 (Lib.decDigits a ++ [46, 48]) = [Lib.decDigits a, [48]] := by rw [sp_at (dec_free a (by decide))]; rfl
  have hf : ∀ c ∈ Lib.decDigits a ++ [46, 48], c ≠ 43 := free_app (by decide)
  have hok : okV (vp (Lib.decDigits a ++ [46, 48])) = true := vp_ok (by have := len10 ha; simp; omega) hf (by rw [hs]; simp [preId_dec]; decide)
  rw [vp_cmp (x_ok ha) hok (dec_free a (by decide)) hf (dec_facts a).2.2.1 (by simp), sp_dec, hs]
  simp [lcmp, idcmp_cmp.self]
theorem not_digs {p : List UInt8} {c : UInt8} (hc : c ∈ p) (h : dig c = false) : digs p = false := by
  unfold digs allL
  have : p.all dig = false := List.all_eq_false.2 ⟨c, hc, by simp [h]⟩
  rw [this, Bool.and_false]
theorem one_cmp {a : Nat} {p : List UInt8} (hp : digs p = false) : lcmp idcmp [Lib.decDigits a] [p] = -1 := by
  simp [lcmp, idcmp_left (digs_dec a) hp]
theorem d3 {a : Nat} (ha : a < 4294967296) : scmp (vp (Lib.decDigits a)) (vp (Lib.decDigits a ++ [45])) = -1 := by
  have hn : digs (Lib.decDigits a ++ [45]) = false := not_digs (c := 45) (by simp) (by decide)
  have hs : sp 46 (Lib.decDigits a ++ [45]) = [Lib.decDigits a ++ [45]] := by
    refine sp_none fun c hc => ?_
    rcases List.mem_append.1 hc with h | h
    · exact dec_free a (by decide) c h
    · simp at h; subst h; decide
  have hf : ∀ c ∈ Lib.decDigits a ++ [45], c ≠ 43 := free_app (by decide)
  have hid : idn (Lib.decDigits a ++ [45]) = true := by
    have := idn_dec a
    unfold idn allL at this ⊢
    rw [Bool.and_eq_true] at this ⊢
    refine ⟨by simp, ?_⟩
    rw [List.all_append, this.2]; decide
  have hok : okV (vp (Lib.decDigits a ++ [45])) = true := vp_ok (by have := len10 ha; simp; omega) hf (by rw [hs]; simp [preId, hid, hn])
  rw [vp_cmp (x_ok ha) hok (dec_free a (by decide)) hf (dec_facts a).2.2.1 (by simp), sp_dec, hs]
  exact one_cmp hn
theorem d4 {a : Nat} (ha : a < 4294967296) {s : List UInt8} (hok : okV (vp (s ++ [122])) = true) (h1 : hasL 46 s = false) (h2 : hasL 43 s = false) : scmp (vp (Lib.decDigits a)) (vp (s ++ [122])) = -1 := by
  have f (d : UInt8) (hd : d ≠ 122) (h : hasL d s = false) : ∀ c ∈ s ++ [122], c ≠ d := by
    intro c hc e
    rcases List.mem_append.1 hc with k | k
    · rw [e] at k
      rw [hasL_iff.2 k] at h; cases h
    · simp at k; rw [k] at e; exact hd e.symm
  have hn : digs (s ++ [122]) = false := not_digs (c := 122) (by simp) (by decide)
  have hs : sp 46 (s ++ [122]) = [s ++ [122]] := sp_none (f 46 (by decide) h1)
  rw [vp_cmp (x_ok ha) hok (dec_free a (by decide)) (f 43 (by decide) h2) (dec_facts a).2.2.1 (by simp), sp_dec, hs]
  exact one_cmp hn

def HasAt (s : ByteArray) (d : UInt8) (k : Nat) : Prop := hasL d s.data.toList = hasL d (s.data.toList.drop k)
theorem HasAt.yes {s : ByteArray} {d : UInt8} {k : Nat} (h : HasAt s d k) (hk : k < s.size) (e : ((s[k].toNat : Int) == (d.toNat : Int)) = true) : hasL d s.data.toList = true := by
  have e' : s[k] = d := UInt8.toNat.inj (by have := eq_of_beq e; omega)
  rw [h, drop_get s k hk, hasL, if_pos e']
theorem HasAt.no {s : ByteArray} {d : UInt8} {k : Nat} (h : HasAt s d k) (hk : k < s.size) (e : ((s[k].toNat : Int) == (d.toNat : Int)) = false) : HasAt s d (k + 1) := by
  have e' : s[k] ≠ d := fun x => by rw [x] at e; simp at e
  unfold HasAt
  rw [h, drop_get s k hk, hasL, if_neg e']
theorem HasAt.done {s : ByteArray} {d : UInt8} {k : Nat} (h : HasAt s d k) (hk : s.size ≤ k) : hasL d s.data.toList = false := by
  rw [h, List.drop_of_length_le (by rw [size_data]; omega)]; rfl

set_option maxRecDepth 100000 in
set_option maxHeartbeats 400000 in
theorem lfind_any (s : ByteArray) (d : UInt8) (hs : s.size ≤ 20400) (w : World) :
    Calls Tryd.prog 28 #[.string s, .int .u8 (d.toNat : Int)] w fun e w' => e = .returned (.bool (hasL d s.data.toList)) ∧ w = w' := by
  go_enter Tryd.func28, Tryd.ntmps28
  go_wp2
  go_loop [5] (fun i => ∃ k : Nat, k ≤ s.size ∧ i = .int .i64 k ∧ HasAt s d k) (fun i => s.size - (intOf i).toNat)
  case atStart => exact ⟨0, Nat.zero_le _, rfl, by simp [HasAt]⟩
  case round =>
    obtain ⟨k, hk, rfl, hl⟩ := hrel
    have H := Lib.hid hl
    clear hl
    by_cases hlt : k < s.size
    · cases hp : ((s[k].toNat : Int) == (d.toNat : Int))
      · have HH := Lib.hid (H.out.no hlt hp)
        go_wp2
        go_round
        case rel => exact ⟨k + 1, by omega, by go_num, HH.out⟩
        case measure => simp [intOf]; omega
      · have HH := Lib.hid (H.out.yes hlt hp)
        go_wp2
        go_ret
        exact ⟨ret_bool HH.out.symm, rfl⟩
    · have HH := Lib.hid (H.out.done (by omega))
      go_wp2
      go_ret
      exact ⟨ret_bool HH.out.symm, rfl⟩
theorem lfind_at (s : ByteArray) (d : UInt8) (hs : s.size ≤ 20400) {b : Bool} (h : hasL d s.data.toList = b) (w : World) :
    Calls Tryd.prog 28 #[.string s, .int .u8 (d.toNat : Int)] w fun e w' => e = .returned (.bool b) ∧ w = w' :=
  (lfind_any s d hs w).mono fun _ _ k => ⟨by rw [k.1, h], k.2⟩
set_option maxRecDepth 100000 in
set_option maxHeartbeats 4000000 in
theorem walk (w : World) (a0 : Int) (w0 : (Lit.int .u32 a0).wf = true) (a1 : Int) (w1 : (Lit.int .u32 a1).wf = true) (a2 : ByteArray) (w2 : a2.size ≤ maxLen) :
    Calls Tryd.prog 10 #[.int .u32 a0, .int .u32 a1, .string a2] w fun e w' => e = .returned (.bool true) ∧ Below w.heap.size w w' := by
  obtain ⟨n0, rfl, j0⟩ := wf32 w0
  obtain ⟨n1, rfl, j1⟩ := wf32 w1
  clear w0 w1
  have hB := Below.refl w.heap.size w
  by_cases k : a2.size ≤ 30
  · go_enter Tryd.func10, Tryd.ntmps10
    go_wp2_with fail
    refine (rdigitsZ_any _ (by omega) _).mono ?_
    rintro _ w' ⟨rfl, rfl⟩
    rw [dz]
    obtain ⟨A, hA⟩ : ∃ x, x = mkB (Lib.decDigits n0) := ⟨_, rfl⟩
    rw [← hA]
    have HA := Lib.hid (show A.data.toList = Lib.decDigits n0 by rw [hA]; rfl)
    have zA : A.size ≤ 10 := by rw [← size_data, HA.out]; exact len10 (by omega)
    clear hA
    go_wp2_with fail
    refine (rdigitsZ_any _ (by omega) _).mono ?_
    rintro _ w' ⟨rfl, rfl⟩
    rw [dz]
    obtain ⟨B, hB⟩ : ∃ x, x = mkB (Lib.decDigits n1) := ⟨_, rfl⟩
    rw [← hB]
    have HB := Lib.hid (show B.data.toList = Lib.decDigits n1 by rw [hB]; rfl)
    have zB : B.size ≤ 10 := by rw [← size_data, HB.out]; exact len10 (by omega)
    clear hB
    have x1 : ¬ n0 < n1 ∨ ¬ n1 < n0 := by omega
    rcases Nat.lt_trichotomy n0 n1 with h | h | h
    · have t1 : (n0 : Int) < (n1 : Int) := by omega
      have t2 : ¬ (n1 : Int) < (n0 : Int) := by omega
      have K1 := Lib.hid (show scmp (⟨#[118, 49, 46, 48, 46, 48, 45]⟩ ++ A : ByteArray).data.toList (⟨#[118, 49, 46, 48, 46, 48, 45]⟩ ++ B : ByteArray).data.toList = -1 by rw [app, app, HA.out, HB.out]; exact (d1 j0 j1).trans (icmp_1 t1))
      have K2 := Lib.hid (show scmp (⟨#[118, 49, 46, 48, 46, 48, 45]⟩ ++ A : ByteArray).data.toList (⟨#[118, 49, 46, 48, 46, 48, 45]⟩ ++ A ++ ⟨#[46, 48]⟩ : ByteArray).data.toList = -1 by rw [app, app, app, HA.out, List.append_assoc]; exact d2 j0)
      have K3 := Lib.hid (show scmp (⟨#[118, 49, 46, 48, 46, 48, 45]⟩ ++ A : ByteArray).data.toList (⟨#[118, 49, 46, 48, 46, 48, 45]⟩ ++ A ++ ⟨#[45]⟩ : ByteArray).data.toList = -1 by rw [app, app, app, HA.out, List.append_assoc]; exact d3 j0)
      have e7 : (⟨#[118, 49, 46, 48, 46, 48, 45]⟩ : ByteArray).size = 7 := rfl
      have e2 : (⟨#[46, 48]⟩ : ByteArray).size = 2 := rfl
      have e1 : (⟨#[45]⟩ : ByteArray).size = 1 := rfl
      have e3 : (⟨#[122]⟩ : ByteArray).size = 1 := rfl
      have s1 : (⟨#[118, 49, 46, 48, 46, 48, 45]⟩ ++ A : ByteArray).size ≤ 1024 := by rw [ByteArray.size_append]; omega
      have s2 : (⟨#[118, 49, 46, 48, 46, 48, 45]⟩ ++ B : ByteArray).size ≤ 1024 := by rw [ByteArray.size_append]; omega
      have s3 : (⟨#[118, 49, 46, 48, 46, 48, 45]⟩ ++ A ++ ⟨#[46, 48]⟩ : ByteArray).size ≤ 1024 := by rw [ByteArray.size_append, ByteArray.size_append]; omega
      have s4 : (⟨#[118, 49, 46, 48, 46, 48, 45]⟩ ++ A ++ ⟨#[45]⟩ : ByteArray).size ≤ 1024 := by rw [ByteArray.size_append, ByteArray.size_append]; omega
      have s5 : (⟨#[118, 49, 46, 48, 46, 48, 45]⟩ ++ a2 ++ ⟨#[122]⟩ : ByteArray).size ≤ 1024 := by rw [ByteArray.size_append, ByteArray.size_append]; omega
      have S1 := Lib.hid s1
      have S2 := Lib.hid s2
      have S3 := Lib.hid s3
      have S4 := Lib.hid s4
      have S5 := Lib.hid s5
      clear s1 s2 s3 s4 s5 e7 e2 e1 e3
      have HT := Lib.hid (show (⟨#[118, 49, 46, 48, 46, 48, 45]⟩ ++ a2 ++ ⟨#[122]⟩ : ByteArray).data.toList = vp (a2.data.toList ++ [122]) by rw [app, app, List.append_assoc]; rfl)
      go_wp2_with fail
      refine (compare_at _ _ S1.out S2.out K1.out _).mono ?_
      rintro _ w' ⟨rfl, hb'⟩
      replace hB := hB.trans (hb'.mono hB.size)
      clear hb'
      go_wp2_with fail
      refine (compare_at _ _ S1.out S3.out K2.out _).mono ?_
      rintro _ w' ⟨rfl, hb'⟩
      replace hB := hB.trans (hb'.mono hB.size)
      clear hb'
      go_wp2_with fail
      refine (compare_at _ _ S1.out S4.out K3.out _).mono ?_
      rintro _ w' ⟨rfl, hb'⟩
      replace hB := hB.trans (hb'.mono hB.size)
      clear hb'
      go_wp2_with fail
      refine (parse_any _ (by have := S5.out; omega) _).mono ?_
      rintro _ w' ⟨rfl, hb'⟩
      replace hB := hB.trans (hb'.mono hB.size)
      clear hb'
      unfold retP verV
      obtain ⟨vv, hvv⟩ : ∃ v, v = verL (⟨#[118, 49, 46, 48, 46, 48, 45]⟩ ++ a2 ++ ⟨#[122]⟩ : ByteArray).data.toList := ⟨_, rfl⟩
      rw [← hvv]
      have HVV := Lib.hid hvv
      clear hvv
      obtain ⟨er, her⟩ : ∃ v, v = errL (⟨#[118, 49, 46, 48, 46, 48, 45]⟩ ++ a2 ++ ⟨#[122]⟩ : ByteArray).data.toList := ⟨_, rfl⟩
      rw [← her]
      have HER := Lib.hid her
      clear her
      have hB2 := hB.alloc hB.size (.cells #[.int .i64 vv.ma, .int .i64 vv.mi, .int .i64 vv.pa, .string vv.pre, .string vv.mta] 23)
      clear hB
      go_wp2_with fail
      refine (rparse_any _ (by have := S5.out; omega) _).mono ?_
      rintro _ w2 ⟨rfl, hb'⟩
      have hB := hB2.trans (hb'.mono hB2.size)
      clear hb' hB2
      unfold retP verV
      rw [← HVV.out, ← HER.out]
      replace hB := hB.alloc hB.size (.cells #[.int .i64 vv.ma, .int .i64 vv.mi, .int .i64 vv.pa, .string vv.pre, .string vv.mta] 27)
      cases e : okV (⟨#[118, 49, 46, 48, 46, 48, 45]⟩ ++ a2 ++ ⟨#[122]⟩ : ByteArray).data.toList
      · obtain rfl : er = 30 := by rw [HER.out]; exact err_no e
        clear e
        go_wp2
        go_ret
        exact ⟨rfl, hB⟩
      · obtain rfl : er = 0 := by rw [HER.out]; exact err_yes e
        have HOK := Lib.hid e
        clear e
        cases g1 : hasL 46 a2.data.toList
        · cases g2 : hasL 43 a2.data.toList
          · have K4 := Lib.hid (show scmp (⟨#[118, 49, 46, 48, 46, 48, 45]⟩ ++ A : ByteArray).data.toList (⟨#[118, 49, 46, 48, 46, 48, 45]⟩ ++ a2 ++ ⟨#[122]⟩ : ByteArray).data.toList = -1 by have hok := HOK.out; rw [HT.out] at hok ⊢; rw [app, HA.out]; exact d4 j0 hok g1 g2)
            go_wp2_with fail
            refine (lfind_at a2 46 (by omega) g1 _).mono ?_
            rintro _ w' ⟨rfl, rfl⟩
            go_wp2_with fail
            refine (lfind_at a2 43 (by omega) g2 _).mono ?_
            rintro _ w' ⟨rfl, rfl⟩
            go_wp2_with fail
            refine (compare_at _ _ S1.out S5.out K4.out _).mono ?_
            rintro _ w' ⟨rfl, hb'⟩
            replace hB := hB.trans (hb'.mono hB.size)
            clear hb'
            go_wp2
            go_ret
            exact ⟨rfl, hB⟩
          · go_wp2_with fail
            refine (lfind_at a2 46 (by omega) g1 _).mono ?_
            rintro _ w' ⟨rfl, rfl⟩
            go_wp2_with fail
            refine (lfind_at a2 43 (by omega) g2 _).mono ?_
            rintro _ w' ⟨rfl, rfl⟩
            go_wp2
            go_ret
            exact ⟨rfl, hB⟩
        · go_wp2_with fail
          refine (lfind_at a2 46 (by omega) g1 _).mono ?_
          rintro _ w' ⟨rfl, rfl⟩
          go_wp2
          go_ret
          exact ⟨rfl, hB⟩
    · have t1 : ¬ (n0 : Int) < (n1 : Int) := by omega
      have t2 : ¬ (n1 : Int) < (n0 : Int) := by omega
      clear h
      have K1 := Lib.hid (show scmp (⟨#[118, 49, 46, 48, 46, 48, 45]⟩ ++ A : ByteArray).data.toList (⟨#[118, 49, 46, 48, 46, 48, 45]⟩ ++ B : ByteArray).data.toList = 0 by rw [app, app, HA.out, HB.out]; exact (d1 j0 j1).trans (icmp_3 t1 t2))
      have K2 := Lib.hid (show scmp (⟨#[118, 49, 46, 48, 46, 48, 45]⟩ ++ A : ByteArray).data.toList (⟨#[118, 49, 46, 48, 46, 48, 45]⟩ ++ A ++ ⟨#[46, 48]⟩ : ByteArray).data.toList = -1 by rw [app, app, app, HA.out, List.append_assoc]; exact d2 j0)
      have K3 := Lib.hid (show scmp (⟨#[118, 49, 46, 48, 46, 48, 45]⟩ ++ A : ByteArray).data.toList (⟨#[118, 49, 46, 48, 46, 48, 45]⟩ ++ A ++ ⟨#[45]⟩ : ByteArray).data.toList = -1 by rw [app, app, app, HA.out, List.append_assoc]; exact d3 j0)
      have e7 : (⟨#[118, 49, 46, 48, 46, 48, 45]⟩ : ByteArray).size = 7 := rfl
      have e2 : (⟨#[46, 48]⟩ : ByteArray).size = 2 := rfl
      have e1 : (⟨#[45]⟩ : ByteArray).size = 1 := rfl
      have e3 : (⟨#[122]⟩ : ByteArray).size = 1 := rfl
      have s1 : (⟨#[118, 49, 46, 48, 46, 48, 45]⟩ ++ A : ByteArray).size ≤ 1024 := by rw [ByteArray.size_append]; omega
      have s2 : (⟨#[118, 49, 46, 48, 46, 48, 45]⟩ ++ B : ByteArray).size ≤ 1024 := by rw [ByteArray.size_append]; omega
      have s3 : (⟨#[118, 49, 46, 48, 46, 48, 45]⟩ ++ A ++ ⟨#[46, 48]⟩ : ByteArray).size ≤ 1024 := by rw [ByteArray.size_append, ByteArray.size_append]; omega
      have s4 : (⟨#[118, 49, 46, 48, 46, 48, 45]⟩ ++ A ++ ⟨#[45]⟩ : ByteArray).size ≤ 1024 := by rw [ByteArray.size_append, ByteArray.size_append]; omega
      have s5 : (⟨#[118, 49, 46, 48, 46, 48, 45]⟩ ++ a2 ++ ⟨#[122]⟩ : ByteArray).size ≤ 1024 := by rw [ByteArray.size_append, ByteArray.size_append]; omega
      have S1 := Lib.hid s1
      have S2 := Lib.hid s2
      have S3 := Lib.hid s3
      have S4 := Lib.hid s4
      have S5 := Lib.hid s5
      clear s1 s2 s3 s4 s5 e7 e2 e1 e3
      have HT := Lib.hid (show (⟨#[118, 49, 46, 48, 46, 48, 45]⟩ ++ a2 ++ ⟨#[122]⟩ : ByteArray).data.toList = vp (a2.data.toList ++ [122]) by rw [app, app, List.append_assoc]; rfl)
      go_wp2_with fail
      refine (compare_at _ _ S1.out S2.out K1.out _).mono ?_
      rintro _ w' ⟨rfl, hb'⟩
      replace hB := hB.trans (hb'.mono hB.size)
      clear hb'
      go_wp2_with fail
      refine (compare_at _ _ S1.out S3.out K2.out _).mono ?_
      rintro _ w' ⟨rfl, hb'⟩
      replace hB := hB.trans (hb'.mono hB.size)
      clear hb'
      go_wp2_with fail
      refine (compare_at _ _ S1.out S4.out K3.out _).mono ?_
      rintro _ w' ⟨rfl, hb'⟩
      replace hB := hB.trans (hb'.mono hB.size)
      clear hb'
      go_wp2_with fail
      refine (parse_any _ (by have := S5.out; omega) _).mono ?_
      rintro _ w' ⟨rfl, hb'⟩
      replace hB := hB.trans (hb'.mono hB.size)
      clear hb'
      unfold retP verV
      obtain ⟨vv, hvv⟩ : ∃ v, v = verL (⟨#[118, 49, 46, 48, 46, 48, 45]⟩ ++ a2 ++ ⟨#[122]⟩ : ByteArray).data.toList := ⟨_, rfl⟩
      rw [← hvv]
      have HVV := Lib.hid hvv
      clear hvv
      obtain ⟨er, her⟩ : ∃ v, v = errL (⟨#[118, 49, 46, 48, 46, 48, 45]⟩ ++ a2 ++ ⟨#[122]⟩ : ByteArray).data.toList := ⟨_, rfl⟩
      rw [← her]
      have HER := Lib.hid her
      clear her
      have hB2 := hB.alloc hB.size (.cells #[.int .i64 vv.ma, .int .i64 vv.mi, .int .i64 vv.pa, .string vv.pre, .string vv.mta] 23)
      clear hB
      go_wp2_with fail
      refine (rparse_any _ (by have := S5.out; omega) _).mono ?_
      rintro _ w2 ⟨rfl, hb'⟩
      have hB := hB2.trans (hb'.mono hB2.size)
      clear hb' hB2
      unfold retP verV
      rw [← HVV.out, ← HER.out]
      replace hB := hB.alloc hB.size (.cells #[.int .i64 vv.ma, .int .i64 vv.mi, .int .i64 vv.pa, .string vv.pre, .string vv.mta] 27)
      cases e : okV (⟨#[118, 49, 46, 48, 46, 48, 45]⟩ ++ a2 ++ ⟨#[122]⟩ : ByteArray).data.toList
      · obtain rfl : er = 30 := by rw [HER.out]; exact err_no e
        clear e
        go_wp2
        go_ret
        exact ⟨rfl, hB⟩
      · obtain rfl : er = 0 := by rw [HER.out]; exact err_yes e
        have HOK := Lib.hid e
        clear e
        cases g1 : hasL 46 a2.data.toList
        · cases g2 : hasL 43 a2.data.toList
          · have K4 := Lib.hid (show scmp (⟨#[118, 49, 46, 48, 46, 48, 45]⟩ ++ A : ByteArray).data.toList (⟨#[118, 49, 46, 48, 46, 48, 45]⟩ ++ a2 ++ ⟨#[122]⟩ : ByteArray).data.toList = -1 by have hok := HOK.out; rw [HT.out] at hok ⊢; rw [app, HA.out]; exact d4 j0 hok g1 g2)
            go_wp2_with fail
            refine (lfind_at a2 46 (by omega) g1 _).mono ?_
            rintro _ w' ⟨rfl, rfl⟩
            go_wp2_with fail
            refine (lfind_at a2 43 (by omega) g2 _).mono ?_
            rintro _ w' ⟨rfl, rfl⟩
            go_wp2_with fail
            refine (compare_at _ _ S1.out S5.out K4.out _).mono ?_
            rintro _ w' ⟨rfl, hb'⟩
            replace hB := hB.trans (hb'.mono hB.size)
            clear hb'
            go_wp2
            go_ret
            exact ⟨rfl, hB⟩
          · go_wp2_with fail
            refine (lfind_at a2 46 (by omega) g1 _).mono ?_
            rintro _ w' ⟨rfl, rfl⟩
            go_wp2_with fail
            refine (lfind_at a2 43 (by omega) g2 _).mono ?_
            rintro _ w' ⟨rfl, rfl⟩
            go_wp2
            go_ret
            exact ⟨rfl, hB⟩
        · go_wp2_with fail
          refine (lfind_at a2 46 (by omega) g1 _).mono ?_
          rintro _ w' ⟨rfl, rfl⟩
          go_wp2
          go_ret
          exact ⟨rfl, hB⟩
    · have t1 : ¬ (n0 : Int) < (n1 : Int) := by omega
      have t2 : (n1 : Int) < (n0 : Int) := by omega
      have K1 := Lib.hid (show scmp (⟨#[118, 49, 46, 48, 46, 48, 45]⟩ ++ A : ByteArray).data.toList (⟨#[118, 49, 46, 48, 46, 48, 45]⟩ ++ B : ByteArray).data.toList = 1 by rw [app, app, HA.out, HB.out]; exact (d1 j0 j1).trans (icmp_2 t1 t2))
      have K2 := Lib.hid (show scmp (⟨#[118, 49, 46, 48, 46, 48, 45]⟩ ++ A : ByteArray).data.toList (⟨#[118, 49, 46, 48, 46, 48, 45]⟩ ++ A ++ ⟨#[46, 48]⟩ : ByteArray).data.toList = -1 by rw [app, app, app, HA.out, List.append_assoc]; exact d2 j0)
      have K3 := Lib.hid (show scmp (⟨#[118, 49, 46, 48, 46, 48, 45]⟩ ++ A : ByteArray).data.toList (⟨#[118, 49, 46, 48, 46, 48, 45]⟩ ++ A ++ ⟨#[45]⟩ : ByteArray).data.toList = -1 by rw [app, app, app, HA.out, List.append_assoc]; exact d3 j0)
      have e7 : (⟨#[118, 49, 46, 48, 46, 48, 45]⟩ : ByteArray).size = 7 := rfl
      have e2 : (⟨#[46, 48]⟩ : ByteArray).size = 2 := rfl
      have e1 : (⟨#[45]⟩ : ByteArray).size = 1 := rfl
      have e3 : (⟨#[122]⟩ : ByteArray).size = 1 := rfl
      have s1 : (⟨#[118, 49, 46, 48, 46, 48, 45]⟩ ++ A : ByteArray).size ≤ 1024 := by rw [ByteArray.size_append]; omega
      have s2 : (⟨#[118, 49, 46, 48, 46, 48, 45]⟩ ++ B : ByteArray).size ≤ 1024 := by rw [ByteArray.size_append]; omega
      have s3 : (⟨#[118, 49, 46, 48, 46, 48, 45]⟩ ++ A ++ ⟨#[46, 48]⟩ : ByteArray).size ≤ 1024 := by rw [ByteArray.size_append, ByteArray.size_append]; omega
      have s4 : (⟨#[118, 49, 46, 48, 46, 48, 45]⟩ ++ A ++ ⟨#[45]⟩ : ByteArray).size ≤ 1024 := by rw [ByteArray.size_append, ByteArray.size_append]; omega
      have s5 : (⟨#[118, 49, 46, 48, 46, 48, 45]⟩ ++ a2 ++ ⟨#[122]⟩ : ByteArray).size ≤ 1024 := by rw [ByteArray.size_append, ByteArray.size_append]; omega
      have S1 := Lib.hid s1
      have S2 := Lib.hid s2
      have S3 := Lib.hid s3
      have S4 := Lib.hid s4
      have S5 := Lib.hid s5
      clear s1 s2 s3 s4 s5 e7 e2 e1 e3
      have HT := Lib.hid (show (⟨#[118, 49, 46, 48, 46, 48, 45]⟩ ++ a2 ++ ⟨#[122]⟩ : ByteArray).data.toList = vp (a2.data.toList ++ [122]) by rw [app, app, List.append_assoc]; rfl)
      go_wp2_with fail
      refine (compare_at _ _ S1.out S2.out K1.out _).mono ?_
      rintro _ w' ⟨rfl, hb'⟩
      replace hB := hB.trans (hb'.mono hB.size)
      clear hb'
      go_wp2_with fail
      refine (compare_at _ _ S1.out S3.out K2.out _).mono ?_
      rintro _ w' ⟨rfl, hb'⟩
      replace hB := hB.trans (hb'.mono hB.size)
      clear hb'
      go_wp2_with fail
      refine (compare_at _ _ S1.out S4.out K3.out _).mono ?_
      rintro _ w' ⟨rfl, hb'⟩
      replace hB := hB.trans (hb'.mono hB.size)
      clear hb'
      go_wp2_with fail
      refine (parse_any _ (by have := S5.out; omega) _).mono ?_
      rintro _ w' ⟨rfl, hb'⟩
      replace hB := hB.trans (hb'.mono hB.size)
      clear hb'
      unfold retP verV
      obtain ⟨vv, hvv⟩ : ∃ v, v = verL (⟨#[118, 49, 46, 48, 46, 48, 45]⟩ ++ a2 ++ ⟨#[122]⟩ : ByteArray).data.toList := ⟨_, rfl⟩
      rw [← hvv]
      have HVV := Lib.hid hvv
      clear hvv
      obtain ⟨er, her⟩ : ∃ v, v = errL (⟨#[118, 49, 46, 48, 46, 48, 45]⟩ ++ a2 ++ ⟨#[122]⟩ : ByteArray).data.toList := ⟨_, rfl⟩
      rw [← her]
      have HER := Lib.hid her
      clear her
      have hB2 := hB.alloc hB.size (.cells #[.int .i64 vv.ma, .int .i64 vv.mi, .int .i64 vv.pa, .string vv.pre, .string vv.mta] 23)
      clear hB
      go_wp2_with fail
      refine (rparse_any _ (by have := S5.out; omega) _).mono ?_
      rintro _ w2 ⟨rfl, hb'⟩
      have hB := hB2.trans (hb'.mono hB2.size)
      clear hb' hB2
      unfold retP verV
      rw [← HVV.out, ← HER.out]
      replace hB := hB.alloc hB.size (.cells #[.int .i64 vv.ma, .int .i64 vv.mi, .int .i64 vv.pa, .string vv.pre, .string vv.mta] 27)
      cases e : okV (⟨#[118, 49, 46, 48, 46, 48, 45]⟩ ++ a2 ++ ⟨#[122]⟩ : ByteArray).data.toList
      · obtain rfl : er = 30 := by rw [HER.out]; exact err_no e
        clear e
        go_wp2
        go_ret
        exact ⟨rfl, hB⟩
      · obtain rfl : er = 0 := by rw [HER.out]; exact err_yes e
        have HOK := Lib.hid e
        clear e
        cases g1 : hasL 46 a2.data.toList
        · cases g2 : hasL 43 a2.data.toList
          · have K4 := Lib.hid (show scmp (⟨#[118, 49, 46, 48, 46, 48, 45]⟩ ++ A : ByteArray).data.toList (⟨#[118, 49, 46, 48, 46, 48, 45]⟩ ++ a2 ++ ⟨#[122]⟩ : ByteArray).data.toList = -1 by have hok := HOK.out; rw [HT.out] at hok ⊢; rw [app, HA.out]; exact d4 j0 hok g1 g2)
            go_wp2_with fail
            refine (lfind_at a2 46 (by omega) g1 _).mono ?_
            rintro _ w' ⟨rfl, rfl⟩
            go_wp2_with fail
            refine (lfind_at a2 43 (by omega) g2 _).mono ?_
            rintro _ w' ⟨rfl, rfl⟩
            go_wp2_with fail
            refine (compare_at _ _ S1.out S5.out K4.out _).mono ?_
            rintro _ w' ⟨rfl, hb'⟩
            replace hB := hB.trans (hb'.mono hB.size)
            clear hb'
            go_wp2
            go_ret
            exact ⟨rfl, hB⟩
          · go_wp2_with fail
            refine (lfind_at a2 46 (by omega) g1 _).mono ?_
            rintro _ w' ⟨rfl, rfl⟩
            go_wp2_with fail
            refine (lfind_at a2 43 (by omega) g2 _).mono ?_
            rintro _ w' ⟨rfl, rfl⟩
            go_wp2
            go_ret
            exact ⟨rfl, hB⟩
        · go_wp2_with fail
          refine (lfind_at a2 46 (by omega) g1 _).mono ?_
          rintro _ w' ⟨rfl, rfl⟩
          go_wp2
          go_ret
          exact ⟨rfl, hB⟩
  · go_enter Tryd.func10, Tryd.ntmps10
    go_wp2
    go_ret
    exact ⟨rfl, Below.refl _ _⟩

set_option maxRecDepth 100000 in
theorem lifted (os : Os) (started : os.Started) (H : Type) (enc : TypeId × Value → H) :
    ReturnsInHanded {} Tryd.checked os 10 .any (fun w args => (Rows.semverPreSpec.pre enc Tryd.prog Tryd.f10 Rows.semverPreRow.domain false w args ∧ laidMetH Tryd.prog laid0 w) ∧ sizedMet enc Tryd.prog Tryd.f10 (OpenSpec.ofChange Rows.semverPreSpec) false w args)
      (Rows.semverPreSpec.post enc Tryd.prog Tryd.f10 false true false false) := by
  refine returnsInHanded_of_change_and (C := Tryd.checked) (X := fun w _ => laidMetH Tryd.prog laid0 w) (fun _ _ _ hh h => h.of_heap hh) own started (by kernel_rfl) Tryd.func10
    (ChangeSpec.witness_shaped (enc := enc) (C := Tryd.checked) (os := os) (X := fun w _ => laidMetH Tryd.prog laid0 w) false (World.doorLaid Tryd.prog 62 os) #[.int .u32 0, .int .u32 0, .string ByteArray.empty] 8 rfl (World.shaped_of_RefB (by kernel_rfl) (by kernel_rfl)) (by kernel_rfl) (by kernel_rfl) (by kernel_rfl) (door_met os _)) ?_
  intro W base args ds gs before hval0 hW _ _ hL _
  have hval : ∀ (j : Nat) t v, Tryd.f10.params[j]? = some t → args[j]? = some v → Value.okWide Tryd.prog W .any base t v := hval0
  have hW' := hW
  obtain ⟨p, q, hA0, hV, rfl, hfz, hnd⟩ := hW
  have hA : DataW.TrodAll enc Tryd.prog W 0 (fun _ => true) true Tryd.f10.params.toList args.toList ds p := hA0
  rw [Tryd.params10] at hA hval
  obtain ⟨v0, vs0, d0, ds0, p0, q0, hargs, rfl, rfl, h0, r0⟩ := trodAll_cons hA
  obtain ⟨v1, vs1, d1, ds1, p1, q1, rfl, rfl, rfl, h1, r1⟩ := trodAll_cons r0
  obtain ⟨v2, vs2, d2, ds2, p2, q2, rfl, rfl, rfl, h2, r2⟩ := trodAll_cons r1
  obtain ⟨rfl, rfl, rfl⟩ := trodAll_nil r2
  obtain rfl : args = #[v0, v1, v2] := by cases args; simp_all
  obtain ⟨rfl, rfl⟩ := trodVars_none hV
  obtain ⟨a0, rfl, rfl, rfl, w0⟩ := open_int Tryd.underlying51 (hval 0 51 v0 rfl rfl) h0
  obtain ⟨a1, rfl, rfl, rfl, w1⟩ := open_int Tryd.underlying51 (hval 1 51 v1 rfl rfl) h1
  obtain ⟨a2, rfl, rfl, rfl, w2⟩ := open_string Tryd.underlying9 (hval 2 9 v2 rfl rfl) h2
  clear hA0 hval0
  simp only [List.append_nil] at hW'
  refine (walk W a0 w0 a1 w1 a2 w2).mono fun e W' ⟨he, bel⟩ => ?_
  subst he
  exact ⟨_, rfl, _, _, _, [], [], [], hW', trodAll_mk1 (shut_bool Tryd.underlying4 _), (trodAll_cons_mk (shut_int Tryd.underlying51 w0) (trodAll_cons_mk (shut_int Tryd.underlying51 w1) (trodAll_cons_mk (shut_string Tryd.underlying9 w2) trodAll_mk0))), rfl, bel.frame _, fun h => by cases h⟩

theorem over : Rows.semverPreRow.holds Tryd.pinned (OpenSpec.ofChange Rows.semverPreSpec) :=
  OpenClaim.holds_of_wide 10 Tryd.f10 rfl rfl rfl rfl rfl rfl rfl ⟨rfl, rfl, rfl, rfl, rfl⟩ rfl rfl rfl rfl rfl (by kernel_rfl) Tryd.func10 (by kernel_rfl)
    (of_decide_eq_true (by kernel_rfl)) (by unfold Func.isWrapper; first | (rw [if_pos (by decide +kernel)]; kernel_rfl) | (rw [if_neg (by decide +kernel)]; exact ⟨rfl, rfl⟩))
    (fun os started H enc _ => lifted os started H enc)

theorem proved : Rows.SemverPreCardSaid :=
  Claim7.holds_tied_plain_at .later [] [.data, .data, .data, .sentinel, .sentinel] true (true, "cad1ac15bbe0d173cc4ad633fce6cf0f3dc5bbd550a450317c015fae4feb8bb4") true
    over (fun _ h => by cases h) (by kernel_rfl) (fun _ h => by cases h) semverPre_row_tie rfl ⟨rfl, rfl⟩ (by kernel_rfl) rfl
    (fun f fn hf hfn => by
      obtain rfl : f = 10 := Option.some.inj ((show Tryd.prog.funcNamed "graftbed/graftbedlaw03.SemverPre" = some 10 by kernel_rfl).symm.trans hf) |>.symm
      obtain rfl : fn = Tryd.f10 := (Option.some.inj (Tryd.func10.symm.trans hfn)).symm
      exact ⟨by kernel_rfl, fun j t ht => by
        rw [Tryd.params10] at ht
        have hm : t ∈ [51, 51, 9] := by simpa using Array.mem_of_getElem? ht
        have hall : ([51, 51, 9].all fun u => !Tryd.prog.wantsStandIn u) = true := by kernel_rfl
        exact (show Tryd.prog.wantsStandIn t = false by simpa using List.all_eq_true.1 hall t hm)⟩)
    (by kernel_rfl)
#print axioms proved
end Go.Proofs.YtoljpmelfebjoaaDoor.semverPre
