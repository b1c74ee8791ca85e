/-
  Plain facts, of no program: the canonical version; the digits of a number; versions that are made of numbers.
-/
import Derived.Test.YtmdlmjcejeejfaaGreatDoorS1
import Derived.Lib.ItoaNum
namespace Go.Proofs.YtmdlmjcejeejfaaGreatDoor

theorem headL_idem (d : UInt8) (l : List UInt8) : headL d (headL d l) = headL d l ∧ restL d (headL d l) = [] ∧ hasL d (headL d l) = false := headL_none (headL_free l)
/-- "incompatible" -/
def incL : List UInt8 := [105, 110, 99, 111, 109, 112, 97, 116, 105, 98, 108, 101]
def canonS (s : ByteArray) : ByteArray := if okV s.data.toList then (if metaOf s.data.toList = incL then s else mkB (headL 43 s.data.toList)) else ⟨#[]⟩
theorem okV_bare {l : List UInt8} (h : okV l = true) : okV (headL 43 l) = true := by
  obtain ⟨h1, h2, h3⟩ := headL_idem 43 l
  unfold okV at h ⊢
  simp only [coreOf, preOf, metaOf, h1, h2, h3, Bool.and_eq_true] at h ⊢
  refine ⟨⟨⟨?_, h.1.1.2⟩, h.1.2⟩, rfl⟩
  have := headL_len (d := 43) l
  have := h.1.1.1
  simp only [decide_eq_true_eq] at this ⊢
  omega
theorem ver_bare {l : List UInt8} (h : okV l = true) : verL (headL 43 l) = ⟨(verL l).ma, (verL l).mi, (verL l).pa, (verL l).pre, ⟨#[]⟩⟩ := by
  obtain ⟨h1, h2, h3⟩ := headL_idem 43 l
  simp only [verL, okV_bare h, h, if_true, coreOf, preOf, metaOf, h1, h2]; rfl
theorem okV_nil' : okV [] = false := by decide
theorem okV_ne {l : List UInt8} (h : okV l = true) : l ≠ [] := by rintro rfl; rw [okV_nil'] at h; cases h
theorem canon_1 {s : ByteArray} (h : okV s.data.toList = false) : canonS s = ⟨#[]⟩ := by simp [canonS, h]
theorem canon_2 {s : ByteArray} (h : okV s.data.toList = true) (k : metaOf s.data.toList = incL) : canonS s = s := by simp [canonS, h, k]
theorem canon_3 {s : ByteArray} (h : okV s.data.toList = true) (k : ¬ metaOf s.data.toList = incL) : canonS s = mkB (headL 43 s.data.toList) := by simp [canonS, h, k]
theorem canon_ok {s : ByteArray} (h : okV s.data.toList = true) : okV (canonS s).data.toList = true := by
  by_cases k : metaOf s.data.toList = incL
  · rw [canon_2 h k]; exact h
  · rw [canon_3 h k, data_mkB]; exact okV_bare h
theorem canon_idem (s : ByteArray) : canonS (canonS s) = canonS s := by
  cases h : okV s.data.toList
  · rw [canon_1 h]
    exact canon_1 (by decide)
  · by_cases k : metaOf s.data.toList = incL
    · rw [canon_2 h k, canon_2 h k]
    · rw [canon_3 h k]
      obtain ⟨h1, h2, h3⟩ := headL_idem 43 s.data.toList
      rw [canon_3 (by rw [data_mkB]; exact okV_bare h) (by rw [data_mkB, metaOf, h2]; decide), data_mkB, h1]
theorem canon_ver {s : ByteArray} (h : okV s.data.toList = true) : (verL (canonS s).data.toList).ma = (verL s.data.toList).ma ∧ (verL (canonS s).data.toList).mi = (verL s.data.toList).mi ∧ (verL (canonS s).data.toList).pa = (verL s.data.toList).pa ∧ (verL (canonS s).data.toList).pre = (verL s.data.toList).pre := by
  by_cases k : metaOf s.data.toList = incL
  · rw [canon_2 h k]; exact ⟨rfl, rfl, rfl, rfl⟩
  · rw [canon_3 h k, data_mkB, ver_bare h]; exact ⟨rfl, rfl, rfl, rfl⟩
theorem canon_cmp {s : ByteArray} (h : okV s.data.toList = true) : scmp s.data.toList (canonS s).data.toList = 0 := by
  rw [scmp_both h (canon_ok h), vcmp_zero]
  obtain ⟨a, b, c, d⟩ := canon_ver h
  exact ⟨a.symm, b.symm, c.symm, d.symm⟩
theorem canon_size (s : ByteArray) : (canonS s).size ≤ s.size := by
  unfold canonS
  split
  · split
    · exact Nat.le_refl _
    · rw [← size_data, ← size_data, data_mkB]; exact headL_len _
  · exact Nat.zero_le _

/-! ### Digits -/
theorem byte_nat {k : Nat} (h : k < 10) : (UInt8.ofNat (48 + k)).toNat = 48 + k := by
  rw [UInt8.toNat_ofNat']; omega
theorem byte_dig {k : Nat} (h : k < 10) : dig (UInt8.ofNat (48 + k)) = true := by
  unfold dig; rw [byte_nat h, decide_eq_true (by omega), decide_eq_true (by omega)]; rfl
theorem numV_one (c : UInt8) : numV [c] = c.toNat - 48 := by simp [numV]
theorem all_one (c : UInt8) : [c].all dig = dig c := by simp
theorem dec_small {n : Nat} (h : n < 10) : Lib.decDigits n = [UInt8.ofNat (48 + n)] := by rw [Lib.decDigits, dif_pos h]
theorem dec_big {n : Nat} (h : ¬ n < 10) : Lib.decDigits n = Lib.decDigits (n / 10) ++ [UInt8.ofNat (48 + n % 10)] := by rw [Lib.decDigits, dif_neg h]
theorem numV_more (l : List UInt8) (c : UInt8) : numV (l ++ [c]) = 10 * numV l + (c.toNat - 48) := by simp [numV]
theorem dec_facts (n : Nat) : numV (Lib.decDigits n) = n ∧ (Lib.decDigits n).all dig = true ∧ Lib.decDigits n ≠ [] ∧ (1 ≤ n → (Lib.decDigits n).head? ≠ some 48) := by
  induction n using Nat.strongRecOn with
  | _ n ih =>
    by_cases h : n < 10
    · rw [dec_small h]
      refine ⟨by rw [numV_one, byte_nat h]; omega, by rw [all_one, byte_dig h], by simp, fun h1 e => ?_⟩
      have : UInt8.ofNat (48 + n) = 48 := by rw [List.head?_cons] at e; exact Option.some.inj e
      have := congrArg UInt8.toNat this
      rw [byte_nat h] at this
      have e48 : (48 : UInt8).toNat = 48 := rfl
      omega
    · rw [dec_big h]
      obtain ⟨a, b, c, d⟩ := ih (n / 10) (by omega)
      have hm : n % 10 < 10 := Nat.mod_lt _ (by decide)
      refine ⟨by rw [numV_more, a, byte_nat hm]; omega, by rw [List.all_append, b, all_one, byte_dig hm]; rfl, by simp, fun _ => ?_⟩
      rw [List.head?_append]
      cases hh : (Lib.decDigits (n / 10)).head? with
      | none => exact absurd (List.head?_eq_none_iff.1 hh) c
      | some x => rw [← hh]; simpa [hh] using d (by omega)
theorem numV_dec (n : Nat) : numV (Lib.decDigits n) = n := (dec_facts n).1
theorem digs_dec (n : Nat) : digs (Lib.decDigits n) = true := by
  obtain ⟨_, b, c, _⟩ := dec_facts n
  unfold digs allL
  rw [b]
  cases h : Lib.decDigits n with
  | nil => exact absurd h c
  | cons x r => rfl
theorem nought_dec (n : Nat) : nought (Lib.decDigits n) = false := by
  unfold nought
  by_cases h : n < 10
  · rw [dec_small h]; simp
  · have := (dec_facts n).2.2.2 (by omega)
    rw [Bool.and_eq_false_iff]
    exact .inr (by simpa using this)
theorem len_dec : ∀ (k n : Nat), n < 10 ^ (k + 1) → (Lib.decDigits n).length ≤ k + 1
  | 0, n, h => by rw [dec_small (by simpa using h)]; simp
  | k + 1, n, h => by
    by_cases h1 : n < 10
    · rw [dec_small h1]; simp
    · rw [dec_big h1]
      have := len_dec k (n / 10) (by rw [Nat.pow_succ] at h; omega)
      simp; omega
theorem numOk_dec {n : Nat} (h : n < 1000000000) : numOk (Lib.decDigits n) = true := by
  have := len_dec 8 n (by simpa using h)
  unfold numOk
  rw [digs_dec, nought_dec, decide_eq_true this]; rfl
theorem dig_nam {c : UInt8} (h : dig c = true) : nam c = true := by simp [nam, h]
theorem idn_dec (n : Nat) : idn (Lib.decDigits n) = true := by
  have := digs_dec n
  unfold digs allL at this
  unfold idn allL
  rw [Bool.and_eq_true] at this ⊢
  exact ⟨this.1, List.all_eq_true.2 fun x hx => dig_nam (List.all_eq_true.1 this.2 x hx)⟩
theorem preId_dec (n : Nat) : preId (Lib.decDigits n) = true := by
  rw [preId, idn_dec, digs_dec, nought_dec]; rfl
theorem dec_free (n : Nat) {d : UInt8} (hd : dig d = false) : ∀ c ∈ Lib.decDigits n, c ≠ d := by
  intro c hc e
  have := List.all_eq_true.1 (dec_facts n).2.1 c hc
  rw [e, hd] at this; cases this

theorem numV_pos : ∀ (l : List UInt8) (a : Nat), 1 ≤ a → 1 ≤ l.foldl (fun n c => 10 * n + (c.toNat - 48)) a
  | [], a, h => h
  | c :: r, a, h => numV_pos r _ (by show 1 ≤ 10 * a + (c.toNat - 48); omega)
theorem numV_ge {l : List UInt8} (hd : l.all dig = true) (hn : l ≠ []) (h0 : l.head? ≠ some 48) : 1 ≤ numV l := by
  cases l with
  | nil => exact absurd rfl hn
  | cons c r =>
    rw [List.all_cons, Bool.and_eq_true] at hd
    have hc : 48 ≤ c.toNat ∧ c.toNat ≤ 57 := by simpa [dig] using hd.1
    have h48 : c.toNat ≠ 48 := fun e => h0 (by rw [List.head?_cons]; congr 1; exact UInt8.toNat.inj e)
    exact numV_pos r _ (by show 1 ≤ 10 * 0 + (c.toNat - 48); omega)
/-- A number's digits, and no other ones, are its text. -/
theorem dec_num : ∀ (k : Nat) (l : List UInt8), l.length = k → l.all dig = true → l ≠ [] → nought l = false → Lib.decDigits (numV l) = l := by
  intro k
  induction k with
  | zero => intro l hl _ hn _; exact absurd (List.length_eq_zero_iff.1 hl) hn
  | succ k ih =>
    intro l hl hd hn h0
    obtain ⟨p, c, rfl⟩ : ∃ p c, l = p ++ [c] := ⟨l.dropLast, l.getLast hn, (List.dropLast_concat_getLast hn).symm⟩
    have hdc : dig c = true := List.all_eq_true.1 hd c (by simp)
    have hc : 48 ≤ c.toNat ∧ c.toNat ≤ 57 := by simpa [dig] using hdc
    have hdp : p.all dig = true := List.all_eq_true.2 fun x hx => List.all_eq_true.1 hd x (by simp [hx])
    have hb : UInt8.ofNat (48 + (c.toNat - 48)) = c := by
      apply UInt8.toNat.inj
      rw [byte_nat (by omega)]; omega
    by_cases hp : p = []
    · subst hp
      have : numV ([] ++ [c]) = c.toNat - 48 := by simp [numV]
      rw [this, dec_small (by omega), hb]; rfl
    · have hlen : 1 < (p ++ [c]).length := by
        have := List.length_pos_iff.2 hp
        simp; omega
      have hh : (p ++ [c]).head? ≠ some 48 := by
        unfold nought at h0
        rw [decide_eq_true hlen, Bool.true_and] at h0
        simpa using h0
      have hhp : p.head? ≠ some 48 := by
        cases p with
        | nil => exact absurd rfl hp
        | cons x r => simpa using hh
      have hpn : nought p = false := by
        unfold nought
        rw [Bool.and_eq_false_iff]
        exact .inr (by simpa using hhp)
      have hv := numV_ge hdp hp hhp
      rw [numV_more, dec_big (by omega), show (10 * numV p + (c.toNat - 48)) / 10 = numV p by omega, show (10 * numV p + (c.toNat - 48)) % 10 = c.toNat - 48 by omega, hb, ih p (by simpa using hl) hdp hp hpn]
theorem dec_ok {l : List UInt8} (h : numOk l = true) : Lib.decDigits (numV l) = l := by
  simp only [numOk, digs, allL, Bool.and_eq_true] at h
  exact dec_num _ l rfl h.1.2.2 (by intro e; rw [e] at h; simp at h) (by simpa using h.2)
theorem numV_lt {l : List UInt8} (h : numOk l = true) : numV l < 1000000000 := by
  simp only [numOk, digs, allL, Bool.and_eq_true, decide_eq_true_eq] at h
  have key : ∀ (k : Nat) (l : List UInt8), l.length = k → l.all dig = true → numV l < 10 ^ k := by
    intro k
    induction k with
    | zero => intro l hl _; rw [List.length_eq_zero_iff.1 hl]; decide
    | succ k ih =>
      intro l hl hd
      have hn : l ≠ [] := by rintro rfl; simp at hl
      obtain ⟨p, c, rfl⟩ : ∃ p c, l = p ++ [c] := ⟨l.dropLast, l.getLast hn, (List.dropLast_concat_getLast hn).symm⟩
      have hdc : dig c = true := List.all_eq_true.1 hd c (by simp)
      have hc : 48 ≤ c.toNat ∧ c.toNat ≤ 57 := by simpa [dig] using hdc
      have := ih p (by simpa using hl) (List.all_eq_true.2 fun x hx => List.all_eq_true.1 hd x (by simp [hx]))
      rw [numV_more, Nat.pow_succ]; omega
  have h1 := key _ l rfl h.1.2.2
  have h2 : 10 ^ l.length ≤ 10 ^ 9 := Nat.pow_le_pow_right (by decide) h.1.1
  omega

/-! ### Texts made of parts -/
theorem headL_app {d : UInt8} {p r : List UInt8} (h : ∀ c ∈ p, c ≠ d) : headL d (p ++ r) = p ++ headL d r ∧ restL d (p ++ r) = restL d r ∧ hasL d (p ++ r) = hasL d r := by
  induction p with
  | nil => exact ⟨rfl, rfl, rfl⟩
  | cons c p ih =>
    obtain ⟨a, b, e⟩ := ih fun x hx => h x (by simp [hx])
    have hc := h c (by simp)
    simp [headL, restL, hasL, hc, a, b, e]
/-- v, three numbers, and what follows. -/
def verT (a b c : Nat) (t : List UInt8) : List UInt8 := 118 :: (Lib.decDigits a ++ 46 :: (Lib.decDigits b ++ 46 :: (Lib.decDigits c ++ t)))
def coreT (a b c : Nat) : List UInt8 := 118 :: (Lib.decDigits a ++ 46 :: (Lib.decDigits b ++ 46 :: Lib.decDigits c))
theorem verT_eq (a b c : Nat) (t : List UInt8) : verT a b c t = coreT a b c ++ t := by simp [verT, coreT]
theorem coreT_free (a b c : Nat) {d : UInt8} (hd : dig d = false) (h1 : d ≠ 118) (h2 : d ≠ 46) : ∀ x ∈ coreT a b c, x ≠ d := by
  intro x hx e
  simp only [coreT, List.mem_cons, List.mem_append] at hx
  rcases hx with h | h | h | h | h | h
  · exact h1 (e ▸ h)
  · exact dec_free a hd x h e
  · exact h2 (e ▸ h)
  · exact dec_free b hd x h e
  · exact h2 (e ▸ h)
  · exact dec_free c hd x h e
theorem nums_core (a b c : Nat) : numsIn (coreT a b c) = [Lib.decDigits a, Lib.decDigits b, Lib.decDigits c] := by
  simp only [coreT, numsIn, if_true]
  rw [sp_at (dec_free a (by decide)), sp_at (dec_free b (by decide)), sp_none (dec_free c (by decide))]
theorem head_T (a b c : Nat) (t : List UInt8) : headL 43 (verT a b c t) = coreT a b c ++ headL 43 t ∧ restL 43 (verT a b c t) = restL 43 t ∧ hasL 43 (verT a b c t) = hasL 43 t := by
  rw [verT_eq]; exact headL_app (coreT_free a b c (by decide) (by decide) (by decide))
/-- Nothing behind: three numbers alone. -/
theorem ver_plain {a b c : Nat} (ha : a < 1000000000) (hb : b < 1000000000) (hc : c < 1000000000) (t : List UInt8) (ht : headL 43 t = []) (hm : hasL 43 t = false ∨ (sp 46 (restL 43 t)).all idn = true) (hl : (verT a b c t).length ≤ 60) :
    okV (verT a b c t) = true ∧ verL (verT a b c t) = ⟨a, b, c, ⟨#[]⟩, mkB (restL 43 t)⟩ := by
  obtain ⟨h1, h2, h3⟩ := head_T a b c t
  rw [ht, List.append_nil] at h1
  obtain ⟨k1, k2, k3⟩ := headL_none (coreT_free a b c (d := 45) (by decide) (by decide) (by decide))
  have hco : coreOf (verT a b c t) = coreT a b c := by rw [coreOf, h1, k1]
  have hok : okV (verT a b c t) = true := by
    unfold okV numsOk
    rw [hco, nums_core, preOf, metaOf, h1, h2, h3, k2, k3, decide_eq_true hl]
    simp only [List.length_cons, List.length_nil, List.all_cons, numOk_dec ha, numOk_dec hb, numOk_dec hc]
    rcases hm with h | h <;> simp [h]
  refine ⟨hok, ?_⟩
  simp only [verL, hok, if_true, hco, nth, nums_core, preOf, metaOf, h1, h2, k2]
  simp [numV_dec]; rfl
/-- Something ahead: '-' and more. -/
theorem ver_pre {a b c : Nat} (ha : a < 1000000000) (hb : b < 1000000000) (hc : c < 1000000000) (p : List UInt8) :
    okV (verT a b c (45 :: p)) = (decide ((verT a b c (45 :: p)).length ≤ 60) && (sp 46 (headL 43 p)).all preId && (!hasL 43 p || (sp 46 (restL 43 p)).all idn)) ∧
    (okV (verT a b c (45 :: p)) = true → verL (verT a b c (45 :: p)) = ⟨a, b, c, mkB (headL 43 p), mkB (restL 43 p)⟩) := by
  obtain ⟨h1, h2, h3⟩ := head_T a b c (45 :: p)
  have e1 : headL 43 (45 :: p) = 45 :: headL 43 p := by simp [headL]
  have e2 : restL 43 (45 :: p) = restL 43 p := by simp [restL]
  have e3 : hasL 43 (45 :: p) = hasL 43 p := by simp [hasL]
  rw [e1] at h1
  rw [e2] at h2
  rw [e3] at h3
  obtain ⟨k1, k2, k3⟩ := headL_at (d := 45) (r := headL 43 p) (coreT_free a b c (d := 45) (by decide) (by decide) (by decide))
  have hco : coreOf (verT a b c (45 :: p)) = coreT a b c := by rw [coreOf, h1, k1]
  refine ⟨?_, fun hok => ?_⟩
  · unfold okV numsOk
    rw [hco, nums_core, preOf, metaOf, h1, h2, h3, k2, k3]
    simp only [List.length_cons, List.length_nil, List.all_cons, numOk_dec ha, numOk_dec hb, numOk_dec hc]
    simp
  · simp only [verL, hok, if_true, hco, nth, nums_core, preOf, metaOf, h1, h2, k2]
    simp [numV_dec]
theorem pre_ne {p : List UInt8} (h : (sp 46 p).all preId = true) : p ≠ [] := by
  rintro rfl
  exact absurd h (by decide)
end Go.Proofs.YtmdlmjcejeejfaaGreatDoor
