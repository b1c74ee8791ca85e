/-
  Plain facts, of no program: the order of versions: comparisons out of comparisons, one way round and the other, and of three it goes on.
-/
import Derived.Test.YtmdlmjcejeejfaaGreatDoorS0
set_option linter.unusedVariables false
namespace Go.Proofs.YtmdlmjcejeejfaaGreatDoor

structure Cmp {α : Type} (f : α → α → Int) : Prop where
  range : ∀ a b, f a b = -1 ∨ f a b = 0 ∨ f a b = 1
  neg : ∀ a b, f b a = - f a b
  trans : ∀ a b c, f a b ≤ 0 → f b c ≤ 0 → f a c ≤ 0 ∧ (f a c = 0 → f a b = 0 ∧ f b c = 0)
theorem Cmp.self {α : Type} {f : α → α → Int} (h : Cmp f) (a : α) : f a a = 0 := by have := h.neg a a; omega
def orI (x y : Int) : Int := if x = 0 then y else x
theorem Cmp.or {α : Type} {f g : α → α → Int} (h : Cmp f) (k : Cmp g) : Cmp (fun a b => orI (f a b) (g a b)) where
  range a b := by
    unfold orI; split
    · exact k.range a b
    · exact h.range a b
  neg a b := by
    have h1 := h.neg a b
    have k1 := k.neg a b
    unfold orI
    by_cases e : f a b = 0
    · rw [if_pos e, if_pos (by omega)]; exact k1
    · rw [if_neg e, if_neg (by omega)]; exact h1
  trans a b c := by
    intro h1 h2
    have hab := h.range a b
    have hbc := h.range b c
    have h1' : f a b ≤ 0 := by
      unfold orI at h1; split at h1 <;> omega
    have h2' : f b c ≤ 0 := by
      unfold orI at h2; split at h2 <;> omega
    obtain ⟨t1, t2⟩ := h.trans a b c h1' h2'
    by_cases e : f a c = 0
    · obtain ⟨e1, e2⟩ := t2 e
      simp only [orI, e, e1, e2, if_true] at h1 h2 ⊢
      exact k.trans a b c h1 h2
    · simp only [orI, if_neg e]
      exact ⟨t1, fun x => absurd x e⟩
theorem Cmp.on {α β : Type} {f : α → α → Int} (h : Cmp f) (m : β → α) : Cmp (fun a b => f (m a) (m b)) where
  range a b := h.range _ _
  neg a b := h.neg _ _
  trans a b c := h.trans _ _ _
def icmp (a b : Int) : Int := if a < b then -1 else if b < a then 1 else 0
theorem icmp_cmp : Cmp icmp where
  range a b := by unfold icmp; split <;> (try split) <;> omega
  neg a b := by unfold icmp; split <;> (try split) <;> (try split) <;> omega
  trans a b c := by
    unfold icmp
    intro h1 h2
    by_cases x : a < b <;> by_cases y : b < c <;> by_cases z : a < c <;> simp only [x, y, z, if_true, if_false] at h1 h2 ⊢ <;> (try split at h1) <;> (try split at h2) <;> (try split) <;> omega
theorem icmp_zero {a b : Int} : icmp a b = 0 ↔ a = b := by
  unfold icmp; split <;> (try split) <;> constructor <;> intro h <;> omega
theorem bless_iff : ∀ x y : List UInt8, Op.bytesLess x y = true ↔ x < y
  | [], [] => by simp [Op.bytesLess]
  | _ :: _, [] => by simp [Op.bytesLess]
  | [], _ :: _ => by simp [Op.bytesLess]
  | a :: x, b :: y => by
    have ih := bless_iff x y
    rw [Op.bytesLess, List.cons_lt_cons_iff]
    by_cases h1 : a < b
    · simp [h1]
    · by_cases h2 : a = b
      · subst h2; simp [ih]
      · simp [h1, h2]
def tcmp (a b : List UInt8) : Int := if Op.bytesLess a b = true then -1 else if a = b then 0 else 1
theorem blt_or {x y : List UInt8} (h : x ≠ y) : x < y ∨ y < x := by
  by_cases h1 : x < y
  · exact .inl h1
  · by_cases h2 : y < x
    · exact .inr h2
    · exact absurd (List.le_antisymm (List.not_lt.1 h2) (List.not_lt.1 h1)) h
theorem tcmp_lt {a b : List UInt8} : tcmp a b = -1 ↔ a < b := by
  unfold tcmp
  by_cases h : Op.bytesLess a b = true
  · rw [if_pos h]; exact ⟨fun _ => (bless_iff _ _).1 h, fun _ => rfl⟩
  · rw [if_neg h]
    refine ⟨fun e => ?_, fun e => absurd ((bless_iff _ _).2 e) h⟩
    split at e <;> cases e
theorem tcmp_zero {a b : List UInt8} : tcmp a b = 0 ↔ a = b := by
  unfold tcmp
  by_cases h : Op.bytesLess a b = true
  · rw [if_pos h]
    refine ⟨(fun e => by cases e), fun e => ?_⟩
    subst e
    exact absurd ((bless_iff _ _).1 h) (List.lt_irrefl _)
  · rw [if_neg h]
    by_cases e : a = b
    · simp [e]
    · simp [e]
theorem tcmp_range (a b : List UInt8) : tcmp a b = -1 ∨ tcmp a b = 0 ∨ tcmp a b = 1 := by
  unfold tcmp
  split
  · exact .inl rfl
  · split
    · exact .inr (.inl rfl)
    · exact .inr (.inr rfl)
theorem tcmp_gt {a b : List UInt8} : tcmp a b = 1 ↔ b < a := by
  rcases tcmp_range a b with h | h | h
  · rw [h]
    refine ⟨(fun e => by cases e), fun e => ?_⟩
    exact absurd (List.lt_trans (tcmp_lt.1 h) e) (List.lt_irrefl _)
  · rw [h]
    refine ⟨(fun e => by cases e), fun e => ?_⟩
    rw [tcmp_zero.1 h] at e
    exact absurd e (List.lt_irrefl _)
  · rw [h]
    refine ⟨fun _ => ?_, fun _ => rfl⟩
    rcases blt_or (x := a) (y := b) (fun e => by rw [tcmp_zero.2 e] at h; cases h) with h' | h'
    · rw [tcmp_lt.2 h'] at h; cases h
    · exact h'
theorem tcmp_cmp : Cmp tcmp where
  range := tcmp_range
  neg a b := by
    rcases tcmp_range a b with h | h | h
    · rw [h, tcmp_gt.2 (tcmp_lt.1 h)]; rfl
    · rw [h, tcmp_zero.2 (tcmp_zero.1 h).symm]; rfl
    · rw [h, tcmp_lt.2 (tcmp_gt.1 h)]
  trans a b c := by
    intro h1 h2
    rcases tcmp_range a b with h | h | h
    · rcases tcmp_range b c with k | k | k
      · have := tcmp_lt.2 (List.lt_trans (tcmp_lt.1 h) (tcmp_lt.1 k))
        exact ⟨by omega, fun e => by omega⟩
      · have := tcmp_zero.1 k
        subst this
        exact ⟨h1, fun e => by omega⟩
      · omega
    · have := tcmp_zero.1 h
      subst this
      exact ⟨h2, fun e => ⟨h, e⟩⟩
    · omega

def lcmp {α : Type} (f : α → α → Int) : List α → List α → Int
  | [], [] => 0
  | [], _ :: _ => -1
  | _ :: _, [] => 1
  | x :: xs, y :: ys => if f x y = 0 then lcmp f xs ys else f x y
theorem lcmp_range {α : Type} {f : α → α → Int} (h : Cmp f) : ∀ a b, lcmp f a b = -1 ∨ lcmp f a b = 0 ∨ lcmp f a b = 1
  | [], [] => by simp [lcmp]
  | [], _ :: _ => by simp [lcmp]
  | _ :: _, [] => by simp [lcmp]
  | x :: xs, y :: ys => by
    unfold lcmp; split
    · exact lcmp_range h xs ys
    · exact h.range x y
theorem lcmp_neg {α : Type} {f : α → α → Int} (h : Cmp f) : ∀ a b, lcmp f b a = - lcmp f a b
  | [], [] => rfl
  | [], _ :: _ => rfl
  | _ :: _, [] => rfl
  | x :: xs, y :: ys => by
    have := h.neg x y
    unfold lcmp
    by_cases e : f x y = 0
    · rw [if_pos e, if_pos (by omega)]; exact lcmp_neg h xs ys
    · rw [if_neg e, if_neg (by omega)]; exact this
theorem lcmp_trans {α : Type} {f : α → α → Int} (h : Cmp f) : ∀ a b c, lcmp f a b ≤ 0 → lcmp f b c ≤ 0 → lcmp f a c ≤ 0 ∧ (lcmp f a c = 0 → lcmp f a b = 0 ∧ lcmp f b c = 0)
  | [], [], [], _, _ => by simp [lcmp]
  | [], [], _ :: _, _, _ => by simp [lcmp]
  | [], _ :: _, [], _, h2 => by simp [lcmp] at h2
  | [], _ :: _, _ :: _, _, _ => by simp [lcmp]
  | _ :: _, [], _, h1, _ => by simp [lcmp] at h1
  | _ :: _, _ :: _, [], _, h2 => by simp [lcmp] at h2
  | x :: xs, y :: ys, z :: zs, h1, h2 => by
    have hab := h.range x y
    have hbc := h.range y z
    have h1' : f x y ≤ 0 := by
      unfold lcmp at h1; split at h1 <;> omega
    have h2' : f y z ≤ 0 := by
      unfold lcmp at h2; split at h2 <;> omega
    obtain ⟨t1, t2⟩ := h.trans x y z h1' h2'
    by_cases e : f x z = 0
    · obtain ⟨e1, e2⟩ := t2 e
      simp only [lcmp, e, e1, e2, if_true] at h1 h2 ⊢
      exact lcmp_trans h xs ys zs h1 h2
    · simp only [lcmp, if_neg e]
      exact ⟨t1, fun q => absurd q e⟩
theorem lcmp_cmp {α : Type} {f : α → α → Int} (h : Cmp f) : Cmp (lcmp f) := ⟨lcmp_range h, lcmp_neg h, lcmp_trans h⟩
theorem lcmp_zero {α : Type} {f : α → α → Int} (hz : ∀ a b, f a b = 0 → a = b) : ∀ a b, lcmp f a b = 0 → a = b
  | [], [], _ => rfl
  | [], _ :: _, h => by simp [lcmp] at h
  | _ :: _, [], h => by simp [lcmp] at h
  | x :: xs, y :: ys, h => by
    unfold lcmp at h
    split at h
    · rename_i e; rw [hz _ _ e, lcmp_zero hz xs ys h]
    · contradiction

def clsI (a : List UInt8) : Int := if digs a then 0 else 1
def wtI (a : List UInt8) : Int := if digs a then a.length else 0
/-- The order of identifiers: of digits alone by their value, these ahead of others, others as texts. -/
def idcmp (a b : List UInt8) : Int := orI (icmp (clsI a) (clsI b)) (orI (icmp (wtI a) (wtI b)) (tcmp a b))
theorem idcmp_cmp : Cmp idcmp := (icmp_cmp.on clsI).or ((icmp_cmp.on wtI).or tcmp_cmp)
theorem orI_zero {x y : Int} : orI x y = 0 ↔ x = 0 ∧ y = 0 := by
  unfold orI
  by_cases h : x = 0
  · rw [if_pos h]; exact ⟨fun e => ⟨h, e⟩, fun e => e.2⟩
  · rw [if_neg h]; exact ⟨fun e => absurd e h, fun e => e.1⟩
theorem idcmp_zero (a b : List UInt8) (h : idcmp a b = 0) : a = b := tcmp_zero.1 (orI_zero.1 (orI_zero.1 h).2).2
theorem idcmp_both {a b : List UInt8} (ha : digs a = true) (hb : digs b = true) : idcmp a b = orI (icmp a.length b.length) (tcmp a b) := by
  simp [idcmp, clsI, wtI, ha, hb, icmp, orI]
theorem idcmp_left {a b : List UInt8} (ha : digs a = true) (hb : digs b = false) : idcmp a b = -1 := by
  simp [idcmp, clsI, ha, hb, icmp, orI]
theorem idcmp_right {a b : List UInt8} (ha : digs a = false) (hb : digs b = true) : idcmp a b = 1 := by
  simp [idcmp, clsI, ha, hb, icmp, orI]
theorem idcmp_none {a b : List UInt8} (ha : digs a = false) (hb : digs b = false) : idcmp a b = tcmp a b := by
  simp [idcmp, clsI, wtI, ha, hb, icmp, orI]

def lastI (a : List UInt8) : Int := if a = [] then 1 else 0
def pcmp (a b : List UInt8) : Int := orI (icmp (lastI a) (lastI b)) (lcmp idcmp (sp 46 a) (sp 46 b))
theorem pcmp_cmp : Cmp pcmp := (icmp_cmp.on lastI).or ((lcmp_cmp idcmp_cmp).on (sp 46))
theorem pcmp_zero {a b : List UInt8} : pcmp a b = 0 ↔ a = b :=
  ⟨fun h => sp_inj (lcmp_zero idcmp_zero _ _ (orI_zero.1 h).2), fun h => by rw [h]; exact pcmp_cmp.self b⟩
theorem pcmp_left {a b : List UInt8} (ha : a = []) (hb : b ≠ []) : pcmp a b = 1 := by simp [pcmp, lastI, ha, hb, icmp, orI]
theorem pcmp_right {a b : List UInt8} (ha : a ≠ []) (hb : b = []) : pcmp a b = -1 := by simp [pcmp, lastI, ha, hb, icmp, orI]
theorem pcmp_both {a b : List UInt8} (ha : a ≠ []) (hb : b ≠ []) : pcmp a b = lcmp idcmp (sp 46 a) (sp 46 b) := by simp [pcmp, lastI, ha, hb, icmp, orI]

def vcmp (v w : Ver) : Int := orI (icmp v.ma w.ma) (orI (icmp v.mi w.mi) (orI (icmp v.pa w.pa) (pcmp v.pre.data.toList w.pre.data.toList)))
theorem vcmp_cmp : Cmp vcmp := (icmp_cmp.on Ver.ma).or ((icmp_cmp.on Ver.mi).or ((icmp_cmp.on Ver.pa).or (pcmp_cmp.on fun v : Ver => v.pre.data.toList)))
theorem data_inj {a b : ByteArray} (h : a.data.toList = b.data.toList) : a = b := by
  have := congrArg mkB h
  rwa [mkB_data, mkB_data] at this
theorem vcmp_zero {v w : Ver} : vcmp v w = 0 ↔ v.ma = w.ma ∧ v.mi = w.mi ∧ v.pa = w.pa ∧ v.pre = w.pre := by
  rw [vcmp, orI_zero, orI_zero, orI_zero, icmp_zero, icmp_zero, icmp_zero, pcmp_zero]
  exact ⟨fun ⟨a, b, c, d⟩ => ⟨a, b, c, data_inj d⟩, fun ⟨a, b, c, d⟩ => ⟨a, b, c, by rw [d]⟩⟩
def okI (l : List UInt8) : Int := if okV l then 1 else 0
def scmp (a b : List UInt8) : Int := orI (icmp (okI a) (okI b)) (vcmp (verL a) (verL b))
theorem scmp_cmp : Cmp scmp := (icmp_cmp.on okI).or (vcmp_cmp.on verL)
theorem scmp_both {a b : List UInt8} (ha : okV a = true) (hb : okV b = true) : scmp a b = vcmp (verL a) (verL b) := by simp [scmp, okI, ha, hb, icmp, orI]
theorem scmp_left {a b : List UInt8} (ha : okV a = false) (hb : okV b = true) : scmp a b = -1 := by simp [scmp, okI, ha, hb, icmp, orI]
theorem scmp_right {a b : List UInt8} (ha : okV a = true) (hb : okV b = false) : scmp a b = 1 := by simp [scmp, okI, ha, hb, icmp, orI]
theorem scmp_none {a b : List UInt8} (ha : okV a = false) (hb : okV b = false) : scmp a b = 0 := by
  have : verL a = verL b := by simp [verL, ha, hb]
  simp [scmp, okI, ha, hb, icmp, orI, this, vcmp_cmp.self]
def maxS (a b : ByteArray) : ByteArray := if scmp a.data.toList b.data.toList < 0 then b else a
end Go.Proofs.YtmdlmjcejeejfaaGreatDoor
