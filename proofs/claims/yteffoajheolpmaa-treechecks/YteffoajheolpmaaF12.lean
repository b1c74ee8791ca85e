/-
  Lists of texts that the call makes itself; whether a text is in one; whether two are the same.
-/
import Derived.Test.YteffoajheolpmaaT2
namespace Go.Proofs.Yteffoajheolpmaa
open Go.RowKit Go.Shelf

def SOwn (w : World) (base : Nat) (v : Value) (xs : List ByteArray) : Prop := w.ownsRow base 9 1 v xs.length (xs.map Value.string)
theorem SOwn.form {w : World} {base : Nat} {v : Value} {xs : List ByteArray} (h : SOwn w base v xs) : ∃ A c, v = .slice A xs.length c := by
  obtain ⟨_, ⟨rfl, h0⟩ | ⟨g, cap, cur, rfl, _⟩⟩ := h
  · exact ⟨none, 0, by rw [h0]⟩
  · exact ⟨_, _, rfl⟩
theorem SOwn.below {w w' : World} {base : Nat} {v : Value} {xs : List ByteArray} (h : SOwn w base v xs) (hb : Below w.heap.size w w') : SOwn w' base v xs := by
  obtain ⟨hl, ⟨rfl, h0⟩ | ⟨g, cap, cur, rfl, hg, hh, hr⟩⟩ := h
  · exact ⟨hl, .inl ⟨rfl, h0⟩⟩
  · exact ⟨hl, .inr ⟨g, cap, cur, rfl, hg, (hb.block g (Array.getElem?_eq_some_iff.1 hh).1).trans hh, hr⟩⟩

/-- A list of texts that grows in memory that is new since w0. -/
structure SAcc (w0 wr : World) (v : Value) (xs : List ByteArray) : Prop where
  own : SOwn wr w0.heap.size v xs
  below : Below w0.heap.size w0 wr
theorem SAcc.nil (w0 : World) : SAcc w0 w0 (.slice none 0 0) [] := ⟨World.ownsRow_nil _ _ _ _, Below.refl _ _⟩
theorem SAcc.start (w0 : World) : SAcc w0 (w0.alloc (.cells #[] 9)) (.slice (some ⟨w0.heap.size, 0, none⟩) 0 0) [] := ⟨owns_empty w0, (Below.refl _ _).alloc (Nat.le_refl _) _⟩
theorem SAcc.drewN {w0 wr : World} {v : Value} {xs : List ByteArray} (h : SAcc w0 wr v xs) (n : Nat) : SAcc w0 (wr.drewN n) v xs := ⟨h.own, below_drewN h.below n⟩
theorem SAcc.drew {w0 wr : World} {v : Value} {xs : List ByteArray} (h : SAcc w0 wr v xs) : SAcc w0 wr.drew v xs := ⟨h.own, below_drew h.below⟩
theorem SAcc.call {w0 wr w2 : World} {v : Value} {xs : List ByteArray} (h : SAcc w0 wr v xs) (hb : Below wr.heap.size wr w2) : SAcc w0 w2 v xs := ⟨h.own.below hb, h.below.trans (hb.mono h.below.size)⟩
theorem SAcc.alloc {w0 wr : World} {v : Value} {xs : List ByteArray} (h : SAcc w0 wr v xs) (o : Obj) : SAcc w0 (wr.alloc o) v xs := h.call ((Below.refl _ _).alloc (Nat.le_refl _) _)
theorem SAcc.row {w0 wr : World} {v : Value} {xs : List ByteArray} (h : SAcc w0 wr v xs) : Row wr v xs := Row.of_owns h.own
theorem SAcc.far {w0 w : World} {v : Value} {xs : List ByteArray} (h : SAcc w0 w v xs) {b : Nat} (hb : w.heap.size ≤ b) : v.ownBlock ≠ some b := fun e => by have := (World.ownsRow.lt h.own b e).2; omega

structure SGrew (w0 w : World) (v : Value) (xs : List ByteArray) (x : ByteArray) (A : Option Addr) (c : Nat) (zs : List ByteArray) (w' : World) : Prop where
  list : zs = xs ++ [x]
  acc : SAcc w0 w' (.slice A zs.length c) zs
  far : ∀ b, b < w.heap.size → v.ownBlock ≠ some b → w'.heap[b]? = w.heap[b]?
  lies : (Value.slice A zs.length c).ownBlock = v.ownBlock ∨ (Value.slice A zs.length c).ownBlock = some w.heap.size
  size : w.heap.size ≤ w'.heap.size

/-- append(list, text): the text lies in a block of its own, that was made just now. -/
theorem wpList_sacc {w0 w : World} {ops : Array Oper} {rest : List Oper} {o : Oper} {a : Act} {Q : Exit → Act → World → Prop} (hgd : o.guard = none) (s x : Operand)
    (ho : o.op = .call { callee := .builtin .append, args := #[s, x], argTypes := #[41, 41] })
    {v : Value} {xs : List ByteArray} {p : ByteArray} (h : SAcc w0 w v xs) (hs : a.eval s = v) {B : Nat} (hB : w.cell? ⟨B, 0, none⟩ = some (.string p)) (hx : a.eval x = .slice (some ⟨B, 0, none⟩) 1 1) (hn : xs.length ≤ 100000)
    (hk : ∀ A' c' zs w', SGrew w0 w v xs p A' c' zs w' → wpList Try.prog ops Q rest (a.put o.dst (.slice A' zs.length c')) w') : wpList Try.prog ops Q (o :: rest) a w := by
  obtain ⟨i0, hi, hz0, hz1, hz2⟩ := info_parts Try.info9
  obtain ⟨v', w', hrun, h2, h3, _, h5⟩ := run_append_own_at (P := Try.prog) w w0.heap.size 41 o.type 9 i0 _ 1 16 Try.underlying41 hi hz0 hz1 hz2 rfl (by decide) v xs.length (xs.map Value.string) h.own ⟨B, 0, none⟩ 1 1 [.string p] rfl
    (fun j u hu => by
      cases j with
      | zero => simp at hu; subst hu; rw [add_plain']; exact hB
      | succ j => simp at hu) (by simp [Value.oneCell']) (by unfold maxLen; omega) (by omega) h.below.size
  have h2' : SOwn w' w0.heap.size v' (xs ++ [p]) := by unfold SOwn; rw [List.length_append, List.map_append]; exact h2
  obtain ⟨A', c', rfl⟩ := h2'.form
  refine wpList_plain hgd fun K hK => ?_
  unfold Oper.wp execOp
  simp only [ho, resolve, invoke, builtin, Sem.run_bind, Sem.run_pure, Result.andThen_ok, List.map_toArray, List.map_cons, List.map_nil, hs, hx, hrun]
  exact hK _ _ (hk A' c' _ w' ⟨rfl, ⟨h2', h.below.grown h3 h.below.size (owns_block h.own)⟩, fun b hb hne => h3.block b hb (Ne.symm hne), h5, h3.size⟩)

def hasS (l : List ByteArray) (s : ByteArray) : Bool := l.any fun x => x.toList == s.toList
theorem hasS_iff {l : List ByteArray} {s : ByteArray} : hasS l s = true ↔ s ∈ l := by
  unfold hasS
  rw [List.any_eq_true]
  constructor
  · rintro ⟨x, hx, e⟩; rw [← toList_inj.1 (eq_of_beq e)]; exact hx
  · intro h; exact ⟨s, h, by simp⟩
theorem anyS_on {xs : List ByteArray} {p : ByteArray → Bool} {k : Nat} (h : (xs.take k).any p = false) (hk : k < xs.length) (e : p xs[k] = false) : (xs.take (k + 1)).any p = false := by
  rw [List.take_succ_eq_append_getElem hk, List.any_append, h]; simp [e]
theorem anyS_yes {xs : List ByteArray} {p : ByteArray → Bool} {k : Nat} (hk : k < xs.length) (e : p xs[k] = true) : xs.any p = true := by
  rw [List.any_eq_true]; exact ⟨xs[k], List.getElem_mem hk, e⟩
theorem anyS_end {xs : List ByteArray} {p : ByteArray → Bool} {k : Nat} (h : (xs.take k).any p = false) (hk : xs.length ≤ k) : xs.any p = false := by
  rwa [List.take_of_length_le hk] at h

set_option maxRecDepth 100000 in
set_option maxHeartbeats 400000 in
theorem has_any (l : List ByteArray) (s : ByteArray) (v : Value) (w : World) (hv : Row w v l) (hm : l.length ≤ 2000) :
    Calls Try.prog 58 #[v, .string s] w fun e w' => e = .returned (.bool (hasS l s)) ∧ w = w' := by
  obtain ⟨a, c, rfl, hc⟩ := hv
  have HC := Lib.hid hc
  clear hc
  go_enter Try.func58, Try.ntmps58
  go_wp2
  go_loop [5] (fun i => ∃ k : Nat, k ≤ l.length ∧ i = .int .i64 k ∧ ((l.take k).any fun x => x.toList == s.toList) = false) (fun i => l.length - (intOf i).toNat)
  case atStart => exact ⟨0, Nat.zero_le _, rfl, rfl⟩
  case round =>
    obtain ⟨k, hk, rfl, ht⟩ := hrel
    have HT := Lib.hid ht
    clear ht
    by_cases hlt : k < l.length
    · obtain ⟨g, rfl, hg, hcell⟩ := HC.out (by intro e; rw [e] at hlt; simp at hlt)
      have q1 := hcell k hlt
      have HN := Lib.hid (fun h => anyS_yes (p := fun x => x.toList == s.toList) hlt h)
      have HY := Lib.hid (fun h => anyS_on HT.out hlt h)
      clear hcell
      generalize l[k] = x at *
      cases he : (x.toList == s.toList)
      · have HP := Lib.hid (HY.out he)
        go_wp2
        go_round
        case rel => exact ⟨k + 1, by omega, by go_num, HP.out⟩
        case measure => simp [intOf]; omega
      · have HP := Lib.hid (HN.out he)
        go_wp2
        go_ret
        exact ⟨ret_bool (by unfold hasS; rw [HP.out]), rfl⟩
    · have HP := Lib.hid (anyS_end HT.out (by omega))
      go_wp2
      go_ret
      exact ⟨ret_bool (by unfold hasS; rw [HP.out]), rfl⟩
theorem has_b {l : List ByteArray} {s : ByteArray} {b : Bool} (h : hasS l s = b) (v : Value) (w : World) (hv : Row w v l) (hm : l.length ≤ 2000) :
    Calls Try.prog 58 #[v, .string s] w fun e w' => e = .returned (.bool b) ∧ w = w' := by rw [← h]; exact has_any l s v w hv hm

set_option maxRecDepth 100000 in
set_option maxHeartbeats 400000 in
theorem lsame_any (xs : List ByteArray) (v u : Value) (w : World) (hv : Row w v xs) (hu : Row w u xs) (hx : xs.length ≤ 2000) :
    Calls Try.prog 32 #[v, u] w (SameOut true w) := by
  obtain ⟨a, c, rfl, hc⟩ := hv
  obtain ⟨b, d, rfl, hd⟩ := hu
  have HC := Lib.hid hc
  have HD := Lib.hid hd
  clear hc hd
  go_enter Try.func32, Try.ntmps32
  go_wp2
  go_loopw [5] (fun i wr => ∃ k n : Nat, k ≤ xs.length ∧ i = .int .i64 k ∧ wr = w.drewN n) (fun i _ => xs.length - (intOf i).toNat)
  case atStart => exact ⟨0, 0, Nat.zero_le _, rfl, rfl⟩
  case round =>
    obtain ⟨k, n, hk, rfl, rfl⟩ := hrel
    by_cases hlt : k < xs.length
    · obtain ⟨g, rfl, hg, hcell⟩ := HC.out (by intro e; rw [e] at hlt; simp at hlt)
      obtain ⟨g2, rfl, hg2, hcell2⟩ := HD.out (by intro e; rw [e] at hlt; simp at hlt)
      have q1 := hcell k hlt
      have q2 := hcell2 k hlt
      clear hcell hcell2
      generalize xs[k] = x at *
      have e' : (x.toList == x.toList) = true := by simp
      have e'' : (x.toList != x.toList) = false := by simp
      go_wp2
      go_quiet (fail)
      go_wp2
      go_roundw
      case rel => exact ⟨k + 1, _, by omega, by go_num, rfl⟩
      case measure => simp [intOf]; omega
    · go_wp2
      go_ret
      exact ⟨rfl, _, rfl⟩
end Go.Proofs.Yteffoajheolpmaa
