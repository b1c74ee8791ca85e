/-
  The document's own Import and Module answer as paths.go's do.
-/
import Derived.Test.YtmdlmjcejeejfaaGreatDoorW9
import Derived.IntWalk
namespace Go.Proofs.YtmdlmjcejeejfaaGreatDoor
open Go.RowKit Go.Shelf

abbrev mSigns : ByteArray := ⟨#[45, 46, 95, 126, 47]⟩
abbrev iSigns : ByteArray := ⟨#[45, 46, 95, 126, 47, 43]⟩
theorem u8_all {p : UInt8 → Prop} (h : ∀ n : Fin 256, p (UInt8.ofFin n)) (c : UInt8) : p c := h c.toFin
theorem madeC_m (c : UInt8) : madeC false mSigns c = (c == 47 || mByte c) := u8_all (p := fun c => madeC false mSigns c = (c == 47 || mByte c)) (by decide +kernel) c
theorem madeC_i (c : UInt8) : madeC true iSigns c = (c == 47 || iByte c) := u8_all (p := fun c => madeC true iSigns c = (c == 47 || iByte c)) (by decide +kernel) c

theorem all_spl (p : UInt8 → Bool) : ∀ l : List UInt8, (spl l).all (fun e => e.all p) = l.all (fun c => c == 47 || p c)
  | [] => by simp [spl]
  | c :: r => by
    have ih := all_spl p r
    by_cases hc : c = 47
    · rw [spl, if_pos hc, List.all_cons, ih, hc]; simp
    · obtain ⟨h, t, ht⟩ : ∃ h t, spl r = h :: t := by
        cases h : spl r with
        | nil => exact absurd h (spl_ne r)
        | cons p t => exact ⟨p, t, rfl⟩
      rw [spl_cons hc r ht, List.all_cons, List.all_cons, List.all_cons, ← ih, ht, List.all_cons]
      have : (c == 47) = false := by simp [hc]
      rw [this, Bool.false_or, Bool.and_assoc]
theorem valid_ne {s : ByteArray} (h : validB s = true) : ¬ s.toList = [] := by
  intro e
  have h1 := (valid_size h).1
  have h2 := size_of_list e
  rw [List.length_nil] at h2
  omega
theorem all_elems {s : ByteArray} (p : UInt8 → Bool) (h : ¬ s.toList = []) : (elemsB s).all (fun e => allB e p) = allB s (fun c => c == 47 || p c) := by
  rw [elemsB_ne h, partsB, List.all_map]
  exact all_spl p s.data.toList
theorem elem_size {s : ByteArray} (h : validB s = true) {k : Nat} (hk : k < (elemsB s).length) : 1 ≤ (elemsB s)[k].size := by
  simp only [validB, Bool.and_eq_true, everyB] at h
  have := List.all_eq_true.1 h.2 _ (List.getElem_mem hk)
  simp only [vElem, Bool.and_eq_true, decide_eq_true_eq] at this
  exact this.1.1.1.1

theorem prefB_at {x : ByteArray} (c : UInt8) (h : 0 < x.size) : prefB x ⟨#[c]⟩ = ((x[0].toNat : Int) == (c.toNat : Int)) := by
  have h1 : (⟨#[c]⟩ : ByteArray).size = 1 := rfl
  have h2 : (⟨#[c]⟩ : ByteArray).toList = [c] := by rw [Lib.toList_data]
  have h3 : (x.extract 0 1).toList = [x[0]] := by
    rw [Lib.extract_toList, List.drop_zero]
    have := take_snoc x 0 h
    simpa using this
  have h4 : 1 ≤ x.size := h
  rw [prefB, h1, h2, h3, Bool.eq_iff_iff]
  simp only [h4, decide_true, Bool.true_and, beq_iff_eq, List.cons.injEq, and_true]
  constructor
  · intro e; rw [e]
  · intro e; apply UInt8.toNat.inj; omega
theorem suffB_at {x : ByteArray} (c : UInt8) (h : 0 < x.size) : suffB x ⟨#[c]⟩ = ((x[x.size - 1].toNat : Int) == (c.toNat : Int)) := by
  have h1 : (⟨#[c]⟩ : ByteArray).size = 1 := rfl
  have h2 : (⟨#[c]⟩ : ByteArray).toList = [c] := by rw [Lib.toList_data]
  have h3 : (x.extract (x.size - 1) x.size).toList = [x[x.size - 1]] := by
    rw [Lib.extract_toList, List.drop_eq_getElem_cons (by rw [size_data]; omega)]
    rw [show x.size - (x.size - 1) = 0 + 1 by omega, List.take_succ_cons, List.take_zero]
    rfl
  have h4 : 1 ≤ x.size := h
  rw [suffB, h1, h2, h3, Bool.eq_iff_iff]
  simp only [h4, decide_true, Bool.true_and, beq_iff_eq, List.cons.injEq, and_true]
  constructor
  · intro e; rw [e]
  · intro e; apply UInt8.toNat.inj; omega

def iEdge (e : ByteArray) : Bool := !edgeB e && !prefB e ⟨#[45]⟩
theorem every_i {s : ByteArray} (h : validB s = true) : everyB s iElem = (allB s (madeC true iSigns) && (elemsB s).all iEdge) := by
  have e1 : allB s (madeC true iSigns) = (elemsB s).all (fun e => allB e iByte) := by
    rw [all_elems iByte (valid_ne h)]
    unfold allB
    congr 1
    funext c
    exact madeC_i c
  rw [e1, everyB, Bool.eq_iff_iff]
  simp only [List.all_eq_true, Bool.and_eq_true]
  constructor
  · intro hh
    refine ⟨fun x hx => ?_, fun x hx => ?_⟩ <;> have := hh x hx <;> simp only [iElem, iEdge, Bool.and_eq_true] at this ⊢
    · exact this.2
    · exact this.1
  · rintro ⟨h1, h2⟩ x hx
    have a := h1 x hx
    have b := h2 x hx
    simp only [iElem, iEdge, Bool.and_eq_true] at b ⊢
    exact ⟨b, a⟩
theorem every_m {s : ByteArray} (h : validB s = true) : everyB s mElem = (allB s (madeC false mSigns) && (elemsB s).all (fun e => !edgeB e)) := by
  have e1 : allB s (madeC false mSigns) = (elemsB s).all (fun e => allB e mByte) := by
    rw [all_elems mByte (valid_ne h)]
    unfold allB
    congr 1
    funext c
    exact madeC_m c
  rw [e1, everyB, Bool.eq_iff_iff]
  simp only [List.all_eq_true, Bool.and_eq_true]
  constructor
  · intro hh
    refine ⟨fun x hx => ?_, fun x hx => ?_⟩ <;> have := hh x hx <;> simp only [mElem, Bool.and_eq_true] at this
    · exact this.2
    · exact this.1
  · rintro ⟨h1, h2⟩ x hx
    have a := h1 x hx
    have b := h2 x hx
    simp only [mElem, Bool.and_eq_true]
    exact ⟨b, a⟩

theorem edge_yes {x : ByteArray} (h : 0 < x.size) (e : ((x[0].toNat : Int) == 46) = true) : edgeB x = true := by
  rw [edgeB, prefB_at 46 h]; rw [Bool.or_eq_true]; exact .inl e
theorem edge_yes2 {x : ByteArray} (h : 0 < x.size) (e : ((x[x.size - 1].toNat : Int) == 46) = true) : edgeB x = true := by
  rw [edgeB, suffB_at 46 h]; rw [Bool.or_eq_true]; exact .inr e
theorem edge_no {x : ByteArray} (h : 0 < x.size) (e : ((x[0].toNat : Int) == 46) = false) (e2 : ((x[x.size - 1].toNat : Int) == 46) = false) : edgeB x = false := by
  rw [edgeB, prefB_at 46 h, suffB_at 46 h]; exact Bool.or_eq_false_iff.2 ⟨e, e2⟩

theorem last_eq {x : ByteArray} {m : Nat} (h : x.size = m + 1) (hm : m < x.size) (hx : x.size - 1 < x.size) : x[x.size - 1] = x[m] := by
  have : x.size - 1 = m := by omega
  congr 1
theorem iEdge_0 {x : ByteArray} (h : 0 < x.size) (e : ((x[0].toNat : Int) == 46) = true) : iEdge x = false := by rw [iEdge, edge_yes h e]; rfl
theorem iEdge_1 {x : ByteArray} (h : 0 < x.size) (e : ((x[0].toNat : Int) == 45) = true) : iEdge x = false := by
  rw [iEdge, prefB_at 45 h]
  have : ((x[0].toNat : Int) == ((45 : UInt8).toNat : Int)) = true := e
  rw [this]; simp
theorem edge_2 {x : ByteArray} {m : Nat} (hm : x.size = m + 1) (hx : m < x.size) (e : ((x[m].toNat : Int) == 46) = true) : edgeB x = true := by
  have h : 0 < x.size := by omega
  exact edge_yes2 h (by rw [last_eq hm hx]; exact e)
theorem edge_3 {x : ByteArray} {m : Nat} (hm : x.size = m + 1) (hx : m < x.size) (h : 0 < x.size) (e0 : ((x[0].toNat : Int) == 46) = false) (e2 : ((x[m].toNat : Int) == 46) = false) : edgeB x = false := by
  exact edge_no h e0 (by rw [last_eq hm hx]; exact e2)
theorem iEdge_2 {x : ByteArray} {m : Nat} (hm : x.size = m + 1) (hx : m < x.size) (e : ((x[m].toNat : Int) == 46) = true) : iEdge x = false := by rw [iEdge, edge_2 hm hx e]; rfl
theorem iEdge_3 {x : ByteArray} {m : Nat} (hm : x.size = m + 1) (hx : m < x.size) (h : 0 < x.size) (e0 : ((x[0].toNat : Int) == 46) = false) (e1 : ((x[0].toNat : Int) == 45) = false) (e2 : ((x[m].toNat : Int) == 46) = false) : iEdge x = true := by
  have : ((x[0].toNat : Int) == ((45 : UInt8).toNat : Int)) = false := e1
  rw [iEdge, edge_3 hm hx h e0 e2, prefB_at 45 h, this]; rfl

def dotTo (y : ByteArray) (k : Nat) : Bool := (y.data.toList.take k).contains 46
theorem dotTo_snoc {y : ByteArray} {k : Nat} (h : k < y.size) : dotTo y (k + 1) = (dotTo y k || ((y[k].toNat : Int) == 46)) := by
  unfold dotTo
  rw [take_snoc y k h, Bool.eq_iff_iff]
  simp only [List.contains_eq_mem, List.mem_append, List.mem_singleton, decide_eq_true_eq, Bool.or_eq_true, beq_iff_eq]
  constructor
  · rintro (h | h)
    · exact .inl h
    · exact .inr (by rw [← h]; rfl)
  · rintro (h | h)
    · exact .inl h
    · exact .inr (by apply UInt8.toNat.inj; show 46 = y[k].toNat; omega)
theorem dotTo_end {y : ByteArray} {k : Nat} (h : y.size ≤ k) : dotTo y k = decide (0 ≤ Lib.indexByte y.data.toList 46) := by
  unfold dotTo
  rw [List.take_of_length_le (by rw [size_data]; exact h)]
  exact Lib.contains_iff_indexByte _ _
theorem first_elem {s : ByteArray} (h : ¬ s.toList = []) : (elemsB s)[0]? = some (cutB s).1 := by
  rw [elemsB_ne h]
  rcases index_cases s with e | ⟨k, e⟩
  · rw [partsB_none e, cutB_no e]; rfl
  · rw [(partsB_cut e).2, cutB_yes e]; rfl
theorem first_len {s : ByteArray} (h : ¬ s.toList = []) : 0 < (elemsB s).length := by
  have := first_elem h
  exact (List.getElem?_eq_some_iff.1 this).1
theorem first_get {s : ByteArray} (h : ¬ s.toList = []) (hl : 0 < (elemsB s).length) : (elemsB s)[0] = (cutB s).1 := by
  have := first_elem h
  rw [List.getElem?_eq_getElem hl] at this
  exact Option.some.inj this

theorem moduleN_1 {s : ByteArray} (h : validB s = false) : moduleN s = 10 := by
  simp [moduleN, checkN, h]
theorem moduleN_2 {s : ByteArray} (h : validB s = true) (hm : allB s (madeC false mSigns) = false) : moduleN s = 10 := by
  simp [moduleN, checkN, every_m h, hm]
theorem moduleN_3 {s y : ByteArray} (h : validB s = true) (hm : allB s (madeC false mSigns) = true) (hy : (elemsB s)[0]? = some y) (hp : 0 < y.size) :
    moduleN s = if dotTo y y.size && !((y[0].toNat : Int) == 45) && (elemsB s).all (fun e => !edgeB e) then 0 else 10 := by
  have e : ((y[0].toNat : Int) == 45) = prefB y ⟨#[45]⟩ := (prefB_at 45 hp).symm
  rw [e, dotTo_end (Nat.le_refl _)]
  have hf := first_elem (valid_ne h)
  rw [hy] at hf
  rw [Option.some.inj hf]
  unfold moduleN firstB checkN
  rw [every_m h, hm, h]
  generalize decide (0 ≤ Lib.indexByte (cutB s).1.data.toList 46) = p
  generalize prefB (cutB s).1 ⟨#[45]⟩ = q
  generalize (elemsB s).all (fun e => !edgeB e) = r
  cases p <;> cases q <;> cases r <;> rfl

def mEdge (e : ByteArray) : Bool := !edgeB e

set_option maxRecDepth 100000 in
set_option maxHeartbeats 2000000 in
theorem rmodule_any (s : ByteArray) (hs : s.size ≤ 20400) (w : World) :
    Calls Tryz.prog 76 #[.string s] w fun e w' => e = .returned (.int .i64 (moduleN s)) ∧ Below w.heap.size w w' := by
  have hB : Below w.heap.size w w := Below.refl _ _
  cases hv : validB s
  · have HJ := Lib.hid (moduleN_1 hv)
    go_enter Tryz.func76, Tryz.ntmps76
    go_wp2_with (go_at_call 127; refine (rvalid_any _ hs _).mono ?_; rintro e w2 ⟨rfl, hb2⟩; replace hB := hB.trans (hb2.mono hB.size); clear hb2)
    go_ret
    exact ⟨ret_int HJ.out.symm, hB⟩
  · cases hm : allB s (madeC false mSigns)
    · have HJ := Lib.hid (moduleN_2 hv hm)
      go_enter Tryz.func76, Tryz.ntmps76
      go_wp2_with (first
        | (go_at_call 127; refine (rvalid_any _ hs _).mono ?_; rintro e w2 ⟨rfl, hb2⟩; replace hB := hB.trans (hb2.mono hB.size); clear hb2)
        | (go_at_call 128; refine (made_f _ _ hs (by decide) _).mono ?_; rintro e w2 ⟨rfl, rfl⟩))
      go_ret
      exact ⟨ret_int HJ.out.symm, hB⟩
    · have hl0 := first_len (valid_ne hv)
      have HZ := Lib.hid (fun k h => elem_size hv (k := k) h)
      obtain ⟨y, hy⟩ : ∃ y, (elemsB s)[0]? = some y := ⟨_, List.getElem?_eq_getElem hl0⟩
      have hy' : (elemsB s)[0] = y := by rw [List.getElem?_eq_getElem hl0] at hy; exact Option.some.inj hy
      have hp0 : 0 < y.size := by rw [← hy']; exact HZ.out 0 hl0
      have HJ := Lib.hid (moduleN_3 hv hm hy hp0)
      have HY0 := Lib.hid hy'
      clear hy hy'
      have hcount := elemsB_count s
      have hsz := Lib.hid (fun e (h : e ∈ elemsB s) => elemsB_size h)
      go_enter Tryz.func76, Tryz.ntmps76
      go_wp2_with (first
        | (go_at_call 127; refine (rvalid_any _ hs _).mono ?_; rintro e w2 ⟨rfl, hb2⟩; replace hB := hB.trans (hb2.mono hB.size); clear hb2)
        | (go_at_call 128; refine (made_f _ _ hs (by decide) _).mono ?_; rintro e w2 ⟨rfl, rfl⟩)
        | fail)
      refine (relems_any s hs _).mono ?_
      rintro _ w1 ⟨v, rfl, ⟨a, cap, rfl, hc⟩, hb2⟩
      replace hB := hB.trans (hb2.mono hB.size)
      clear hb2 hv hm
      generalize hxs : elemsB s = xs at *
      clear hxs
      obtain ⟨g, rfl, hg, hcell⟩ := hc (by intro e; rw [e] at hl0; simp at hl0)
      have HC := Lib.hid hcell
      have q0 : w1.cell? ⟨g, 0, none⟩ = some (.string y) := by rw [hcell 0 hl0, HY0.out]
      have hes0 : y.size ≤ 20400 := Nat.le_trans (by rw [← HY0.out]; exact hsz.out _ (List.getElem_mem hl0)) hs
      have hl0' : (0 : Int) < xs.length := by omega
      clear hcell hc HY0
      go_wp2
      go_loop [4, 5] (fun b i => ∃ j : Nat, j ≤ y.size ∧ i = .int .i64 j ∧ b = .bool (dotTo y j)) (fun _ i => y.size - (intOf i).toNat)
      case atStart => exact ⟨0, Nat.zero_le _, rfl, rfl⟩
      case round =>
        obtain ⟨j, hj, rfl, rfl⟩ := hrel
        by_cases hjt : j < y.size
        · have HS := Lib.hid (dotTo_snoc hjt)
          cases hb : dotTo y j
          · go_wp2
            go_round
            case rel => exact ⟨j + 1, by omega, by go_num, val_bool (by rw [HS.out, hb]; rfl)⟩
            case measure => simp [intOf]; omega
          · go_wp2
            go_round
            case rel => exact ⟨j + 1, by omega, by go_num, val_bool (by rw [HS.out, hb]; rfl)⟩
            case measure => simp [intOf]; omega
        · obtain rfl : j = y.size := by omega
          cases hb : dotTo y y.size
          · go_wp2
            go_ret
            exact ⟨ret_int (by rw [HJ.out, hb]; rfl), hB⟩
          · cases hd : ((y[0].toNat : Int) == 45)
            · go_wp2
              go_loopw [6] (fun i wr => ∃ k n : Nat, k ≤ xs.length ∧ i = .int .i64 k ∧ (xs.take k).all mEdge = true ∧ wr = w1.drewN n) (fun i _ => xs.length - (intOf i).toNat)
              case atStart => exact ⟨0, 0, Nat.zero_le _, rfl, rfl, rfl⟩
              case round =>
                obtain ⟨k, n, hk, rfl, ht, rfl⟩ := hrel
                have HT := Lib.hid ht
                clear ht
                replace hB := below_drewN hB n
                by_cases hlt : k < xs.length
                · have q1 := HC.out k hlt
                  have hp : 0 < xs[k].size := HZ.out k hlt
                  have hes : xs[k].size ≤ 20400 := Nat.le_trans (hsz.out _ (List.getElem_mem hlt)) hs
                  have HN := Lib.hid (fun h => elems_no (p := mEdge) hlt h)
                  have HY := Lib.hid (fun h => elems_on HT.out hlt h)
                  generalize xs[k] = x at *
                  cases e0 : ((x[0].toNat : Int) == 46)
                  · obtain ⟨m, hm⟩ : ∃ m, x.size = m + 1 := ⟨x.size - 1, by omega⟩
                    have hmt : m < x.size := by omega
                    have hmb : m ≤ 20400 := by omega
                    have hcast : ((x.size : Int) - 1) = m := by omega
                    have hwr : IntKind.i64.wrap (m : Int) = m := IntWalk.i64_in _ (by omega)
                    have HM := Lib.hid hm
                    clear hm
                    cases e2 : ((x[m].toNat : Int) == 46)
                    · have HE := Lib.hid (HY.out (show mEdge x = true by rw [mEdge, edge_3 HM.out hmt hp e0 e2]; rfl))
                      go_wp2
                      go_quiet (fail)
                      go_wp2
                      go_roundw
                      case rel => exact ⟨k + 1, _, by omega, by go_num, HE.out, by first | rfl | rw [drewN_drewN]⟩
                      case measure => simp [intOf]; omega
                    · have HE := Lib.hid (HN.out (show mEdge x = false by rw [mEdge, edge_2 HM.out hmt e2]; rfl))
                      go_wp2
                      go_quiet (fail)
                      go_wp2
                      go_ret
                      exact ⟨ret_int (by rw [HJ.out, show (xs.all fun e => !edgeB e) = false from HE.out, Bool.and_false]; rfl), below_drewN hB _⟩
                  · have HE := Lib.hid (HN.out (show mEdge x = false by rw [mEdge, edge_yes hp e0]; rfl))
                    go_wp2
                    go_quiet (fail)
                    go_wp2
                    go_ret
                    exact ⟨ret_int (by rw [HJ.out, show (xs.all fun e => !edgeB e) = false from HE.out, Bool.and_false]; rfl), below_drewN hB _⟩
                · have HE := Lib.hid (elems_end HT.out (show xs.length ≤ k by omega))
                  go_wp2
                  go_ret
                  exact ⟨ret_int (by rw [HJ.out, show (xs.all fun e => !edgeB e) = true from HE.out, hb, hd]; rfl), hB⟩
            · go_wp2
              go_ret
              exact ⟨ret_int (by rw [HJ.out, hd]; simp), hB⟩
end Go.Proofs.YtmdlmjcejeejfaaGreatDoor
