/-
  Same, of two files that say the same.
-/
import Derived.Test.YtmdlmjcejeejfaaGreatDoorD0
import Derived.Test.YtmdlmjcejeejfaaGreatDoorE8
import Derived.Test.YtmdlmjcejeejfaaGreatDoorE6
import Derived.Test.YtmdlmjcejeejfaaGreatDoorE9
import Derived.Deep.DeepCutAuto
namespace Go.Proofs.YtmdlmjcejeejfaaGreatDoor
open Go.RowKit Go.Shelf

set_option maxRecDepth 100000 in
set_option maxHeartbeats 4000000 in
theorem same_file (f : FileG) (n1 : f.reqs.length ≤ 1000) (n2 : f.reps.length ≤ 1000) (n3 : f.excs.length ≤ 1000) (n4 : f.rets.length ≤ 1000) (a b c d a' b' c' d' : Value) (w : World) (hF : FileAt w a b c d f) (hF' : FileAt w a' b' c' d' f) :
    Calls Tryz.prog 11 #[.agg #[.string f.mo, .string f.go, a, b, c, d], .agg #[.string f.mo, .string f.go, a', b', c', d']] w fun e w' => e = .returned (.bool true) ∧ Below w.heap.size w w' := by
  obtain ⟨mo, go, reqs, reps, excs, rets⟩ := f
  obtain ⟨hr, hp, hx, ht⟩ := hF
  obtain ⟨hr', hp', hx', ht'⟩ := hF'
  dsimp only at *
  obtain ⟨ra, rc, rfl⟩ := hr.form
  obtain ⟨pa, pc, rfl⟩ := hp.form
  obtain ⟨xa, xc, rfl⟩ := hx.form
  obtain ⟨ta, tc, rfl⟩ := ht.form
  obtain ⟨ra', rc', rfl⟩ := hr'.form
  obtain ⟨pa', pc', rfl⟩ := hp'.form
  obtain ⟨xa', xc', rfl⟩ := hx'.form
  obtain ⟨ta', tc', rfl⟩ := ht'.form
  have hb0 := (Below.refl w.heap.size w).alloc (Nat.le_refl _) (.cells #[.string mo, .string go, .slice ra reqs.length rc, .slice pa reps.length pc, .slice xa excs.length xc, .slice ta rets.length tc] 35)
  have hb1 := hb0.alloc hb0.size (.cells #[.string mo, .string go, .slice ra' reqs.length rc', .slice pa' reps.length pc', .slice xa' excs.length xc', .slice ta' rets.length tc'] 35)
  have HR := Lib.hid (hr.below hb1)
  have HP := Lib.hid (hp.below hb1)
  have HX := Lib.hid (hx.below hb1)
  have HT := Lib.hid (ht.below hb1)
  have HR' := Lib.hid (hr'.below hb1)
  have HP' := Lib.hid (hp'.below hb1)
  have HX' := Lib.hid (hx'.below hb1)
  have HT' := Lib.hid (ht'.below hb1)
  have HA := Lib.hid ((GBlk.new w 35 #[.string mo, .string go, .slice ra reqs.length rc, .slice pa reps.length pc, .slice xa excs.length xc, .slice ta rets.length tc]).alloc (.cells #[.string mo, .string go, .slice ra' reqs.length rc', .slice pa' reps.length pc', .slice xa' excs.length xc', .slice ta' rets.length tc'] 35))
  have HB0 := GBlk.new (w.alloc (.cells #[.string mo, .string go, .slice ra reqs.length rc, .slice pa reps.length pc, .slice xa excs.length xc, .slice ta rets.length tc] 35)) 35 #[.string mo, .string go, .slice ra' reqs.length rc', .slice pa' reps.length pc', .slice xa' excs.length xc', .slice ta' rets.length tc']
  rw [World.size_alloc] at HB0
  have HB := Lib.hid HB0
  clear hr hp hx ht hr' hp' hx' ht' HB0 hb0
  go_enter Tryz.func11, Tryz.ntmps11
  go_wp2
  generalize (w.alloc (.cells #[.string mo, .string go, .slice ra reqs.length rc, .slice pa reps.length pc, .slice xa excs.length xc, .slice ta rets.length tc] 35)).alloc (.cells #[.string mo, .string go, .slice ra' reqs.length rc', .slice pa' reps.length pc', .slice xa' excs.length xc', .slice ta' rets.length tc'] 35) = W at *
  go_loopw [5] (fun i wr => ∃ k : Nat, k ≤ reqs.length ∧ i = .int .i64 k ∧ Below W.heap.size W wr) (fun i _ => reqs.length - (intOf i).toNat)
  case atStart => exact ⟨0, Nat.zero_le _, rfl, (Below.refl _ _)⟩
  case round =>
    obtain ⟨k, hk, rfl, hBw⟩ := hrel
    have u0 : wr.cell? ⟨w.heap.size, 2, none⟩ = some (.slice ra reqs.length rc) := (HA.out.below hBw).cell 2
    have u1 : wr.cell? ⟨w.heap.size + 1, 2, none⟩ = some (.slice ra' reqs.length rc') := (HB.out.below hBw).cell 2
    by_cases hlt : k < reqs.length
    · obtain ⟨-, hcap, hsp⟩ := (HR.out.below hBw).spot
      obtain ⟨g, o, rfl, hg, hat⟩ := hsp (ne_of_lt hlt)
      obtain ⟨q1, q2, q3⟩ := req_at hat k hlt
      obtain ⟨-, hcap', hsp'⟩ := (HR'.out.below hBw).spot
      obtain ⟨g', o', rfl, hg', hat'⟩ := hsp' (ne_of_lt hlt)
      obtain ⟨y1, y2, y3⟩ := req_at hat' k hlt
      clear hat hsp hat' hsp'
      generalize reqs[k] = x at *
      obtain ⟨⟨p, v⟩, bb⟩ := x
      dsimp only at q1 q2 q3 y1 y2 y3
      have i0 : (0 : Int) ≤ (k : Int) := by omega
      have i1 : (k : Int) < (reqs.length : Int) := by omega
      go_wp2
      go_quiet (fail)
      go_wp2
      go_roundw
      case rel => exact ⟨k + 1, by omega, by go_num, below_drewN hBw _⟩
      case measure => simp [intOf]; omega
    · go_wp2
      clear u0 u1
      obtain ⟨v0, hv0⟩ : ∃ v, v = wr := ⟨_, rfl⟩
      subst hv0
      go_loopw [6] (fun i wr => ∃ k : Nat, k ≤ reps.length ∧ i = .int .i64 k ∧ Below W.heap.size W wr) (fun i _ => reps.length - (intOf i).toNat)
      case atStart => exact ⟨0, Nat.zero_le _, rfl, hBw⟩
      case round =>
        clear hBw
        obtain ⟨k, hk, rfl, hBw⟩ := hrel
        have u0 : wr.cell? ⟨w.heap.size, 3, none⟩ = some (.slice pa reps.length pc) := (HA.out.below hBw).cell 3
        have u1 : wr.cell? ⟨w.heap.size + 1, 3, none⟩ = some (.slice pa' reps.length pc') := (HB.out.below hBw).cell 3
        by_cases hlt : k < reps.length
        · obtain ⟨-, hcap, hsp⟩ := (HP.out.below hBw).spot
          obtain ⟨g, o, rfl, hg, hat⟩ := hsp (ne_of_lt hlt)
          obtain ⟨q1, q2, q3, q4⟩ := rep_at hat k hlt
          obtain ⟨-, hcap', hsp'⟩ := (HP'.out.below hBw).spot
          obtain ⟨g', o', rfl, hg', hat'⟩ := hsp' (ne_of_lt hlt)
          obtain ⟨y1, y2, y3, y4⟩ := rep_at hat' k hlt
          clear hat hsp hat' hsp'
          generalize reps[k] = x at *
          obtain ⟨⟨p, v⟩, p2, v2⟩ := x
          dsimp only at q1 q2 q3 q4 y1 y2 y3 y4
          have i0 : (0 : Int) ≤ (k : Int) := by omega
          have i1 : (k : Int) < (reps.length : Int) := by omega
          go_wp2
          go_quiet (fail)
          go_wp2
          go_roundw
          case rel => exact ⟨k + 1, by omega, by go_num, below_drewN hBw _⟩
          case measure => simp [intOf]; omega
        · go_wp2
          clear u0 u1
          obtain ⟨v1, hv1⟩ : ∃ v, v = wr := ⟨_, rfl⟩
          subst hv1
          go_loopw [7] (fun i wr => ∃ k : Nat, k ≤ excs.length ∧ i = .int .i64 k ∧ Below W.heap.size W wr) (fun i _ => excs.length - (intOf i).toNat)
          case atStart => exact ⟨0, Nat.zero_le _, rfl, hBw⟩
          case round =>
            clear hBw
            obtain ⟨k, hk, rfl, hBw⟩ := hrel
            have u0 : wr.cell? ⟨w.heap.size, 4, none⟩ = some (.slice xa excs.length xc) := (HA.out.below hBw).cell 4
            have u1 : wr.cell? ⟨w.heap.size + 1, 4, none⟩ = some (.slice xa' excs.length xc') := (HB.out.below hBw).cell 4
            by_cases hlt : k < excs.length
            · obtain ⟨-, hcap, hsp⟩ := (HX.out.below hBw).spot
              obtain ⟨g, o, rfl, hg, hat⟩ := hsp (ne_of_lt hlt)
              obtain ⟨q1, q2⟩ := mod_at hat k hlt
              obtain ⟨-, hcap', hsp'⟩ := (HX'.out.below hBw).spot
              obtain ⟨g', o', rfl, hg', hat'⟩ := hsp' (ne_of_lt hlt)
              obtain ⟨y1, y2⟩ := mod_at hat' k hlt
              clear hat hsp hat' hsp'
              generalize excs[k] = x at *
              obtain ⟨p, v⟩ := x
              dsimp only at q1 q2 y1 y2
              have i0 : (0 : Int) ≤ (k : Int) := by omega
              have i1 : (k : Int) < (excs.length : Int) := by omega
              go_wp2
              go_quiet (fail)
              go_wp2
              go_roundw
              case rel => exact ⟨k + 1, by omega, by go_num, below_drewN hBw _⟩
              case measure => simp [intOf]; omega
            · go_wp2
              clear u0 u1
              obtain ⟨v2, hv2⟩ : ∃ v, v = wr := ⟨_, rfl⟩
              subst hv2
              go_loopw [8] (fun i wr => ∃ k : Nat, k ≤ rets.length ∧ i = .int .i64 k ∧ Below W.heap.size W wr) (fun i _ => rets.length - (intOf i).toNat)
              case atStart => exact ⟨0, Nat.zero_le _, rfl, hBw⟩
              case round =>
                clear hBw
                obtain ⟨k, hk, rfl, hBw⟩ := hrel
                have u0 : wr.cell? ⟨w.heap.size, 5, none⟩ = some (.slice ta rets.length tc) := (HA.out.below hBw).cell 5
                have u1 : wr.cell? ⟨w.heap.size + 1, 5, none⟩ = some (.slice ta' rets.length tc') := (HB.out.below hBw).cell 5
                by_cases hlt : k < rets.length
                · obtain ⟨-, hcap, hsp⟩ := (HT.out.below hBw).spot
                  obtain ⟨g, o, rfl, hg, hat⟩ := hsp (ne_of_lt hlt)
                  obtain ⟨q1, q2, q3⟩ := ret_at hat k hlt
                  obtain ⟨-, hcap', hsp'⟩ := (HT'.out.below hBw).spot
                  obtain ⟨g', o', rfl, hg', hat'⟩ := hsp' (ne_of_lt hlt)
                  obtain ⟨y1, y2, y3⟩ := ret_at hat' k hlt
                  clear hat hsp hat' hsp'
                  generalize rets[k] = x at *
                  obtain ⟨p, v, y⟩ := x
                  dsimp only at q1 q2 q3 y1 y2 y3
                  have i0 : (0 : Int) ≤ (k : Int) := by omega
                  have i1 : (k : Int) < (rets.length : Int) := by omega
                  go_wp2
                  go_quiet (fail)
                  go_wp2
                  go_roundw
                  case rel => exact ⟨k + 1, by omega, by go_num, below_drewN hBw _⟩
                  case measure => simp [intOf]; omega
                · go_wp2
                  clear u0 u1
                  obtain ⟨v3, hv3⟩ : ∃ v, v = wr := ⟨_, rfl⟩
                  subst hv3
                  go_ret
                  exact ⟨rfl, hb1.trans (hBw.mono hb1.size)⟩
end Go.Proofs.YtmdlmjcejeejfaaGreatDoor

/-
  What follows of a require, plain.
-/
namespace Go.Proofs.YtmdlmjcejeejfaaGreatDoor
open Go.RowKit Go.Shelf

theorem text_eq {a b : ByteArray} (h : a.toList = b.toList) : a = b := by
  rw [Lib.toList_data, Lib.toList_data] at h
  exact data_inj h
theorem sameP_path {a : ReqB} {p : ByteArray} (h : sameP a p = true) : a.1.1 = p := text_eq (sameP_eq h)
theorem lift_path (m : ModB) (r : ReqB) : (lift m r).1.1 = r.1.1 := by
  unfold lift
  split <;> rfl
theorem max_or (a b : ByteArray) : maxS a b = a ∨ maxS a b = b := by
  unfold maxS
  split
  · exact .inr rfl
  · exact .inl rfl
theorem max_ge (a b : ByteArray) : 0 ≤ scmp (maxS a b).data.toList b.data.toList := by
  unfold maxS
  split
  · rw [scmp_cmp.self]; exact Int.le_refl _
  · omega
theorem max_again (a b : ByteArray) : maxS (maxS a b) b = maxS a b := by
  have := max_ge a b
  rw [maxS, if_neg (by omega)]
theorem reqE_iff {x : ReqB} {xs : List ReqB} : reqE x xs = 0 ↔ modE x.1 = 0 ∧ xs.any (fun a => sameP a x.1.1) = false := by
  rw [reqE, orL_two, orI_zero]
  constructor
  · rintro ⟨h1, h2⟩
    refine ⟨h1, ?_⟩
    cases e : xs.any (fun a => sameP a x.1.1)
    · rfl
    · rw [e] at h2; exact absurd h2 (by decide)
  · rintro ⟨h1, h2⟩
    rw [h2]; exact ⟨h1, rfl⟩
theorem any_map_lift (m : ModB) (xs : List ReqB) (p : ByteArray) : (xs.map (lift m)).any (fun a => sameP a p) = xs.any (fun a => sameP a p) := by
  rw [List.any_map]
  congr 1
  funext a
  simp only [Function.comp, sameP, lift_path]
theorem modE_lift {m : ModB} {r : ReqB} (h : modE r.1 = 0) (hm : modE m = 0) : modE (lift m r).1 = 0 := by
  unfold lift
  split
  · rename_i hs
    have hp := sameP_path hs
    rcases max_or r.1.2 m.2 with e | e
    · show modE (r.1.1, maxS r.1.2 m.2) = 0
      rw [e]; exact h
    · show modE (r.1.1, maxS r.1.2 m.2) = 0
      rw [e, hp]; exact hm
  · exact h
/-- All is well with the requires. -/
def Fine (xs : List ReqB) : Prop := ∀ k (hk : k < xs.length), reqE xs[k] (xs.take k) = 0
theorem fine_raise {xs : List ReqB} {m : ModB} (h : Fine xs) (hm : modE m = 0) : Fine (raiseL xs m) := by
  intro k hk
  unfold raiseL at hk ⊢
  split
  · rename_i ha
    rw [if_pos ha, List.length_map] at hk
    have := reqE_iff.1 (h k hk)
    rw [reqE_iff]
    simp only [List.getElem_map, ← List.map_take, any_map_lift, lift_path]
    exact ⟨modE_lift this.1 hm, this.2⟩
  · rename_i ha
    rw [if_neg ha, List.length_append] at hk
    simp only [List.length_singleton] at hk
    by_cases e : k < xs.length
    · rw [List.getElem_append_left e, List.take_append_of_le_length (by omega)]
      exact h k e
    · obtain rfl : k = xs.length := by omega
      rw [List.getElem_append_right (Nat.le_refl _), List.take_append_of_le_length (Nat.le_refl _), List.take_length]
      rw [reqE_iff]
      simp only [Nat.sub_self, List.getElem_cons_zero]
      exact ⟨hm, by simpa using ha⟩
theorem chk_with {f : FileG} {l : List ReqB} (h : chkE f = 0) (hl : Fine l) : chkE (f.with l) = 0 := by
  have h1 := allE_nought.1 h
  have h2 := allE_nought.1 h1.1
  have h3 := allE_nought.1 h2.1
  have h4 := allE_nought.1 h3.1
  exact allE_nought.2 ⟨allE_nought.2 ⟨allE_nought.2 ⟨allE_nought.2 ⟨h4.1, hl⟩, h3.2⟩, h2.2⟩, h1.2⟩
theorem chk_fine {f : FileG} (h : chkE f = 0) : Fine f.reqs := chk_reqs h
theorem chk_mod {f : FileG} {m : ModB} (h : chkE (f.with [(m, false)]) = 0) : modE m = 0 := (reqE_iff.1 (chk_reqs h 0 (by simp [FileG.with]))).1
theorem chk_raise {f : FileG} {m : ModB} (h : chkE f = 0) (k : chkE (f.with [(m, false)]) = 0) : chkE (f.with (raiseL f.reqs m)) = 0 := chk_with h (fine_raise (chk_fine h) (chk_mod k))
theorem same_self (m : ModB) (b : Bool) : sameP (m, b) m.1 = true := by simp [sameP]
theorem raise_has (xs : List ReqB) (m : ModB) : (raiseL xs m).any (fun a => sameP a m.1) = true := by
  unfold raiseL
  split
  · rename_i h; rw [any_map_lift]; exact h
  · rw [List.any_append]; simp [same_self]
theorem raise_ge {xs : List ReqB} {m : ModB} : ∀ x ∈ raiseL xs m, sameP x m.1 = true → 0 ≤ scmp x.1.2.data.toList m.2.data.toList := by
  intro x hx hs
  unfold raiseL at hx
  split at hx
  · obtain ⟨r, hr, rfl⟩ := List.mem_map.1 hx
    have hr' : sameP r m.1 = true := by
      have := hs
      simp only [sameP, lift_path] at this
      exact this
    rw [lift_same hr']
    exact max_ge _ _
  · rename_i ha
    rcases List.mem_append.1 hx with hx | hx
    · exact absurd (List.any_eq_true.2 ⟨x, hx, hs⟩) ha
    · rw [List.mem_singleton.1 hx]
      show 0 ≤ scmp m.2.data.toList m.2.data.toList
      rw [scmp_cmp.self]; exact Int.le_refl _
theorem raise_again (xs : List ReqB) (m : ModB) : raiseL (raiseL xs m) m = raiseL xs m := by
  rw [raise_any (raise_has xs m)]
  conv => rhs; rw [← List.map_id (raiseL xs m)]
  apply List.map_congr_left
  intro x hx
  cases hs : sameP x m.1
  · exact lift_other hs
  · rw [lift_same hs]
    have := raise_ge x hx hs
    rw [maxS, if_neg (by omega)]
    rfl
theorem reqO_again {f : FileG} {m : ModB} (h : chkE f = 0) (k : chkE (f.with [(m, false)]) = 0) : reqO (f.with (raiseL f.reqs m)) m = (f.with (raiseL f.reqs m), 0) := by
  rw [reqO_3 (chk_raise h k) k]
  show ((f.with (raiseL f.reqs m)).with (raiseL (raiseL f.reqs m) m), (0 : Int)) = _
  rw [raise_again]
  rfl
/-- How many have the path. -/
def cntP (xs : List ReqB) (p : ByteArray) : Nat := (xs.filter fun a => sameP a p).length
theorem cnt_snoc {xs : List ReqB} {p : ByteArray} {k : Nat} (hk : k < xs.length) : cntP (xs.take (k + 1)) p = cntP (xs.take k) p + if sameP xs[k] p then 1 else 0 := by
  unfold cntP
  rw [List.take_succ_eq_append_getElem hk, List.filter_append, List.length_append]
  cases e : sameP xs[k] p <;> simp [e]
theorem cnt_one {xs : List ReqB} {p : ByteArray} (ho : Once xs) (ha : xs.any (fun a => sameP a p) = true) : cntP xs p = 1 := by
  have key : ∀ k, k ≤ xs.length → cntP (xs.take k) p = if (xs.take k).any (fun a => sameP a p) then 1 else 0 := by
    intro k
    induction k with
    | zero => intro _; rfl
    | succ k ih =>
      intro hk
      rw [cnt_snoc hk, ih (by omega), any_snoc (p := fun a => sameP a p) hk]
      cases e : sameP xs[k] p
      · rw [Bool.or_false, if_neg (by decide : ¬ (false = true)), Nat.add_zero]
      · have hp := sameP_path e
        have := ho k hk
        rw [hp] at this
        rw [this]; rfl
  have := key xs.length (Nat.le_refl _)
  rw [List.take_length, ha] at this
  exact this
theorem fine_once {xs : List ReqB} (h : Fine xs) : Once xs := fun k hk => (reqE_iff.1 (h k hk)).2
theorem raise_one {f : FileG} {m : ModB} (h : chkE f = 0) (k : chkE (f.with [(m, false)]) = 0) : cntP (raiseL f.reqs m) m.1 = 1 := cnt_one (fine_once (fine_raise (chk_fine h) (chk_mod k))) (raise_has _ _)
end Go.Proofs.YtmdlmjcejeejfaaGreatDoor

/-
  Small facts for the walk of ShowRequires.
-/
namespace Go.Proofs.YtmdlmjcejeejfaaGreatDoor
open Go.RowKit Go.Shelf

theorem below_zero {w w' : World} {o : Obj} (h : Below (w.alloc o).drew.heap.size (w.alloc o).drew w') : Below w.heap.size w w' :=
  ((Below.refl _ _).alloc (Nat.le_refl _) o).trans ((below_drewN' (n := 1) h).mono (by simp))
theorem below_zero2 {w w' : World} {o : Obj} (h : Below (w.alloc o).heap.size (w.alloc o) w') : Below w.heap.size w w' :=
  ((Below.refl _ _).alloc (Nat.le_refl _) o).trans (h.mono (by simp))
theorem below_drew1 {w w' : World} (h : Below w.drew.heap.size w.drew w') : Below w.heap.size w w' := below_drewN' (n := 1) h
theorem gblk_zero {w w' : World} {t : TypeId} {cs : Array Value} (h : Below (w.alloc (.cells cs t)).drew.heap.size (w.alloc (.cells cs t)).drew w') : GBlk w' w.heap.size t cs := (GBlk.new w t cs).drew.below h
theorem gblk_zero2 {w w' : World} {t : TypeId} {cs : Array Value} (h : Below (w.alloc (.cells cs t)).heap.size (w.alloc (.cells cs t)) w') : GBlk w' w.heap.size t cs := (GBlk.new w t cs).below h
theorem FileAt.alloc {w : World} {a b c d : Value} {f : FileG} (h : FileAt w a b c d f) (o : Obj) : FileAt (w.alloc o) a b c d f := h.below ((Below.refl _ _).alloc (Nat.le_refl _) o)
theorem FileAt.drew {w : World} {a b c d : Value} {f : FileG} (h : FileAt w a b c d f) : FileAt w.drew a b c d f := ⟨h.reqs, h.reps, h.excs, h.rets⟩
theorem FileAt.six {w : World} {a b c d : Value} {f : FileG} {B : Nat} (h : FileAt w a b c d f) (ho : FileOff B a b c d f) (v0 v1 v2 v3 v4 v5 : Value) :
    FileAt ((((((w.setCell ⟨B, 0, none⟩ v0).setCell ⟨B, 1, none⟩ v1).setCell ⟨B, 2, none⟩ v2).setCell ⟨B, 3, none⟩ v3).setCell ⟨B, 4, none⟩ v4).setCell ⟨B, 5, none⟩ v5) a b c d f :=
  (((((h.setOff ho).setOff ho).setOff ho).setOff ho).setOff ho).setOff ho
theorem GBlk.cells6 {w : World} {B : Nat} {t : TypeId} {v0 v1 v2 v3 v4 v5 : Value} (h : GBlk w B t #[v0, v1, v2, v3, v4, v5]) :
    w.cell? ⟨B, 0, none⟩ = some v0 ∧ w.cell? ⟨B, 1, none⟩ = some v1 ∧ w.cell? ⟨B, 2, none⟩ = some v2 ∧ w.cell? ⟨B, 3, none⟩ = some v3 ∧ w.cell? ⟨B, 4, none⟩ = some v4 ∧ w.cell? ⟨B, 5, none⟩ = some v5 :=
  ⟨h.cell 0, h.cell 1, h.cell 2, h.cell 3, h.cell 4, h.cell 5⟩
theorem GBlk.sixO {w : World} {B B' : Nat} {t : TypeId} {cs : Array Value} (h : GBlk w B t cs) (hne : B ≠ B') (v0 v1 v2 v3 v4 v5 : Value) :
    GBlk ((((((w.setCell ⟨B', 0, none⟩ v0).setCell ⟨B', 1, none⟩ v1).setCell ⟨B', 2, none⟩ v2).setCell ⟨B', 3, none⟩ v3).setCell ⟨B', 4, none⟩ v4).setCell ⟨B', 5, none⟩ v5) B t cs :=
  (((((h.setOther hne).setOther hne).setOther hne).setOther hne).setOther hne).setOther hne
theorem GBlk.cells2 {w : World} {B : Nat} {t : TypeId} {v0 v1 : Value} (h : GBlk w B t #[v0, v1]) : w.cell? ⟨B, 0, none⟩ = some v0 ∧ w.cell? ⟨B, 1, none⟩ = some v1 := ⟨h.cell 0, h.cell 1⟩
/-- .. with its lists' forms. -/
theorem FileErr.forms {r : FileG × Int} {w : World} {e : Ending} {w' : World} (h : FileErr r w e w') : ∃ A0 c0 A1 c1 A2 c2 A3 c3, e = .returned (.tuple #[.agg #[.string r.1.mo, .string r.1.go, .slice A0 r.1.reqs.length c0, .slice A1 r.1.reps.length c1, .slice A2 r.1.excs.length c2, .slice A3 r.1.rets.length c3], .int .i64 r.2]) ∧
    FileAt w' (.slice A0 r.1.reqs.length c0) (.slice A1 r.1.reps.length c1) (.slice A2 r.1.excs.length c2) (.slice A3 r.1.rets.length c3) r.1 ∧ Below w.heap.size w w' := by
  obtain ⟨a, b, c, d, rfl, hF, hb⟩ := h
  obtain ⟨A0, c0, rfl⟩ := hF.reqs.form
  obtain ⟨A1, c1, rfl⟩ := hF.reps.form
  obtain ⟨A2, c2, rfl⟩ := hF.excs.form
  obtain ⟨A3, c3, rfl⟩ := hF.rets.form
  exact ⟨A0, c0, A1, c1, A2, c2, A3, c3, rfl, hF, hb⟩
theorem FileErrO.forms {r : FileG × Int} {a b c d : Value} {f : FileG} {w : World} {e : Ending} {w' : World} (h : FileErrO r a b c d f w e w') : ∃ A0 c0 A1 c1 A2 c2 A3 c3, e = .returned (.tuple #[.agg #[.string r.1.mo, .string r.1.go, .slice A0 r.1.reqs.length c0, .slice A1 r.1.reps.length c1, .slice A2 r.1.excs.length c2, .slice A3 r.1.rets.length c3], .int .i64 r.2]) ∧
    FileAt w' (.slice A0 r.1.reqs.length c0) (.slice A1 r.1.reps.length c1) (.slice A2 r.1.excs.length c2) (.slice A3 r.1.rets.length c3) r.1 ∧ Below w.heap.size w w' ∧
    ∀ B, B < w.heap.size → FileOff B a b c d f → FileOff B (.slice A0 r.1.reqs.length c0) (.slice A1 r.1.reps.length c1) (.slice A2 r.1.excs.length c2) (.slice A3 r.1.rets.length c3) r.1 := by
  obtain ⟨a, b, c, d, rfl, hF, hb, ho⟩ := h
  obtain ⟨A0, c0, rfl⟩ := hF.reqs.form
  obtain ⟨A1, c1, rfl⟩ := hF.reps.form
  obtain ⟨A2, c2, rfl⟩ := hF.excs.form
  obtain ⟨A3, c3, rfl⟩ := hF.rets.form
  exact ⟨A0, c0, A1, c1, A2, c2, A3, c3, rfl, hF, hb, ho⟩

theorem zero_sized : Sized zeroG := ⟨by decide, by decide, by decide, by decide, by decide, by decide, by simp [zeroG], by simp [zeroG], by simp [zeroG], by simp [zeroG]⟩
theorem raise_len (xs : List ReqB) (m : ModB) : (raiseL xs m).length ≤ xs.length + 1 := by
  unfold raiseL
  split
  · simp
  · simp
theorem raise_mem {xs : List ReqB} {m : ModB} (h : ∀ x ∈ xs, x.1.1.size ≤ 20000 ∧ x.1.2.size ≤ 20000) (s1 : m.1.size ≤ 20000) (s2 : m.2.size ≤ 20000) : ∀ x ∈ raiseL xs m, x.1.1.size ≤ 20000 ∧ x.1.2.size ≤ 20000 := by
  intro x hx
  unfold raiseL at hx
  split at hx
  · obtain ⟨r, hr, rfl⟩ := List.mem_map.1 hx
    refine ⟨by rw [lift_path]; exact (h r hr).1, ?_⟩
    unfold lift
    split
    · rcases max_or r.1.2 m.2 with e | e
      · show (maxS r.1.2 m.2).size ≤ _
        rw [e]; exact (h r hr).2
      · show (maxS r.1.2 m.2).size ≤ _
        rw [e]; exact s2
    · exact (h r hr).2
  · rcases List.mem_append.1 hx with hx | hx
    · exact h x hx
    · rw [List.mem_singleton.1 hx]; exact ⟨s1, s2⟩
theorem reqO_sized {f : FileG} {m : ModB} (h : Sized f) (hn : f.reqs.length ≤ 900) (s1 : m.1.size ≤ 20000) (s2 : m.2.size ≤ 20000) : Sized (reqO f m).1 := by
  unfold reqO
  split
  · split
    · exact ⟨h.mo, h.go, by have := raise_len f.reqs m; show (raiseL f.reqs m).length ≤ 1000; omega, h.nreps, h.nexcs, h.nrets, raise_mem h.reqs s1 s2, h.reps, h.excs, h.rets⟩
    · exact zero_sized
  · exact zero_sized
theorem dropO_sized {f : FileG} {q : ByteArray} (h : Sized f) : Sized (dropO f q).1 := by
  unfold dropO
  split
  · exact zero_sized
  · exact ⟨h.mo, h.go, Nat.le_trans (drop_len _ _) h.nreqs, h.nreps, h.nexcs, h.nrets, fun x hx => h.reqs x (List.mem_filter.1 hx).1, h.reps, h.excs, h.rets⟩
theorem req_ok {f p : FileG} {m : ModB} (h : reqO f m = (p, 0)) : chkE f = 0 ∧ chkE (f.with [(m, false)]) = 0 ∧ p = f.with (raiseL f.reqs m) := by
  by_cases h1 : chkE f = 0
  · by_cases h2 : chkE (f.with [(m, false)]) = 0
    · rw [reqO_3 h1 h2] at h
      exact ⟨h1, h2, (Prod.mk.inj h).1.symm⟩
    · rw [reqO_2 h1 h2] at h
      exact absurd (Prod.mk.inj h).2 h2
  · rw [reqO_1 h1] at h
    exact absurd (Prod.mk.inj h).2 h1
theorem req_all {f p : FileG} {m : ModB} (h : reqO f m = (p, 0)) : cntP p.reqs m.1 = 1 ∧ (∀ x ∈ p.reqs, sameP x m.1 = true → 0 ≤ scmp x.1.2.data.toList m.2.data.toList) ∧ reqO p m = (p, 0) ∧ chkE p = 0 := by
  obtain ⟨h1, h2, rfl⟩ := req_ok h
  exact ⟨raise_one h1 h2, raise_ge, reqO_again h1 h2, chk_raise h1 h2⟩
theorem cnt_same {xs : List ReqB} {p : ByteArray} {k : Nat} (hk : k < xs.length) (h : sameP xs[k] p = true) : cntP (xs.take (k + 1)) p = cntP (xs.take k) p + 1 := by rw [cnt_snoc hk, if_pos h]
theorem cnt_other {xs : List ReqB} {p : ByteArray} {k : Nat} (hk : k < xs.length) (h : sameP xs[k] p = false) : cntP (xs.take (k + 1)) p = cntP (xs.take k) p := by rw [cnt_snoc hk, h]; rfl
theorem cnt_le (xs : List ReqB) (p : ByteArray) : cntP xs p ≤ xs.length := List.length_filter_le _ _
end Go.Proofs.YtmdlmjcejeejfaaGreatDoor
