/-
  The versions that there are of a path: the document's; whether two lists of texts are the same.
-/
import Derived.Test.YtcbpkbemnaondaaGreatDoorN11
import Derived.Test.YtcbpkbemnaondaaGreatDoorN9
import Derived.Deep.RegionHeld3
namespace Go.Proofs.YtcbpkbemnaondaaGreatDoor
open Go.RowKit Go.Shelf

theorem ROwn.same {α : Type} {R : Rec α} {et : TypeId} {w w' : World} {base : Nat} {v : Value} {xs : List α} (h : ROwn R et w base v xs) (hb : ∀ k, k < w.heap.size → v.ownBlock = some k → w'.heap[k]? = w.heap[k]?) : ROwn R et w' base v xs := by
  obtain ⟨hl, h0 | ⟨g, cap, cur, rfl, hg, hh, hr⟩⟩ := h
  · exact ⟨hl, .inl h0⟩
  · exact ⟨hl, .inr ⟨g, cap, cur, rfl, hg, (hb g (Array.getElem?_eq_some_iff.1 hh).1 rfl).trans hh, hr⟩⟩
theorem addV_no1 {path : ByteArray} {out : List ByteArray} {x : EntB} (h : ¬ x.p = path) : addV path out x = out := by simp [addV, h]
theorem addV_no2 {path : ByteArray} {out : List ByteArray} {x : EntB} (h : out.getLast? = some x.v) : addV path out x = out := by simp [addV, h]
theorem addV_yes {path : ByteArray} {out : List ByteArray} {x : EntB} (h : x.p = path) (k : ¬ out.getLast? = some x.v) : addV path out x = out ++ [x.v] := by simp [addV, h, k]
theorem lastV_at {out : List ByteArray} {m : Nat} (h : out.length = m + 1) (hm : m < out.length) : out.getLast? = some out[m] := by
  rw [List.getLast?_eq_getElem?, h]
  simp [hm]
theorem versL_len (path : ByteArray) (ss : List EntB) : ∀ k, k ≤ ss.length → (versL path (ss.take k)).length ≤ k := by
  intro k
  induction k with
  | zero => intro _; simp [versL]
  | succ k ih =>
    intro hk
    have := ih (by omega)
    rw [versL_snoc path ss k (by omega)]
    have h2 := addV_len path (versL path (ss.take k)) ss[k]
    split at h2 <;> omega
def VOut (ys : List ByteArray) (w : World) (e : Ending) (w' : World) : Prop := ∃ A c, e = .returned (.slice A ys.length c) ∧ RRow strR w' (.slice A ys.length c) ys ∧ Below w.heap.size w w'

set_option maxRecDepth 100000 in
set_option maxHeartbeats 4000000 in
theorem rversions_any (xs : List EntB) (v : Value) (path : ByteArray) (w : World) (hv : RRow entR w v xs) (hL : LightE xs) :
    Calls Tryz.prog 18 #[v, .string path] w (VOut (versL path (sortE xs)) w) := by
  have h0 := RAcc.start (R := strR) (et := 9) w
  have HA0 := Lib.hid h0
  have HC := Lib.hid (rsort_any xs v _ (hv.below h0.below) hL)
  have hsl : (sortE xs).length ≤ 50 := by rw [(sortE_perm xs).length_eq]; exact hL.1
  obtain ⟨a, c, rfl, hlc, -⟩ := hv
  clear hL h0
  go_enter Tryz.func18, Tryz.ntmps18
  go_wp2_with fail
  refine HC.out.mono ?_
  rintro _ w1 ⟨A1, c1, rfl, hs1, hb1⟩
  have hacc0 := HA0.out.call hb1
  generalize sortE xs = ss at *
  have HA1 := Lib.hid hacc0
  have HS1 := Lib.hid hs1
  clear HC HA0 hs1 hb1 hacc0
  go_wp2
  go_loopw [5, 7] (fun ov i wr => ∃ (k : Nat) (out : List ByteArray) (A : Option Addr) (c' : Nat), k ≤ ss.length ∧ i = .int .i64 k ∧ ov = .slice A out.length c' ∧ out = versL path (ss.take k) ∧ RAcc strR 9 w wr (.slice A out.length c') out ∧ ROwn entR 29 wr 0 (.slice A1 ss.length c1) ss) (fun _ i _ => ss.length - (intOf i).toNat)
  case atStart => exact ⟨0, [], _, 0, Nat.zero_le _, rfl, rfl, rfl, HA1.out, HS1.out.lower (Nat.zero_le _)⟩
  case round =>
    obtain ⟨k, out, A, c', hk, rfl, rfl, hO, hacc, hS⟩ := hrel
    by_cases hlt : k < ss.length
    · obtain ⟨a', c'', e', -, hcl⟩ := hS.row
      simp only [Value.slice.injEq] at e'
      obtain ⟨rfl, -, rfl⟩ := e'
      obtain ⟨g, o, rfl, hg, hat⟩ := hcl (ne_of_lt hlt)
      obtain ⟨q1, q2, -, -⟩ := ent_at hat k hlt
      have HN := Lib.hid (show versL path (ss.take (k + 1)) = addV path out ss[k] by rw [versL_snoc path ss k hlt, hO])
      have hol : out.length ≤ 50 := by rw [hO]; have := versL_len path ss k hk; omega
      clear hat hcl
      generalize ss[k] = x at *
      have V0 := Lib.hid (@addV_no1 path out x)
      have V1 := Lib.hid (@addV_no2 path out x)
      have V2 := Lib.hid (@addV_yes path out x)
      obtain ⟨xp, xv, xg, xa, xn, xc⟩ := x
      dsimp only at q1 q2 V0 V1 V2
      have HO := Lib.hid hO
      have HA := Lib.hid hacc
      have HSS := Lib.hid hS
      clear hO hS
      have HAp := Lib.hid (fun (w4 : World) (h : ∀ b, b < wr.heap.size → (Value.slice A out.length c').ownBlock ≠ some b → w4.heap[b]? = wr.heap[b]?) => HSS.out.same (w' := w4) (fun b hb e => h b hb (fun e2 => by
        rcases HSS.out.apart HA.out.own (by decide) with h1 | h1
        · rw [h1] at e; cases e
        · exact h1 (e.trans e2.symm))))
      cases hp : (xp.toList == path.toList)
      · have HZ := Lib.hid (HN.out.trans (V0.out (ne_list hp)))
        clear HN V0 V1 V2 HAp hacc
        go_wp2
        go_roundw
        case rel => exact ⟨k + 1, out, A, c', by omega, by go_num, rfl, HZ.out.symm, HA.out, HSS.out⟩
        case measure => simp [intOf]; omega
      · have hpe : xp = path := eq_size (eq_of_beq hp)
        have HP := Lib.hid hpe
        clear hpe hacc
        rcases Nat.eq_zero_or_pos out.length with hz | hz
        · have hnil : out = [] := List.length_eq_zero_iff.1 hz
          subst hnil
          have HZ := Lib.hid (HN.out.trans (V2.out HP.out (by simp)))
          clear HN V0 V1 V2 hz
          go_wp2_with (at_builtin; refine wpList_racc strTy rfl _ _ rfl (HA.out.alloc _) rfl (RRow.oneB (R := strR) 9 xv #[.string xv] rfl) rfl (by first | (simp; done) | (simp; omega)) ?_; intro A4 c4 acc4 w4 hgr)
          have HG := Lib.hid hgr
          clear hgr
          go_roundw
          case rel => exact ⟨k + 1, acc4, A4, c4, by omega, by go_num, rfl, by rw [HG.out.list, HZ.out], HG.out.acc, HAp.out w4 (fun b hb hne => (HG.out.far b (by simp; omega) hne).trans (Below.heap_alloc _ _ _ hb))⟩
          case measure => simp [intOf]; omega
        · obtain ⟨m, hm⟩ : ∃ m, out.length = m + 1 := ⟨out.length - 1, by omega⟩
          have i3 : m < out.length := by omega
          obtain ⟨a2, c2, e2, -, hcl2⟩ := HA.out.own.row
          simp only [Value.slice.injEq] at e2
          obtain ⟨rfl, -, rfl⟩ := e2
          obtain ⟨gz, oz, rfl, hgz, haz⟩ := hcl2 (ne_of_lt i3)
          have t1 := str_at haz m i3
          have HLs := Lib.hid (lastV_at hm i3)
          have i1 : (out.length : Int) - 1 = (m : Int) := by omega
          have i2 : IntKind.i64.wrap (m : Int) = (m : Int) := IntWalk.i64_in _ (by omega)
          have i4 : ¬ out.length = 0 := by omega
          have i5 : ¬ out = [] := ne_of_lt i3
          have HM := Lib.hid hm
          clear haz hcl2 hm
          generalize out[m] = z at *
          cases hzv : (z.toList == xv.toList)
          · have HZ := Lib.hid (HN.out.trans (V2.out HP.out (by rw [HLs.out]; intro e; exact ne_list hzv (Option.some.inj e))))
            clear HN V0 V1 V2 HLs
            go_wp2_with (at_builtin; refine wpList_racc strTy rfl _ _ rfl (HA.out.alloc _) rfl (RRow.oneB (R := strR) 9 xv #[.string xv] rfl) rfl (by first | (simp; done) | (simp; omega)) ?_; intro A4 c4 acc4 w4 hgr)
            have HG := Lib.hid hgr
            clear hgr
            go_roundw
            case rel => exact ⟨k + 1, acc4, A4, c4, by omega, by go_num, rfl, by rw [HG.out.list, HZ.out], HG.out.acc, HAp.out w4 (fun b hb hne => (HG.out.far b (by simp; omega) hne).trans (Below.heap_alloc _ _ _ hb))⟩
            case measure => simp [intOf]; omega
          · have HZ := Lib.hid (HN.out.trans (V1.out (by rw [HLs.out, eq_size (eq_of_beq hzv)])))
            clear HN V0 V1 V2 HLs HAp
            go_wp2
            go_roundw
            case rel => exact ⟨k + 1, out, _, c', by omega, by go_num, rfl, HZ.out.symm, HA.out, HSS.out⟩
            case measure => simp [intOf]; omega
    · have HE := Lib.hid (show out = versL path ss by rw [hO, List.take_of_length_le (by omega)])
      have HA := Lib.hid hacc
      clear hO hS hacc
      go_wp2
      go_ret
      rw [← HE.out]
      exact ⟨A, c', rfl, HA.out.own.row, HA.out.below⟩
end Go.Proofs.YtcbpkbemnaondaaGreatDoor

/-
  The versions of a path rise; no two of them are alike: the law's own walk.
-/
namespace Go.Proofs.YtcbpkbemnaondaaGreatDoor
open Go.RowKit Go.Shelf

set_option maxRecDepth 100000 in
set_option maxHeartbeats 2000000 in
theorem same_any (zs : List ByteArray) (V U : Value) (w : World) (hV : RRow strR w V zs) (hU : RRow strR w U zs) (hl : zs.length ≤ 1000) :
    Calls Tryz.prog 16 #[V, U] w fun e w' => e = .returned (.bool true) ∧ ∃ n, w' = w.drewN n := by
  have HV := Lib.hid hV
  have HU := Lib.hid hU
  obtain ⟨a, c, rfl, -, -⟩ := hV
  obtain ⟨a2, c2, rfl, -, -⟩ := hU
  go_enter Tryz.func16, Tryz.ntmps16
  go_wp2
  go_loopw [5] (fun i wr => ∃ k m : Nat, k ≤ zs.length ∧ i = .int .i64 k ∧ wr = w.drewN m) (fun i _ => zs.length - (intOf i).toNat)
  case atStart => exact ⟨0, 0, Nat.zero_le _, rfl, rfl⟩
  case round =>
    obtain ⟨k, m, hk, rfl, rfl⟩ := hrel
    by_cases hlt : k < zs.length
    · obtain ⟨a', c', e, -, h1⟩ := HV.out
      simp only [Value.slice.injEq] at e
      obtain ⟨rfl, -, rfl⟩ := e
      obtain ⟨a'', c'', e, -, h2⟩ := HU.out
      simp only [Value.slice.injEq] at e
      obtain ⟨rfl, -, rfl⟩ := e
      obtain ⟨g, o, rfl, hg, hat⟩ := h1 (ne_of_lt hlt)
      obtain ⟨g2, o2, rfl, hg2, hat2⟩ := h2 (ne_of_lt hlt)
      have t1 := str_at hat k hlt
      have t2 := str_at hat2 k hlt
      clear hat hat2 h1 h2
      generalize zs[k] = y at *
      have hy : (y.toList != y.toList) = false := by simp
      go_wp2
      go_region
      go_wp2
      go_roundw
      case rel => exact ⟨k + 1, m + 1, by omega, by go_num, rfl⟩
      case measure => simp [intOf]; omega
    · go_wp2
      go_ret
      exact ⟨rfl, m, rfl⟩

theorem app_cancel {p a b : ByteArray} (h : p ++ a = p ++ b) : a = b := by
  have := congrArg (fun x : ByteArray => x.data.toList) h
  simp only [ByteArray.data_append, Array.toList_append] at this
  exact data_inj (List.append_cancel_left this)
theorem atB_ne {p a b : ByteArray} (h : ¬ a = b) : ¬ atB (p, a) = atB (p, b) := by
  intro e
  cases ha : a.toList.isEmpty
  · cases hb : b.toList.isEmpty
    · rw [atB_2 ha, atB_2 hb] at e
      exact h (app_cancel e)
    · rw [atB_2 ha, atB_1 hb] at e
      have := congrArg ByteArray.size e
      simp only [ByteArray.size_append] at this
      have e1 : (⟨#[64]⟩ : ByteArray).size = 1 := rfl
      omega
  · cases hb : b.toList.isEmpty
    · rw [atB_1 ha, atB_2 hb] at e
      have := congrArg ByteArray.size e
      simp only [ByteArray.size_append] at this
      have e1 : (⟨#[64]⟩ : ByteArray).size = 1 := rfl
      omega
    · have h1 : a.toList = [] := by simpa using ha
      have h2 : b.toList = [] := by simpa using hb
      exact h (eq_size (by rw [h1, h2]))
theorem list_ne {a b : ByteArray} (h : ¬ a = b) : (a.toList == b.toList) = false := by
  cases e : (a.toList == b.toList)
  · rfl
  · exact absurd (eq_size (eq_of_beq e)) h
theorem at_big (p v : ByteArray) (hp : p.size ≤ 20400) (hv : v.size ≤ 20400) {n : ByteArray} (h : atB (p, v) = n) (w : World) :
    Calls Tryz.prog 24 #[.agg #[.string p, .string v]] w fun e w' => e = .returned (.string n) ∧ Below w.heap.size w w' :=
  (at_any p v hp hv w).mono fun _ _ k => ⟨by rw [k.1, h], k.2⟩

theorem two_keep {W W' : World} {B : Nat} {p v q u : ByteArray} (h : Below W.heap.size W W') (hz : B + 1 < W.heap.size) (k : W.cell? ⟨B, 0, none⟩ = some (.string p) ∧ W.cell? ⟨B, 1, none⟩ = some (.string v) ∧ W.cell? ⟨B + 1, 0, none⟩ = some (.string q) ∧ W.cell? ⟨B + 1, 1, none⟩ = some (.string u)) : W'.cell? ⟨B, 0, none⟩ = some (.string p) ∧ W'.cell? ⟨B, 1, none⟩ = some (.string v) ∧ W'.cell? ⟨B + 1, 0, none⟩ = some (.string q) ∧ W'.cell? ⟨B + 1, 1, none⟩ = some (.string u) := by
  obtain ⟨c0, c1, c2, c3⟩ := k
  refine ⟨?_, ?_, ?_, ?_⟩
  · exact (h.cell (p := ⟨B, 0, none⟩) (by show B < _; omega)).trans c0
  · exact (h.cell (p := ⟨B, 1, none⟩) (by show B < _; omega)).trans c1
  · exact (h.cell (p := ⟨B + 1, 0, none⟩) hz).trans c2
  · exact (h.cell (p := ⟨B + 1, 1, none⟩) hz).trans c3

end Go.Proofs.YtcbpkbemnaondaaGreatDoor
