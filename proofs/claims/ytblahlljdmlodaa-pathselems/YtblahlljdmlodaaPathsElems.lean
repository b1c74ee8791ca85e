/-
  For every text s the Go function graftbedlaw01.PathsElems returns true: the elements of s, with slashes between, are s, and none of them has a slash (P1.1). No condition.
-/
import Derived.Test.YtblahlljdmlodaaRows
import Derived.Test.YtblahlljdmlodaaW7
import Derived.WalkKit
import Derived.ProofKit
import Derived.OpenShut
import Derived.ShutString
import Derived.ChangeOld
import Derived.Below
namespace Go.Proofs.Ytblahlljdmlodaa.pathsElems
open Go.ChangeShapes Go.WideShapes Go.ChangeAt Go.RowKit
open Go.ChangeMaps (open_string shut_string)
set_option linter.unusedVariables false

theorem own : ownKnob Try.prog.godebug = none := by kernel_rfl

theorem joinL_snoc (z : List UInt8) : ∀ ys : List (List UInt8), joinL (ys ++ [z]) = if ys = [] then z else joinL ys ++ 47 :: z
  | [] => rfl
  | [p] => rfl
  | p :: q :: t => by
    have ih := joinL_snoc z (q :: t)
    simp only [List.cons_append, List.cons_ne_nil, if_false] at ih ⊢
    rw [joinL_cons p (by simp), ih]
    simp [joinL]
def tTo (s : ByteArray) (k : Nat) : List UInt8 := joinL ((els s.data.toList).take k)
theorem elemsB_get {s : ByteArray} {k : Nat} (h : k < (elemsB s).length) : (els s.data.toList)[k]? = some (elemsB s)[k].data.toList := by
  have h' : k < (els s.data.toList).length := by simpa [elemsB] using h
  rw [List.getElem?_eq_getElem h']
  simp [elemsB, data_mkB]
theorem tTo_snoc {s : ByteArray} {k : Nat} (h : k < (elemsB s).length) : tTo s (k + 1) = if k = 0 then (elemsB s)[k].data.toList else tTo s k ++ 47 :: (elemsB s)[k].data.toList := by
  have h' : k < (els s.data.toList).length := by simpa [elemsB] using h
  unfold tTo
  have hg := elemsB_get h
  rw [List.getElem?_eq_getElem h'] at hg
  rw [List.take_succ_eq_append_getElem h', Option.some.inj hg, joinL_snoc]
  by_cases hk : k = 0
  · subst hk; simp
  · rw [if_neg hk, if_neg]
    intro e
    have := congrArg List.length e
    rw [List.length_take, List.length_nil] at this
    omega
theorem tTo_end {s : ByteArray} {k : Nat} (h : (elemsB s).length ≤ k) : tTo s k = s.data.toList := by
  unfold tTo
  rw [List.take_of_length_le (by simpa [elemsB] using h), joinL_els]
theorem tTo_size {s : ByteArray} : ∀ k, k ≤ (elemsB s).length → (tTo s k).length ≤ k * (s.size + 1)
  | 0, _ => by simp [tTo, joinL]
  | k + 1, h => by
    have ih := tTo_size (s := s) k (by omega)
    have hlt : k < (elemsB s).length := by omega
    have hz := elemsB_size (List.getElem_mem hlt)
    rw [← size_data] at hz
    rw [tTo_snoc hlt, Nat.succ_mul]
    split
    · omega
    · rw [List.length_append, List.length_cons]; omega
theorem no_slash {s : ByteArray} {k : Nat} (h : k < (elemsB s).length) {m : Nat} (hm : m < (elemsB s)[k].size) : (((elemsB s)[k][m].toNat : Int) == 47) = false := by
  have hmem : (elemsB s)[k].data.toList ∈ els s.data.toList := List.mem_of_getElem? (elemsB_get h)
  have h' : (elemsB s)[k].data.toList ∈ spl s.data.toList := by
    unfold els at hmem
    split at hmem
    · simp at hmem
    · exact hmem
  have := spl_noslash _ _ h' _ (mem_data _ m hm)
  rw [beq_eq_false_iff_ne]
  intro e
  apply this
  apply UInt8.toNat.inj
  show (elemsB s)[k][m].toNat = 47
  omega
theorem data_append (a b : ByteArray) : (a ++ b).data.toList = a.data.toList ++ b.data.toList := by simp
theorem ab_len : (elemsB ⟨#[97, 47, 98]⟩).length = 2 := by decide +kernel
theorem x_self {x s : ByteArray} (h : x.data.toList = s.data.toList) : x = s := by
  rw [← mkB_data x, h, mkB_data]
set_option maxRecDepth 100000 in
set_option maxHeartbeats 1000000 in
theorem walk (a0 : ByteArray) (w0 : a0.size ≤ maxLen) (w : World) :
    Calls Try.prog 10 #[.string a0] w fun e w' => e = .returned (.bool true) ∧ Below w.heap.size w w' := by
  by_cases h0 : a0.size ≤ 2048
  · have hcount := elemsB_count a0
    have hsz := Lib.hid (fun e (h : e ∈ elemsB a0) => elemsB_size h)
    go_enter Try.func10, Try.ntmps10
    go_wp2_with fail
    refine (elems_any a0 (by omega) _).mono ?_
    rintro _ w1 ⟨v, rfl, ⟨a, cap, rfl, hc⟩, hb⟩
    have HC := Lib.hid hc
    clear hc
    go_wp2
    go_loop [4, 5] (fun t i => ∃ (k : Nat) (x : ByteArray), k ≤ (elemsB a0).length ∧ i = .int .i64 k ∧ t = .string x ∧ x.data.toList = tTo a0 k) (fun _ i => (elemsB a0).length - (intOf i).toNat)
    case atStart => exact ⟨0, ⟨#[]⟩, Nat.zero_le _, rfl, rfl, rfl⟩
    case round =>
      obtain ⟨k, x, hk, rfl, rfl, ht⟩ := hrel
      have HT := Lib.hid ht
      clear ht
      by_cases hlt : k < (elemsB a0).length
      · obtain ⟨g, rfl, hg, hcell⟩ := HC.out (by intro e; rw [e] at hlt; simp at hlt)
        have q1 := hcell k hlt
        have hes : (elemsB a0)[k].size ≤ 4200 := Nat.le_trans (hsz.out _ (List.getElem_mem hlt)) (by omega)
        have HN := Lib.hid (fun m h => no_slash hlt (m := m) h)
        have HY := Lib.hid (tTo_snoc hlt)
        have hxs : x.size ≤ 4200 * 2049 := by
          have := tTo_size k hk
          rw [← HT.out, size_data] at this
          exact Nat.le_trans this (Nat.mul_le_mul (by omega) (by omega))
        clear hcell
        generalize (elemsB a0)[k] = y at *
        by_cases hk0 : k = 0
        · subst hk0
          go_wp2
          go_loop [6] (fun i => ∃ m : Nat, m ≤ y.size ∧ i = .int .i64 m) (fun i => y.size - (intOf i).toNat)
          case atStart => exact ⟨0, Nat.zero_le _, rfl⟩
          case round =>
            obtain ⟨m, hm, rfl⟩ := hrel
            by_cases hmt : m < y.size
            · have hns := HN.out m hmt
              go_wp2
              go_round
              case rel => exact ⟨m + 1, by omega, by go_num⟩
              case measure => simp [intOf]; omega
            · go_wp2
              go_round
              case rel => exact ⟨1, x ++ y, by omega, rfl, rfl, by rw [HY.out, data_append, HT.out]; rfl⟩
              case measure => simp [intOf]; omega
        · have hk1 : (0 : Int) < k := by omega
          go_wp2
          go_loop [6] (fun i => ∃ m : Nat, m ≤ y.size ∧ i = .int .i64 m) (fun i => y.size - (intOf i).toNat)
          case atStart => exact ⟨0, Nat.zero_le _, rfl⟩
          case round =>
            obtain ⟨m, hm, rfl⟩ := hrel
            by_cases hmt : m < y.size
            · have hns := HN.out m hmt
              go_wp2
              go_round
              case rel => exact ⟨m + 1, by omega, by go_num⟩
              case measure => simp [intOf]; omega
            · go_wp2
              go_round
              case rel => exact ⟨k + 1, x ++ ⟨#[47]⟩ ++ y, by omega, by go_num, rfl, by rw [HY.out, if_neg hk0, data_append, data_append, HT.out]; simp⟩
              case measure => simp [intOf]; omega
      · have hxe := x_self (HT.out.trans (tTo_end (by omega)))
        subst hxe
        go_wp2_with fail
        refine (relems_any x (by omega) _).mono ?_
        rintro _ w2 ⟨v2, rfl, ⟨a2, cap2, rfl, hc2⟩, hb2⟩
        clear hc2
        go_wp2_with fail
        refine (elems_any ⟨#[97, 47, 98]⟩ (by decide) _).mono ?_
        rintro _ w3 ⟨v3, rfl, ⟨a3, cap3, rfl, hc3⟩, hb3⟩
        clear hc3
        go_wp2
        go_ret
        exact ⟨ret_bool (by rw [ab_len]; rfl), (hb.trans (hb2.mono hb.size)).trans (hb3.mono (Nat.le_trans hb.size hb2.size))⟩
  · go_enter Try.func10, Try.ntmps10
    go_wp2
    go_ret
    exact ⟨rfl, Below.refl _ _⟩

set_option maxRecDepth 100000 in
theorem lifted (os : Os) (started : os.Started) (H : Type) (enc : TypeId × Value → H) :
    ReturnsInHanded {} Try.checked os 10 .any (Rows.pathsElemsSpec.pre6 enc Try.prog Try.f10 Rows.pathsElemsRow.domain false) (Rows.pathsElemsSpec.post enc Try.prog Try.f10 false true false false) := by
  refine returnsInHanded_of_change (C := Try.checked) own started (by kernel_rfl) Try.func10
    (ChangeSpec.witness6 (enc := enc) (C := Try.checked) false ⟨#[], #[.string ByteArray.empty], []⟩ 8 (by kernel_rfl) (by kernel_rfl) (by kernel_rfl) (by kernel_rfl)) ?_
  intro W base args ds gs before hval0 hW hcnd _
  have hval : ∀ (j : Nat) t v, Try.f10.params[j]? = some t → args[j]? = some v → Value.okWide Try.prog W .any base t v := hval0
  have hW' := hW
  obtain ⟨p, q, hA0, hV, rfl, hfz, hnd⟩ := hW
  have hA : DataW.TrodAll enc Try.prog W 0 (fun _ => true) true Try.f10.params.toList args.toList ds p := hA0
  rw [Try.params10] at hA hval
  obtain ⟨v0, vs0, d0, ds0, p0, q0, hargs, rfl, rfl, h0, r0⟩ := trodAll_cons hA
  obtain ⟨rfl, rfl, rfl⟩ := trodAll_nil r0
  obtain rfl : args = #[v0] := by cases args; simp_all
  obtain ⟨rfl, rfl⟩ := trodVars_none hV
  obtain ⟨a0, rfl, rfl, rfl, w0⟩ := open_string Try.underlying9 (hval 0 9 v0 rfl rfl) h0
  clear hA0 hval0
  simp only [List.append_nil] at hW'
  refine (walk a0 w0 W).mono fun e W' ⟨he, bel⟩ => ?_
  subst he
  exact ⟨_, rfl, _, _, _, [], [], [], hW', trodAll_mk1 (shut_bool Try.underlying4 _), (trodAll_cons_mk (shut_string Try.underlying9 w0) trodAll_mk0), rfl, bel.frame _, fun h => by cases h⟩

theorem over : Rows.pathsElemsRow.holds Try.pinned (OpenSpec.ofChange Rows.pathsElemsSpec) :=
  OpenClaim.holds_of_wide 10 Try.f10 rfl rfl rfl rfl rfl rfl rfl ⟨rfl, rfl, rfl, rfl, rfl⟩ rfl rfl rfl rfl rfl (by kernel_rfl) Try.func10 (by kernel_rfl)
    (of_decide_eq_true (by kernel_rfl)) (by unfold Func.isWrapper; first | (rw [if_pos (by decide +kernel)]; kernel_rfl) | (rw [if_neg (by decide +kernel)]; exact ⟨rfl, rfl⟩))
    (fun os started H enc _ => lifted os started H enc)

theorem proved : Rows.PathsElemsSaid :=
  over
#print axioms proved
end Go.Proofs.Ytblahlljdmlodaa.pathsElems
