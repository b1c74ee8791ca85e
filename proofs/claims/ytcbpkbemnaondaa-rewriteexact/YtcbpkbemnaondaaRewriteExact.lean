/-
  For every go.mod file, every module and any two others: a replace of just a module's version counts ahead of one of each version, in whichever order both stand; of others each version's does. No condition.
-/
import Derived.Test.YtcbpkbemnaondaaRows
import Derived.Test.YtcbpkbemnaondaaA5
import Derived.SizedLaws
namespace Go.Proofs.Ytcbpkbemnaondaa.rewriteExact
open Go.ChangeShapes Go.WideShapes Go.ChangeAt Go.RowKit Go.Deep
open Go.ChangeMaps (open_string shut_string)
set_option linter.unusedVariables false

section
variable {H : Type} {enc : TypeId × Value → H}
set_option maxRecDepth 100000 in
theorem open_modS {W : World} {r : Reach} {b0 : Nat} {v : Value} {d : DataW H} {p : List MemPlace} (hval : Value.okWide Try.prog W r b0 29 v) (h : DataW.Trod enc Try.prog W 0 (fun _ => true) true 29 v d p) :
    ∃ m : ModB, v = .agg #[.string m.1, .string m.2] ∧ modOk m ∧ d = modD m ∧ ∀ (W' : World) (sp : Nat → Bool), DataW.Trod enc Try.prog W' 0 sp true 29 v d p := by
  obtain ⟨cs, rfl, hsz⟩ := okWide_struct Try.underlying29 hval
  obtain ⟨fuel, hf⟩ := h
  obtain ⟨m, e, hx, hm⟩ := modRD.opens hf
  simp only [Prod.mk.injEq] at hx
  obtain ⟨rfl, rfl⟩ := hx
  have : cs = #[.string m.1, .string m.2] := by
    have e' : cs.toList = [.string m.1, .string m.2] := e
    rw [← Array.toArray_toList (xs := cs), e']
  subst this
  exact ⟨m, rfl, hm, rfl, fun W' sp => modRD.shuts hm W' 0 sp⟩
theorem mod_sized {ts : List TypeId} {ds : List (DataW H)} (h : (DataW.weightsEach Try.prog ts ds).all (· ≤ reachBytes) = true) {j : Nat} {m : ModB} (ht : ts[j]? = some 29) (hd : ds[j]? = some (modD m)) : m.1.size ≤ 140737488355328 ∧ m.2.size ≤ 140737488355328 := by
  have hr : reachBytes ≤ 140737488355328 := by decide
  have hw : DataW.weights Try.prog 29 (modD (H := H) m) = [m.1.data.toList.length, m.2.data.toList.length] := by
    simp [modD, litS, DataW.weights, Try.underlying29, DataW.weightsEach]
  have h1 := List.all_eq_true.1 h _ (DataW.weights_mem_each ht hd m.1.data.toList.length (by rw [hw]; simp))
  have h2 := List.all_eq_true.1 h _ (DataW.weights_mem_each ht hd m.2.data.toList.length (by rw [hw]; simp))
  simp only [decide_eq_true_eq] at h1 h2
  have e1 : m.1.size = m.1.data.toList.length := by rw [Array.length_toList]; rfl
  have e2 : m.2.size = m.2.data.toList.length := by rw [Array.length_toList]; rfl
  omega
end

set_option maxRecDepth 100000 in
theorem lifted (os : Os) (started : os.Started) (H : Type) (enc : TypeId × Value → H) :
    ReturnsInHanded {} Try.checked os 3 .any (Rows.rewriteExactSpec.pre6 enc Try.prog Try.f3 Rows.rewriteExactRow.domain false) (Rows.rewriteExactSpec.post enc Try.prog Try.f3 false true false false) := by
  refine returnsInHanded_of_change_sized (C := Try.checked) own started (by kernel_rfl) Try.func3
    (ChangeSpec.witness6 (enc := enc) (C := Try.checked) false ⟨#[], #[.agg #[.string ByteArray.empty, .string ByteArray.empty, .slice none 0 0, .slice none 0 0, .slice none 0 0, .slice none 0 0], .agg #[.string ByteArray.empty, .string ByteArray.empty], .agg #[.string ByteArray.empty, .string ByteArray.empty], .agg #[.string ByteArray.empty, .string ByteArray.empty], .bool false], []⟩ 8 (by kernel_rfl) (by kernel_rfl) (by kernel_rfl) (by kernel_rfl)) ?_
  intro W base args ds gs before hval0 hW hcnd hz _
  have hval : ∀ (j : Nat) t v, Try.f3.params[j]? = some t → args[j]? = some v → Value.okWide Try.prog W .any base t v := hval0
  have hW' := hW
  obtain ⟨p, q, hA0, hV, rfl, hfz, hnd⟩ := hW
  have hA : DataW.TrodAll enc Try.prog W 0 (fun _ => true) true Try.f3.params.toList args.toList ds p := hA0
  rw [Try.params3] at hA hval
  have hz' := hz
  simp only [show (Try.checked.prog : Program) = Try.prog from rfl, Try.params3] at hz'
  obtain ⟨v0, vs0, d0, ds0, p0, q0, hargs, rfl, rfl, h0, r0⟩ := trodAll_cons hA
  obtain ⟨v1, vs1, d1, ds1, p1, q1, rfl, rfl, rfl, h1, r1⟩ := trodAll_cons r0
  obtain ⟨v2, vs2, d2, ds2, p2, q2, rfl, rfl, rfl, h2, r2⟩ := trodAll_cons r1
  obtain ⟨v3, vs3, d3, ds3, p3, q3, rfl, rfl, rfl, h3, r3⟩ := trodAll_cons r2
  obtain ⟨v4, vs4, d4, ds4, p4, q4, rfl, rfl, rfl, h4, r4⟩ := trodAll_cons r3
  obtain ⟨rfl, rfl, rfl⟩ := trodAll_nil r4
  obtain rfl : args = #[v0, v1, v2, v3, v4] := by cases args; simp_all
  obtain ⟨rfl, rfl⟩ := trodVars_none hV
  obtain ⟨a0, x0, y0, z0, t0, rfl, g0, u0⟩ := open_fileG (hval 0 27 v0 rfl rfl) h0
  obtain ⟨a1, rfl, w1, e1, u1⟩ := open_modS (hval 1 29 v1 rfl rfl) h1
  obtain ⟨a2, rfl, w2, e2, u2⟩ := open_modS (hval 2 29 v2 rfl rfl) h2
  obtain ⟨a3, rfl, w3, e3, u3⟩ := open_modS (hval 3 29 v3 rfl rfl) h3
  obtain ⟨a4, rfl, rfl, rfl⟩ := open_bool Try.underlying4 (hval 4 4 v4 rfl rfl) h4
  subst e1 e2 e3
  have s1 := mod_sized hz' (j := 1) (m := a1) rfl rfl
  have s2 := mod_sized hz' (j := 2) (m := a2) rfl rfl
  have s3 := mod_sized hz' (j := 3) (m := a3) rfl rfl
  clear hA0 hval0 hz hz'
  simp only [List.append_nil] at hW'
  refine (exact_walk a0 x0 y0 z0 t0 a1.1 a1.2 a2.1 a2.2 a3.1 a3.2 a4 W g0 s2.1 s2.2 s3.1 s3.2 s1.2).mono fun e W' ⟨he, bel⟩ => ?_
  subst he
  refine ⟨_, rfl, _, _, _, [], _, [], hW', trodAll_mk1 (shut_bool Try.underlying4 _), (trodAll_cons_mk (u0 _ bel) (trodAll_cons_mk (u1 _ _) (trodAll_cons_mk (u2 _ _) (trodAll_cons_mk (u3 _ _) (trodAll_cons_mk (shut_bool Try.underlying4 _) trodAll_mk0))))), rfl, bel.frame _, fun h => by cases h⟩

theorem over : Rows.rewriteExactRow.holds Try.pinned (OpenSpec.ofChange Rows.rewriteExactSpec) :=
  OpenClaim.holds_of_wide 3 Try.f3 rfl rfl rfl rfl rfl rfl rfl ⟨rfl, rfl, rfl, rfl, rfl⟩ rfl rfl rfl rfl rfl (by kernel_rfl) Try.func3 (by kernel_rfl)
    (of_decide_eq_true (by kernel_rfl)) (by unfold Func.isWrapper; first | (rw [if_pos (by decide +kernel)]; kernel_rfl) | (rw [if_neg (by decide +kernel)]; exact ⟨rfl, rfl⟩))
    (fun os started H enc _ => lifted os started H enc)

theorem proved : Rows.RewriteExactSaid :=
  over
#print axioms proved
end Go.Proofs.Ytcbpkbemnaondaa.rewriteExact
