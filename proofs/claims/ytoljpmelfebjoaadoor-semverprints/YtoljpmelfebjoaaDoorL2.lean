/-
  A parameter that is a version, opened and read again.
-/
import Derived.Test.YtoljpmelfebjoaaDoorL1
import Derived.Test.YtoljpmelfebjoaaDoorP20
import Derived.Lib.SmallJoins
namespace Go.Proofs.YtoljpmelfebjoaaDoor
open Go.ChangeShapes Go.WideShapes Go.ChangeAt Go.RowKit Go.Deep
open Go.ChangeMaps (open_string shut_string)
open Go.Joins (field_of_Trod)

variable {H : Type} {enc : TypeId × Value → H} {W : World}
def i64Ok (n : Int) : Prop := -9223372036854775808 ≤ n ∧ n ≤ 9223372036854775807
def verOk (a : Ver) : Prop := i64Ok a.ma ∧ i64Ok a.mi ∧ i64Ok a.pa ∧ a.pre.size ≤ maxLen ∧ a.mta.size ≤ maxLen
theorem i64_wf {n : Int} (h : (Lit.int .i64 n).wf = true) : i64Ok n := by
  simp [Lit.wf] at h
  exact h
set_option maxRecDepth 100000 in
theorem open_ver {r : Reach} {b0 : Nat} {v : Value} {d : DataW H} {p : List MemPlace} (hval : Value.okWide Tryd.prog W r b0 23 v) (h : DataW.Trod enc Tryd.prog W 0 (fun _ => true) true 23 v d p) :
    ∃ a : Ver, v = verV a ∧ verOk a ∧ ∀ (W' : World) (sp : Nat → Bool), DataW.Trod enc Tryd.prog W' 0 sp true 23 v d p := by
  obtain ⟨cs, rfl, hsz⟩ := okWide_struct Tryd.underlying23 hval
  have h5 : cs.size = 5 := hsz.trans (by kernel_rfl)
  obtain ⟨c0, c1, c2, c3, c4, rfl⟩ : ∃ c0 c1 c2 c3 c4, cs = #[c0, c1, c2, c3, c4] := by
    match cs, h5 with
    | ⟨[c0, c1, c2, c3, c4]⟩, _ => exact ⟨c0, c1, c2, c3, c4, rfl⟩
  obtain ⟨fuel, hf⟩ := h
  obtain ⟨xs, n, _, hx, hl, hlen, hfl⟩ := DataW.trod_struct Tryd.underlying23 hf
  have c3' : Tryd.prog.cellsOf 3 = 1 := by kernel_rfl
  have c9' : Tryd.prog.cellsOf 9 = 1 := by kernel_rfl
  match xs, hlen, hx, hfl with
  | [y0, y1, y2, y3, y4], _, hx, hfl =>
    have t0 : DataW.trod enc Tryd.prog W 0 (fun _ => true) true n 3 [c0] = some y0 := by simpa [Value.cells, c3'] using hfl 0 _ rfl
    have t1 : DataW.trod enc Tryd.prog W 0 (fun _ => true) true n 3 [c1] = some y1 := by simpa [Value.cells, c3'] using hfl 1 _ rfl
    have t2 : DataW.trod enc Tryd.prog W 0 (fun _ => true) true n 3 [c2] = some y2 := by simpa [Value.cells, c3'] using hfl 2 _ rfl
    have t3 : DataW.trod enc Tryd.prog W 0 (fun _ => true) true n 9 [c3] = some y3 := by simpa [Value.cells, c9'] using hfl 3 _ rfl
    have t4 : DataW.trod enc Tryd.prog W 0 (fun _ => true) true n 9 [c4] = some y4 := by simpa [Value.cells, c9'] using hfl 4 _ rfl
    obtain ⟨n0, e0, rfl, w0⟩ := DataW.trod_int Tryd.underlying3 t0
    obtain ⟨n1, e1, rfl, w1⟩ := DataW.trod_int Tryd.underlying3 t1
    obtain ⟨n2, e2, rfl, w2⟩ := DataW.trod_int Tryd.underlying3 t2
    obtain ⟨s3, e3, rfl, w3⟩ := DataW.trod_string Tryd.underlying9 t3
    obtain ⟨s4, e4, rfl, w4⟩ := DataW.trod_string Tryd.underlying9 t4
    simp only [List.cons.injEq, and_true] at e0 e1 e2 e3 e4
    subst e0 e1 e2 e3 e4
    refine ⟨⟨n0, n1, n2, s3, s4⟩, rfl, ⟨i64_wf w0, i64_wf w1, i64_wf w2, w3, w4⟩, fun W' sp => ?_⟩
    simp only [Prod.mk.injEq] at hx
    obtain ⟨rfl, rfl⟩ := hx
    obtain ⟨f0, g0⟩ := field_of_Trod (shut_int (enc := enc) (P := Tryd.prog) (w := W') (base := 0) (spare := sp) (held := true) Tryd.underlying3 w0) rfl
    obtain ⟨f1, g1⟩ := field_of_Trod (shut_int (enc := enc) (P := Tryd.prog) (w := W') (base := 0) (spare := sp) (held := true) Tryd.underlying3 w1) rfl
    obtain ⟨f2, g2⟩ := field_of_Trod (shut_int (enc := enc) (P := Tryd.prog) (w := W') (base := 0) (spare := sp) (held := true) Tryd.underlying3 w2) rfl
    obtain ⟨f3, g3⟩ := field_of_Trod (shut_string (enc := enc) (P := Tryd.prog) (w := W') (base := 0) (sp := sp) (held := true) Tryd.underlying9 w3) rfl
    obtain ⟨f4, g4⟩ := field_of_Trod (shut_string (enc := enc) (P := Tryd.prog) (w := W') (base := 0) (sp := sp) (held := true) Tryd.underlying9 w4) rfl
    have k0 := DataW.trod_le (show f0 ≤ f0 + f1 + f2 + f3 + f4 by omega) g0
    have k1 := DataW.trod_le (show f1 ≤ f0 + f1 + f2 + f3 + f4 by omega) g1
    have k2 := DataW.trod_le (show f2 ≤ f0 + f1 + f2 + f3 + f4 by omega) g2
    have k3 := DataW.trod_le (show f3 ≤ f0 + f1 + f2 + f3 + f4 by omega) g3
    have k4 := DataW.trod_le (show f4 ≤ f0 + f1 + f2 + f3 + f4 by omega) g4
    refine ⟨f0 + f1 + f2 + f3 + f4 + 1, ?_⟩
    refine trod_struct_mk (xs := [(.lit (.int .i64 n0), []), (.lit (.int .i64 n1), []), (.lit (.int .i64 n2), []), (.lit (.string s3.data.toList), []), (.lit (.string s4.data.toList), [])]) Tryd.underlying23 (by rfl) ?_
    simp [Value.cells, c3', c9', k0, k1, k2, k3, k4]
end Go.Proofs.YtoljpmelfebjoaaDoor
