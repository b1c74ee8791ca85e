/-
  ScanTexts: the walk.
-/
import Derived.Test.YtinaeegijmkbhaaDoorA15
import Derived.Test.YtinaeegijmkbhaaDoorQ6
set_option linter.unusedVariables false
namespace Go.Proofs.YtinaeegijmkbhaaDoor
open Go.RowKit Go.Shelf

set_option maxRecDepth 100000 in
set_option maxHeartbeats 800000 in
theorem texts_walk (s : ByteArray) (hm : s.size ≤ maxLen) (a : Int) (ha : (Lit.int .i64 a).wf = true) (w : World) (hE : Env w) : Calls Tryd.prog 3 #[.string s, .int .i64 a] w fun e w' => e = .returned (.bool true) ∧ Below w.heap.size w w' := by
  by_cases hbig : 1024 < s.size
  · have i1 : (1024 : Int) < (s.size : Int) := by omega
    go_enter Tryd.func3, Tryd.ntmps3
    go_wp2
    go_ret
    exact ⟨rfl, Below.refl _ _⟩
  have hs : s.size ≤ 20400 := by omega
  have i1 : ¬ (1024 : Int) < (s.size : Int) := by omega
  have HU := Lib.hid (fun (W : World) (b : Below w.heap.size w W) => unquote_any s hs W (hE.on b))
  have HV := Lib.hid (fun (W : World) (b : Below w.heap.size w W) => unquote_any ⟨#[120]⟩ (by decide) W (hE.on b))
  have hx : unqO (⟨#[120]⟩ : ByteArray).data.toList = (⟨#[120]⟩, true) := unqO_some (t := [120]) (by
    show unqL [120] = some [120]
    rw [unq_on (by decide) (by decide), unq_nil]; rfl)
  rw [hx] at HV
  have HR := Lib.hid (runq_any s hs)
  have HL := Lib.hid (line_any s hs a)
  have HK := Lib.hid (rline_any s a hs)
  generalize hu : unqO s.data.toList = u at *
  obtain ⟨ut, uo⟩ := u
  clear hbig hx hu
  go_enter Tryd.func3, Tryd.ntmps3
  go_wp2_with (first
    | (go_at_call 9; with_reducible refine (HU.out _ (Below.refl _ _)).mono ?_; rintro _ w1 ⟨rfl, hB⟩; have HB1 := Lib.hid hB; clear hB)
    | (go_at_call 9; with_reducible refine (HV.out _ HB2.out).mono ?_; rintro _ w3 ⟨rfl, hB⟩; have HB3 := Lib.hid (HB2.out.trans (hB.mono HB2.out.size)); clear hB)
    | (go_at_call 10; refine (HR.out _).mono ?_; rintro _ w2 ⟨rfl, hB⟩; have HB2 := Lib.hid (HB1.out.trans (hB.mono HB1.out.size)); clear hB)
    | (go_at_call 11; refine (HL.out _).mono ?_; rintro _ _ ⟨rfl, rfl⟩)
    | (go_at_call 12; refine (HK.out _).mono ?_; rintro _ _ ⟨rfl, rfl⟩))
  go_ret
  exact ⟨rfl, HB3.out⟩
end Go.Proofs.YtinaeegijmkbhaaDoor
