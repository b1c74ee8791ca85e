/-
  gomod.Release and gomod.Local tell of every text what the document's own answers tell: GomodWords returns true at every input, and leaves what it was given as it was. No condition.
-/
import Derived.Test.YtkciiicfdjoijaaDoorRows
import Derived.Test.YtkciiicfdjoijaaDoorCards
import Derived.Test.YtkciiicfdjoijaaDoorTie
import Derived.Test.YtkciiicfdjoijaaDoorL0
import Derived.Test.YtkciiicfdjoijaaDoorG2
import Derived.SevenTiedAt
namespace Go.Proofs.YtkciiicfdjoijaaDoor.gomodWords
open Go.ChangeShapes Go.WideShapes Go.ChangeAt Go.RowKit Go.Shelf
open Go.ChangeMaps (open_string shut_string)
set_option linter.unusedVariables false

theorem rel_at (s : ByteArray) (hs : s.size ≤ 20000) {b : Bool} (h : relL s.data.toList = b) (w : World) :
    Calls Tryd.prog 4 #[.string s] w fun e w' => e = .returned (.bool b) ∧ Below w.heap.size w w' :=
  (release_any s hs w).mono fun _ _ k => ⟨by rw [k.1, h], k.2⟩
theorem rrel_at (s : ByteArray) (hs : s.size ≤ 20000) {b : Bool} (h : relL s.data.toList = b) (w : World) :
    Calls Tryd.prog 5 #[.string s] w fun e w' => e = .returned (.bool b) ∧ w = w' :=
  (rrelease_any s hs w).mono fun _ _ k => ⟨by rw [k.1, h], k.2⟩
theorem loc_at (s : ByteArray) (hs : s.size ≤ 20000) {b : Bool} (h : localB s = b) (w : World) :
    Calls Tryd.prog 6 #[.string s] w fun e w' => e = .returned (.bool b) ∧ Below w.heap.size w w' :=
  (local_any s (by omega) w).mono fun _ _ k => ⟨by rw [k.1, h], k.2⟩
theorem rloc_at (s : ByteArray) (hs : s.size ≤ 20000) {b : Bool} (h : localB s = b) (w : World) :
    Calls Tryd.prog 7 #[.string s] w fun e w' => e = .returned (.bool b) ∧ Below w.heap.size w w' :=
  (rlocal_any s (by omega) w).mono fun _ _ k => ⟨by rw [k.1, h], k.2⟩
theorem pref_list (s p : ByteArray) : prefB s p = (decide (p.size ≤ s.size) && ((s.extract 0 p.size).data.toList == p.data.toList)) := by
  rw [prefB, Lib.toList_data, Lib.toList_data]
theorem loc_one : localB ⟨#[46, 47]⟩ = true := by
  have h : prefB ⟨#[46, 47]⟩ ⟨#[46, 47]⟩ = true := by rw [pref_list]; decide
  have hu := up_1 h
  have he : (upB ⟨#[46, 47]⟩).1 = ⟨#[]⟩ := by rw [hu]; rfl
  have h2 : (upB ⟨#[46, 47]⟩).2 = true := by rw [hu]
  have k1 : prefB ⟨#[]⟩ ⟨#[46, 47]⟩ = false := by rw [pref_list]; decide
  have k2 : prefB ⟨#[]⟩ ⟨#[46, 46, 47]⟩ = false := by rw [pref_list]; decide
  have k3 : (upB ⟨#[]⟩).2 = false := by rw [up_3 k1 k2]
  rw [localB, h2, strip_yes h2, he, strip_no k3]; rfl
set_option maxRecDepth 100000 in
set_option maxHeartbeats 4000000 in
theorem walk (w : World) (a0 : ByteArray) (w0 : a0.size ≤ maxLen) :
    Calls Tryd.prog 3 #[.string a0] w fun e w' => e = .returned (.bool true) ∧ Below w.heap.size w w' := by
  by_cases hs : a0.size ≤ 2048
  · go_enter Tryd.func3, Tryd.ntmps3
    go_wp2_with fail
    refine (release_any a0 (by omega) _).mono ?_
    rintro _ w1 ⟨rfl, hB⟩
    go_wp2_with fail
    refine (rrelease_any a0 (by omega) _).mono ?_
    rintro _ w2 ⟨rfl, rfl⟩
    cases relL a0.data.toList
    all_goals
      go_wp2_with fail
      refine (local_any a0 (by omega) _).mono ?_
      rintro _ w2 ⟨rfl, hB2⟩
      replace hB := hB.trans (hB2.mono hB.size)
      clear hB2
      go_wp2_with fail
      refine (rlocal_any a0 (by omega) _).mono ?_
      rintro _ w3 ⟨rfl, hB2⟩
      replace hB := hB.trans (hB2.mono hB.size)
      clear hB2
      cases localB a0
      all_goals
        go_wp2_with fail
        refine (rel_at _ (by decide) (b := true) (by decide) _).mono ?_
        rintro _ w4 ⟨rfl, hB2⟩
        replace hB := hB.trans (hB2.mono hB.size)
        clear hB2
        go_wp2_with fail
        refine (loc_at _ (by decide) loc_one _).mono ?_
        rintro _ w5 ⟨rfl, hB2⟩
        replace hB := hB.trans (hB2.mono hB.size)
        clear hB2
        go_wp2
        go_ret
        exact ⟨rfl, hB⟩
  · go_enter Tryd.func3, Tryd.ntmps3
    go_wp2
    go_ret
    exact ⟨rfl, Below.refl _ _⟩

set_option maxRecDepth 100000 in
theorem lifted (os : Os) (started : os.Started) (H : Type) (enc : TypeId × Value → H) :
    ReturnsInHanded {} Tryd.checked os 3 .any (fun w args => (Rows.gomodWordsSpec.pre enc Tryd.prog Tryd.f3 Rows.gomodWordsRow.domain false w args ∧ laidMetH Tryd.prog laid0 w) ∧ sizedMet enc Tryd.prog Tryd.f3 (OpenSpec.ofChange Rows.gomodWordsSpec) false w args)
      (Rows.gomodWordsSpec.post enc Tryd.prog Tryd.f3 false true false false) := by
  refine returnsInHanded_of_change_and (C := Tryd.checked) (X := fun w _ => laidMetH Tryd.prog laid0 w) (fun _ _ _ hh h => h.of_heap hh) own started (by kernel_rfl) Tryd.func3
    (ChangeSpec.witness_shaped (enc := enc) (C := Tryd.checked) (os := os) (X := fun w _ => laidMetH Tryd.prog laid0 w) false (World.doorLaid Tryd.prog 62 os) #[.string ByteArray.empty] 8 rfl (World.shaped_of_RefB (by kernel_rfl) (by kernel_rfl)) (by kernel_rfl) (by kernel_rfl) (by kernel_rfl) (door_met os _)) ?_
  intro W base args ds gs before hval0 hW _ _ hL _
  have hval : ∀ (j : Nat) t v, Tryd.f3.params[j]? = some t → args[j]? = some v → Value.okWide Tryd.prog W .any base t v := hval0
  have hW' := hW
  obtain ⟨p, q, hA0, hV, rfl, hfz, hnd⟩ := hW
  have hA : DataW.TrodAll enc Tryd.prog W 0 (fun _ => true) true Tryd.f3.params.toList args.toList ds p := hA0
  rw [Tryd.params3] at hA hval
  obtain ⟨v0, vs0, d0, ds0, p0, q0, hargs, rfl, rfl, h0, r0⟩ := trodAll_cons hA
  obtain ⟨rfl, rfl, rfl⟩ := trodAll_nil r0
  obtain rfl : args = #[v0] := by cases args; simp_all
  obtain ⟨rfl, rfl⟩ := trodVars_none hV
  obtain ⟨a0, rfl, rfl, rfl, w0⟩ := open_string Tryd.underlying9 (hval 0 9 v0 rfl rfl) h0
  clear hA0 hval0
  simp only [List.append_nil] at hW'
  refine (walk W a0 w0).mono fun e W' ⟨he, bel⟩ => ?_
  subst he
  exact ⟨_, rfl, _, _, _, [], [], [], hW', trodAll_mk1 (shut_bool Tryd.underlying4 _), (trodAll_cons_mk (shut_string Tryd.underlying9 w0) trodAll_mk0), rfl, bel.frame _, fun h => by cases h⟩

theorem over : Rows.gomodWordsRow.holds Tryd.pinned (OpenSpec.ofChange Rows.gomodWordsSpec) :=
  OpenClaim.holds_of_wide 3 Tryd.f3 rfl rfl rfl rfl rfl rfl rfl ⟨rfl, rfl, rfl, rfl, rfl⟩ rfl rfl rfl rfl rfl (by kernel_rfl) Tryd.func3 (by kernel_rfl)
    (of_decide_eq_true (by kernel_rfl)) (by unfold Func.isWrapper; first | (rw [if_pos (by decide +kernel)]; kernel_rfl) | (rw [if_neg (by decide +kernel)]; exact ⟨rfl, rfl⟩))
    (fun os started H enc _ => lifted os started H enc)

theorem proved : Rows.GomodWordsCardSaid :=
  Claim7.holds_tied_plain_at .later [] [.data, .data, .data, .sentinel, .sentinel] true (true, "baed29458c672b33969b3ee771cae0f3f5668e87a948d81239246e7f82846f01") true
    over (fun _ h => by cases h) (by kernel_rfl) (fun _ h => by cases h) gomodWords_row_tie rfl ⟨rfl, rfl⟩ (by kernel_rfl) rfl
    (fun f fn hf hfn => by
      obtain rfl : f = 3 := Option.some.inj ((show Tryd.prog.funcNamed "graftbed/graftbedlaw05.GomodWords" = some 3 by kernel_rfl).symm.trans hf) |>.symm
      obtain rfl : fn = Tryd.f3 := (Option.some.inj (Tryd.func3.symm.trans hfn)).symm
      exact ⟨by kernel_rfl, fun j t ht => by
        rw [Tryd.params3] at ht
        have hm : t ∈ [9] := by simpa using Array.mem_of_getElem? ht
        have hall : ([9].all fun u => !Tryd.prog.wantsStandIn u) = true := by kernel_rfl
        exact (show Tryd.prog.wantsStandIn t = false by simpa using List.all_eq_true.1 hall t hm)⟩)
    (by kernel_rfl)
#print axioms proved
end Go.Proofs.YtkciiicfdjoijaaDoor.gomodWords
