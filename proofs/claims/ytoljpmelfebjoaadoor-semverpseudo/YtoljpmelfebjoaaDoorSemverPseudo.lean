/-
  SemverPseudo: which texts are pseudo-versions, of which time and revision; what is made as one is one.
-/
import Derived.Test.YtoljpmelfebjoaaDoorRows
import Derived.Test.YtoljpmelfebjoaaDoorCards
import Derived.Test.YtoljpmelfebjoaaDoorTie
import Derived.Test.YtoljpmelfebjoaaDoorL0
import Derived.Test.YtoljpmelfebjoaaDoorP21
import Derived.Test.YtoljpmelfebjoaaDoorP22
import Derived.Test.YtoljpmelfebjoaaDoorS3
import Derived.Test.YtoljpmelfebjoaaDoorS4
import Derived.Test.YtoljpmelfebjoaaDoorS5
import Derived.SevenTiedAt
namespace Go.Proofs.YtoljpmelfebjoaaDoor.semverPseudo
open Go.ChangeShapes Go.WideShapes Go.ChangeAt Go.RowKit Go.Shelf
open Go.ChangeMaps (open_string shut_string)
set_option linter.unusedVariables false

theorem wf8 {a : Int} (h : (Lit.int .u8 a).wf = true) : ∃ n : Nat, a = n ∧ n < 256 := by
  simp [Lit.wf] at h
  have e1 : IntKind.u8.min = 0 := rfl
  have e2 : IntKind.u8.max = 255 := rfl
  rw [e1, e2] at h
  exact ⟨a.toNat, by omega, by omega⟩
theorem wf64 {a : Int} (h : (Lit.int .u64 a).wf = true) : ∃ n : Nat, a = n ∧ n < 18446744073709551616 := by
  simp [Lit.wf] at h
  have e1 : IntKind.u64.min = 0 := rfl
  have e2 : IntKind.u64.max = 18446744073709551615 := rfl
  rw [e1, e2] at h
  exact ⟨a.toNat, by omega, by omega⟩
theorem fin0 {T R : ByteArray} (h : Of dig 14 T) (g : Of hexS 12 R) : retQ (⟨#[118, 48, 46, 48, 46, 48, 45]⟩ ++ T ++ ⟨#[45]⟩ ++ R : ByteArray).data.toList = .tuple #[.string T, .string R, .bool true] := by
  have k := made0 h.done.2 g.done.2 h.done.1 g.done.1
  rw [mkB_data, mkB_data] at k
  rw [← k]
  congr 1
theorem fin1 {T R : ByteArray} (h : Of dig 14 T) (g : Of hexS 12 R) : retQ (⟨#[118, 49, 46, 50, 46, 51, 45, 48, 46]⟩ ++ T ++ ⟨#[45]⟩ ++ R : ByteArray).data.toList = .tuple #[.string T, .string R, .bool true] := by
  have k := made1 h.done.2 g.done.2 h.done.1 g.done.1
  rw [mkB_data, mkB_data] at k
  rw [← k]
  congr 1
theorem fin2 {T R : ByteArray} (h : Of dig 14 T) (g : Of hexS 12 R) : retQ (⟨#[118, 49, 46, 50, 46, 51, 45, 114, 99, 46, 49, 46, 48, 46]⟩ ++ T ++ ⟨#[45]⟩ ++ R : ByteArray).data.toList = .tuple #[.string T, .string R, .bool true] := by
  have k := made2 h.done.2 g.done.2 h.done.1 g.done.1
  rw [mkB_data, mkB_data] at k
  rw [← k]
  congr 1
set_option maxRecDepth 100000 in
set_option maxHeartbeats 4000000 in
theorem walk (w : World) (a0 : ByteArray) (w0 : a0.size ≤ maxLen) (a1 : Int) (w1 : (Lit.int .u64 a1).wf = true) (a2 : Int) (w2 : (Lit.int .u64 a2).wf = true) (a3 : Int) (w3 : (Lit.int .u8 a3).wf = true) :
    Calls Tryd.prog 7 #[.string a0, .int .u64 a1, .int .u64 a2, .int .u8 a3] w fun e w' => e = .returned (.bool true) ∧ Below w.heap.size w w' := by
  obtain ⟨n, rfl, jn⟩ := wf8 w3
  obtain ⟨m1, rfl, j1⟩ := wf64 w1
  obtain ⟨m2, rfl, j2⟩ := wf64 w2
  clear w1 w2 w3
  have hB := Below.refl w.heap.size w
  by_cases k : a0.size ≤ 1024
  · go_enter Tryd.func7, Tryd.ntmps7
    go_wp2_with fail
    refine (pseudo_any a0 (by omega) _).mono ?_
    rintro _ wa ⟨rfl, hb⟩
    replace hB := hB.trans (hb.mono hB.size)
    clear hb
    have HS := Lib.hid (pseudo_same a0.data.toList)
    obtain ⟨x, y, z, hq⟩ : ∃ (x y : ByteArray) (z : Bool), retQ a0.data.toList = .tuple #[.string x, .string y, .bool z] := by
      unfold retQ
      split
      · generalize (partsD 46 (verL a0.data.toList).pre).reverse = xs
        unfold pseudoR outQ noQ
        split
        · exact ⟨_, _, _, rfl⟩
        · split
          · exact ⟨_, _, _, rfl⟩
          · exact ⟨_, _, _, rfl⟩
        · split
          · split
            · exact ⟨_, _, _, rfl⟩
            · exact ⟨_, _, _, rfl⟩
          · exact ⟨_, _, _, rfl⟩
      · exact ⟨_, _, _, rfl⟩
    rw [hq]
    have HQ := Lib.hid (HS.out.symm.trans hq)
    clear hq HS
    go_wp2_with fail
    refine (rpseudo_any a0 (by omega) _).mono ?_
    rintro _ wb ⟨rfl, hb⟩
    rw [HQ.out]
    replace hB := hB.trans (hb.mono hB.size)
    clear hb HQ
    go_wp2
    go_loop [1, 15, 17] (fun a t i => ∃ (m k : Nat) (T : ByteArray), a = .int .u64 m ∧ t = .string T ∧ i = .int .i64 k ∧ m < 18446744073709551616 ∧ k ≤ 14 ∧ T.size = k ∧ Of dig k T) (fun _ _ i => 14 - (intOf i).toNat)
    case atStart => exact ⟨_, 0, ⟨#[]⟩, rfl, rfl, rfl, by assumption, Nat.zero_le _, rfl, rfl, rfl⟩
    case round =>
      obtain ⟨m, k, T, rfl, rfl, rfl, hm, hk, hT, hO⟩ := hrel
      have HO := Lib.hid hO
      clear hO
      by_cases hlt : k < 14
      · have hp := ten_piece' ⟨m % 10, Nat.mod_lt _ (by decide)⟩
        have HN := Lib.hid (HO.out.on hp)
        have hsz := hp.2
        clear hp
        dsimp only at hsz HN
        go_wp2
        go_round
        case rel => exact ⟨m / 10, k + 1, _, by go_num, rfl, by go_num, by omega, by omega, HN.out.1, HN.out⟩
        case measure => simp [intOf]; omega
      · obtain rfl : k = 14 := by omega
        clear hlt hk
        have HO1 := Lib.hid HO.out
        have hT1 := hT
        clear HO hT hm
        go_wp2
        go_loop [2, 16, 18] (fun a t i => ∃ (m k : Nat) (T : ByteArray), a = .int .u64 m ∧ t = .string T ∧ i = .int .i64 k ∧ m < 18446744073709551616 ∧ k ≤ 12 ∧ T.size = k ∧ Of hexS k T) (fun _ _ i => 12 - (intOf i).toNat)
        case atStart => exact ⟨_, 0, ⟨#[]⟩, rfl, rfl, rfl, by assumption, Nat.zero_le _, rfl, rfl, rfl⟩
        case round =>
          obtain ⟨m, k, T, rfl, rfl, rfl, hm, hk, hT, hO⟩ := hrel
          have HO := Lib.hid hO
          clear hO
          by_cases hlt : k < 12
          · have hp := hex_piece' ⟨m % 16, Nat.mod_lt _ (by decide)⟩
            have HN := Lib.hid (HO.out.on hp)
            have hsz := hp.2
            clear hp
            dsimp only at hsz HN
            go_wp2
            go_round
            case rel => exact ⟨m / 16, k + 1, _, by go_num, rfl, by go_num, by omega, by omega, HN.out.1, HN.out⟩
            case measure => simp [intOf]; omega
          · obtain rfl : k = 12 := by omega
            clear hlt hk
            have HO2 := Lib.hid HO.out
            clear HO
            replace hB := hB.alloc hB.size (.cells #[.string ⟨#[118, 48, 46, 48, 46, 48, 45]⟩, .string ⟨#[118, 49, 46, 50, 46, 51, 45, 48, 46]⟩, .string ⟨#[118, 49, 46, 50, 46, 51, 45, 114, 99, 46, 49, 46, 48, 46]⟩] 9)
            have hc3 : n % 3 = 0 ∨ n % 3 = 1 ∨ n % 3 = 2 := by omega
            rcases hc3 with h3 | h3 | h3
            · have i3 : (n : Int) % 3 = 0 := by omega
              have M := Lib.hid (fin0 HO1.out HO2.out)
              go_wp2_with fail
              refine (pseudo_any _ (by simp only [ByteArray.size_append, hT, hT1]; decide) _).mono ?_
              rintro _ wc ⟨rfl, hb⟩
              rw [M.out]
              replace hB := hB.trans (hb.mono hB.size)
              clear hb M
              go_wp2
              go_ret
              exact ⟨rfl, hB⟩
            · have i3 : (n : Int) % 3 = 1 := by omega
              have M := Lib.hid (fin1 HO1.out HO2.out)
              go_wp2_with fail
              refine (pseudo_any _ (by simp only [ByteArray.size_append, hT, hT1]; decide) _).mono ?_
              rintro _ wc ⟨rfl, hb⟩
              rw [M.out]
              replace hB := hB.trans (hb.mono hB.size)
              clear hb M
              go_wp2
              go_ret
              exact ⟨rfl, hB⟩
            · have i3 : (n : Int) % 3 = 2 := by omega
              have M := Lib.hid (fin2 HO1.out HO2.out)
              go_wp2_with fail
              refine (pseudo_any _ (by simp only [ByteArray.size_append, hT, hT1]; decide) _).mono ?_
              rintro _ wc ⟨rfl, hb⟩
              rw [M.out]
              replace hB := hB.trans (hb.mono hB.size)
              clear hb M
              go_wp2
              go_ret
              exact ⟨rfl, hB⟩
  · go_enter Tryd.func7, Tryd.ntmps7
    go_wp2
    go_ret
    exact ⟨rfl, hB⟩

set_option maxRecDepth 100000 in
theorem lifted (os : Os) (started : os.Started) (H : Type) (enc : TypeId × Value → H) :
    ReturnsInHanded {} Tryd.checked os 7 .any (fun w args => (Rows.semverPseudoSpec.pre enc Tryd.prog Tryd.f7 Rows.semverPseudoRow.domain false w args ∧ laidMetH Tryd.prog laid0 w) ∧ sizedMet enc Tryd.prog Tryd.f7 (OpenSpec.ofChange Rows.semverPseudoSpec) false w args)
      (Rows.semverPseudoSpec.post enc Tryd.prog Tryd.f7 false true false false) := by
  refine returnsInHanded_of_change_and (C := Tryd.checked) (X := fun w _ => laidMetH Tryd.prog laid0 w) (fun _ _ _ hh h => h.of_heap hh) own started (by kernel_rfl) Tryd.func7
    (ChangeSpec.witness_shaped (enc := enc) (C := Tryd.checked) (os := os) (X := fun w _ => laidMetH Tryd.prog laid0 w) false (World.doorLaid Tryd.prog 62 os) #[.string ByteArray.empty, .int .u64 0, .int .u64 0, .int .u8 0] 8 rfl (World.shaped_of_RefB (by kernel_rfl) (by kernel_rfl)) (by kernel_rfl) (by kernel_rfl) (by kernel_rfl) (door_met os _)) ?_
  intro W base args ds gs before hval0 hW _ _ hL _
  have hval : ∀ (j : Nat) t v, Tryd.f7.params[j]? = some t → args[j]? = some v → Value.okWide Tryd.prog W .any base t v := hval0
  have hW' := hW
  obtain ⟨p, q, hA0, hV, rfl, hfz, hnd⟩ := hW
  have hA : DataW.TrodAll enc Tryd.prog W 0 (fun _ => true) true Tryd.f7.params.toList args.toList ds p := hA0
  rw [Tryd.params7] at hA hval
  obtain ⟨v0, vs0, d0, ds0, p0, q0, hargs, rfl, rfl, h0, r0⟩ := trodAll_cons hA
  obtain ⟨v1, vs1, d1, ds1, p1, q1, rfl, rfl, rfl, h1, r1⟩ := trodAll_cons r0
  obtain ⟨v2, vs2, d2, ds2, p2, q2, rfl, rfl, rfl, h2, r2⟩ := trodAll_cons r1
  obtain ⟨v3, vs3, d3, ds3, p3, q3, rfl, rfl, rfl, h3, r3⟩ := trodAll_cons r2
  obtain ⟨rfl, rfl, rfl⟩ := trodAll_nil r3
  obtain rfl : args = #[v0, v1, v2, v3] := by cases args; simp_all
  obtain ⟨rfl, rfl⟩ := trodVars_none hV
  obtain ⟨a0, rfl, rfl, rfl, w0⟩ := open_string Tryd.underlying9 (hval 0 9 v0 rfl rfl) h0
  obtain ⟨a1, rfl, rfl, rfl, w1⟩ := open_int Tryd.underlying40 (hval 1 40 v1 rfl rfl) h1
  obtain ⟨a2, rfl, rfl, rfl, w2⟩ := open_int Tryd.underlying40 (hval 2 40 v2 rfl rfl) h2
  obtain ⟨a3, rfl, rfl, rfl, w3⟩ := open_int Tryd.underlying5 (hval 3 5 v3 rfl rfl) h3
  clear hA0 hval0
  simp only [List.append_nil] at hW'
  refine (walk W a0 w0 a1 w1 a2 w2 a3 w3).mono fun e W' ⟨he, bel⟩ => ?_
  subst he
  exact ⟨_, rfl, _, _, _, [], [], [], hW', trodAll_mk1 (shut_bool Tryd.underlying4 _), (trodAll_cons_mk (shut_string Tryd.underlying9 w0) (trodAll_cons_mk (shut_int Tryd.underlying40 w1) (trodAll_cons_mk (shut_int Tryd.underlying40 w2) (trodAll_cons_mk (shut_int Tryd.underlying5 w3) trodAll_mk0)))), rfl, bel.frame _, fun h => by cases h⟩

theorem over : Rows.semverPseudoRow.holds Tryd.pinned (OpenSpec.ofChange Rows.semverPseudoSpec) :=
  OpenClaim.holds_of_wide 7 Tryd.f7 rfl rfl rfl rfl rfl rfl rfl ⟨rfl, rfl, rfl, rfl, rfl⟩ rfl rfl rfl rfl rfl (by kernel_rfl) Tryd.func7 (by kernel_rfl)
    (of_decide_eq_true (by kernel_rfl)) (by unfold Func.isWrapper; first | (rw [if_pos (by decide +kernel)]; kernel_rfl) | (rw [if_neg (by decide +kernel)]; exact ⟨rfl, rfl⟩))
    (fun os started H enc _ => lifted os started H enc)

theorem proved : Rows.SemverPseudoCardSaid :=
  Claim7.holds_tied_plain_at .later [] [.data, .data, .data, .sentinel, .sentinel] true (true, "cad1ac15bbe0d173cc4ad633fce6cf0f3dc5bbd550a450317c015fae4feb8bb4") true
    over (fun _ h => by cases h) (by kernel_rfl) (fun _ h => by cases h) semverPseudo_row_tie rfl ⟨rfl, rfl⟩ (by kernel_rfl) rfl
    (fun f fn hf hfn => by
      obtain rfl : f = 7 := Option.some.inj ((show Tryd.prog.funcNamed "graftbed/graftbedlaw03.SemverPseudo" = some 7 by kernel_rfl).symm.trans hf) |>.symm
      obtain rfl : fn = Tryd.f7 := (Option.some.inj (Tryd.func7.symm.trans hfn)).symm
      exact ⟨by kernel_rfl, fun j t ht => by
        rw [Tryd.params7] at ht
        have hm : t ∈ [9, 40, 40, 5] := by simpa using Array.mem_of_getElem? ht
        have hall : ([9, 40, 40, 5].all fun u => !Tryd.prog.wantsStandIn u) = true := by kernel_rfl
        exact (show Tryd.prog.wantsStandIn t = false by simpa using List.all_eq_true.1 hall t hm)⟩)
    (by kernel_rfl)
#print axioms proved
end Go.Proofs.YtoljpmelfebjoaaDoor.semverPseudo
