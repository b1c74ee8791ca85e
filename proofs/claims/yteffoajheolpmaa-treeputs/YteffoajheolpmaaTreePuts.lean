/-
  For every list of files and every file the Go function graftbedlaw02.TreePuts returns true: into any tree any file is put, or refused, as the document says; it is a tree again; the file is found, all others stay (P2.2, P2.6). No condition.
-/
import Derived.Test.YteffoajheolpmaaRows
import Derived.Test.YteffoajheolpmaaL0
import Derived.Test.YteffoajheolpmaaF8
import Derived.Test.YteffoajheolpmaaT1
import Derived.Test.YteffoajheolpmaaF9
import Derived.Test.YteffoajheolpmaaT2
namespace Go.Proofs.Yteffoajheolpmaa.treePuts
open Go.ChangeShapes Go.WideShapes Go.ChangeAt Go.RowKit Go.Deep
open Go.ChangeMaps (open_string shut_string)
set_option linter.unusedVariables false

set_option maxRecDepth 100000 in
set_option maxHeartbeats 2000000 in
theorem walk (w : World) (v0 : Value) (a0 : List FileB) (r0 : FRow w v0 a0) (l0 : a0.length ≤ maxLen) (w0 : ∀ f ∈ a0, f.1.size ≤ maxLen ∧ f.2.size ≤ maxLen) (a1 : FileB) (w1 : a1.1.size ≤ maxLen) (x1 : a1.2.size ≤ maxLen) :
    Calls Try.prog 4 #[v0, fileV a1] w fun e w' => e = .returned (.bool true) ∧ Below w.heap.size w w' := by
  obtain ⟨p, d⟩ := a1
  have HW := Lib.hid r0
  obtain ⟨va, vc, rfl, hlc, -⟩ := r0
  clear w0
  unfold fileV
  have hA1 : Below w.heap.size w (w.alloc (.cells #[.string p, .string d] 32)) := (Below.refl _ _).alloc (Nat.le_refl _) _
  have hA2 := hA1.alloc hA1.size (.cells #[.string p, .string d] 32)
  have HBf := Lib.hid ((FBox.new w p d).alloc (.cells #[.string p, .string d] 32))
  have hOne := FRow.one (w.alloc (.cells #[.string p, .string d] 32)) p d
  simp only [World.size_alloc] at hOne
  have HOne := Lib.hid hOne
  clear hOne
  go_enter Try.func4, Try.ntmps4
  go_wp2_with fail
  refine (heavy_any a0 _ _ (HW.out.below hA2) l0).mono ?_
  rintro _ w1 ⟨b, n, rfl, hli, rfl⟩
  have HLi := Lib.hid hli
  clear hli
  have hB := below_drewN hA2 n
  cases b
  · have HL := Lib.hid (HLi.out rfl)
    go_wp2_with fail
    refine (heavy_any [(p, d)] _ _ (HOne.out.drew n) (show 1 ≤ maxLen by decide)).mono ?_
    rintro _ w1 ⟨b, m, rfl, hli, rfl⟩
    have HLi2 := Lib.hid hli
    clear hli
    replace hB := below_drewN hA2 (n + m)
    cases b
    · have s1 : p.size ≤ 16384 ∧ d.size ≤ 16384 := (HLi2.out rfl).2 (p, d) (by simp)
      go_wp2_with fail
      refine (shown_any _).mono ?_
      rintro _ w2 ⟨rfl, hb2⟩
      replace hB := hB.trans (hb2.mono hB.size)
      have HF2 := Lib.hid ((HBf.out.drewN (n + m)).below hb2)
      obtain ⟨-, f0, f1⟩ := HF2.out
      change _ = some (Value.string p) at f0
      change _ = some (Value.string d) at f1
      go_wp2_with fail
      refine (grown_any a0 _ _ (HW.out.below hB) HL.out).mono ?_
      rintro _ w3 ⟨A, c, t, rfl, hrow, ht, hb3⟩
      replace hB := hB.trans (hb3.mono hB.size)
      have HR3 := Lib.hid hrow
      have HT := Lib.hid ht
      have hfew := ht.few
      have HF3 := Lib.hid (HF2.out.below hb3)
      clear hrow ht hb3 hb2 f0 f1 HF2
      obtain ⟨-, f0, f1⟩ := HF3.out
      change _ = some (Value.string p) at f0
      change _ = some (Value.string d) at f1
      go_wp2_with fail
      refine (tput_tree HT.out (p, d) _ _ HR3.out (Nat.le_trans s1.1 (by decide)) (Nat.le_trans s1.2 (by decide))).mono ?_
      rintro _ w4 ⟨A4, c4, rfl, hrow4, hb4⟩
      replace hB := hB.trans (hb4.mono hB.size)
      have HR4 := Lib.hid (HR3.out.below hb4)
      have HP4 := Lib.hid hrow4
      have HF4 := Lib.hid (HF3.out.below hb4)
      clear hrow4 hb4 f0 f1 HF3 HR3
      obtain ⟨-, f0, f1⟩ := HF4.out
      change _ = some (Value.string p) at f0
      change _ = some (Value.string d) at f1
      go_wp2_with fail
      refine (rput_tree HT.out (p, d) _ _ HR4.out (Nat.le_trans s1.1 (by decide)) (Nat.le_trans s1.2 (by decide))).mono ?_
      rintro _ w5 ⟨A5, c5, rfl, hrow5, hb5⟩
      replace hB := hB.trans (hb5.mono hB.size)
      have HR5 := Lib.hid (HR4.out.below hb5)
      have HP5 := Lib.hid (HP4.out.below hb5)
      have HS5 := Lib.hid hrow5
      have HF5 := Lib.hid (HF4.out.below hb5)
      clear hrow5 hb5 f0 f1 HF4 HR4 HP4
      obtain ⟨-, f0, f1⟩ := HF5.out
      change _ = some (Value.string p) at f0
      change _ = some (Value.string d) at f1
      have hlen : (putR t (p, d)).length ≤ 60 := putR_len
      have hee : (putE t (p, d) == putE t (p, d)) = true := by simp
      have hee' : (putE t (p, d) != putE t (p, d)) = false := by simp
      by_cases he : putE t (p, d) = 0
      · have HT1 := Lib.hid (HT.out.put he)
        have HFd := Lib.hid (find_put HT.out.up (p, d))
        have hpl := put_len t (p, d)
        have hmx := (HT.out.put he).few
        have HFo := Lib.hid (fun g (hg : g ∈ t) hne => find_put_other HT.out.up (f := (p, d)) hg hne)
        have hpv := (valid_size (putE_zero he).1).2
        have HP5' := Lib.hid HP5.out
        have HS5' := Lib.hid HS5.out
        rw [putR_yes he] at HP5' HS5' ⊢
        rw [he]
        clear he HP5 HS5 hlen hee hee'
        generalize putL t (p, d) = t1 at *
        go_wp2_with fail
        refine (same_yes _ _ _ HP5'.out HS5'.out (by omega)).mono ?_
        rintro _ w6 ⟨rfl, n6, rfl⟩
        replace hB := below_drewN hB n6
        go_wp2_with fail
        refine (tfind_v HFd.out _ _ (HP5'.out.drew n6) HT1.out (by omega)).mono ?_
        rintro _ w7 ⟨rfl, hb7⟩
        replace hB := hB.trans (hb7.mono hB.size)
        have HR7 := Lib.hid ((HR5.out.drew n6).below hb7)
        have HP7 := Lib.hid ((HP5'.out.drew n6).below hb7)
        have HF7 := Lib.hid ((HF5.out.drewN n6).below hb7)
        clear hb7 f0 f1 HF5 HR5 HP5'
        obtain ⟨-, f0, f1⟩ := HF7.out
        change _ = some (Value.string p) at f0
        change _ = some (Value.string d) at f1
        go_wp2_with fail
        refine (tcheck_tree HT1.out _ _ HP7.out).mono ?_
        rintro _ w8 ⟨rfl, hb8⟩
        replace hB := hB.trans (hb8.mono hB.size)
        have HR8 := Lib.hid (HR7.out.below hb8)
        have HP8 := Lib.hid (HP7.out.below hb8)
        have HF8 := Lib.hid (HF7.out.below hb8)
        clear hb8 f0 f1 HF7 HR7 HP7
        go_wp2
        go_loopw [13] (fun i wr => ∃ k : Nat, k ≤ t.length ∧ i = .int .i64 k ∧ Below w.heap.size w wr ∧ Below w8.heap.size w8 wr) (fun i _ => t.length - (intOf i).toNat)
        case atStart => exact ⟨0, Nat.zero_le _, rfl, hB, Below.refl _ _⟩
        case round =>
          obtain ⟨k, hk, rfl, hb, hb8⟩ := hrel
          by_cases hlt : k < t.length
          · obtain ⟨a', c'', e', hl', hcl⟩ := HR8.out
            cases e'
            obtain ⟨g, o, rfl, hg, hcell⟩ := hcl (by intro e; rw [e] at hlt; simp at hlt)
            have HQ := Lib.hid (fun w' (h : Below w8.heap.size w8 w') => And.intro ((h.cell (p := ⟨g, _, none⟩) hg).trans (hcell k hlt).1) ((h.cell (p := ⟨g, _, none⟩) hg).trans (hcell k hlt).2))
            have hsz : t[k].1.size ≤ 20300 := HT.out.short _ (List.getElem_mem hlt)
            have HO := Lib.hid (HFo.out t[k] (List.getElem_mem hlt))
            clear hcell hcl
            obtain ⟨q1, q2⟩ := HQ.out _ hb8
            by_cases hpe : t[k].1 = p
            · generalize t[k] = x at *
              obtain ⟨x1, x2⟩ := x
              obtain rfl : x1 = p := hpe
              have e1 : (x1.toList == x1.toList) = true := by simp
              have e2 : (x1.toList != x1.toList) = false := by simp
              go_wp2_with fail
              refine (tfind_v HFd.out _ _ (HP8.out.below hb8) HT1.out (by omega)).mono ?_
              rintro _ w9 ⟨rfl, hb9⟩
              have hb' := hb.trans (hb9.mono hb.size)
              have hb8' := hb8.trans (hb9.mono hb8.size)
              clear q1 q2
              obtain ⟨q1, q2⟩ := HQ.out _ hb8'
              obtain ⟨-, f0, f1⟩ := HF8.out.below hb8'
              change _ = some (Value.string x1) at f0
              go_wp2
              go_quiet (fail)
              go_wp2
              go_roundw
              case rel => exact ⟨k + 1, by omega, by go_num, below_drewN hb' _, below_drewN hb8' _⟩
              case measure => simp [intOf]; omega
            · have HFx := Lib.hid (HO.out hpe)
              generalize t[k] = x at *
              obtain ⟨x1, x2⟩ := x
              have hpe' : ¬ x1.toList = p.toList := fun h => hpe (toList_inj.1 h)
              have e1 : (x1.toList == p.toList) = false := by simp [hpe']
              have e2 : (x1.toList != p.toList) = true := by simp [hpe']
              have e3 : (x2.toList == x2.toList) = true := by simp
              have e4 : (x2.toList != x2.toList) = false := by simp
              clear hpe hpe'
              go_wp2_with fail
              refine (tfind_v HFx.out _ _ (HP8.out.below hb8) HT1.out hsz).mono ?_
              rintro _ w9 ⟨rfl, hb9⟩
              have hb' := hb.trans (hb9.mono hb.size)
              have hb8' := hb8.trans (hb9.mono hb8.size)
              clear q1 q2
              obtain ⟨q1, q2⟩ := HQ.out _ hb8'
              obtain ⟨-, f0, f1⟩ := HF8.out.below hb8'
              change _ = some (Value.string p) at f0
              go_wp2
              go_quiet (fail)
              go_wp2
              go_roundw
              case rel => exact ⟨k + 1, by omega, by go_num, below_drewN hb' _, below_drewN hb8' _⟩
              case measure => simp [intOf]; omega
          · have hpl' : decide ((t1.length : Int) ≤ (t.length : Int) + 1) = true := by simp; omega
            have hpl2 : (t1.length : Int) ≤ (t.length : Int) + 1 := by omega
            go_wp2
            go_ret
            exact ⟨rfl, hb⟩
      · have HZ := Lib.hid (show putR t (p, d) = [] from putR_no rfl he)
        have he1' : (putE t (p, d) == 0) = false := by simp [he]
        have he1'' : (putE t (p, d) != 0) = true := by simp [he]
        clear he
        go_wp2_with fail
        refine (same_yes _ _ _ HP5.out HS5.out (by omega)).mono ?_
        rintro _ w6 ⟨rfl, n6, rfl⟩
        rw [HZ.out]
        go_wp2
        go_ret
        exact ⟨rfl, below_drewN hB _⟩
    · go_wp2_with fail
      refine (shown_any _).mono ?_
      rintro _ w2 ⟨rfl, hb2⟩
      go_wp2
      go_ret
      exact ⟨rfl, hB.trans (hb2.mono hB.size)⟩
  · go_wp2_with fail
    refine (shown_any _).mono ?_
    rintro _ w2 ⟨rfl, hb2⟩
    go_wp2
    go_ret
    exact ⟨rfl, hB.trans (hb2.mono hB.size)⟩

set_option maxRecDepth 100000 in
theorem lifted (os : Os) (started : os.Started) (H : Type) (enc : TypeId × Value → H) :
    ReturnsInHanded {} Try.checked os 4 .any (Rows.treePutsSpec.pre6 enc Try.prog Try.f4 Rows.treePutsRow.domain false) (Rows.treePutsSpec.post enc Try.prog Try.f4 false true false false) := by
  refine returnsInHanded_of_change (C := Try.checked) own started (by kernel_rfl) Try.func4
    (ChangeSpec.witness6 (enc := enc) (C := Try.checked) false ⟨#[], #[.slice none 0 0, .agg #[.string ByteArray.empty, .string ByteArray.empty]], []⟩ 8 (by kernel_rfl) (by kernel_rfl) (by kernel_rfl) (by kernel_rfl)) ?_
  intro W base args ds gs before hval0 hW hcnd _
  have hval : ∀ (j : Nat) t v, Try.f4.params[j]? = some t → args[j]? = some v → Value.okWide Try.prog W .any base t v := hval0
  have hW' := hW
  obtain ⟨p, q, hA0, hV, rfl, hfz, hnd⟩ := hW
  have hA : DataW.TrodAll enc Try.prog W 0 (fun _ => true) true Try.f4.params.toList args.toList ds p := hA0
  rw [Try.params4] at hA hval
  obtain ⟨v0, vs0, d0, ds0, p0, q0, hargs, rfl, rfl, h0, r0⟩ := trodAll_cons hA
  obtain ⟨v1, vs1, d1, ds1, p1, q1, rfl, rfl, rfl, h1, r1⟩ := trodAll_cons r0
  obtain ⟨rfl, rfl, rfl⟩ := trodAll_nil r1
  obtain rfl : args = #[v0, v1] := by cases args; simp_all
  obtain ⟨rfl, rfl⟩ := trodVars_none hV
  obtain ⟨a0, g0, l0, w0, u0⟩ := open_files (hval 0 22 v0 rfl rfl) h0
  obtain ⟨a1, rfl, w1, x1, u1⟩ := open_file (hval 1 32 v1 rfl rfl) h1
  clear hA0 hval0
  simp only [List.append_nil] at hW'
  refine (walk W v0 a0 g0 l0 w0 a1 w1 x1).mono fun e W' ⟨he, bel⟩ => ?_
  subst he
  refine ⟨_, rfl, _, _, _, [], _, [], hW', trodAll_mk1 (shut_bool Try.underlying4 _), (trodAll_cons_mk (u0 _ bel) (trodAll_cons_mk (u1 _ _) trodAll_mk0)), rfl, bel.frame _, fun h => by cases h⟩

theorem over : Rows.treePutsRow.holds Try.pinned (OpenSpec.ofChange Rows.treePutsSpec) :=
  OpenClaim.holds_of_wide 4 Try.f4 rfl rfl rfl rfl rfl rfl rfl ⟨rfl, rfl, rfl, rfl, rfl⟩ rfl rfl rfl rfl rfl (by kernel_rfl) Try.func4 (by kernel_rfl)
    (of_decide_eq_true (by kernel_rfl)) (by unfold Func.isWrapper; first | (rw [if_pos (by decide +kernel)]; kernel_rfl) | (rw [if_neg (by decide +kernel)]; exact ⟨rfl, rfl⟩))
    (fun os started H enc _ => lifted os started H enc)

theorem proved : Rows.TreePutsSaid :=
  over
#print axioms proved
end Go.Proofs.Yteffoajheolpmaa.treePuts
