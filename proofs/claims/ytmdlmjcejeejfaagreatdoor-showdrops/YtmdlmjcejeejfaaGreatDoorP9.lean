/-
  The document's own test of identifiers.
-/
import Derived.Test.YtmdlmjcejeejfaaGreatDoorP8
namespace Go.Proofs.YtmdlmjcejeejfaaGreatDoor
open Go.RowKit Go.Shelf

/-- How far the test has come. -/
def IdAt (xs : List ByteArray) (p : List UInt8 → Bool) (k : Nat) : Prop := ((xs.take k).all fun x => p x.data.toList) = true
theorem IdAt.on {xs : List ByteArray} {p : List UInt8 → Bool} {k : Nat} (h : IdAt xs p k) (hk : k < xs.length) {x : ByteArray} (hx : x = xs[k]) (hp : p x.data.toList = true) : IdAt xs p (k + 1) := by
  unfold IdAt at h ⊢
  rw [List.take_succ_eq_append_getElem hk, List.all_append, h, ← hx]; simp [hp]
theorem IdAt.done {xs : List ByteArray} {p : List UInt8 → Bool} {k : Nat} (h : IdAt xs p k) (hk : xs.length ≤ k) : (xs.all fun x => p x.data.toList) = true := by
  unfold IdAt at h
  rwa [List.take_of_length_le hk] at h
theorem id_no {s : ByteArray} {xs : List ByteArray} {p : List UInt8 → Bool} {k : Nat} (hk : k < xs.length) (he : everyD s p = xs.all fun x => p x.data.toList) (h : p xs[k].data.toList = false) : everyD s p = false := by
  rw [he, List.all_eq_false]
  exact ⟨xs[k], List.getElem_mem hk, by simp [h]⟩
theorem pre_nought {l : List UInt8} (k : digs l = true) (n : nought l = true) : preId l = false := by simp [preId, k, n]

set_option maxRecDepth 100000 in
set_option maxHeartbeats 2000000 in
theorem ridentifiers_f (s : ByteArray) (hs : s.size ≤ 20400) (w : World) :
    Calls Tryz.prog 84 #[.string s, .bool false] w fun e w' => e = .returned (.bool (everyD s idn)) ∧ Below w.heap.size w w' := by
  have HD := Lib.hid rdigit_any
  have HG := Lib.hid rdigits_any
  have hcount := partsD_count 46 s
  have HS := Lib.hid (fun x (hx : x ∈ partsD 46 s) => Nat.le_trans (partsD_size hx) hs)
  have HE := Lib.hid (everyD_parts s idn)
  go_enter Tryz.func84, Tryz.ntmps84
  go_wp2_with fail
  refine (rsplit_any 46 s hs _).mono ?_
  rintro _ w1 ⟨v, rfl, ⟨a, cap, rfl, hc⟩, hbw⟩
  generalize partsD 46 s = xs at *
  have HR := Lib.hid hc
  have HW := Lib.hid hbw
  clear hc hbw
  go_wp2
  go_loop [6] (fun i => ∃ k : Nat, k ≤ xs.length ∧ i = .int .i64 k ∧ IdAt xs idn k) (fun i => xs.length - (intOf i).toNat)
  case atStart => exact ⟨0, Nat.zero_le _, rfl, rfl⟩
  case round =>
    obtain ⟨k, hk, rfl, hl⟩ := hrel
    have HK := Lib.hid hl
    clear hl
    by_cases hlt : k < xs.length
    · obtain ⟨g, rfl, hg, hcell⟩ := HR.out (by intro e; rw [e] at hlt; simp at hlt)
      have q1 := hcell k hlt
      clear hcell
      obtain ⟨x, hx⟩ : ∃ x, x = xs[k] := ⟨_, rfl⟩
      have hxs := HS.out xs[k] (List.getElem_mem hlt)
      have HB := Lib.hid (fun (e : idn xs[k].data.toList = false) => (id_no hlt HE.out e : everyD s idn = false))
      rw [← hx] at q1 hxs HB
      have HX := Lib.hid hx
      clear hx
      cases hne : x.toList.isEmpty
      · have HI := Lib.hid (fun (e : idn x.data.toList = true) => e)
        go_wp2
        go_loop [7] (fun j => ∃ q : Nat, q ≤ x.size ∧ j = .int .i64 q ∧ allTo x nam q = true) (fun j => x.size - (intOf j).toNat)
        case atStart => exact ⟨0, Nat.zero_le _, rfl, rfl⟩
        case round =>
          obtain ⟨q, hq, rfl, hl⟩ := hrel
          have HA := Lib.hid hl
          clear hl
          by_cases hqt : q < x.size
          · have hcs := nam_cases x[q]
            go_wp2_with fail
            refine (HD.out x[q] _).mono ?_
            rintro _ w' ⟨rfl, rfl⟩
            generalize hcc : x[q] = c at *
            have HCC := Lib.hid hcc
            clear hcc
            rcases hcs with ⟨hn, h1 | ⟨h1, ⟨h2, h3⟩ | ⟨h2, h3, h4⟩ | h2⟩⟩ | ⟨hn, h1, h2, h3 | ⟨h3, h4⟩ | h3⟩
            · have HN := Lib.hid hn
              clear hn
              rw [h1]
              go_wp2
              go_round
              case rel => exact ⟨q + 1, by omega, by go_num, all_yes hqt HA.out (by rw [HCC.out]; exact HN.out)⟩
              case measure => simp [intOf]; omega
            · have HN := Lib.hid hn
              clear hn
              rw [h1]
              go_wp2
              go_round
              case rel => exact ⟨q + 1, by omega, by go_num, all_yes hqt HA.out (by rw [HCC.out]; exact HN.out)⟩
              case measure => simp [intOf]; omega
            · have HN := Lib.hid hn
              clear hn
              rw [h1]
              go_wp2
              go_round
              case rel => exact ⟨q + 1, by omega, by go_num, all_yes hqt HA.out (by rw [HCC.out]; exact HN.out)⟩
              case measure => simp [intOf]; omega
            · have HN := Lib.hid hn
              have h3 : (c.toNat : Int) < 97 := by omega
              have h4 : (c.toNat : Int) < 65 := by omega
              have h5 : ((c.toNat : Int) == 45) = true := by rw [h2]; rfl
              clear hn h2
              rw [h1]
              go_wp2
              go_round
              case rel => exact ⟨q + 1, by omega, by go_num, all_yes hqt HA.out (by rw [HCC.out]; exact HN.out)⟩
              case measure => simp [intOf]; omega
            · have HN := Lib.hid (HB.out (allL_no (all_no hqt (by rw [HCC.out]; exact hn))))
              have h4 : (c.toNat : Int) < 97 := by omega
              clear hn
              rw [h1]
              go_wp2
              go_ret
              exact ⟨ret_bool HN.out.symm, HW.out⟩
            · have HN := Lib.hid (HB.out (allL_no (all_no hqt (by rw [HCC.out]; exact hn))))
              have h6 : ¬ (c.toNat : Int) < 65 := by omega
              clear hn
              rw [h1]
              go_wp2
              go_ret
              exact ⟨ret_bool HN.out.symm, HW.out⟩
            · have HN := Lib.hid (HB.out (allL_no (all_no hqt (by rw [HCC.out]; exact hn))))
              have h4 : 90 < (c.toNat : Int) := by omega
              have h5 : ¬ (c.toNat : Int) < 97 := by omega
              have h6 : ¬ (c.toNat : Int) < 65 := by omega
              clear hn
              rw [h1]
              go_wp2
              go_ret
              exact ⟨ret_bool HN.out.symm, HW.out⟩
          · have HN := Lib.hid (HI.out (allL_yes (all_end (by omega) HA.out) hne))
            go_wp2
            go_round
            case rel => exact ⟨k + 1, by omega, by go_num, HK.out.on hlt HX.out HN.out⟩
            case measure => simp [intOf]; omega
      · have HN := Lib.hid (HB.out (allL_nil hne))
        go_wp2
        go_ret
        exact ⟨ret_bool HN.out.symm, HW.out⟩
    · have HN := Lib.hid (show everyD s idn = true by rw [HE.out]; exact HK.out.done (by omega))
      go_wp2
      go_ret
      exact ⟨ret_bool HN.out.symm, HW.out⟩

set_option maxRecDepth 100000 in
set_option maxHeartbeats 2000000 in
theorem ridentifiers_t (s : ByteArray) (hs : s.size ≤ 20400) (w : World) :
    Calls Tryz.prog 84 #[.string s, .bool true] w fun e w' => e = .returned (.bool (everyD s preId)) ∧ Below w.heap.size w w' := by
  have HD := Lib.hid rdigit_any
  have HG := Lib.hid rdigits_any
  have hcount := partsD_count 46 s
  have HS := Lib.hid (fun x (hx : x ∈ partsD 46 s) => Nat.le_trans (partsD_size hx) hs)
  have HE := Lib.hid (everyD_parts s preId)
  go_enter Tryz.func84, Tryz.ntmps84
  go_wp2_with fail
  refine (rsplit_any 46 s hs _).mono ?_
  rintro _ w1 ⟨v, rfl, ⟨a, cap, rfl, hc⟩, hbw⟩
  generalize partsD 46 s = xs at *
  have HR := Lib.hid hc
  have HW := Lib.hid hbw
  clear hc hbw
  go_wp2
  go_loop [6] (fun i => ∃ k : Nat, k ≤ xs.length ∧ i = .int .i64 k ∧ IdAt xs preId k) (fun i => xs.length - (intOf i).toNat)
  case atStart => exact ⟨0, Nat.zero_le _, rfl, rfl⟩
  case round =>
    obtain ⟨k, hk, rfl, hl⟩ := hrel
    have HK := Lib.hid hl
    clear hl
    by_cases hlt : k < xs.length
    · obtain ⟨g, rfl, hg, hcell⟩ := HR.out (by intro e; rw [e] at hlt; simp at hlt)
      have q1 := hcell k hlt
      clear hcell
      obtain ⟨x, hx⟩ : ∃ x, x = xs[k] := ⟨_, rfl⟩
      have hxs := HS.out xs[k] (List.getElem_mem hlt)
      have HB0 := Lib.hid (fun (e : preId xs[k].data.toList = false) => (id_no hlt HE.out e : everyD s preId = false))
      rw [← hx] at q1 hxs HB0
      have HB := Lib.hid (fun (e : idn x.data.toList = false) => HB0.out (preId_1 e))
      have HX := Lib.hid hx
      clear hx
      cases hne : x.toList.isEmpty
      · cases hdg : digs x.data.toList
        · have HI := Lib.hid (fun (e : idn x.data.toList = true) => preId_2 e hdg)
          go_wp2_with fail
          refine (HG.out x hxs _).mono ?_
          rintro _ w' ⟨rfl, rfl⟩
          rw [hdg]
          clear hdg
          go_wp2
          go_loop [7] (fun j => ∃ q : Nat, q ≤ x.size ∧ j = .int .i64 q ∧ allTo x nam q = true) (fun j => x.size - (intOf j).toNat)
          case atStart => exact ⟨0, Nat.zero_le _, rfl, rfl⟩
          case round =>
            obtain ⟨q, hq, rfl, hl⟩ := hrel
            have HA := Lib.hid hl
            clear hl
            by_cases hqt : q < x.size
            · have hcs := nam_cases x[q]
              go_wp2_with fail
              refine (HD.out x[q] _).mono ?_
              rintro _ w' ⟨rfl, rfl⟩
              generalize hcc : x[q] = c at *
              have HCC := Lib.hid hcc
              clear hcc
              rcases hcs with ⟨hn, h1 | ⟨h1, ⟨h2, h3⟩ | ⟨h2, h3, h4⟩ | h2⟩⟩ | ⟨hn, h1, h2, h3 | ⟨h3, h4⟩ | h3⟩
              · have HN := Lib.hid hn
                clear hn
                rw [h1]
                go_wp2
                go_round
                case rel => exact ⟨q + 1, by omega, by go_num, all_yes hqt HA.out (by rw [HCC.out]; exact HN.out)⟩
                case measure => simp [intOf]; omega
              · have HN := Lib.hid hn
                clear hn
                rw [h1]
                go_wp2
                go_round
                case rel => exact ⟨q + 1, by omega, by go_num, all_yes hqt HA.out (by rw [HCC.out]; exact HN.out)⟩
                case measure => simp [intOf]; omega
              · have HN := Lib.hid hn
                clear hn
                rw [h1]
                go_wp2
                go_round
                case rel => exact ⟨q + 1, by omega, by go_num, all_yes hqt HA.out (by rw [HCC.out]; exact HN.out)⟩
                case measure => simp [intOf]; omega
              · have HN := Lib.hid hn
                have h3 : (c.toNat : Int) < 97 := by omega
                have h4 : (c.toNat : Int) < 65 := by omega
                have h5 : ((c.toNat : Int) == 45) = true := by rw [h2]; rfl
                clear hn h2
                rw [h1]
                go_wp2
                go_round
                case rel => exact ⟨q + 1, by omega, by go_num, all_yes hqt HA.out (by rw [HCC.out]; exact HN.out)⟩
                case measure => simp [intOf]; omega
              · have HN := Lib.hid (HB.out (allL_no (all_no hqt (by rw [HCC.out]; exact hn))))
                have h4 : (c.toNat : Int) < 97 := by omega
                clear hn
                rw [h1]
                go_wp2
                go_ret
                exact ⟨ret_bool HN.out.symm, HW.out⟩
              · have HN := Lib.hid (HB.out (allL_no (all_no hqt (by rw [HCC.out]; exact hn))))
                have h6 : ¬ (c.toNat : Int) < 65 := by omega
                clear hn
                rw [h1]
                go_wp2
                go_ret
                exact ⟨ret_bool HN.out.symm, HW.out⟩
              · have HN := Lib.hid (HB.out (allL_no (all_no hqt (by rw [HCC.out]; exact hn))))
                have h4 : 90 < (c.toNat : Int) := by omega
                have h5 : ¬ (c.toNat : Int) < 97 := by omega
                have h6 : ¬ (c.toNat : Int) < 65 := by omega
                clear hn
                rw [h1]
                go_wp2
                go_ret
                exact ⟨ret_bool HN.out.symm, HW.out⟩
            · have HN := Lib.hid (HI.out (allL_yes (all_end (by omega) HA.out) hne))
              go_wp2
              go_round
              case rel => exact ⟨k + 1, by omega, by go_num, HK.out.on hlt HX.out HN.out⟩
              case measure => simp [intOf]; omega
        · by_cases h1s : 1 < x.size
          · cases h0s : ((x[0].toNat : Int) == 48)
            · have HI := Lib.hid (fun (e : idn x.data.toList = true) => preId_3 e hdg (nought_2 h1s h0s))
              go_wp2_with fail
              refine (HG.out x hxs _).mono ?_
              rintro _ w' ⟨rfl, rfl⟩
              rw [hdg]
              clear hdg
              go_wp2
              go_loop [7] (fun j => ∃ q : Nat, q ≤ x.size ∧ j = .int .i64 q ∧ allTo x nam q = true) (fun j => x.size - (intOf j).toNat)
              case atStart => exact ⟨0, Nat.zero_le _, rfl, rfl⟩
              case round =>
                obtain ⟨q, hq, rfl, hl⟩ := hrel
                have HA := Lib.hid hl
                clear hl
                by_cases hqt : q < x.size
                · have hcs := nam_cases x[q]
                  go_wp2_with fail
                  refine (HD.out x[q] _).mono ?_
                  rintro _ w' ⟨rfl, rfl⟩
                  generalize hcc : x[q] = c at *
                  have HCC := Lib.hid hcc
                  clear hcc
                  rcases hcs with ⟨hn, h1 | ⟨h1, ⟨h2, h3⟩ | ⟨h2, h3, h4⟩ | h2⟩⟩ | ⟨hn, h1, h2, h3 | ⟨h3, h4⟩ | h3⟩
                  · have HN := Lib.hid hn
                    clear hn
                    rw [h1]
                    go_wp2
                    go_round
                    case rel => exact ⟨q + 1, by omega, by go_num, all_yes hqt HA.out (by rw [HCC.out]; exact HN.out)⟩
                    case measure => simp [intOf]; omega
                  · have HN := Lib.hid hn
                    clear hn
                    rw [h1]
                    go_wp2
                    go_round
                    case rel => exact ⟨q + 1, by omega, by go_num, all_yes hqt HA.out (by rw [HCC.out]; exact HN.out)⟩
                    case measure => simp [intOf]; omega
                  · have HN := Lib.hid hn
                    clear hn
                    rw [h1]
                    go_wp2
                    go_round
                    case rel => exact ⟨q + 1, by omega, by go_num, all_yes hqt HA.out (by rw [HCC.out]; exact HN.out)⟩
                    case measure => simp [intOf]; omega
                  · have HN := Lib.hid hn
                    have h3 : (c.toNat : Int) < 97 := by omega
                    have h4 : (c.toNat : Int) < 65 := by omega
                    have h5 : ((c.toNat : Int) == 45) = true := by rw [h2]; rfl
                    clear hn h2
                    rw [h1]
                    go_wp2
                    go_round
                    case rel => exact ⟨q + 1, by omega, by go_num, all_yes hqt HA.out (by rw [HCC.out]; exact HN.out)⟩
                    case measure => simp [intOf]; omega
                  · have HN := Lib.hid (HB.out (allL_no (all_no hqt (by rw [HCC.out]; exact hn))))
                    have h4 : (c.toNat : Int) < 97 := by omega
                    clear hn
                    rw [h1]
                    go_wp2
                    go_ret
                    exact ⟨ret_bool HN.out.symm, HW.out⟩
                  · have HN := Lib.hid (HB.out (allL_no (all_no hqt (by rw [HCC.out]; exact hn))))
                    have h6 : ¬ (c.toNat : Int) < 65 := by omega
                    clear hn
                    rw [h1]
                    go_wp2
                    go_ret
                    exact ⟨ret_bool HN.out.symm, HW.out⟩
                  · have HN := Lib.hid (HB.out (allL_no (all_no hqt (by rw [HCC.out]; exact hn))))
                    have h4 : 90 < (c.toNat : Int) := by omega
                    have h5 : ¬ (c.toNat : Int) < 97 := by omega
                    have h6 : ¬ (c.toNat : Int) < 65 := by omega
                    clear hn
                    rw [h1]
                    go_wp2
                    go_ret
                    exact ⟨ret_bool HN.out.symm, HW.out⟩
                · have HN := Lib.hid (HI.out (allL_yes (all_end (by omega) HA.out) hne))
                  go_wp2
                  go_round
                  case rel => exact ⟨k + 1, by omega, by go_num, HK.out.on hlt HX.out HN.out⟩
                  case measure => simp [intOf]; omega
            · have HN := Lib.hid (HB0.out (pre_nought hdg (nought_2 h1s h0s)))
              go_wp2_with fail
              refine (HG.out x hxs _).mono ?_
              rintro _ w' ⟨rfl, rfl⟩
              rw [hdg]
              clear hdg
              go_wp2
              go_ret
              exact ⟨ret_bool HN.out.symm, HW.out⟩
          · have HI := Lib.hid (fun (e : idn x.data.toList = true) => preId_3 e hdg (nought_1 h1s))
            go_wp2_with fail
            refine (HG.out x hxs _).mono ?_
            rintro _ w' ⟨rfl, rfl⟩
            rw [hdg]
            clear hdg
            go_wp2
            go_loop [7] (fun j => ∃ q : Nat, q ≤ x.size ∧ j = .int .i64 q ∧ allTo x nam q = true) (fun j => x.size - (intOf j).toNat)
            case atStart => exact ⟨0, Nat.zero_le _, rfl, rfl⟩
            case round =>
              obtain ⟨q, hq, rfl, hl⟩ := hrel
              have HA := Lib.hid hl
              clear hl
              by_cases hqt : q < x.size
              · have hcs := nam_cases x[q]
                go_wp2_with fail
                refine (HD.out x[q] _).mono ?_
                rintro _ w' ⟨rfl, rfl⟩
                generalize hcc : x[q] = c at *
                have HCC := Lib.hid hcc
                clear hcc
                rcases hcs with ⟨hn, h1 | ⟨h1, ⟨h2, h3⟩ | ⟨h2, h3, h4⟩ | h2⟩⟩ | ⟨hn, h1, h2, h3 | ⟨h3, h4⟩ | h3⟩
                · have HN := Lib.hid hn
                  clear hn
                  rw [h1]
                  go_wp2
                  go_round
                  case rel => exact ⟨q + 1, by omega, by go_num, all_yes hqt HA.out (by rw [HCC.out]; exact HN.out)⟩
                  case measure => simp [intOf]; omega
                · have HN := Lib.hid hn
                  clear hn
                  rw [h1]
                  go_wp2
                  go_round
                  case rel => exact ⟨q + 1, by omega, by go_num, all_yes hqt HA.out (by rw [HCC.out]; exact HN.out)⟩
                  case measure => simp [intOf]; omega
                · have HN := Lib.hid hn
                  clear hn
                  rw [h1]
                  go_wp2
                  go_round
                  case rel => exact ⟨q + 1, by omega, by go_num, all_yes hqt HA.out (by rw [HCC.out]; exact HN.out)⟩
                  case measure => simp [intOf]; omega
                · have HN := Lib.hid hn
                  have h3 : (c.toNat : Int) < 97 := by omega
                  have h4 : (c.toNat : Int) < 65 := by omega
                  have h5 : ((c.toNat : Int) == 45) = true := by rw [h2]; rfl
                  clear hn h2
                  rw [h1]
                  go_wp2
                  go_round
                  case rel => exact ⟨q + 1, by omega, by go_num, all_yes hqt HA.out (by rw [HCC.out]; exact HN.out)⟩
                  case measure => simp [intOf]; omega
                · have HN := Lib.hid (HB.out (allL_no (all_no hqt (by rw [HCC.out]; exact hn))))
                  have h4 : (c.toNat : Int) < 97 := by omega
                  clear hn
                  rw [h1]
                  go_wp2
                  go_ret
                  exact ⟨ret_bool HN.out.symm, HW.out⟩
                · have HN := Lib.hid (HB.out (allL_no (all_no hqt (by rw [HCC.out]; exact hn))))
                  have h6 : ¬ (c.toNat : Int) < 65 := by omega
                  clear hn
                  rw [h1]
                  go_wp2
                  go_ret
                  exact ⟨ret_bool HN.out.symm, HW.out⟩
                · have HN := Lib.hid (HB.out (allL_no (all_no hqt (by rw [HCC.out]; exact hn))))
                  have h4 : 90 < (c.toNat : Int) := by omega
                  have h5 : ¬ (c.toNat : Int) < 97 := by omega
                  have h6 : ¬ (c.toNat : Int) < 65 := by omega
                  clear hn
                  rw [h1]
                  go_wp2
                  go_ret
                  exact ⟨ret_bool HN.out.symm, HW.out⟩
              · have HN := Lib.hid (HI.out (allL_yes (all_end (by omega) HA.out) hne))
                go_wp2
                go_round
                case rel => exact ⟨k + 1, by omega, by go_num, HK.out.on hlt HX.out HN.out⟩
                case measure => simp [intOf]; omega
      · have HN := Lib.hid (HB.out (allL_nil hne))
        go_wp2
        go_ret
        exact ⟨ret_bool HN.out.symm, HW.out⟩
    · have HN := Lib.hid (show everyD s preId = true by rw [HE.out]; exact HK.out.done (by omega))
      go_wp2
      go_ret
      exact ⟨ret_bool HN.out.symm, HW.out⟩
end Go.Proofs.YtmdlmjcejeejfaaGreatDoor
