/-
  The walk of the document's own Unquote.
-/
import Derived.Test.YtinaeegijmkbhaaGreatDoorQ5
import Derived.Below
set_option linter.unusedVariables false
namespace Go.Proofs.YtinaeegijmkbhaaGreatDoor
open Go.RowKit Go.Shelf

theorem below_drewN {B : Nat} {w w' : World} (h : Below B w w') (n : Nat) : Below B w (w'.drewN n) := ⟨h.os, h.tape, h.output, h.size, h.block⟩
theorem extract_one {s : ByteArray} {k : Nat} (h : k < s.size) : s.extract k (k + 1) = mkB [s[k]] := by
  have : (s.extract k (k + 1)).data.toList = [s[k]] := by rw [extract_mid, drop_get s k h, Nat.add_sub_cancel_left]; rfl
  rw [← mkB_data (s.extract k (k + 1)), this]
theorem app_one (a : ByteArray) {s : ByteArray} {k : Nat} (h : k < s.size) : (a ++ s.extract k (k + 1)).data.toList = a.data.toList ++ [s[k]] := by
  rw [ByteArray.data_append, Array.toList_append, extract_mid, drop_get s k h, Nat.add_sub_cancel_left]; rfl

set_option maxRecDepth 100000 in
set_option maxHeartbeats 4000000 in
theorem runq_any (s : ByteArray) (hs : s.size ≤ 20400) (w : World) :
    Calls Tryz.prog 28 #[.string s] w fun e w' => e = .returned (.tuple #[.string (unqO s.data.toList).1, .bool (unqO s.data.toList).2]) ∧ Below w.heap.size w w' := by
  have H0 := Lib.hid (UnqTo.start s)
  go_enter Tryz.func28, Tryz.ntmps28
  go_wp2
  go_loopw [6, 7] (fun t i wr => ∃ (k : Nat) (acc : ByteArray), k ≤ s.size ∧ t = .string acc ∧ i = .int .i64 k ∧ acc.size ≤ 4 * k ∧ UnqTo s acc.data.toList k ∧ Below w.heap.size w wr) (fun _ i _ => s.size - (intOf i).toNat)
  case atStart => exact ⟨0, ⟨#[]⟩, Nat.zero_le _, rfl, rfl, Nat.zero_le _, H0.out, Below.refl _ _⟩
  case round =>
    obtain ⟨k, acc, hk, rfl, rfl, hacc, hU, hBw⟩ := hrel
    have HU := Lib.hid hU
    have HB := Lib.hid hBw
    clear hU H0 hBw
    by_cases hlt : k < s.size
    · by_cases hb : s[k] = 10 ∨ s[k] = 34
      · have HH := Lib.hid (unqO_none (HU.out.bad hlt hb))
        have hb' : ((s[k].toNat : Int) == 10) = true ∨ (((s[k].toNat : Int) == 10) = false ∧ ((s[k].toNat : Int) == 34) = true) := by
          rcases hb with hb | hb <;> rw [hb] <;> simp
        clear hb
        rcases hb' with hb' | ⟨hb1, hb2⟩
        all_goals
          go_wp2
          go_ret2
          exact ⟨ret_sb (a := (⟨#[]⟩, false)) HH.out.symm, HB.out⟩
      · have b1 : ((s[k].toNat : Int) == 10) = false := by
          cases h : ((s[k].toNat : Int) == 10)
          · rfl
          · exact absurd (byte_eq (d := 10) h) fun x => hb (.inl x)
        have b2 : ((s[k].toNat : Int) == 34) = false := by
          cases h : ((s[k].toNat : Int) == 34)
          · rfl
          · exact absurd (byte_eq (d := 34) h) fun x => hb (.inr x)
        cases b3 : ((s[k].toNat : Int) == 92)
        · have HH := Lib.hid (HU.out.on hlt hb (fun x => by rw [x] at b3; simp at b3))
          clear hb
          have i0 : (k : Int) + 1 ≤ (s.size : Int) := by omega
          have i1 : acc.size + (min (k + 1) s.size - k) = acc.size + 1 := by omega
          go_wp2
          refine ⟨⟨k + 1, acc ++ s.extract k (k + 1), by omega, rfl, by go_num, ?_, ?_, HB.out⟩, by simp [intOf]; omega⟩
          · rw [ByteArray.size_append, ByteArray.size_extract]; omega
          · rw [app_one acc hlt]; exact HH.out
        · have he : s[k] = 92 := byte_eq (d := 92) b3
          clear hb
          have b4 : ((s[k].toNat : Int) != 92) = false := by rw [bne, b3]; rfl
          by_cases hend : k + 1 < s.size
          · have hne : ((k : Int) + 1 == (s.size : Int)) = false := by simp; omega
            have i0 : (k : Int) + 1 < (s.size : Int) := by omega
            have HEsc := Lib.hid (fun (u : List UInt8) (n : Nat) (h : escL (s.data.toList.drop (k + 1)) = (u, n)) (hu : u ≠ []) => show UnqTo s (acc.data.toList ++ u) (k + 1 + n) from by
              have := HU.out.esc hlt he (by rw [h]; exact hu)
              rw [h] at this; exact this)
            have HNo := Lib.hid (fun (n : Nat) (h : escL (s.data.toList.drop (k + 1)) = ([], n)) => show unqO s.data.toList = (⟨#[]⟩, false) from unqO_none (HU.out.no hlt he (by rw [h])))
            clear he HU
            go_wp2
            simp only [show (k : Int) + 1 = ((k + 1 : Nat) : Int) from rfl]
            generalize hkk : k + 1 = k1 at *
            generalize hF : (⟨#[97, 98, 102, 110, 114, 116, 118, 92, 34]⟩ : ByteArray) = F
            generalize hT : (⟨#[7, 8, 12, 10, 13, 9, 11, 92, 34]⟩ : ByteArray) = T
            have sF : F.size = 9 := by rw [← hF]; rfl
            have sT : T.size = 9 := by rw [← hT]; rfl
            have HFe := Lib.hid hF
            have HTe := Lib.hid hT
            have HF := Lib.hid (show F.data.toList = fromL by rw [← hF]; rfl)
            have HT := Lib.hid (show T.data.toList = toL by rw [← hT]; rfl)
            clear hF hT
            go_loopw [8, 9] (fun u j wq => ∃ m : Nat, m ≤ 9 ∧ u = .string (mkB (escTo (s[k1]'hend) m)) ∧ j = .int .i64 m ∧ Below wr.heap.size wr wq) (fun _ j _ => 9 - (intOf j).toNat)
            case atStart => exact ⟨0, Nat.zero_le _, rfl, rfl, Below.refl _ _⟩
            case round =>
              obtain ⟨m, hm, rfl, rfl, hBq⟩ := hrel
              have HBq := Lib.hid hBq
              clear hBq
              by_cases hlm : m < 9
              · have hmF : m < F.size := by omega
                have hmT : m < T.size := by omega
                cases e : ((F[m].toNat : Int) == ((s[k1]'hend).toNat : Int))
                · have HH := Lib.hid (escTo_off HF.out hmF e)
                  go_wp2
                  have q1 : (m : Int) < (F.size : Int) := by omega
                  have q2 : (k1 : Int) < (s.size : Int) := by omega
                  go_quiet (fail)
                  go_wp2
                  go_roundw
                  case rel => exact ⟨m + 1, by omega, by rw [HH.out], by go_num, below_drewN HBq.out _⟩
                  case measure => simp [intOf]; omega
                · have HH := Lib.hid (escTo_one HF.out HT.out hmF hmT e)
                  go_wp2
                  have q1 : (m : Int) < (F.size : Int) := by omega
                  have q2 : (k1 : Int) < (s.size : Int) := by omega
                  have q3 : (m : Int) + 1 ≤ (T.size : Int) := by omega
                  go_quiet (fail)
                  go_wp2
                  refine ⟨⟨m + 1, by omega, by rw [HH.out, extract_one hmT], by go_num, below_drewN HBq.out _⟩, by simp [intOf]; omega⟩
              · obtain rfl : m = 9 := by omega
                simp only [escTo_all]
                have hd := drop_get s k1 hend
                have hB2 := HB.out.trans (HBq.out.mono HB.out.size)
                have HB2 := Lib.hid hB2
                clear hB2 HB HBq HF HT b1 b2 b3 b4 hne i0 sT hm hlm
                by_cases hu : escB (s[k1]'hend) = []
                · have h1 := mkB_empty (l := ([] : List UInt8)) rfl
                  simp only [hu]
                  cases hdg : digB (s[k1]'hend)
                  · cases c1 : (((s[k1]'hend).toNat : Int) == 120)
                    · cases c2 : (((s[k1]'hend).toNat : Int) == 117)
                      · cases c3 : (((s[k1]'hend).toNat : Int) == 85)
                        · go_wp2_with fail
                          refine (rdig_any _ _).mono ?_
                          rintro _ w' ⟨rfl, rfl⟩
                          rw [hdg]
                          have HH := Lib.hid (HNo.out _ (by rw [hd]; exact esc_6 hu hdg (fun x => by rw [x] at c1; simp at c1) (fun x => by rw [x] at c2; simp at c2) (fun x => by rw [x] at c3; simp at c3)))
                          clear hu hd HEsc HNo hdg
                          go_wp2
                          go_ret2
                          exact ⟨ret_sb (a := (⟨#[]⟩, false)) HH.out.symm, HB2.out⟩
                        · have hc := Lib.hid (show s[k1]'hend = 85 from byte_eq (d := 85) c3)
                          go_wp2_with fail
                          refine (rdig_any _ _).mono ?_
                          rintro _ w' ⟨rfl, rfl⟩
                          rw [hdg]
                          have ix : (k1 : Int) + 1 ≤ (s.size : Int) := by omega
                          go_wp2_with fail
                          refine (rnum_any (s.extract (k1 + 1) s.size) 8 16 (by rw [ByteArray.size_extract]; omega) (by decide) (by decide) (by decide) _).mono ?_
                          rintro _ w' ⟨rfl, rfl⟩
                          rw [extract_tail]
                          have hr := numL_range (many := 8) (base := 16) (by decide) (by decide) (by decide) (s.data.toList.drop (k1 + 1))
                          have hl := numL_len (many := 8) (base := 16) (l := s.data.toList.drop (k1 + 1))
                          rw [List.length_drop, size_data] at hl

                          have e4 := esc_5 (r := s.data.toList.drop (k1 + 1))
                          rw [← hc.out, ← hd] at e4
                          generalize numL 8 16 (s.data.toList.drop (k1 + 1)) = v at *
                          go_wp2_with fail
                          refine (rutf_any v hr.1 hr.2 _).mono ?_
                          rintro _ wu ⟨rfl, hbu⟩
                          have HB3 := Lib.hid (HB2.out.trans (hbu.mono HB2.out.size))
                          clear hbu HB2
                          have ul := utfL_len v
                          have un := fun h => utfL_neg (r := v) h
                          generalize utfL v = u at *
                          by_cases hv : u = []
                          · subst hv
                            have HH := Lib.hid (HNo.out _ e4)
                            have h3 := mkB_empty (l := []) rfl
                            clear e4 hl hu hd HEsc HNo hdg un
                            go_wp2
                            go_ret2
                            exact ⟨ret_sb (a := (⟨#[]⟩, false)) HH.out.symm, HB3.out⟩

                          · have HH := Lib.hid (HEsc.out _ _ e4 hv)
                            have hl3 := hl (by
                              by_cases h : v < 0
                              · exact absurd (un h) hv
                              · omega)
                            have h3 := mkB_full hv
                            have h4 : (mkB u).size ≤ 4 := ul
                            clear e4 hl hu hd HEsc HNo hdg un hv
                            go_wp2
                            have hF := HFe.out
                            have hT := HTe.out
                            subst hF hT
                            go_roundw
                            case rel => exact ⟨k1 + 9, acc ++ mkB (u), by omega, rfl, by go_num, by rw [ByteArray.size_append, mkB_size] at *; omega, by rw [app_list]; exact HH.out, HB3.out⟩
                            case measure => simp [intOf]; omega
                      · have hc := Lib.hid (show s[k1]'hend = 117 from byte_eq (d := 117) c2)
                        go_wp2_with fail
                        refine (rdig_any _ _).mono ?_
                        rintro _ w' ⟨rfl, rfl⟩
                        rw [hdg]
                        have ix : (k1 : Int) + 1 ≤ (s.size : Int) := by omega
                        go_wp2_with fail
                        refine (rnum_any (s.extract (k1 + 1) s.size) 4 16 (by rw [ByteArray.size_extract]; omega) (by decide) (by decide) (by decide) _).mono ?_
                        rintro _ w' ⟨rfl, rfl⟩
                        rw [extract_tail]
                        have hr := numL_range (many := 4) (base := 16) (by decide) (by decide) (by decide) (s.data.toList.drop (k1 + 1))
                        have hl := numL_len (many := 4) (base := 16) (l := s.data.toList.drop (k1 + 1))
                        rw [List.length_drop, size_data] at hl

                        have e4 := esc_4 (r := s.data.toList.drop (k1 + 1))
                        rw [← hc.out, ← hd] at e4
                        generalize numL 4 16 (s.data.toList.drop (k1 + 1)) = v at *
                        go_wp2_with fail
                        refine (rutf_any v hr.1 hr.2 _).mono ?_
                        rintro _ wu ⟨rfl, hbu⟩
                        have HB3 := Lib.hid (HB2.out.trans (hbu.mono HB2.out.size))
                        clear hbu HB2
                        have ul := utfL_len v
                        have un := fun h => utfL_neg (r := v) h
                        generalize utfL v = u at *
                        by_cases hv : u = []
                        · subst hv
                          have HH := Lib.hid (HNo.out _ e4)
                          have h3 := mkB_empty (l := []) rfl
                          clear e4 hl hu hd HEsc HNo hdg un
                          go_wp2
                          go_ret2
                          exact ⟨ret_sb (a := (⟨#[]⟩, false)) HH.out.symm, HB3.out⟩

                        · have HH := Lib.hid (HEsc.out _ _ e4 hv)
                          have hl3 := hl (by
                            by_cases h : v < 0
                            · exact absurd (un h) hv
                            · omega)
                          have h3 := mkB_full hv
                          have h4 : (mkB u).size ≤ 4 := ul
                          clear e4 hl hu hd HEsc HNo hdg un hv
                          go_wp2
                          have hF := HFe.out
                          have hT := HTe.out
                          subst hF hT
                          go_roundw
                          case rel => exact ⟨k1 + 5, acc ++ mkB (u), by omega, rfl, by go_num, by rw [ByteArray.size_append, mkB_size] at *; omega, by rw [app_list]; exact HH.out, HB3.out⟩
                          case measure => simp [intOf]; omega
                    · have hc := Lib.hid (show s[k1]'hend = 120 from byte_eq (d := 120) c1)
                      go_wp2_with fail
                      refine (rdig_any _ _).mono ?_
                      rintro _ w' ⟨rfl, rfl⟩
                      rw [hdg]
                      have ix : (k1 : Int) + 1 ≤ (s.size : Int) := by omega
                      go_wp2_with fail
                      refine (rnum_any (s.extract (k1 + 1) s.size) 2 16 (by rw [ByteArray.size_extract]; omega) (by decide) (by decide) (by decide) _).mono ?_
                      rintro _ w' ⟨rfl, rfl⟩
                      rw [extract_tail]
                      have hr := numL_range (many := 2) (base := 16) (by decide) (by decide) (by decide) (s.data.toList.drop (k1 + 1))
                      have hl := numL_len (many := 2) (base := 16) (l := s.data.toList.drop (k1 + 1))
                      rw [List.length_drop, size_data] at hl

                      have hv0 : numL 2 16 (s.data.toList.drop (k1 + 1)) < 256 := numL_lt (by decide) (by decide) _
                      have e3 := fun n => esc_3 (r := s.data.toList.drop (k1 + 1)) n
                      have e3n := fun n => esc_3n (r := s.data.toList.drop (k1 + 1)) n
                      rw [← hc.out, ← hd] at e3 e3n
                      generalize numL 2 16 (s.data.toList.drop (k1 + 1)) = v at *
                      by_cases hv : 0 ≤ v
                      · have HH := Lib.hid (HEsc.out _ _ (e3 hv) (by simp))
                        have hl3 := hl hv
                        clear e3 e3n hl hu hd HEsc HNo hdg
                        go_wp2
                        rw [conv_new _ _ 1 [v] rfl (fun i hi => by obtain rfl : i = 0 := by omega
                                                                   rfl)]
                        have h3 : (mkB ([oct8 v])).toList.isEmpty = false := mkB_full (by simp)
                        have h4 : (mkB ([oct8 v])).size ≤ 1 := Nat.le_refl _
                        go_wp2
                        have hF := HFe.out
                        have hT := HTe.out
                        subst hF hT
                        go_roundw
                        case rel => exact ⟨k1 + 3, acc ++ mkB ([oct8 v]), by omega, rfl, by go_num, by rw [ByteArray.size_append, mkB_size] at *; omega, by rw [app_list]; exact HH.out, (HB2.out.alloc HB2.out.size _)⟩
                        case measure => simp [intOf]; omega

                      · have HH := Lib.hid (HNo.out _ (e3n hv))
                        clear e3 e3n hl hu hd HEsc HNo hdg
                        go_wp2
                        go_ret2
                        exact ⟨ret_sb (a := (⟨#[]⟩, false)) HH.out.symm, HB2.out⟩
                  · go_wp2_with fail
                    refine (rdig_any _ _).mono ?_
                    rintro _ w' ⟨rfl, rfl⟩
                    rw [hdg]
                    go_wp2_with fail
                    refine (rnum_any (s.extract k1 s.size) 3 8 (by rw [ByteArray.size_extract]; omega) (by decide) (by decide) (by decide) _).mono ?_
                    rintro _ w' ⟨rfl, rfl⟩
                    rw [extract_tail]
                    have hr := numL_range (many := 3) (base := 8) (by decide) (by decide) (by decide) (s.data.toList.drop k1)
                    have hl := numL_len (many := 3) (base := 8) (l := s.data.toList.drop k1)
                    rw [List.length_drop, size_data] at hl
                    have e2 := fun n => esc_2 (r := s.data.toList.drop (k1 + 1)) hu hdg n
                    have e2n := fun n => esc_2n (r := s.data.toList.drop (k1 + 1)) hu hdg n
                    rw [← hd] at e2 e2n
                    generalize numL 3 8 (s.data.toList.drop k1) = v at *
                    by_cases hv : 0 ≤ v ∧ v < 256
                    · have HH := Lib.hid (HEsc.out _ _ (e2 hv) (by simp))
                      obtain ⟨v1, v2⟩ := hv
                      have hl3 := hl v1
                      clear e2 e2n hl hu hd HEsc HNo hdg
                      go_wp2
                      rw [conv_new _ _ 1 [v] rfl (fun i hi => by obtain rfl : i = 0 := by omega
                                                                 rfl)]
                      have h3 : (mkB ([oct8 v])).toList.isEmpty = false := mkB_full (by simp)
                      have h4 : (mkB ([oct8 v])).size ≤ 1 := Nat.le_refl _
                      go_wp2
                      have hF := HFe.out
                      have hT := HTe.out
                      subst hF hT
                      go_roundw
                      case rel => exact ⟨k1 + 3, acc ++ mkB ([oct8 v]), by omega, rfl, by go_num, by rw [ByteArray.size_append, mkB_size] at *; omega, by rw [app_list]; exact HH.out, (HB2.out.alloc HB2.out.size _)⟩
                      case measure => simp [intOf]; omega

                    · have HH := Lib.hid (HNo.out _ (e2n hv))
                      clear e2 e2n hl hu hd HEsc HNo hdg
                      have hv' : v < 0 ∨ (¬ v < 0 ∧ 256 ≤ v) := by omega
                      clear hv
                      rcases hv' with hv | ⟨hv, hv'⟩
                      all_goals
                        go_wp2
                        go_ret2
                        exact ⟨ret_sb (a := (⟨#[]⟩, false)) HH.out.symm, HB2.out⟩
                · have HH := Lib.hid (HEsc.out _ _ (by rw [hd]; exact esc_1 hu) hu)
                  have h1 := mkB_full hu
                  have h2 : (mkB (escB (s[k1]'hend))).size ≤ 1 := escB_len _
                  clear hu hd HEsc HNo
                  go_wp2_with fail
                  have hF := HFe.out
                  have hT := HTe.out
                  subst hF hT
                  go_roundw
                  case rel => exact ⟨k1 + 1, acc ++ mkB (escB (s[k1]'hend)), by omega, rfl, by go_num, by rw [ByteArray.size_append, mkB_size] at *; omega, by rw [app_list]; exact HH.out, HB2.out⟩
                  case measure => simp [intOf]; omega
          · have HH := Lib.hid (unqO_none (HU.out.no hlt he (by rw [esc_end (by omega)])))
            obtain hks : s.size = k + 1 := by omega
            clear he
            go_wp2
            go_ret2
            exact ⟨ret_sb (a := (⟨#[]⟩, false)) HH.out.symm, HB.out⟩
    · have HH := Lib.hid (unqO_some (HU.out.done (by omega)))
      go_wp2
      go_ret2
      exact ⟨ret_sb (a := (acc, true)) HH.out.symm, HB.out⟩
end Go.Proofs.YtinaeegijmkbhaaGreatDoor
