/-
  The program's scanner: what stands between quotes.
-/
import Derived.Test.YtinaeegijmkbhaaGreatDoorA9
import Derived.Lib.BufSteps
import Derived.Laws.BytesArg
import Derived.Shelf.Strings.Builder1
set_option linter.unusedVariables false
namespace Go.Proofs.YtinaeegijmkbhaaGreatDoor
open Go.RowKit Go.Shelf

def cellsB (l : List UInt8) : List Value := l.map fun b => Value.int .u8 b.toNat
/-- The bytes that are gathered. -/
def Buf (v : Value) (acc : List UInt8) (W0 w : World) : Prop := Lib.OwnBuf W0.heap.size 5 v acc.length (cellsB acc) W0 w
theorem Buf.start (w : World) : Buf (.slice none 0 0) [] w w := ⟨World.ownsRowF_nil _ _ _ _, Below.refl _ _, Nat.le_refl _⟩
theorem Buf.on {v : Value} {acc : List UInt8} {W0 w w' : World} (h : Buf v acc W0 w) (b : Below w.heap.size w w') : Buf v acc W0 w' :=
  ⟨h.1.kept (row := none) ⟨b.os, b.tape, b.output, b.size, fun k hk _ => b.block k hk⟩ (by cases hv : v.ownBlock with
    | none => exact .inl rfl
    | some k => exact .inr (by simp)), h.2.1.trans (b.mono h.2.2), Nat.le_trans h.2.2 b.size⟩
theorem Buf.byte {v v' : Value} {acc : List UInt8} {c : UInt8} {W0 w : World} (h : Lib.OwnBuf W0.heap.size 5 v' (acc.length + 1) (cellsB acc ++ [.int .u8 (c.toNat : Int)]) W0 w) : Buf v' (acc ++ [c]) W0 w := by
  unfold Buf cellsB
  rw [List.length_append, List.map_append]
  exact h
theorem Buf.text {v v' : Value} {acc l : List UInt8} {W0 w : World} (h : Lib.OwnBuf W0.heap.size 5 v' (acc.length + (mkB l).size) (cellsB acc ++ Lib.strCells (mkB l)) W0 w) : Buf v' (acc ++ l) W0 w := by
  unfold Buf cellsB
  rw [List.length_append, List.map_append]
  exact h
theorem Buf.below {v : Value} {acc : List UInt8} {W0 w : World} (h : Buf v acc W0 w) : Below W0.heap.size W0 w := h.2.1
theorem Buf.drewN {v : Value} {acc : List UInt8} {W0 w : World} (h : Buf v acc W0 w) (q : Nat) : Buf v acc W0 (w.drewN q) := Lib.OwnBuf.drewN h q
/-- What they are as a text. -/
theorem Buf.told {v : Value} {acc : List UInt8} {W0 w : World} (h : Buf v acc W0 w) : (convert 72 9 v).run Tryz.prog w = .ok (.string (mkB acc)) w := by
  obtain ⟨⟨hl, h1⟩, -, -⟩ := h
  rcases h1 with ⟨rfl, hn⟩ | ⟨g, cap, cur, fz, rfl, -, hg, -, hc, -, hs, ht⟩
  · obtain rfl : acc = [] := List.length_eq_zero_iff.1 hn
    exact run_convert_bytes_nil (P := Tryz.prog) w 72 5 (by kernel_rfl) (by kernel_rfl) 0 0 9 (by kernel_rfl)
  · have hcell : ∀ i, i < acc.length → w.cell? ⟨g, 0 + i, none⟩ = some (.int .u8 ((acc.map fun b => (b.toNat : Int)).getD i 0)) := by
      intro i hi
      have h2 : (cellsB acc)[i]? = some (.int .u8 ((acc.map fun b => (b.toNat : Int)).getD i 0)) := by
        unfold cellsB
        rw [List.getElem?_map, List.getElem?_eq_getElem hi]
        simp [List.getD, List.getElem?_eq_getElem hi]
      rw [← ht, Nat.mul_one, List.getElem?_take_of_lt hi] at h2
      rw [Nat.zero_add]
      simp only [World.cell?, hg]
      rw [← h2]
      simp
    refine (run_convert_bytes_arg (P := Tryz.prog) w 72 5 (by kernel_rfl) (by kernel_rfl) g 0 acc.length cap (acc.map fun b => (b.toNat : Int)) (by simp) hcell 9 (by kernel_rfl)).trans ?_
    congr 2
    unfold strOfNums mkB
    rw [List.map_map]
    congr 2
    conv => rhs; rw [← List.map_id acc]
    congr 1
    funext b
    simp
theorem esc_len (l : List UInt8) : (escL l).1.length ≤ 4 := by
  cases l with
  | nil => simp [escL]
  | cons c r =>
    rw [esc_cons]
    have h1 : (escB c).length ≤ 4 := by
      unfold escB
      repeat' split
      all_goals simp
    have h2 : ∀ n, (utfL n).length ≤ 4 := by
      intro n
      unfold utfL
      repeat' split
      all_goals simp
    split
    · exact h1
    · split
      · show (if _ then _ else _ : List UInt8).length ≤ 4
        split <;> simp
      · split
        · show (if _ then _ else _ : List UInt8).length ≤ 4
          split <;> simp
        · split
          · exact h2 _
          · split
            · exact h2 _
            · simp
theorem num_room {k : Nat} {b : Int} {l : List UInt8} (h : 0 ≤ numL k b l) : k ≤ l.length := by
  unfold numL at h
  split at h
  · omega
  · omega
theorem utf_pos {n : Int} (h : utfL n ≠ []) : 0 ≤ n := by
  by_cases h0 : 0 ≤ n
  · exact h0
  · exact absurd (by unfold utfL; rw [if_pos (by omega)]) h
theorem esc_in (l : List UInt8) (h : (escL l).1 ≠ []) : 1 ≤ (escL l).2 ∧ (escL l).2 ≤ l.length := by
  cases l with
  | nil => simp [escL] at h
  | cons c r =>
    rw [esc_cons] at h ⊢
    by_cases c0 : escB c ≠ []
    · rw [if_pos c0]; exact ⟨Nat.le_refl _, by simp⟩
    rw [if_neg c0] at h ⊢
    by_cases c1 : digB c = true
    · rw [if_pos c1] at h ⊢
      refine ⟨by simp, ?_⟩
      by_cases c2 : 0 ≤ numL 3 8 (c :: r) ∧ numL 3 8 (c :: r) < 256
      · exact num_room c2.1
      · rw [if_neg c2] at h; exact absurd rfl h
    rw [if_neg c1] at h ⊢
    by_cases c3 : c = 120
    · rw [if_pos c3] at h ⊢
      refine ⟨by simp, ?_⟩
      by_cases c2 : 0 ≤ numL 2 16 r
      · have := num_room c2
        show 3 ≤ (c :: r).length
        rw [List.length_cons]; omega
      · rw [if_neg c2] at h; exact absurd rfl h
    rw [if_neg c3] at h ⊢
    by_cases c4 : c = 117
    · rw [if_pos c4] at h ⊢
      have := num_room (utf_pos h)
      refine ⟨by simp, ?_⟩
      show 5 ≤ (c :: r).length
      rw [List.length_cons]; omega
    rw [if_neg c4] at h ⊢
    by_cases c5 : c = 85
    · rw [if_pos c5] at h ⊢
      have := num_room (utf_pos h)
      refine ⟨by simp, ?_⟩
      show 9 ≤ (c :: r).length
      rw [List.length_cons]; omega
    · rw [if_neg c5] at h; exact absurd rfl h
theorem extract_extract_tail (s : ByteArray) (k j : Nat) (h : k ≤ s.size) : (s.extract k s.size).extract j (s.extract k s.size).size = s.extract (k + j) s.size := by
  apply ByteArray.ext
  apply Array.toList_inj.1
  rw [extract_tail, extract_tail, extract_tail, List.drop_drop]
theorem size_tail (s : ByteArray) (k : Nat) : (s.extract k s.size).size = s.size - k := by rw [ByteArray.size_extract]; omega
theorem get_tail (s : ByteArray) (k : Nat) (h : k < s.size) (h' : 0 < (s.extract k s.size).size) : (s.extract k s.size)[0] = s[k] := by
  have h1 := drop_get (s.extract k s.size) 0 h'
  rw [List.drop_zero, extract_tail, drop_get s k h] at h1
  exact (List.cons.inj h1).1.symm

def strV : Value → ByteArray
  | .string s => s
  | _ => ⟨#[]⟩
theorem ret_us {a b : ByteArray × Bool} (h : a = b) : Ending.returned (.tuple #[.string a.1, .bool a.2]) = .returned (.tuple #[.string b.1, .bool b.2]) := by rw [h]
set_option maxHeartbeats 3200000 in
set_option maxRecDepth 100000 in
theorem unquote_any (s : ByteArray) (hs : s.size ≤ 20400) (w : World) (hE : Env w) : Calls Tryz.prog 52 #[.string s] w fun e w' => e = .returned (.tuple #[.string (unqO s.data.toList).1, .bool (unqO s.data.toList).2]) ∧ Below w.heap.size w w' := by
  obtain ⟨i0, hi, hy0, hy1, hy2⟩ := info_parts (P := Tryz.prog) (e := 5) (z := .int .u8 0) (size := 1) (bytes := 1) (by kernel_rfl)
  have H0 := Lib.hid (Buf.start w)
  have HU := Lib.hid (UnqTo.start s)
  have HS := Lib.hid hs
  have hx0 : s.extract 0 s.size = s := ByteArray.extract_zero_size
  have HX := Lib.hid hx0
  have HEn := Lib.hid hE
  clear hx0 hE
  go_enter Tryz.func52, Tryz.ntmps52
  go_wp2
  go_loopw [0, 4] (fun u v wr => ∃ (k : Nat) (acc : List UInt8), u = .string (s.extract k s.size) ∧ Hid (Buf v acc w wr) ∧ Hid (UnqTo s acc k ∧ k ≤ s.size ∧ acc.length ≤ 4 * k)) (fun u _ _ => (strV u).size)
  case atStart => exact ⟨0, [], by rw [HX.out], H0, Lib.hid ⟨HU.out, Nat.zero_le _, Nat.zero_le _⟩⟩
  case round =>
    obtain ⟨k, acc, rfl, hB, hR⟩ := hrel
    have HRd := Lib.hid hR.out.1
    have hacc : acc.length ≤ 81600 := by have := hR.out.2.2; have := hR.out.2.1; omega
    have HA := Lib.hid hR.out.2.2
    have hW : Env (wr) := HEn.out.on hB.out.below
    have HW := Lib.hid (fun q => (Env.on (w' := wr.drewN q) hW (below_drewN (Below.refl _ _) q)))
    clear hR hW
    have h46 : Tryz.prog.underlying 72 = some (.slice 5) := by kernel_rfl
    by_cases hk : k < s.size
    · have hz := size_tail s k
      have hp : 0 < (s.extract k s.size).size := by omega
      have hc := get_tail s k hk hp
      have hx1 := extract_extract_tail s k 1 (by omega)
      have hne : (s.extract k s.size).toList.isEmpty = false := by
        rw [← decide_eq_emptyBytes]
        exact decide_eq_false (fun h => by rw [h] at hp; simp at hp)
      have hql : (s.extract (k + 1) s.size).data.toList = s.data.toList.drop (k + 1) := extract_tail s (k + 1)
      have hqx := fun j => extract_extract_tail s (k + 1) j hk
      have hqz := size_tail s (k + 1)
      have HE17 := Lib.hid (fun w' (h : Env w') => escaped_any (s.extract (k + 1) s.size) (by rw [size_tail]; omega) w' h)
      rw [hql] at HE17
      generalize hq : s.extract (k + 1) s.size = q at *
      have HQX := Lib.hid hqx
      generalize hr : s.extract k s.size = r at *
      have hcs : s[k] = r[0] := hc.symm
      have HC := Lib.hid hcs
      have i1 : (1 : Int) ≤ (r.size : Int) := by omega
      have i2 : (0 : Int) < (r.size : Int) := by omega
      have HM := Lib.hid (show r.size = s.size - k ∧ q.size = s.size - (k + 1) from ⟨hz, hqz⟩)
      clear hz hcs hr hc hqx hqz
      have HQ := Lib.hid hq
      have HQL := Lib.hid hql
      clear hq hql
      generalize hg : r[0] = c at *
      have HB := hB
      by_cases c10 : c = 10 ∨ c = 34
      · have HH := Lib.hid (HRd.out.bad hk (by rw [HC.out]; exact c10))
        have kk : (c.toNat : Int) = 10 ∨ (¬ (c.toNat : Int) = 10 ∧ (c.toNat : Int) = 34) := by
          rcases c10 with rfl | rfl
          · exact .inl rfl
          · exact .inr ⟨by decide, rfl⟩
        clear c10
        rcases kk with kk | ⟨kk, kk'⟩
        all_goals
          go_wp2
          go_quiet (fail)
          go_wp2
          go_ret2
          exact ⟨by rw [unqO_none HH.out]; rfl, below_drewN HB.out.below _⟩
      · have k1 : ¬ (c.toNat : Int) = 10 := fun h => c10 (.inl (UInt8.toNat.inj (by show c.toNat = 10; omega)))
        have k2 : ¬ (c.toNat : Int) = 34 := fun h => c10 (.inr (UInt8.toNat.inj (by show c.toNat = 34; omega)))
        by_cases c92 : c = 92
        · have k3 : (c.toNat : Int) = 92 := by rw [c92]; rfl
          have HNo := Lib.hid (fun e => HRd.out.no hk (HC.out.trans c92) e)
          have HYes := Lib.hid (fun e => HRd.out.esc hk (HC.out.trans c92) e)
          have HIn := Lib.hid (esc_in (s.data.toList.drop (k + 1)))
          have HLn := Lib.hid (esc_len (s.data.toList.drop (k + 1)))
          have HDl := Lib.hid (show (s.data.toList.drop (k + 1)).length = s.size - (k + 1) by rw [List.length_drop, size_data])
          clear c10 c92
          generalize s.data.toList.drop (k + 1) = l at *
          have HBd := Lib.hid (show acc.length + (mkB (escL l).1).size ≤ 140737488355328 by
            have : (mkB (escL l).1).size ≤ 4 := HLn.out
            omega)
          have HI3 := Lib.hid (fun he => (show (((escL l).2 : Nat) : Int) ≤ (q.size : Int) by
            have := HIn.out he; have := HM.out.2; have := HDl.out; omega))
          go_wp2
          go_quiet (fail)
          go_wp2_with (first
            | (go_at_call 65; refine (HE17.out _ (HW.out _)).mono ?_; rintro _ w1 ⟨hBw, hEO⟩; have HBw := Lib.hid hBw; have HB2 := Lib.hid ((HB.out.drewN _).on HBw.out); clear hBw; rcases hEO with ⟨he, rfl⟩ | ⟨he, x, sz, rfl⟩; have i3 := HI3.out he)
            | (at_builtin; refine Lib.wpList_append_text rfl (.tmp 34) (.tmp 35) 72 9 rfl w.heap.size 5 i0 h46 (by kernel_rfl) hi hy0 hy1 hy2 u4 acc.length (cellsB acc) rfl w HB2.out _ rfl HBd.out ?_; intro v' w2 hb2; have HB3 := Lib.hid (Buf.text (v := v') hb2); clear hb2))
          · have hin := HIn.out he
            have hM := HM.out
            have hD := HDl.out
            have hln := HLn.out
            have hac := HA.out
            refine ⟨⟨k + 1 + (escL l).2, acc ++ (escL l).1, by rw [HQX.out], HB3, Lib.hid ⟨HYes.out he, by omega, by rw [List.length_append]; omega⟩⟩, ?_⟩
            rw [HQX.out]
            show (s.extract (k + 1 + (escL l).2) s.size).size < r.size
            rw [size_tail]; omega
          · go_ret2
            exact ⟨by rw [unqO_none (HNo.out he)]; rfl, HB2.out.below⟩
        · have k3 : ¬ (c.toNat : Int) = 92 := fun h => c92 (UInt8.toNat.inj (by show c.toNat = 92; omega))
          have HH := Lib.hid (HRd.out.on hk (by rw [HC.out]; exact c10) (by rw [HC.out]; exact c92))
          rw [HC.out] at HH
          clear c10 c92
          have hbd : acc.length + 1 ≤ 140737488355328 := by omega
          have HBd := Lib.hid hbd
          clear hbd
          go_wp2
          go_quiet (fail)
          go_wp2_with (at_builtin; refine Lib.wpList_append_byte rfl (.tmp 17) (.tmp 19) 72 rfl w.heap.size 5 i0 h46 hi hy0 hy1 hy2 u4 acc.length (cellsB acc) rfl w _ _ (HB.out.drewN _) rfl HBd.out ?_; intro v' w2 hb2; have HB3 := Lib.hid (Buf.byte (v := v') hb2); clear hb2)
          have hM := HM.out
          have hac := HA.out
          exact ⟨⟨k + 1, acc ++ [c], by rw [HQ.out], HB3, Lib.hid ⟨HH.out, by omega, by rw [List.length_append, List.length_singleton]; omega⟩⟩, by show q.size < r.size; omega⟩
    · have HD := Lib.hid (HRd.out.done (by omega))
      have hz := size_tail s k
      have hemp : s.extract k s.size = ⟨#[]⟩ := by
        apply ByteArray.ext
        exact Array.eq_empty_of_size_eq_zero (by show (s.extract k s.size).size = 0; omega)
      have HT := hB.out.told
      rw [hemp]
      have HB := hB
      clear hz hemp hk HRd
      go_wp2
      go_ret2
      exact ⟨by rw [unqO_some HD.out]; rfl, HB.out.below⟩
end Go.Proofs.YtinaeegijmkbhaaGreatDoor
