/-
  The document's own scanner: lines, runes.
-/
import Derived.Test.YtinaeegijmkbhaaGreatDoorQ2
set_option linter.unusedVariables false
namespace Go.Proofs.YtinaeegijmkbhaaGreatDoor
open Go.RowKit Go.Shelf

theorem line_snoc (l : List UInt8) (c : UInt8) : lineL (l ++ [c]) = if c = 10 then lineL l + 1 else lineL l := by
  induction l with
  | nil => rfl
  | cons d r ih =>
    show lineL (d :: (r ++ [c])) = _
    rw [lineL, lineL, ih]
    split <;> split <;> rfl
theorem line_le (l : List UInt8) : lineL l ≤ l.length + 1 := by
  induction l with
  | nil => exact Nat.le_refl _
  | cons d r ih => rw [lineL]; split <;> simp only [List.length_cons] <;> omega
theorem line_pos (l : List UInt8) : 1 ≤ lineL l := by
  induction l with
  | nil => exact Nat.le_refl _
  | cons d r ih => rw [lineL]; split <;> omega
theorem line_at {s : ByteArray} {k : Nat} (h : k < s.size) (e : ((s[k].toNat : Int) == 10) = true) : lineL (s.data.toList.take (k + 1)) = lineL (s.data.toList.take k) + 1 := by
  rw [take_snoc s k h, line_snoc, if_pos (byte_eq (d := 10) e)]
theorem line_off {s : ByteArray} {k : Nat} (h : k < s.size) (e : ((s[k].toNat : Int) == 10) = false) : lineL (s.data.toList.take (k + 1)) = lineL (s.data.toList.take k) := by
  rw [take_snoc s k h, line_snoc, if_neg (fun x => by rw [x] at e; simp at e)]

set_option maxRecDepth 100000 in
set_option maxHeartbeats 400000 in
theorem rline_any (s : ByteArray) (a : Int) (hs : s.size ≤ 20400) (w : World) :
    Calls Tryz.prog 13 #[.string s, .int .i64 a] w fun e w' => e = .returned (.int .i64 (lineL (s.data.toList.take a.toNat) : Nat)) ∧ w = w' := by
  go_enter Tryz.func13, Tryz.ntmps13
  go_wp2
  go_loop [5, 6] (fun n i => ∃ (k v : Nat), k ≤ s.size ∧ n = .int .i64 v ∧ i = .int .i64 k ∧ k ≤ a.toNat ∧ v = lineL (s.data.toList.take k)) (fun _ i => s.size - (intOf i).toNat)
  case atStart => exact ⟨0, 1, Nat.zero_le _, rfl, rfl, Nat.zero_le _, rfl⟩
  case round =>
    obtain ⟨k, v, hk, rfl, rfl, hka, hv⟩ := hrel
    have HV := Lib.hid hv
    have hvl : v ≤ s.size + 1 := by have := line_le (s.data.toList.take k); rw [← hv, List.length_take, size_data] at this; omega
    clear hv
    by_cases hlt : k < s.size
    · by_cases hla : (k : Int) < a
      · cases e : ((s[k].toNat : Int) == 10)
        · have HH := Lib.hid (show v = lineL (s.data.toList.take (k + 1)) by rw [line_off hlt e]; exact HV.out)
          go_wp2
          go_round
          case rel => exact ⟨k + 1, v, by omega, rfl, by go_num, by omega, HH.out⟩
          case measure => simp [intOf]; omega
        · have HH := Lib.hid (show v + 1 = lineL (s.data.toList.take (k + 1)) by rw [line_at hlt e, ← HV.out])
          go_wp2
          go_round
          case rel => exact ⟨k + 1, v + 1, by omega, by go_num, by go_num, by omega, HH.out⟩
          case measure => simp [intOf]; omega
      · have HH := Lib.hid (show (v : Int) = (lineL (s.data.toList.take a.toNat) : Nat) by rw [show a.toNat = k by omega, ← HV.out])
        go_wp2
        go_ret
        exact ⟨ret_int HH.out, rfl⟩
    · have HH := Lib.hid (show (v : Int) = (lineL (s.data.toList.take a.toNat) : Nat) by rw [HV.out, List.take_of_length_le (by rw [size_data]; omega), List.take_of_length_le (by rw [size_data]; omega)])
      by_cases hla : (k : Int) < a
      all_goals
        go_wp2
        go_ret
        exact ⟨ret_int HH.out, rfl⟩

/-! How wide a rune is. -/
def wideT (n v : Nat) (l : List UInt8) : Nat := if l.all contB then (if offV n (contV v l) then 0 else n) else 0
theorem wideR_long {n v : Nat} {l : List UInt8} (h : n - 1 ≤ l.length) : wideR n v l = wideT n v (l.take (n - 1)) := by
  unfold wideR wideT; rw [if_neg (by omega)]
theorem wideR_short {n v : Nat} {l : List UInt8} (h : l.length < n - 1) : wideR n v l = 0 := by
  unfold wideR; rw [if_pos h]
theorem wideT_no {n v : Nat} {c : UInt8} {l : List UInt8} (h : contB c = false) : wideT n v (c :: l) = 0 := by simp [wideT, h]
theorem contV_cons (v : Nat) (c : UInt8) (l : List UInt8) : contV v (c :: l) = contV (v * 64 + (c.toNat - 128)) l := by unfold contV; rw [List.foldl_cons]
theorem contV_nil (v : Nat) : contV v [] = v := by unfold contV; rw [List.foldl_nil]
theorem wideT_on {n v : Nat} {c : UInt8} {l : List UInt8} (h : contB c = true) : wideT n v (c :: l) = wideT n (v * 64 + (c.toNat - 128)) l := by
  unfold wideT; rw [List.all_cons, h, Bool.true_and, contV_cons]
theorem wideT_end (n v : Nat) : wideT n v [] = if offV n v then 0 else n := by
  unfold wideT; rw [List.all_nil, contV_nil, if_pos rfl]
/-- How far a rune is read. -/
def WideTo (s : ByteArray) (n v k : Nat) : Prop := wideL s.data.toList = wideT n v ((s.data.toList.take n).drop k)
theorem wide_tail {s : ByteArray} {n : Nat} (hn : 1 ≤ n) (h : n ≤ s.size) : (s.data.toList.drop 1).take (n - 1) = (s.data.toList.take n).drop 1 := by
  rw [List.drop_take]
theorem WideTo.start {s : ByteArray} {n v : Nat} (hn : 1 ≤ n) (h : n ≤ s.size) (e : wideL s.data.toList = wideR n v (s.data.toList.drop 1)) : WideTo s n v 1 := by
  unfold WideTo
  rw [e, wideR_long (by rw [List.length_drop, size_data]; omega), wide_tail hn h]
theorem WideTo.no {s : ByteArray} {n v k : Nat} (h : WideTo s n v k) (hn : n ≤ s.size) (hk : k < n) (e : contB (s[k]'(by omega)) = false) : wideL s.data.toList = 0 := by
  unfold WideTo at h; rw [h, take_drop_get hn hk, wideT_no e]
theorem WideTo.on {s : ByteArray} {n v k : Nat} (h : WideTo s n v k) (hn : n ≤ s.size) (hk : k < n) (e : contB (s[k]'(by omega)) = true) : WideTo s n (v * 64 + ((s[k]'(by omega)).toNat - 128)) (k + 1) := by
  unfold WideTo at h ⊢; rw [h, take_drop_get hn hk, wideT_on e]
theorem WideTo.done {s : ByteArray} {n v k : Nat} (h : WideTo s n v k) (hk : n ≤ k) : wideL s.data.toList = if offV n v then 0 else n := by
  unfold WideTo at h; rw [h, List.drop_of_length_le (by rw [List.length_take]; omega), wideT_end]
theorem wide_head {s : ByteArray} (h : 0 < s.size) : s.data.toList = s[0] :: s.data.toList.drop 1 := by
  have := drop_get s 0 h
  rwa [List.drop_zero] at this
theorem wide_c {s : ByteArray} (h : 0 < s.size) : wideL s.data.toList = if s[0].toNat < 128 then 1 else if s[0].toNat < 192 then 0 else if s[0].toNat < 224 then wideR 2 (s[0].toNat - 192) (s.data.toList.drop 1) else if s[0].toNat < 240 then wideR 3 (s[0].toNat - 224) (s.data.toList.drop 1) else if s[0].toNat < 248 then wideR 4 (s[0].toNat - 240) (s.data.toList.drop 1) else 0 := by
  conv => lhs; rw [wide_head h]
  rw [wideL]
/-- One way through: n bytes, the first one's share v. -/
structure WideWay (s : ByteArray) (n v : Nat) : Prop where
  n2 : 2 ≤ n
  n4 : n ≤ 4
  v32 : v < 32
  eq : wideL s.data.toList = wideR n v (s.data.toList.drop 1)
theorem contB_no {c : UInt8} (h : contB c = false) : (c.toNat : Int) < 128 ∨ 192 ≤ (c.toNat : Int) := by
  simp [contB] at h; omega
theorem contB_yes {c : UInt8} (h : contB c = true) : 128 ≤ (c.toNat : Int) ∧ (c.toNat : Int) < 192 := by
  simp [contB] at h; omega

set_option maxRecDepth 100000 in
set_option maxHeartbeats 8000000 in
theorem rwide_any (s : ByteArray) (hs : s.size ≤ 20400) (h0 : 0 < s.size) (w : World) :
    Calls Tryz.prog 12 #[.string s] w fun e w' => e = .returned (.int .i64 (wideL s.data.toList : Nat)) ∧ w = w' := by
  have hc := wide_c h0
  have hlt := s[0].toNat_lt
  have i0 : (0 : Int) < (s.size : Int) := by omega
  by_cases c1 : s[0].toNat < 128
  · rw [if_pos c1] at hc
    have HH := Lib.hid hc
    clear hc
    have c1' : (s[0].toNat : Int) < 128 := by omega
    go_enter Tryz.func12, Tryz.ntmps12
    go_wp2
    go_ret
    exact ⟨ret_int (by rw [HH.out]; rfl), rfl⟩
  have way : (wideL s.data.toList = 0 ∧ (s[0].toNat < 192 ∨ 248 ≤ s[0].toNat)) ∨ (192 ≤ s[0].toNat ∧ s[0].toNat < 224 ∧ WideWay s 2 (s[0].toNat - 192)) ∨ (224 ≤ s[0].toNat ∧ s[0].toNat < 240 ∧ WideWay s 3 (s[0].toNat - 224)) ∨ (240 ≤ s[0].toNat ∧ s[0].toNat < 248 ∧ WideWay s 4 (s[0].toNat - 240)) := by
    rw [if_neg c1] at hc
    by_cases c2 : s[0].toNat < 192
    · rw [if_pos c2] at hc; exact .inl ⟨hc, .inl c2⟩
    rw [if_neg c2] at hc
    by_cases c3 : s[0].toNat < 224
    · rw [if_pos c3] at hc; exact .inr (.inl ⟨by omega, c3, by omega, by omega, by omega, hc⟩)
    rw [if_neg c3] at hc
    by_cases c4 : s[0].toNat < 240
    · rw [if_pos c4] at hc; exact .inr (.inr (.inl ⟨by omega, c4, by omega, by omega, by omega, hc⟩))
    rw [if_neg c4] at hc
    by_cases c5 : s[0].toNat < 248
    · rw [if_pos c5] at hc; exact .inr (.inr (.inr ⟨by omega, c5, by omega, by omega, by omega, hc⟩))
    rw [if_neg c5] at hc
    exact .inl ⟨hc, .inr (by omega)⟩
  clear hc
  have c1' : ¬ (s[0].toNat : Int) < 128 := by omega
  rcases way with ⟨hw, h⟩ | ⟨b1, b2, hw⟩ | ⟨b1, b2, hw⟩ | ⟨b1, b2, hw⟩
  · have HH := Lib.hid hw
    clear hw
    have hr : (s[0].toNat : Int) < 192 ∨ 248 ≤ (s[0].toNat : Int) := by omega
    clear h
    rcases hr with hr | hr
    · go_enter Tryz.func12, Tryz.ntmps12
      go_wp2
      go_ret
      exact ⟨ret_int (by rw [HH.out]; rfl), rfl⟩
    · go_enter Tryz.func12, Tryz.ntmps12
      go_wp2
      go_ret
      exact ⟨ret_int (by rw [HH.out]; rfl), rfl⟩
  · have HW := Lib.hid hw
    have b1' : (192 : Int) ≤ (s[0].toNat : Int) := by omega
    have b2' : (s[0].toNat : Int) < 224 := by omega
    have HV := Lib.hid (show ((s[0].toNat - 192 : Nat) : Int) = (s[0].toNat : Int) - 192 by omega)
    have hv0 := hw.v32
    clear hw b1 b2 c1
    by_cases hl : 2 ≤ s.size
    · have H0 := Lib.hid (WideTo.start (by decide : 1 ≤ 2) hl HW.out.eq)
      have hl' : ¬ (s.size : Int) < 2 := by omega
      generalize s[0].toNat - 192 = v0 at *
      go_enter Tryz.func12, Tryz.ntmps12
      go_wp2
      try simp only [decide_eq_false (show ¬ s.size < 2 by omega)]
      try simp only [decide_eq_false (show ¬ s[0].toNat < 128 by omega)]
      go_loop [5, 6] (fun r i => ∃ (k v : Nat), k ≤ 2 ∧ r = .int .i64 v ∧ i = .int .i64 k ∧ ((k = 1 ∧ v < 32) ∨ (k = 2 ∧ v < 2048) ∨ (k = 3 ∧ v < 131072) ∨ (k = 4 ∧ v < 8388608)) ∧ WideTo s 2 v k) (fun _ i => 2 - (intOf i).toNat)
      case atStart => exact ⟨1, v0, by decide, by rw [HV.out], rfl, .inl ⟨rfl, hv0⟩, H0.out⟩
      case round =>
        obtain ⟨k, v, hk, rfl, rfl, hkv, hT⟩ := hrel
        have HT := Lib.hid hT
        clear hT H0 HV HW
        have hvb : v < 8388608 := by omega
        have HKV := Lib.hid hkv
        clear hkv
        by_cases hlt : k < 2
        · have hks : k < s.size := by omega
          cases e : contB (s[k]'hks)
          · have HH := Lib.hid (HT.out.no hl hlt e)
            have hor : (s[k].toNat : Int) < 128 ∨ 192 ≤ (s[k].toNat : Int) := contB_no e
            clear e
            rcases hor with hor | hor
            all_goals
              go_wp2
              go_ret
              exact ⟨ret_int (by rw [HH.out]; rfl), rfl⟩
          · have HH := Lib.hid (HT.out.on hl hlt e)
            obtain ⟨o1, o2⟩ : 128 ≤ (s[k].toNat : Int) ∧ (s[k].toNat : Int) < 192 := contB_yes e
            clear e
            go_wp2
            go_round
            case rel => exact ⟨k + 1, v * 64 + (s[k].toNat - 128), by omega, by go_num, by go_num, by have := HKV.out; omega, HH.out⟩
            case measure => simp [intOf]; omega
        · obtain rfl : k = 2 := by omega
          have HH := Lib.hid (HT.out.done (Nat.le_refl _))
          clear HT HKV
          go_wp2
          all_goals
            go_ret
            refine ⟨ret_int ?_, rfl⟩
            rw [HH.out]
            first
              | (rw [if_pos (show offV 2 v = true by simp [offV]; omega)]; rfl)
              | (rw [if_neg (show ¬ offV 2 v = true by simp [offV]; omega)]; rfl)
    · have HH := Lib.hid (show wideL s.data.toList = 0 by rw [HW.out.eq]; exact wideR_short (by rw [List.length_drop, size_data]; omega))
      have hl' : (s.size : Int) < 2 := by omega
      clear HW HV
      go_enter Tryz.func12, Tryz.ntmps12
      go_wp2
      go_ret
      exact ⟨ret_int (by rw [HH.out]; rfl), rfl⟩
  · have HW := Lib.hid hw
    have b1' : (224 : Int) ≤ (s[0].toNat : Int) := by omega
    have b2' : (s[0].toNat : Int) < 240 := by omega
    have HV := Lib.hid (show ((s[0].toNat - 224 : Nat) : Int) = (s[0].toNat : Int) - 224 by omega)
    have hv0 := hw.v32
    clear hw b1 b2 c1
    by_cases hl : 3 ≤ s.size
    · have H0 := Lib.hid (WideTo.start (by decide : 1 ≤ 3) hl HW.out.eq)
      have hl' : ¬ (s.size : Int) < 3 := by omega
      generalize s[0].toNat - 224 = v0 at *
      go_enter Tryz.func12, Tryz.ntmps12
      go_wp2
      try simp only [decide_eq_false (show ¬ s.size < 3 by omega)]
      try simp only [decide_eq_false (show ¬ s[0].toNat < 128 by omega)]
      go_loop [5, 6] (fun r i => ∃ (k v : Nat), k ≤ 3 ∧ r = .int .i64 v ∧ i = .int .i64 k ∧ ((k = 1 ∧ v < 32) ∨ (k = 2 ∧ v < 2048) ∨ (k = 3 ∧ v < 131072) ∨ (k = 4 ∧ v < 8388608)) ∧ WideTo s 3 v k) (fun _ i => 3 - (intOf i).toNat)
      case atStart => exact ⟨1, v0, by decide, by rw [HV.out], rfl, .inl ⟨rfl, hv0⟩, H0.out⟩
      case round =>
        obtain ⟨k, v, hk, rfl, rfl, hkv, hT⟩ := hrel
        have HT := Lib.hid hT
        clear hT H0 HV HW
        have hvb : v < 8388608 := by omega
        have HKV := Lib.hid hkv
        clear hkv
        by_cases hlt : k < 3
        · have hks : k < s.size := by omega
          cases e : contB (s[k]'hks)
          · have HH := Lib.hid (HT.out.no hl hlt e)
            have hor : (s[k].toNat : Int) < 128 ∨ 192 ≤ (s[k].toNat : Int) := contB_no e
            clear e
            rcases hor with hor | hor
            all_goals
              go_wp2
              go_ret
              exact ⟨ret_int (by rw [HH.out]; rfl), rfl⟩
          · have HH := Lib.hid (HT.out.on hl hlt e)
            obtain ⟨o1, o2⟩ : 128 ≤ (s[k].toNat : Int) ∧ (s[k].toNat : Int) < 192 := contB_yes e
            clear e
            go_wp2
            go_round
            case rel => exact ⟨k + 1, v * 64 + (s[k].toNat - 128), by omega, by go_num, by go_num, by have := HKV.out; omega, HH.out⟩
            case measure => simp [intOf]; omega
        · obtain rfl : k = 3 := by omega
          have HH := Lib.hid (HT.out.done (Nat.le_refl _))
          clear HT HKV
          go_wp2
          all_goals
            go_ret
            refine ⟨ret_int ?_, rfl⟩
            rw [HH.out]
            first
              | (rw [if_pos (show offV 3 v = true by simp [offV]; omega)]; rfl)
              | (rw [if_neg (show ¬ offV 3 v = true by simp [offV]; omega)]; rfl)
    · have HH := Lib.hid (show wideL s.data.toList = 0 by rw [HW.out.eq]; exact wideR_short (by rw [List.length_drop, size_data]; omega))
      have hl' : (s.size : Int) < 3 := by omega
      clear HW HV
      go_enter Tryz.func12, Tryz.ntmps12
      go_wp2
      go_ret
      exact ⟨ret_int (by rw [HH.out]; rfl), rfl⟩
  · have HW := Lib.hid hw
    have b1' : (240 : Int) ≤ (s[0].toNat : Int) := by omega
    have b2' : (s[0].toNat : Int) < 248 := by omega
    have HV := Lib.hid (show ((s[0].toNat - 240 : Nat) : Int) = (s[0].toNat : Int) - 240 by omega)
    have hv0 := hw.v32
    clear hw b1 b2 c1
    by_cases hl : 4 ≤ s.size
    · have H0 := Lib.hid (WideTo.start (by decide : 1 ≤ 4) hl HW.out.eq)
      have hl' : ¬ (s.size : Int) < 4 := by omega
      generalize s[0].toNat - 240 = v0 at *
      go_enter Tryz.func12, Tryz.ntmps12
      go_wp2
      try simp only [decide_eq_false (show ¬ s.size < 4 by omega)]
      try simp only [decide_eq_false (show ¬ s[0].toNat < 128 by omega)]
      go_loop [5, 6] (fun r i => ∃ (k v : Nat), k ≤ 4 ∧ r = .int .i64 v ∧ i = .int .i64 k ∧ ((k = 1 ∧ v < 32) ∨ (k = 2 ∧ v < 2048) ∨ (k = 3 ∧ v < 131072) ∨ (k = 4 ∧ v < 8388608)) ∧ WideTo s 4 v k) (fun _ i => 4 - (intOf i).toNat)
      case atStart => exact ⟨1, v0, by decide, by rw [HV.out], rfl, .inl ⟨rfl, hv0⟩, H0.out⟩
      case round =>
        obtain ⟨k, v, hk, rfl, rfl, hkv, hT⟩ := hrel
        have HT := Lib.hid hT
        clear hT H0 HV HW
        have hvb : v < 8388608 := by omega
        have HKV := Lib.hid hkv
        clear hkv
        by_cases hlt : k < 4
        · have hks : k < s.size := by omega
          cases e : contB (s[k]'hks)
          · have HH := Lib.hid (HT.out.no hl hlt e)
            have hor : (s[k].toNat : Int) < 128 ∨ 192 ≤ (s[k].toNat : Int) := contB_no e
            clear e
            rcases hor with hor | hor
            all_goals
              go_wp2
              go_ret
              exact ⟨ret_int (by rw [HH.out]; rfl), rfl⟩
          · have HH := Lib.hid (HT.out.on hl hlt e)
            obtain ⟨o1, o2⟩ : 128 ≤ (s[k].toNat : Int) ∧ (s[k].toNat : Int) < 192 := contB_yes e
            clear e
            go_wp2
            go_round
            case rel => exact ⟨k + 1, v * 64 + (s[k].toNat - 128), by omega, by go_num, by go_num, by have := HKV.out; omega, HH.out⟩
            case measure => simp [intOf]; omega
        · obtain rfl : k = 4 := by omega
          have HH := Lib.hid (HT.out.done (Nat.le_refl _))
          clear HT HKV
          go_wp2
          all_goals
            go_ret
            refine ⟨ret_int ?_, rfl⟩
            rw [HH.out]
            first
              | (rw [if_pos (show offV 4 v = true by simp [offV]; omega)]; rfl)
              | (rw [if_neg (show ¬ offV 4 v = true by simp [offV]; omega)]; rfl)
    · have HH := Lib.hid (show wideL s.data.toList = 0 by rw [HW.out.eq]; exact wideR_short (by rw [List.length_drop, size_data]; omega))
      have hl' : (s.size : Int) < 4 := by omega
      clear HW HV
      go_enter Tryz.func12, Tryz.ntmps12
      go_wp2
      go_ret
      exact ⟨ret_int (by rw [HH.out]; rfl), rfl⟩
end Go.Proofs.YtinaeegijmkbhaaGreatDoor
