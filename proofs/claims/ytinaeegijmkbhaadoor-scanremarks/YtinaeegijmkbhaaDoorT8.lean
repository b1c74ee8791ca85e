/-
  ScanRemarks: the walk.
-/
import Derived.Test.YtinaeegijmkbhaaDoorS2
set_option linter.unusedVariables false
namespace Go.Proofs.YtinaeegijmkbhaaDoor
open Go.RowKit Go.Shelf

/-- The steps' tokens, and where each step begins. -/
def wantT (c : List UInt8) (k : Nat) : Nat × List UInt8 × Nat := match k with
  | 0 => (1, [97], 1) | 1 => (4, c, 1) | 2 => (3, [10], 1) | 3 => (1, [98], 2) | 4 => (3, [10], 2) | _ => (0, [], 2)
def wantP (n : Nat) (k : Nat) : Nat × Bool := match k with
  | 0 => (0, false) | 1 => (1, true) | 2 => (n + 2, true) | 3 => (n + 3, false) | 4 => (n + 4, true) | _ => (n + 4, false)
theorem want_step {s : List UInt8} (h : Plain s) (wide : Bool) {k : Nat} (hk : k < 7) :
    stepP (remarked s wide) (wantP (remark s wide).length k).1 (wantP (remark s wide).length k).2 = ⟨some ((wantT (remark s wide) k).1, (wantT (remark s wide) k).2.1), (wantT (remark s wide) k).2.2, (wantP (remark s wide).length (k + 1)).1, (wantP (remark s wide).length (k + 1)).2⟩ := by
  have g : nextL (remarked s wide) (wantP (remark s wide).length k).1 (wantP (remark s wide).length k).2 = ⟨some ((wantT (remark s wide) k).1, (wantT (remark s wide) k).2.1), (wantT (remark s wide) k).2.2, (wantP (remark s wide).length (k + 1)).1, (wantP (remark s wide).length (k + 1)).2⟩ := by
    obtain ⟨h0, h1, h2, h3, h4, h5⟩ := remark_steps h wide
    match k, hk with
    | 0, _ => exact h0
    | 1, _ => exact h1
    | 2, _ => exact h2
    | 3, _ => exact h3
    | 4, _ => exact h4
    | 5, _ => exact h5
    | 6, _ => exact h5
  rw [step_tok (by rw [step_same.1, g]; simp), g]
theorem remarked_ascii {s : List UInt8} (h : Plain s) (wide : Bool) : ∀ c ∈ remarked s wide, 0 < c.toNat ∧ c.toNat < 128 := by
  intro c hc
  have hp : ∀ c ∈ s, 0 < c.toNat ∧ c.toNat < 128 := fun c hc => by have := h c hc; omega
  unfold remarked remark at hc
  cases wide
  · simp only [Bool.false_eq_true, if_false, List.mem_append, List.mem_cons, List.not_mem_nil, or_false] at hc
    rcases hc with ((rfl | rfl) | (rfl | rfl) | hc) | (rfl | rfl)
    all_goals first | exact hp _ hc | decide
  · simp only [if_true, List.mem_append, List.mem_cons, List.not_mem_nil, or_false] at hc
    rcases hc with ((rfl | rfl) | (((rfl | rfl) | hc) | (rfl | rfl))) | (rfl | rfl)
    all_goals first | exact hp _ hc | decide
theorem plain_of (s : ByteArray) (H : ∀ j, (h : j < s.data.toList.length) → j < s.size → 32 ≤ (s.data.toList[j]).toNat ∧ (s.data.toList[j]).toNat ≤ 126 ∧ s.data.toList[j] ≠ 42) : Plain s.data.toList := by
  intro c hc
  obtain ⟨j, hj, rfl⟩ := List.getElem_of_mem hc
  exact H j hj (by rw [size_data] at hj; exact hj)
def wantC (C : ByteArray) : Array Value := #[.int .i64 1, .string ⟨#[97]⟩, .int .i64 1, .int .i64 4, .string C, .int .i64 1, .int .i64 3, .string ⟨#[10]⟩, .int .i64 1, .int .i64 1, .string ⟨#[98]⟩, .int .i64 2, .int .i64 3, .string ⟨#[10]⟩, .int .i64 2, .int .i64 0, .string ⟨#[]⟩, .int .i64 2, .int .i64 0, .string ⟨#[]⟩, .int .i64 2]
theorem want_cell (C : ByteArray) {k : Nat} (hk : k < 7) : (wantC C)[k * 3]? = some (.int .i64 ((wantT C.data.toList k).1 : Nat)) ∧ (wantC C)[k * 3 + 1]? = some (.string (mkB (wantT C.data.toList k).2.1)) ∧ (wantC C)[k * 3 + 2]? = some (.int .i64 ((wantT C.data.toList k).2.2 : Nat)) := by
  match k, hk with
  | 0, _ => exact ⟨rfl, rfl, rfl⟩
  | 1, _ => exact ⟨rfl, rfl, rfl⟩
  | 2, _ => exact ⟨rfl, rfl, rfl⟩
  | 3, _ => exact ⟨rfl, rfl, rfl⟩
  | 4, _ => exact ⟨rfl, rfl, rfl⟩
  | 5, _ => exact ⟨rfl, rfl, rfl⟩
  | 6, _ => exact ⟨rfl, rfl, rfl⟩
set_option maxRecDepth 100000 in
set_option maxHeartbeats 6400000 in
theorem remarks_walk (s : ByteArray) (hm : s.size ≤ maxLen) (wide : Bool) (w : World) (hE : Env w) : Calls Tryd.prog 8 #[.string s, .bool wide] w fun e w' => e = .returned (.bool true) ∧ Below w.heap.size w w' := by
  have HSh := Lib.hid (fun (W : World) (b : Below w.heap.size w W) => shown_any W (hE.on b))
  by_cases hbig : 256 < s.size
  · have i1 : (256 : Int) < (s.size : Int) := by omega
    go_enter Tryd.func8, Tryd.ntmps8
    go_wp2_with (go_at_call 13; refine (HSh.out _ (Below.refl _ _)).mono ?_; rintro _ w1 ⟨rfl, hB⟩)
    go_ret
    exact ⟨rfl, hB⟩
  have i1 : ¬ (256 : Int) < (s.size : Int) := by omega
  go_enter Tryd.func8, Tryd.ntmps8
  go_wp2_with (go_at_call 13; refine (HSh.out _ (Below.refl _ _)).mono ?_; rintro _ w1 ⟨rfl, hB⟩; have HB1 := Lib.hid hB; clear hB)
  go_loopw [5] (fun i wr => ∃ k : Nat, i = .int .i64 k ∧ k ≤ s.size ∧ Hid (∀ j, (h : j < s.data.toList.length) → j < k → 32 ≤ (s.data.toList[j]).toNat ∧ (s.data.toList[j]).toNat ≤ 126 ∧ s.data.toList[j] ≠ 42) ∧ Hid (Below w.heap.size w wr)) (fun i _ => s.size + 4 - (intOf i).toNat)
  case atStart => exact ⟨0, rfl, Nat.zero_le _, Lib.hid (fun j _ h => absurd h (Nat.not_lt_zero _)), HB1⟩
  case round =>
    obtain ⟨k, rfl, hk, HP, HB⟩ := hrel
    by_cases hlt : k < s.size
    · have i2 : (k : Int) < (s.size : Int) := by omega
      have hsh : k < s.data.size := hlt
      go_wp2_with (go_at_call 13; (with_reducible refine (HSh.out _ HB.out).mono ?_); rintro _ w2 ⟨rfl, hB⟩; have HB2 := Lib.hid (HB.out.trans (hB.mono HB.out.size)); clear hB)
      case roundEnd =>
        go_roundw
        case rel =>
          refine ⟨k + 1, by go_num, hlt, Lib.hid (fun j h hj => ?_), HB⟩
          rcases Nat.lt_succ_iff_lt_or_eq.1 hj with hj | rfl
          · exact HP.out j h hj
          · have e : s[j].toNat = (s.data.toList[j]).toNat := by rw [Array.getElem_toList]; rfl
            rename_i hbyte
            obtain ⟨⟨ha, hb⟩, hc⟩ := hbyte
            rw [e] at ha hb hc
            refine ⟨by omega, by omega, fun x => ?_⟩
            rw [x] at hc
            exact absurd hc (by decide)
        case measure => simp [intOf]; omega
      all_goals
        go_ret
        exact ⟨rfl, HB2.out⟩
    · have i2 : ¬ (k : Int) < (s.size : Int) := by omega
      obtain rfl : k = s.size := by omega
      have hpl := plain_of s HP.out
      clear HP HB1
      cases wide with
      | false =>
        obtain ⟨C, hC⟩ : ∃ C, (⟨#[47, 47]⟩ : ByteArray) ++ s = C := ⟨_, rfl⟩
        obtain ⟨D, hD⟩ : ∃ D, (⟨#[97, 32]⟩ : ByteArray) ++ C = D := ⟨_, rfl⟩
        obtain ⟨X, hX⟩ : ∃ X, D ++ (⟨#[10, 98]⟩ : ByteArray) = X := ⟨_, rfl⟩
        have hCl : C.data.toList = remark s.data.toList false := by rw [← hC]; simp [remark]
        have hXl : X.data.toList = remarked s.data.toList false := by rw [← hX, ← hD]; simp [remarked, hCl]
        have hrl : (remark s.data.toList false).length = C.size := by rw [← hCl, size_data]
        have hCs : C.size = s.size + 2 := by rw [← hrl]; simp [remark, size_data]
        have hDs : D.size = C.size + 2 := by rw [← hD, ByteArray.size_append]; have : (⟨#[97, 32]⟩ : ByteArray).size = 2 := rfl; omega
        have hXs : X.size = C.size + 4 := by rw [← size_data X, hXl, ← hrl]; simp [remarked]
        have hXz : X.size ≤ 20400 := by omega
        have hy : badL 0 X.data.toList = none := by rw [hXl]; exact bad_ascii _ _ (remarked_ascii hpl false)
        have hbom : bomN X = 0 := by unfold bomN; rw [hXl]; rfl
        have HM := Lib.hid (fun W hW => new_yes X hXz hy hE W hW)
        have HNx := Lib.hid (fun (W : World) (p pos : Nat) (semi : Bool) (h : LS w W p X pos semi) => next_law X hXz h)
        have HW := Lib.hid (fun (k : Nat) (hk : k < 7) => want_step hpl false hk)
        rw [← hXl, ← hCl, size_data] at HW
        rw [hbom] at HM
        have HCl := Lib.hid hCl
        clear hy hbom hXl hrl hCl hXz
        go_wp2_with (go_at_call 14; (with_reducible refine (HM.out _ HB.out).mono ?_); rintro _ w3 ⟨hB, p, -, rfl, hL⟩; have HL3 := Lib.hid (hL.alloc (.cells #[.int .i64 0, .string ⟨#[]⟩, .int .i64 0] 30)); clear hB hL)
        have hlp := HL3.out.sc.lt
        have gB0 := GBlk.new (w3.alloc (.cells #[.int .i64 0, .string ⟨#[]⟩, .int .i64 0] 30)) 37 (wantC C)
        have eB : (w3.alloc (.cells #[.int .i64 0, .string ⟨#[]⟩, .int .i64 0] 30)).heap.size = w3.heap.size + 1 := by simp
        rw [eB] at gB0 hlp
        obtain ⟨B, hB⟩ : ∃ B, w3.heap.size + 1 = B := ⟨_, rfl⟩
        have GB0 := Lib.hid gB0
        have HL4 := Lib.hid (HL3.out.alloc (.cells (wantC C) 37))
        rw [hB] at GB0 hlp ⊢
        have hBp : B ≠ p := by omega
        clear gB0 eB hlp HL3
        go_loopw [10] (fun i wx => ∃ k : Nat, i = .int .i64 k ∧ k ≤ 7 ∧ Hid (LS w wx p X (wantP C.size k).1 (wantP C.size k).2 ∧ GBlk wx B 37 (wantC C))) (fun i _ => 9 - (intOf i).toNat)
        case atStart => exact ⟨0, rfl, by omega, Lib.hid ⟨HL4.out, GB0.out⟩⟩
        case round =>
          obtain ⟨k, rfl, hk7, HG⟩ := hrel
          clear GB0 HL4 HB HM
          by_cases hk : k < 7
          · have i3 : (k : Int) < 7 := by omega
            have HX := Lib.hid (HNx.out _ _ _ _ HG.out.1)
            have hw := HW.out k hk
            rw [hw] at HX
            obtain ⟨HC0, HC1, HC2⟩ := want_cell C hk
            clear hw HW
            generalize (wantT C.data.toList k).1 = kd at *
            generalize (wantT C.data.toList k).2.1 = tx at *
            generalize (wantT C.data.toList k).2.2 = ln at *
            have HX : Hid (Calls Tryd.prog 16 #[.pointer (some ⟨p, 0, none⟩)] wr fun e w' => e = .returned (.tuple #[.agg #[.int .i64 (kd : Nat), .string (mkB tx), .int .i64 (ln : Nat)], .agg #[.int .i64 0, .string ⟨#[]⟩, .int .i64 0]]) ∧ LS w w' p X (wantP C.size (k + 1)).1 (wantP C.size (k + 1)).2 ∧ Only p wr w') := HX
            generalize mkB tx = TX at *
            have gG := HG.out.2
            generalize wantC C = cs at *
            go_wp2_with (go_at_call 16; (with_reducible refine HX.out.mono ?_); rintro _ w4 ⟨rfl, hL4, hO⟩; have HL4 := Lib.hid (((hL4.alloc (.cells #[.int .i64 (kd : Int), .string TX, .int .i64 (ln : Int)] 37)).alloc (.cells #[.int .i64 0, .string ⟨#[]⟩, .int .i64 0] 30))); have gB := gG.only hO hBp; have GB := Lib.hid ((gB.alloc (.cells #[.int .i64 (kd : Int), .string TX, .int .i64 (ln : Int)] 37)).alloc (.cells #[.int .i64 0, .string ⟨#[]⟩, .int .i64 0] 30)); have b0 : ∀ o o', ((w4.alloc o).alloc o').cell? ⟨B, k * 3, none⟩ = some (.int .i64 (kd : Int)) := fun o o' => (((gB.alloc o).alloc o').cell (k * 3)).trans HC0; have b1 : ∀ o o', ((w4.alloc o).alloc o').cell? ⟨B, k * 3 + 1, none⟩ = some (.string TX) := fun o o' => (((gB.alloc o).alloc o').cell (k * 3 + 1)).trans HC1; have b2 : ∀ o o', ((w4.alloc o).alloc o').cell? ⟨B, k * 3 + 2, none⟩ = some (.int .i64 (ln : Int)) := fun o o' => (((gB.alloc o).alloc o').cell (k * 3 + 2)).trans HC2; clear hL4 hO gB)
            go_region
            go_wp2
            go_roundw
            case rel => exact ⟨k + 1, by go_num, by omega, Lib.hid ⟨HL4.out.drew, GB.out.drew⟩⟩
            case measure => simp [intOf]; omega
          · have i3 : ¬ (k : Int) < 7 := by omega
            go_wp2
            go_ret
            exact ⟨rfl, HG.out.1.bel⟩
      | true =>
        obtain ⟨C0, hC0⟩ : ∃ C, (⟨#[47, 42]⟩ : ByteArray) ++ s = C := ⟨_, rfl⟩
        obtain ⟨C, hC⟩ : ∃ C, C0 ++ (⟨#[42, 47]⟩ : ByteArray) = C := ⟨_, rfl⟩
        obtain ⟨D, hD⟩ : ∃ D, (⟨#[97, 32]⟩ : ByteArray) ++ C = D := ⟨_, rfl⟩
        obtain ⟨X, hX⟩ : ∃ X, D ++ (⟨#[10, 98]⟩ : ByteArray) = X := ⟨_, rfl⟩
        have hCl : C.data.toList = remark s.data.toList true := by rw [← hC, ← hC0]; simp [remark]
        have hXl : X.data.toList = remarked s.data.toList true := by rw [← hX, ← hD]; simp [remarked, hCl]
        have hrl : (remark s.data.toList true).length = C.size := by rw [← hCl, size_data]
        have hCs : C.size = s.size + 4 := by rw [← hrl]; simp [remark, size_data]
        have hC0s : C0.size = s.size + 2 := by rw [← hC0, ByteArray.size_append]; have : (⟨#[47, 42]⟩ : ByteArray).size = 2 := rfl; omega
        have hDs : D.size = C.size + 2 := by rw [← hD, ByteArray.size_append]; have : (⟨#[97, 32]⟩ : ByteArray).size = 2 := rfl; omega
        have hXs : X.size = C.size + 4 := by rw [← size_data X, hXl, ← hrl]; simp [remarked]
        have hXz : X.size ≤ 20400 := by omega
        have hy : badL 0 X.data.toList = none := by rw [hXl]; exact bad_ascii _ _ (remarked_ascii hpl true)
        have hbom : bomN X = 0 := by unfold bomN; rw [hXl]; rfl
        have HM := Lib.hid (fun W hW => new_yes X hXz hy hE W hW)
        have HNx := Lib.hid (fun (W : World) (p pos : Nat) (semi : Bool) (h : LS w W p X pos semi) => next_law X hXz h)
        have HW := Lib.hid (fun (k : Nat) (hk : k < 7) => want_step hpl true hk)
        rw [← hXl, ← hCl, size_data] at HW
        rw [hbom] at HM
        have HCl := Lib.hid hCl
        clear hy hbom hXl hrl hCl hXz
        go_wp2_with (go_at_call 14; (with_reducible refine (HM.out _ HB.out).mono ?_); rintro _ w3 ⟨hB, p, -, rfl, hL⟩; have HL3 := Lib.hid (hL.alloc (.cells #[.int .i64 0, .string ⟨#[]⟩, .int .i64 0] 30)); clear hB hL)
        have hlp := HL3.out.sc.lt
        have gB0 := GBlk.new (w3.alloc (.cells #[.int .i64 0, .string ⟨#[]⟩, .int .i64 0] 30)) 37 (wantC C)
        have eB : (w3.alloc (.cells #[.int .i64 0, .string ⟨#[]⟩, .int .i64 0] 30)).heap.size = w3.heap.size + 1 := by simp
        rw [eB] at gB0 hlp
        obtain ⟨B, hB⟩ : ∃ B, w3.heap.size + 1 = B := ⟨_, rfl⟩
        have GB0 := Lib.hid gB0
        have HL4 := Lib.hid (HL3.out.alloc (.cells (wantC C) 37))
        rw [hB] at GB0 hlp ⊢
        have hBp : B ≠ p := by omega
        clear gB0 eB hlp HL3
        go_loopw [10] (fun i wx => ∃ k : Nat, i = .int .i64 k ∧ k ≤ 7 ∧ Hid (LS w wx p X (wantP C.size k).1 (wantP C.size k).2 ∧ GBlk wx B 37 (wantC C))) (fun i _ => 9 - (intOf i).toNat)
        case atStart => exact ⟨0, rfl, by omega, Lib.hid ⟨HL4.out, GB0.out⟩⟩
        case round =>
          obtain ⟨k, rfl, hk7, HG⟩ := hrel
          clear GB0 HL4 HB HM
          by_cases hk : k < 7
          · have i3 : (k : Int) < 7 := by omega
            have HX := Lib.hid (HNx.out _ _ _ _ HG.out.1)
            have hw := HW.out k hk
            rw [hw] at HX
            obtain ⟨HC0, HC1, HC2⟩ := want_cell C hk
            clear hw HW
            generalize (wantT C.data.toList k).1 = kd at *
            generalize (wantT C.data.toList k).2.1 = tx at *
            generalize (wantT C.data.toList k).2.2 = ln at *
            have HX : Hid (Calls Tryd.prog 16 #[.pointer (some ⟨p, 0, none⟩)] wr fun e w' => e = .returned (.tuple #[.agg #[.int .i64 (kd : Nat), .string (mkB tx), .int .i64 (ln : Nat)], .agg #[.int .i64 0, .string ⟨#[]⟩, .int .i64 0]]) ∧ LS w w' p X (wantP C.size (k + 1)).1 (wantP C.size (k + 1)).2 ∧ Only p wr w') := HX
            generalize mkB tx = TX at *
            have gG := HG.out.2
            generalize wantC C = cs at *
            go_wp2_with (go_at_call 16; (with_reducible refine HX.out.mono ?_); rintro _ w4 ⟨rfl, hL4, hO⟩; have HL4 := Lib.hid (((hL4.alloc (.cells #[.int .i64 (kd : Int), .string TX, .int .i64 (ln : Int)] 37)).alloc (.cells #[.int .i64 0, .string ⟨#[]⟩, .int .i64 0] 30))); have gB := gG.only hO hBp; have GB := Lib.hid ((gB.alloc (.cells #[.int .i64 (kd : Int), .string TX, .int .i64 (ln : Int)] 37)).alloc (.cells #[.int .i64 0, .string ⟨#[]⟩, .int .i64 0] 30)); have b0 : ∀ o o', ((w4.alloc o).alloc o').cell? ⟨B, k * 3, none⟩ = some (.int .i64 (kd : Int)) := fun o o' => (((gB.alloc o).alloc o').cell (k * 3)).trans HC0; have b1 : ∀ o o', ((w4.alloc o).alloc o').cell? ⟨B, k * 3 + 1, none⟩ = some (.string TX) := fun o o' => (((gB.alloc o).alloc o').cell (k * 3 + 1)).trans HC1; have b2 : ∀ o o', ((w4.alloc o).alloc o').cell? ⟨B, k * 3 + 2, none⟩ = some (.int .i64 (ln : Int)) := fun o o' => (((gB.alloc o).alloc o').cell (k * 3 + 2)).trans HC2; clear hL4 hO gB)
            go_region
            go_wp2
            go_roundw
            case rel => exact ⟨k + 1, by go_num, by omega, Lib.hid ⟨HL4.out.drew, GB.out.drew⟩⟩
            case measure => simp [intOf]; omega
          · have i3 : ¬ (k : Int) < 7 := by omega
            go_wp2
            go_ret
            exact ⟨rfl, HG.out.1.bel⟩
end Go.Proofs.YtinaeegijmkbhaaDoor
