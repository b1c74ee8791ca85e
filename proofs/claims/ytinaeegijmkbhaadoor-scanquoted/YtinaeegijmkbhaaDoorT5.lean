/-
  ScanQuoted: the walk.
-/
import Derived.Test.YtinaeegijmkbhaaDoorS2
set_option linter.unusedVariables false
namespace Go.Proofs.YtinaeegijmkbhaaDoor
open Go.RowKit Go.Shelf

theorem hexed_app (a b : List UInt8) : hexed (a ++ b) = hexed a ++ hexed b := by unfold hexed; simp
theorem hexed_len : ∀ s : List UInt8, (hexed s).length = 4 * s.length
  | [] => rfl
  | c :: s => by rw [hexed_cons]; simp [hexed_len s]; omega
theorem low_cut : ∀ n : Fin 16, (⟨#[48, 49, 50, 51, 52, 53, 54, 55, 56, 57, 97, 98, 99, 100, 101, 102]⟩ : ByteArray).extract n.val (n.val + 1) = ⟨#[lowH n.val]⟩ := by decide
theorem upp_cut : ∀ n : Fin 16, (⟨#[48, 49, 50, 51, 52, 53, 54, 55, 56, 57, 65, 66, 67, 68, 69, 70]⟩ : ByteArray).extract n.val (n.val + 1) = ⟨#[uppH n.val]⟩ := by decide
theorem quo_step (s Q : ByteArray) {k c : Nat} (hk : k < s.data.toList.length) (hc : (s.data.toList[k]).toNat = c) {l : List UInt8} (hl : l = 34 :: hexed (s.data.toList.take k)) (hQ : Q.data.toList = l ++ [92, 120, lowH (c / 16), uppH (c % 16)]) : Q.data.toList = 34 :: hexed (s.data.toList.take (k + 1)) := by
  rw [hQ, hl, List.take_succ_eq_append_getElem hk, hexed_app, ← hc]; rfl
theorem raw_step (s : ByteArray) {k c : Nat} (hk : k < s.data.toList.length) (hc : (s.data.toList[k]).toNat = c) (h : RawS (s.data.toList.take k)) (h1 : 32 ≤ c) (h2 : c < 127) (h3 : c ≠ 96) : RawS (s.data.toList.take (k + 1)) := by
  intro x hx
  rw [List.take_succ_eq_append_getElem hk] at hx
  rcases List.mem_append.1 hx with hx | hx
  · exact h x hx
  · rw [List.mem_singleton.1 hx, hc]
    refine ⟨h1, h2, fun e => h3 ?_⟩
    rw [← hc, e]; rfl
theorem quoted_ascii (s : List UInt8) : ∀ c ∈ 34 :: (hexed s ++ [34]), 0 < c.toNat ∧ c.toNat < 128 := by
  intro c hc
  rcases List.mem_cons.1 hc with rfl | hc
  · decide
  rcases List.mem_append.1 hc with hc | hc
  · exact hex_ascii s c hc
  · rw [List.mem_singleton.1 hc]; decide
theorem raw_ascii {s : List UInt8} (h : RawS s) : ∀ c ∈ 96 :: (s ++ [96]), 0 < c.toNat ∧ c.toNat < 128 := by
  intro c hc
  rcases List.mem_cons.1 hc with rfl | hc
  · decide
  rcases List.mem_append.1 hc with hc | hc
  · have := h c hc; omega
  · rw [List.mem_singleton.1 hc]; decide
structure Kept4 (w W : World) (s : ByteArray) (b3 bt be : Nat) : Prop where
  bel : Below w.heap.size w W
  g3 : GBlk W b3 30 #[.int .i64 0, .string ⟨#[]⟩, .int .i64 0]
  gt : GBlk W bt 37 #[.int .i64 2, .string s, .int .i64 1]
  ge : GBlk W be 30 #[.int .i64 0, .string ⟨#[]⟩, .int .i64 0]
  l3 : w.heap.size ≤ b3
  le : w.heap.size ≤ be
  n1 : b3 ≠ bt
  n2 : b3 ≠ be
  n3 : bt ≠ be
theorem alloc_size (w : World) (o : Obj) : (w.alloc o).heap.size = w.heap.size + 1 := by simp
theorem GBlk.new1 (w : World) (o : Obj) (t : TypeId) (cs : Array Value) : GBlk ((w.alloc o).alloc (.cells cs t)) (w.heap.size + 1) t cs := by
  have := GBlk.new (w.alloc o) t cs
  rw [alloc_size] at this
  exact this
theorem Kept4.mk' {w w4 : World} {s : ByteArray} {b3 : Nat} (hb : Below w.heap.size w w4) (g : GBlk w4 b3 30 #[.int .i64 0, .string ⟨#[]⟩, .int .i64 0]) (hl : w.heap.size ≤ b3) :
    Kept4 w ((w4.alloc (.cells #[.int .i64 2, .string s, .int .i64 1] 37)).alloc (.cells #[.int .i64 0, .string ⟨#[]⟩, .int .i64 0] 30)) s b3 w4.heap.size (w4.heap.size + 1) := by
  have h1 := g.lt
  have h2 := hb.size
  exact ⟨(hb.alloc h2 _).alloc (by rw [alloc_size]; omega) _, (g.alloc _).alloc _, (GBlk.new w4 37 _).alloc _, GBlk.new1 _ _ _ _, hl, by omega, by omega, by omega, by omega⟩
structure Kept (w W : World) (s Y : ByteArray) (q pos : Nat) (semi : Bool) (b3 bt be : Nat) : Prop extends Kept4 w W s b3 bt be where
  ls : LS w W q Y pos semi
  m3 : b3 ≠ q
  mt : bt ≠ q
  me : be ≠ q
theorem Kept.mk' {w W w5 : World} {s Y : ByteArray} {q pos b3 bt be : Nat} {semi : Bool} (h : Kept4 w W s b3 bt be) (hb : Below W.heap.size W w5) (hL : LS w w5 q Y pos semi) (hq : W.heap.size ≤ q) : Kept w w5 s Y q pos semi b3 bt be := by
  have h1 := h.g3.lt
  have h2 := h.gt.lt
  have h3 := h.ge.lt
  exact ⟨⟨h.bel.trans (hb.mono h.bel.size), h.g3.below hb, h.gt.below hb, h.ge.below hb, h.l3, h.le, h.n1, h.n2, h.n3⟩, hL, by omega, by omega, by omega⟩
theorem Only.here3 {W : World} {B : Nat} (x y z : Value) : Only B W (((W.setCell ⟨B, 0, none⟩ x).setCell ⟨B, 1, none⟩ y).setCell ⟨B, 2, none⟩ z) :=
  Only.set3 (Only.of_below (Below.refl _ _)) (.inl rfl) x y z
theorem Kept.set3 {w W : World} {s Y : ByteArray} {q pos b3 bt be : Nat} {semi : Bool} (h : Kept w W s Y q pos semi b3 bt be) :
    Kept w (((W.setCell ⟨b3, 0, none⟩ (.int .i64 0)).setCell ⟨b3, 1, none⟩ (.string ⟨#[]⟩)).setCell ⟨b3, 2, none⟩ (.int .i64 0)) s Y q pos semi b3 bt be :=
  ⟨⟨below_set3 h.bel h.l3 _ _ _, h.g3.set3 _ _ _, h.gt.other3 h.n1.symm _ _ _, h.ge.other3 h.n2.symm _ _ _, h.l3, h.le, h.n1, h.n2, h.n3⟩, h.ls.only (Only.here3 _ _ _) h.l3 h.m3.symm, h.m3, h.mt, h.me⟩
theorem Kept.step {w W W' : World} {s Y : ByteArray} {q pos pos' b3 bt be : Nat} {semi semi' : Bool} (h : Kept w W s Y q pos semi b3 bt be) (hL : LS w W' q Y pos' semi') (o : Only q W W') : Kept w W' s Y q pos' semi' b3 bt be :=
  ⟨⟨hL.bel, h.g3.only o h.m3, h.gt.only o h.mt, h.ge.only o h.me, h.l3, h.le, h.n1, h.n2, h.n3⟩, hL, h.m3, h.mt, h.me⟩
theorem Kept.alloc {w W : World} {s Y : ByteArray} {q pos b3 bt be : Nat} {semi : Bool} (h : Kept w W s Y q pos semi b3 bt be) (o : Obj) : Kept w (W.alloc o) s Y q pos semi b3 bt be :=
  ⟨⟨h.bel.alloc h.bel.size _, h.g3.alloc _, h.gt.alloc _, h.ge.alloc _, h.l3, h.le, h.n1, h.n2, h.n3⟩, h.ls.alloc _, h.m3, h.mt, h.me⟩
theorem Kept.sete {w W : World} {s Y : ByteArray} {q pos b3 bt be : Nat} {semi : Bool} (h : Kept w W s Y q pos semi b3 bt be) :
    Kept w (((W.setCell ⟨be, 0, none⟩ (.int .i64 0)).setCell ⟨be, 1, none⟩ (.string ⟨#[]⟩)).setCell ⟨be, 2, none⟩ (.int .i64 0)) s Y q pos semi b3 bt be :=
  ⟨⟨below_set3 h.bel h.le _ _ _, h.g3.other3 h.n2 _ _ _, h.gt.other3 h.n3 _ _ _, h.ge.set3 _ _ _, h.l3, h.le, h.n1, h.n2, h.n3⟩, h.ls.only (Only.here3 _ _ _) h.le h.me.symm, h.m3, h.mt, h.me⟩
theorem Kept.last {w W : World} {s Y : ByteArray} {q pos b3 bt be : Nat} {semi : Bool} (h : Kept w W s Y q pos semi b3 bt be) (o : Obj) :
    Kept w ((((W.alloc o).setCell ⟨be, 0, none⟩ (.int .i64 0)).setCell ⟨be, 1, none⟩ (.string ⟨#[]⟩)).setCell ⟨be, 2, none⟩ (.int .i64 0)) s Y q pos semi b3 bt be := (h.alloc o).sete
theorem Kept.lastU {w W : World} {s Y : ByteArray} {q pos b3 bt be : Nat} {semi : Bool} (h : Kept w W s Y q pos semi b3 bt be) (cs : Array Value) :
    GBlk ((((W.alloc (.cells cs 37)).setCell ⟨be, 0, none⟩ (.int .i64 0)).setCell ⟨be, 1, none⟩ (.string ⟨#[]⟩)).setCell ⟨be, 2, none⟩ (.int .i64 0)) W.heap.size 37 cs :=
  (GBlk.new W 37 cs).other3 (by have := h.ge.lt; omega) _ _ _
set_option maxRecDepth 100000 in
set_option maxHeartbeats 6400000 in
theorem quoted_walk (s : ByteArray) (hm : s.size ≤ maxLen) (w : World) (hE : Env w) : Calls Tryd.prog 5 #[.string s] w fun e w' => e = .returned (.bool true) ∧ Below w.heap.size w w' := by
  have HSh := Lib.hid (fun (W : World) (b : Below w.heap.size w W) => shown_any W (hE.on b))
  by_cases hbig : 256 < s.size
  · have i1 : (256 : Int) < (s.size : Int) := by omega
    go_enter Tryd.func5, Tryd.ntmps5
    go_wp2_with (go_at_call 13; refine (HSh.out _ (Below.refl _ _)).mono ?_; rintro _ w1 ⟨rfl, hB⟩)
    go_ret
    exact ⟨rfl, hB⟩
  have i1 : ¬ (256 : Int) < (s.size : Int) := by omega
  go_enter Tryd.func5, Tryd.ntmps5
  go_wp2_with (go_at_call 13; refine (HSh.out _ (Below.refl _ _)).mono ?_; rintro _ w1 ⟨rfl, hB⟩; have HB1 := Lib.hid hB; clear hB)
  go_loopw [3, 4, 5] (fun q r i wr => ∃ k : Nat, ∃ Q : ByteArray, ∃ b : Bool, q = .string Q ∧ r = .bool b ∧ i = .int .i64 k ∧ k ≤ s.size ∧ Hid (Q.data.toList = 34 :: hexed (s.data.toList.take k) ∧ (b = true → RawS (s.data.toList.take k))) ∧ Hid (Below w.heap.size w wr)) (fun _ _ i _ => s.size + 4 - (intOf i).toNat)
  case atStart => exact ⟨0, ⟨#[34]⟩, true, rfl, rfl, rfl, Nat.zero_le _, Lib.hid ⟨rfl, fun _ c hc => by simp at hc⟩, HB1⟩
  case round =>
    obtain ⟨k, Q, b, rfl, rfl, rfl, hk, HQ, HB⟩ := hrel
    by_cases hlt : k < s.size
    · have i2 : (k : Int) < (s.size : Int) := by omega
      have hsh : k < s.data.size := hlt
      obtain ⟨c, hc⟩ : ∃ c : Nat, s[k].toNat = c := ⟨_, rfl⟩
      have hc255 : c < 256 := by rw [← hc]; exact UInt8.toNat_lt _
      have hci : (c : Int) < 256 := by omega
      have q0 : (0 : Int) ≤ (c : Int) / 16 := by omega
      have q1 : (c : Int) / 16 + 1 ≤ 16 := by omega
      have q2 : (c : Int) / 16 ≤ (c : Int) / 16 + 1 := by omega
      have r0 : (0 : Int) ≤ (c : Int) % 16 := by omega
      have r1 : (c : Int) % 16 + 1 ≤ 16 := by omega
      have r2 : (c : Int) % 16 ≤ (c : Int) % 16 + 1 := by omega
      have eL : (⟨#[48, 49, 50, 51, 52, 53, 54, 55, 56, 57, 97, 98, 99, 100, 101, 102]⟩ : ByteArray).extract ((c : Int) / 16).toNat ((c : Int) / 16 + 1).toNat = ⟨#[lowH (c / 16)]⟩ := by
        have := low_cut ⟨c / 16, by omega⟩
        rw [← this]; congr 1
      have eU : (⟨#[48, 49, 50, 51, 52, 53, 54, 55, 56, 57, 65, 66, 67, 68, 69, 70]⟩ : ByteArray).extract ((c : Int) % 16).toNat ((c : Int) % 16 + 1).toNat = ⟨#[uppH (c % 16)]⟩ := by
        have := upp_cut ⟨c % 16, by omega⟩
        rw [← this]; congr 1
      have hQs : Q.size = 1 + 4 * k := by rw [← size_data, HQ.out.1]; simp [hexed_len]; omega
      obtain ⟨Q2, hQ2⟩ : ∃ X, Q ++ (⟨#[92, 120]⟩ : ByteArray) = X := ⟨_, rfl⟩
      obtain ⟨Q3, hQ3⟩ : ∃ X, Q2 ++ (⟨#[lowH (c / 16)]⟩ : ByteArray) = X := ⟨_, rfl⟩
      obtain ⟨Q4, hQ4⟩ : ∃ X, Q3 ++ (⟨#[uppH (c % 16)]⟩ : ByteArray) = X := ⟨_, rfl⟩
      have hQ4l : Q4.data.toList = Q.data.toList ++ [92, 120, lowH (c / 16), uppH (c % 16)] := by rw [← hQ4, ← hQ3, ← hQ2]; simp
      have z2 : Q2.size = Q.size + 2 := by rw [← hQ2, ByteArray.size_append]; rfl
      have z3 : Q3.size = Q.size + 3 := by rw [← hQ3, ByteArray.size_append, z2]; rfl
      have c1 : ¬ 9223372036854775807 < Q.size + 2 := by omega
      have c2 : ¬ 9223372036854775807 < Q2.size + 1 := by omega
      have c3 : ¬ 9223372036854775807 < Q3.size + 1 := by omega
      have HQ4 := Lib.hid hQ4l
      clear z2 z3 hQs hQ4l
      go_wp2
      go_region
      have HQ5 := Lib.hid (quo_step s Q4 (by rw [size_data]; exact hlt) (by rw [Array.getElem_toList]; exact hc) HQ.out.1 HQ4.out)
      have HR5 := Lib.hid (fun (hb : b = true) (h1 : 32 ≤ c) (h2 : c < 127) (h3 : c ≠ 96) => raw_step s (by rw [size_data]; exact hlt) (by rw [Array.getElem_toList]; exact hc) (HQ.out.2 hb) h1 h2 h3)
      clear eL eU hQ2 hQ3 hQ4 c1 c2 c3 HQ4 q0 q1 q2 r0 r1 r2 HQ
      cases b with
      | false =>
        go_wp2
        go_roundw
        case rel => exact ⟨k + 1, Q4, false, rfl, rfl, by go_num, hlt, Lib.hid ⟨HQ5.out, fun h => nomatch h⟩, Lib.hid HB.out.drew⟩
        case measure => simp [intOf]; omega
      | true =>
        by_cases h1 : 32 ≤ c
        · have j1 : (32 : Int) ≤ (c : Int) := by omega
          by_cases h2 : c < 127
          · have j2 : (c : Int) < 127 := by omega
            by_cases h3 : c = 96
            · have j3 : ((c : Int) == 96) = true := by rw [h3]; rfl
              have j4 : ((c : Int) != 96) = false := by rw [h3]; rfl
              go_wp2
              go_roundw
              case rel => exact ⟨k + 1, Q4, false, rfl, by first | rfl | (congr 1; simpa using h3), by go_num, hlt, Lib.hid ⟨HQ5.out, fun h => nomatch h⟩, Lib.hid HB.out.drew⟩
              case measure => simp [intOf]; omega
            · have j3 : ((c : Int) == 96) = false := beq_eq_false_iff_ne.2 (by omega)
              go_wp2
              go_roundw
              case rel => exact ⟨k + 1, Q4, true, rfl, by simp; omega, by go_num, hlt, Lib.hid ⟨HQ5.out, fun _ => HR5.out rfl h1 h2 h3⟩, Lib.hid HB.out.drew⟩
              case measure => simp [intOf]; omega
          · have j2 : ¬ (c : Int) < 127 := by omega
            go_wp2
            go_roundw
            case rel => exact ⟨k + 1, Q4, false, rfl, rfl, by go_num, hlt, Lib.hid ⟨HQ5.out, fun h => nomatch h⟩, Lib.hid HB.out.drew⟩
            case measure => simp [intOf]; omega
        · have j1 : ¬ (32 : Int) ≤ (c : Int) := by omega
          go_wp2
          go_roundw
          case rel => exact ⟨k + 1, Q4, false, rfl, rfl, by go_num, hlt, Lib.hid ⟨HQ5.out, fun h => nomatch h⟩, Lib.hid HB.out.drew⟩
          case measure => simp [intOf]; omega
    · have i2 : ¬ (k : Int) < (s.size : Int) := by omega
      obtain rfl : k = s.size := by omega
      have hq := HQ.out.1
      have hr := HQ.out.2
      rw [List.take_of_length_le (by rw [size_data]; exact Nat.le_refl _)] at hq hr
      clear HQ HB1
      obtain ⟨X, hX⟩ : ∃ X, Q ++ (⟨#[34]⟩ : ByteArray) = X := ⟨_, rfl⟩
      have hXl : X.data.toList = 34 :: (hexed s.data.toList ++ [34]) := by rw [← hX]; simp [hq]
      have hQs : Q.size = 1 + 4 * s.size := by rw [← size_data, hq]; simp [hexed_len]; omega
      have hXs : X.size = Q.size + 1 := by rw [← hX, ByteArray.size_append]; rfl
      have hXz : X.size ≤ 20400 := by omega
      have hcat : ¬ 9223372036854775807 < Q.size + 1 := by omega
      have hy : badL 0 X.data.toList = none := by rw [hXl]; exact bad_ascii _ _ (quoted_ascii s.data.toList)
      have hbom : bomN X = 0 := by unfold bomN; rw [hXl]; rfl
      have HM := Lib.hid (fun W hW => new_yes X hXz hy hE W hW)
      rw [hbom] at HM
      have hst : stepP X.data.toList 0 false = ⟨some (2, s.data.toList), 1, (hexed s.data.toList).length + 2, true⟩ := by
        have g := next_hex s.data.toList
        rw [← hXl] at g
        rw [step_tok (by rw [step_same.1, g]; simp), g]
      have HNx := Lib.hid (fun (W : World) (p : Nat) (h : LS w W p X 0 false) => next_law X hXz h)
      rw [hst] at HNx
      have HNx : Hid (∀ (W : World) (p : Nat) (h : LS w W p X 0 false), Calls Tryd.prog 16 #[.pointer (some ⟨p, 0, none⟩)] W fun e w' => e = .returned (.tuple #[.agg #[.int .i64 2, .string s, .int .i64 1], .agg #[.int .i64 0, .string ⟨#[]⟩, .int .i64 0]]) ∧ LS w w' p X ((hexed s.data.toList).length + 2) true ∧ Only p W w') := HNx
      clear hy hbom hXl hXz hst
      cases b with
      | false =>
        go_wp2_with (first
          | (go_at_call 14; (with_reducible refine (HM.out _ HB.out).mono ?_); rintro _ w3 ⟨hB, p, -, rfl, hL⟩; have HL3 := Lib.hid (hL.alloc (.cells #[.int .i64 0, .string ⟨#[]⟩, .int .i64 0] 30)); clear hB hL)
          | (go_at_call 16; (with_reducible refine (HNx.out _ _ HL3.out).mono ?_); rintro _ w4 ⟨rfl, hL4, -⟩; have HL4 := Lib.hid (((hL4.alloc (.cells #[.int .i64 2, .string s, .int .i64 1] 37)).alloc (.cells #[.int .i64 0, .string ⟨#[]⟩, .int .i64 0] 30))); clear hL4))
        go_ret
        exact ⟨rfl, HL4.out.bel⟩
      | true =>
        have hraw := hr rfl
        obtain ⟨Y0, hY0⟩ : ∃ Y, (⟨#[96]⟩ : ByteArray) ++ s = Y := ⟨_, rfl⟩
        obtain ⟨Y, hY⟩ : ∃ Y, Y0 ++ (⟨#[96]⟩ : ByteArray) = Y := ⟨_, rfl⟩
        have hYl : Y.data.toList = 96 :: (s.data.toList ++ [96]) := by rw [← hY, ← hY0]; simp
        have hcat2 : ¬ 9223372036854775807 < Y0.size + 1 := by rw [← hY0, ByteArray.size_append]; have : (⟨#[96]⟩ : ByteArray).size = 1 := rfl; omega
        have hYz : Y.size ≤ 20400 := by rw [← size_data, hYl]; simp; omega
        have hy : badL 0 Y.data.toList = none := by rw [hYl]; exact bad_ascii _ _ (raw_ascii hraw)
        have hbom : bomN Y = 0 := by unfold bomN; rw [hYl]; rfl
        have HM2 := Lib.hid (fun W hW => new_yes Y hYz hy hE W hW)
        rw [hbom] at HM2
        have hs1 : stepP Y.data.toList 0 false = ⟨some (2, s.data.toList), 1, s.data.toList.length + 2, true⟩ := by
          have g := (next_rawS hraw).1
          rw [← hYl] at g
          rw [step_tok (by rw [step_same.1, g]; simp), g]
        have hs2 : stepP Y.data.toList (s.data.toList.length + 2) true = ⟨some (3, [10]), 1, s.data.toList.length + 2, false⟩ := by
          have g := (next_rawS hraw).2
          rw [← hYl] at g
          rw [step_tok (by rw [step_same.1, g]; simp), g]
        have HN1 := Lib.hid (fun (W : World) (p : Nat) (h : LS w W p Y 0 false) => next_law Y hYz h)
        have HN2 := Lib.hid (fun (W : World) (p : Nat) (h : LS w W p Y (s.data.toList.length + 2) true) => next_law Y hYz h)
        rw [hs1] at HN1
        rw [hs2] at HN2
        have HN1 : Hid (∀ (W : World) (p : Nat) (h : LS w W p Y 0 false), Calls Tryd.prog 16 #[.pointer (some ⟨p, 0, none⟩)] W fun e w' => e = .returned (.tuple #[.agg #[.int .i64 2, .string s, .int .i64 1], .agg #[.int .i64 0, .string ⟨#[]⟩, .int .i64 0]]) ∧ LS w w' p Y (s.data.toList.length + 2) true ∧ Only p W w') := HN1
        have HN2 : Hid (∀ (W : World) (p : Nat) (h : LS w W p Y (s.data.toList.length + 2) true), Calls Tryd.prog 16 #[.pointer (some ⟨p, 0, none⟩)] W fun e w' => e = .returned (.tuple #[.agg #[.int .i64 3, .string ⟨#[10]⟩, .int .i64 1], .agg #[.int .i64 0, .string ⟨#[]⟩, .int .i64 0]]) ∧ LS w w' p Y (s.data.toList.length + 2) false ∧ Only p W w') := HN2
        clear hYl hYz hy hbom hs1 hs2 hraw hr hq
        generalize s.data.toList.length + 2 = n2 at *
        go_wp2_with (first
          | (go_at_call 14; (with_reducible refine (HM.out _ HB.out).mono ?_); rintro _ w3 ⟨hB, p, -, rfl, hL⟩; have HL3 := Lib.hid (hL.alloc (.cells #[.int .i64 0, .string ⟨#[]⟩, .int .i64 0] 30)); have G3 := Lib.hid (GBlk.new w3 30 #[.int .i64 0, .string ⟨#[]⟩, .int .i64 0]); have hp3 : w3.heap.size ≠ p := (by have := hL.sc.lt; omega); have hl3 : w.heap.size ≤ w3.heap.size := hL.bel.size; clear hB hL)
          | (go_at_call 16; (with_reducible refine (HNx.out _ _ HL3.out).mono ?_); rintro _ w4 ⟨rfl, hL4, hO⟩; have HK4 := Lib.hid (Kept4.mk' (s := s) hL4.bel (G3.out.only hO hp3) hl3); clear hL4 hO)
          | (go_at_call 14; (with_reducible refine (HM2.out _ HK4.out.bel).mono ?_); rintro _ w5 ⟨hB, q, hq, rfl, hL⟩; have HK5 := Lib.hid (Kept.mk' HK4.out hB hL hq); have c0 := HK5.out.g3.cell 0; have c1 := HK5.out.g3.cell 1; have c2 := HK5.out.g3.cell 2; have f0 := HK5.out.g3.frozen 0; have f1 := HK5.out.g3.frozen 1; have f2 := HK5.out.g3.frozen 2; have HK6 := Lib.hid (HK5.out.set3); clear hB hL hq)
          | (go_at_call 16; (with_reducible refine (HN1.out _ _ HK6.out.ls).mono ?_); rintro _ w7 ⟨rfl, hL, hO⟩; have HK7 := Lib.hid (HK6.out.step hL hO); have d0 := fun o => (HK7.out.ge.alloc o).cell 0; have d1 := fun o => (HK7.out.ge.alloc o).cell 1; have d2 := fun o => (HK7.out.ge.alloc o).cell 2; have e0 := fun o => (HK7.out.ge.alloc o).frozen 0; have e1 := fun o => (HK7.out.ge.alloc o).frozen 1; have e2 := fun o => (HK7.out.ge.alloc o).frozen 2; have HK8 := Lib.hid (HK7.out.last (.cells #[.int .i64 2, .string s, .int .i64 1] 37)); have GU := Lib.hid (HK7.out.lastU #[.int .i64 2, .string s, .int .i64 1]); have HU := Lib.hid (show w7.heap.size ≠ q from (by have := HK7.out.ls.sc.lt; omega)); clear hL hO)
          | (go_at_call 16; (with_reducible refine (HN2.out _ _ HK8.out.ls).mono ?_); rintro _ w9 ⟨rfl, hL, hO⟩; have HK9 := Lib.hid (HK8.out.step hL hO); have g1 := HK9.out.ge; have g2 := HK9.out.gt; have g3 := GU.out.only hO HU.out; have k0 : ∀ o o', ((w9.alloc o).alloc o').cell? ⟨w4.heap.size + 1, 0, none⟩ = some (.int .i64 0) := fun o o' => ((g1.alloc o).alloc o').cell 0; have k1 : ∀ o o', ((w9.alloc o).alloc o').cell? ⟨w4.heap.size + 1, 1, none⟩ = some (.string ⟨#[]⟩) := fun o o' => ((g1.alloc o).alloc o').cell 1; have k2 : ∀ o o', ((w9.alloc o).alloc o').cell? ⟨w4.heap.size + 1, 2, none⟩ = some (.int .i64 0) := fun o o' => ((g1.alloc o).alloc o').cell 2; have l0 : ∀ o o', ((w9.alloc o).alloc o').cell? ⟨w4.heap.size, 0, none⟩ = some (.int .i64 2) := fun o o' => ((g2.alloc o).alloc o').cell 0; have l1 : ∀ o o', ((w9.alloc o).alloc o').cell? ⟨w4.heap.size, 1, none⟩ = some (.string s) := fun o o' => ((g2.alloc o).alloc o').cell 1; have l2 : ∀ o o', ((w9.alloc o).alloc o').cell? ⟨w4.heap.size, 2, none⟩ = some (.int .i64 1) := fun o o' => ((g2.alloc o).alloc o').cell 2; have m0 : ∀ o o', ((w9.alloc o).alloc o').cell? ⟨w7.heap.size, 0, none⟩ = some (.int .i64 2) := fun o o' => ((g3.alloc o).alloc o').cell 0; have m1 : ∀ o o', ((w9.alloc o).alloc o').cell? ⟨w7.heap.size, 1, none⟩ = some (.string s) := fun o o' => ((g3.alloc o).alloc o').cell 1; have m2 : ∀ o o', ((w9.alloc o).alloc o').cell? ⟨w7.heap.size, 2, none⟩ = some (.int .i64 1) := fun o o' => ((g3.alloc o).alloc o').cell 2; clear hL hO g1 g2 g3))
        go_ret
        exact ⟨rfl, (HK9.out.bel.alloc HK9.out.bel.size _).alloc (by rw [alloc_size]; have := HK9.out.bel.size; omega) _⟩
end Go.Proofs.YtinaeegijmkbhaaDoor
