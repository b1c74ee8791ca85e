/-
  ScanNames: the walk.
-/
import Derived.Test.YtinaeegijmkbhaaDoorS2
import Derived.Test.YtinaeegijmkbhaaDoorL1
set_option linter.unusedVariables false
namespace Go.Proofs.YtinaeegijmkbhaaDoor
open Go.RowKit Go.Shelf

def gapB (m : Nat) : ByteArray := match m with
  | 0 => ⟨#[32]⟩ | 1 => ⟨#[9]⟩ | 2 => ⟨#[32, 13, 32]⟩ | _ => ⟨#[47, 42, 42, 47]⟩
def gapC : Array Value := #[.string ⟨#[32]⟩, .string ⟨#[9]⟩, .string ⟨#[32, 13, 32]⟩, .string ⟨#[47, 42, 42, 47]⟩]
theorem gap_cell {m : Nat} (h : m < 4) : gapC[m]? = some (.string (gapB m)) := by
  match m, h with
  | 0, _ => rfl
  | 1, _ => rfl
  | 2, _ => rfl
  | 3, _ => rfl
theorem gap_size {m : Nat} : (gapB m).size ≤ 4 := by unfold gapB; split <;> decide
theorem gap_is {m : Nat} (h : m < 4) : Gap (gapB m).data.toList (decide (m = 3)) := by
  match m, h with
  | 0, _ => exact .blank (by decide) ⟨32, [], rfl, by decide⟩ (by decide)
  | 1, _ => exact .blank (by decide) ⟨9, [], rfl, by decide⟩ (by decide)
  | 2, _ => exact .blank (by decide) ⟨32, [13, 32], rfl, by decide⟩ (by decide)
  | 3, _ => exact .remark rfl
theorem gap_ascii {m : Nat} : ∀ c ∈ (gapB m).data.toList, 0 < c.toNat ∧ c.toNat < 128 := by unfold gapB; split <;> decide
def listsOf (xs : List ByteArray) : List (List UInt8) := xs.map (·.data.toList)
theorem names_ascii {g : List UInt8} (hg : ∀ c ∈ g, 0 < c.toNat ∧ c.toNat < 128) {xs : List (List UInt8)} (hx : ∀ x ∈ xs, Name x) : ∀ c ∈ namesL g xs, 0 < c.toNat ∧ c.toNat < 128 := by
  intro c hc
  unfold namesL at hc
  obtain ⟨y, hy, hcy⟩ := List.mem_flatten.1 hc
  obtain ⟨x, hxm, rfl⟩ := List.mem_map.1 hy
  rcases List.mem_append.1 hcy with hcy | hcy
  · rcases List.mem_append.1 hcy with hcy | hcy
    · have := (hx x hxm).2 c hcy; omega
    · exact hg c hcy
  · rw [List.mem_singleton.1 hcy]; decide
theorem name_of (T : ByteArray) (h0 : T.size ≠ 0) (H : ∀ j, (h : j < T.data.toList.length) → j < T.size → 97 ≤ (T.data.toList[j]).toNat ∧ (T.data.toList[j]).toNat ≤ 122) : Name T.data.toList := by
  refine ⟨fun x => h0 (by rw [← size_data, x]; rfl), fun c hc => ?_⟩
  obtain ⟨j, hj, rfl⟩ := List.getElem_of_mem hc
  exact H j hj (by rw [size_data] at hj; exact hj)
/-- The text so far. -/
structure Sum (xs : List ByteArray) (m k : Nat) (S : ByteArray) : Prop where
  is : S.data.toList = namesL (gapB m).data.toList ((listsOf xs).take k)
  size : S.size ≤ 25 * k
  names : ∀ x ∈ (listsOf xs).take k, Name x
theorem Sum.next {xs : List ByteArray} {m k : Nat} {S S4 : ByteArray} (h : Sum xs m k S) (hk : k < xs.length) (hn : Name xs[k].data.toList) (hz : xs[k].size ≤ 20) (e : S4.data.toList = S.data.toList ++ (xs[k].data.toList ++ (gapB m).data.toList ++ [44])) : Sum xs m (k + 1) S4 := by
  have hk' : k < (listsOf xs).length := by simpa [listsOf] using hk
  have hx : (listsOf xs)[k] = xs[k].data.toList := by simp [listsOf]
  refine ⟨?_, ?_, ?_⟩
  · rw [names_next _ _ hk', e, h.is, hx]
  · have := congrArg List.length e
    have hg := gap_size (m := m)
    have := h.size
    simp only [List.length_append, size_data, List.length_cons, List.length_nil] at *
    omega
  · intro x hx2
    rw [List.take_succ_eq_append_getElem hk'] at hx2
    rcases List.mem_append.1 hx2 with hx2 | hx2
    · exact h.names x hx2
    · rw [List.mem_singleton.1 hx2, hx]; exact hn
theorem Texts.get {W : World} {A : Option Addr} {xs : List ByteArray} {cap : Nat} (h : Texts W (.slice A xs.length cap) xs) (hne : xs ≠ []) : ∃ g o, A = some ⟨g, o, none⟩ ∧ g < W.heap.size ∧ ∀ i (h : i < xs.length), W.cell? ⟨g, o + i, none⟩ = some (.string xs[i]) := by
  obtain ⟨a, c, e, hc⟩ := h
  simp only [Value.slice.injEq] at e
  obtain ⟨rfl, -, rfl⟩ := e
  exact hc hne
structure NK (w W : World) (S : ByteArray) (p pos : Nat) (semi : Bool) (B : Nat) (a b c : Value) : Prop where
  ls : LS w W p S pos semi
  gB : GBlk W B 37 #[a, b, c]
  ne : B ≠ p
  le : w.heap.size ≤ B
theorem NK.mk' {w w4 : World} {s : ByteArray} {p pos : Nat} {semi : Bool} (T : ByteArray) (h : LS w w4 p s pos semi) :
    NK w ((w4.alloc (.cells #[.int .i64 1, .string T, .int .i64 1] 37)).alloc (.cells #[.int .i64 0, .string ⟨#[]⟩, .int .i64 0] 30)) s p pos semi w4.heap.size (.int .i64 1) (.string T) (.int .i64 1) :=
  ⟨(h.alloc _).alloc _, (GBlk.new w4 37 _).alloc _, by have := h.sc.lt; omega, h.bel.size⟩
theorem NK.drew {w W : World} {S : ByteArray} {p pos : Nat} {semi : Bool} {B : Nat} {a b c : Value} (h : NK w W S p pos semi B a b c) : NK w W.drew S p pos semi B a b c := ⟨h.ls.drew, h.gB.drew, h.ne, h.le⟩
theorem NK.step {w W W' : World} {S : ByteArray} {p pos pos' : Nat} {semi semi' : Bool} {B : Nat} {a b c : Value} (h : NK w W S p pos semi B a b c) (hL : LS w W' p S pos' semi') (o : Only p W W') : NK w W' S p pos' semi' B a b c := ⟨hL, h.gB.only o h.ne, h.ne, h.le⟩
theorem NK.set3 {w W : World} {S : ByteArray} {p pos : Nat} {semi : Bool} {B : Nat} {a b c : Value} (h : NK w W S p pos semi B a b c) (x y z : Value) :
    NK w (((W.setCell ⟨B, 0, none⟩ x).setCell ⟨B, 1, none⟩ y).setCell ⟨B, 2, none⟩ z) S p pos semi B x y z :=
  ⟨h.ls.only (Only.set3 (Only.of_below (Below.refl _ _)) (.inl rfl) x y z) h.le h.ne.symm, h.gB.set3 x y z, h.ne, h.le⟩
set_option maxRecDepth 100000 in
set_option maxHeartbeats 6400000 in
theorem names_walk (v : Value) (xs : List ByteArray) (w : World) (hT : Texts w v xs) (b : Int) (hb : (Lit.int .u8 b).wf = true) (hE : Env w) : Calls Tryd.prog 7 #[v, .int .u8 b] w fun e w' => e = .returned (.bool true) ∧ Below w.heap.size w w' := by
  have HSh := Lib.hid (fun (W : World) (b : Below w.heap.size w W) => shown_any W (hE.on b))
  have hb2 : 0 ≤ b ∧ b ≤ 255 := by have := hb; simp [Lit.wf] at this; exact this
  have hb0 := hb2.1
  have hb1 := hb2.2
  obtain ⟨m, hm, hm4⟩ : ∃ m : Nat, b % 4 = (m : Int) ∧ m < 4 := ⟨(b % 4).toNat, by omega, by omega⟩
  obtain ⟨A, cap, rfl, hcell⟩ := hT
  by_cases hbig : 20 < xs.length
  · have i1 : (20 : Int) < (xs.length : Int) := by omega
    go_enter Tryd.func7, Tryd.ntmps7
    go_wp2_with (go_at_call 13; refine (HSh.out _ (Below.refl _ _)).mono ?_; rintro _ w1 ⟨rfl, hB⟩)
    go_ret
    exact ⟨rfl, hB⟩
  have i1 : ¬ (20 : Int) < (xs.length : Int) := by omega
  have HCell := Lib.hid hcell
  clear hcell
  go_enter Tryd.func7, Tryd.ntmps7
  go_wp2_with (go_at_call 13; refine (HSh.out _ (Below.refl _ _)).mono ?_; rintro _ w1 ⟨rfl, hB⟩; have HB1 := Lib.hid (hB.alloc hB.size (.cells gapC 9)); have GB1 := Lib.hid (GBlk.new w1 9 gapC); have hl1 := hB.size; clear hB)
  obtain ⟨G, hG⟩ : ∃ G, w1.heap.size = G := ⟨_, rfl⟩
  rw [hG] at GB1 hl1 ⊢
  have S0 := Lib.hid (show Sum xs m 0 ⟨#[]⟩ from ⟨rfl, Nat.le_refl _, fun x h => absurd h (List.not_mem_nil)⟩)
  go_loopw [5, 7] (fun a i wr => ∃ k : Nat, ∃ S : ByteArray, a = .string S ∧ i = .int .i64 k ∧ k ≤ xs.length ∧ Hid (Sum xs m k S) ∧ Hid (Below w.heap.size w wr ∧ GBlk wr G 9 gapC)) (fun _ i _ => xs.length + 4 - (intOf i).toNat)
  case atStart => exact ⟨0, ⟨#[]⟩, rfl, rfl, Nat.zero_le _, S0, Lib.hid ⟨HB1.out, GB1.out⟩⟩
  case round =>
    obtain ⟨k, S, rfl, rfl, hk, HS, HB⟩ := hrel
    clear HB1 GB1 S0
    by_cases hlt : k < xs.length
    · have i2 : (k : Int) < (xs.length : Int) := by omega
      obtain ⟨g, o, rfl, hg, hc⟩ := HCell.out (by rintro rfl; simp at hlt)
      obtain ⟨T, hT⟩ : ∃ T, xs[k] = T := ⟨_, rfl⟩
      have q0 : wr.cell? ⟨g, o + k, none⟩ = some (.string T) := by rw [← hT, ← hc k hlt]; exact World.cell?_of_block (HB.out.1.block g hg)
      clear hc
      by_cases hz : T.size = 0
      · have j1 : ((T.size : Int) == 0) = true := by rw [hz]; rfl
        go_wp2_with (go_at_call 13; (with_reducible refine (HSh.out _ HB.out.1).mono ?_); rintro _ w2 ⟨rfl, hB⟩; have HB2 := Lib.hid (HB.out.1.trans (hB.mono HB.out.1.size)); clear hB)
        all_goals
          go_ret
          exact ⟨rfl, HB2.out⟩
      have j1 : ((T.size : Int) == 0) = false := beq_eq_false_iff_ne.2 (by omega)
      by_cases hz2 : 20 < T.size
      · have j2 : (20 : Int) < (T.size : Int) := by omega
        go_wp2_with (go_at_call 13; (with_reducible refine (HSh.out _ HB.out.1).mono ?_); rintro _ w2 ⟨rfl, hB⟩; have HB2 := Lib.hid (HB.out.1.trans (hB.mono HB.out.1.size)); clear hB)
        all_goals
          go_ret
          exact ⟨rfl, HB2.out⟩
      have j2 : ¬ (20 : Int) < (T.size : Int) := by omega
      go_wp2
      go_loopw [8] (fun i w2 => ∃ j : Nat, i = .int .i64 j ∧ j ≤ T.size ∧ w2 = wr ∧ Hid (∀ i, (h : i < T.data.toList.length) → i < j → 97 ≤ (T.data.toList[i]).toNat ∧ (T.data.toList[i]).toNat ≤ 122)) (fun i _ => T.size + 4 - (intOf i).toNat)
      case atStart => exact ⟨0, rfl, Nat.zero_le _, rfl, Lib.hid (fun j _ h => absurd h (Nat.not_lt_zero _))⟩
      case round =>
        obtain ⟨j, rfl, hj, rfl, HP⟩ := hrel
        by_cases hlt2 : j < T.size
        · have i3 : (j : Int) < (T.size : Int) := by omega
          have hsh : j < T.data.size := hlt2
          go_wp2_with (go_at_call 13; (with_reducible refine (HSh.out _ HB.out.1).mono ?_); rintro _ w2 ⟨rfl, hB⟩; have HB2 := Lib.hid (HB.out.1.trans (hB.mono HB.out.1.size)); clear hB)
          case roundEnd =>
            go_roundw
            case rel =>
              refine ⟨j + 1, by go_num, hlt2, by first | rfl | trivial, Lib.hid (fun i h hi => ?_)⟩
              rcases Nat.lt_succ_iff_lt_or_eq.1 hi with hi | rfl
              · exact HP.out i h hi
              · have e : T[i].toNat = (T.data.toList[i]).toNat := by rw [Array.getElem_toList]; rfl
                rename_i hbyte
                obtain ⟨ha, hb⟩ := hbyte
                rw [e] at ha hb
                exact ⟨by omega, by omega⟩
            case measure => simp [intOf]; omega
          all_goals
            go_ret
            exact ⟨rfl, HB2.out⟩
        · have i3 : ¬ (j : Int) < (T.size : Int) := by omega
          obtain rfl : j = T.size := by omega
          have HN := Lib.hid (name_of T hz HP.out)
          obtain ⟨gm, hgm⟩ : ∃ gm, gapB m = gm := ⟨_, rfl⟩
          have p0 : wr.cell? ⟨G, m, none⟩ = some (.string gm) := by rw [← hgm, HB.out.2.cell m]; exact gap_cell hm4
          have hSz := HS.out.size
          have hgs : gm.size ≤ 4 := by rw [← hgm]; exact gap_size
          obtain ⟨S2, hS2⟩ : ∃ X, S ++ T = X := ⟨_, rfl⟩
          obtain ⟨S3, hS3⟩ : ∃ X, S2 ++ gm = X := ⟨_, rfl⟩
          obtain ⟨S4, hS4⟩ : ∃ X, S3 ++ (⟨#[44]⟩ : ByteArray) = X := ⟨_, rfl⟩
          have hS4l : S4.data.toList = S.data.toList ++ (T.data.toList ++ gm.data.toList ++ [44]) := by rw [← hS4, ← hS3, ← hS2]; simp
          have z2 : S2.size = S.size + T.size := by rw [← hS2, ByteArray.size_append]
          have z3 : S3.size = S2.size + gm.size := by rw [← hS3, ByteArray.size_append]
          have c1 : ¬ 9223372036854775807 < S.size + T.size := by omega
          have c2 : ¬ 9223372036854775807 < S2.size + gm.size := by omega
          have c3 : ¬ 9223372036854775807 < S3.size + 1 := by omega
          have HS4 := Lib.hid hS4l
          have m0 : (0 : Int) ≤ (m : Int) := by omega
          have m4 : (m : Int) < 4 := by omega
          clear z2 z3 hgs hSz hS4l HP
          go_wp2
          go_region
          go_wp2
          go_roundw
          case rel => exact ⟨k + 1, S4, rfl, by go_num, hlt, Lib.hid (HS.out.next hlt (by rw [hT]; exact HN.out) (by rw [hT]; omega) (by rw [hT, hgm]; exact HS4.out)), Lib.hid ⟨HB.out.1.drew, HB.out.2.drew⟩⟩
          case measure => simp [intOf]; omega
    · have i2 : ¬ (k : Int) < (xs.length : Int) := by omega
      obtain rfl : k = xs.length := by omega
      have hSl := HS.out.is
      have hSn := HS.out.names
      have hSz := HS.out.size
      have hll : (listsOf xs).length = xs.length := by simp [listsOf]
      have hall : (listsOf xs).take xs.length = listsOf xs := List.take_of_length_le (by omega)
      rw [hall] at hSl hSn
      have hXz : S.size ≤ 20400 := by omega
      have hgap := gap_is hm4
      have hy : badL 0 S.data.toList = none := by rw [hSl]; exact bad_ascii _ _ (names_ascii gap_ascii hSn)
      have hbom : bomN S = 0 := by
        unfold bomN
        rw [if_neg]
        intro e
        have h1 : (239 : UInt8) ∈ S.data.toList := List.mem_of_mem_take (i := 3) (by rw [e]; simp)
        rw [hSl] at h1
        have := (names_ascii gap_ascii hSn 239 h1).2
        exact absurd this (by decide)
      have HM := Lib.hid (fun W hW => new_yes S hXz hy hE W hW)
      rw [hbom] at HM
      have HNx := Lib.hid (fun (W : World) (p pos : Nat) (semi : Bool) (h : LS w W p S pos semi) => next_law S hXz h)
      obtain ⟨Pk, hPk⟩ : ∃ f : Nat → Nat, ∀ k, f k = (namesL (gapB m).data.toList ((listsOf xs).take k)).length := ⟨_, fun _ => rfl⟩
      have H1 := Lib.hid (fun (k : Nat) (hk : k < xs.length) => show stepP S.data.toList (Pk k) false = ⟨some (1, xs[k].data.toList), 1, Pk k + xs[k].size, true⟩ from by
        have g := names_name hgap hSn (i := k) (by omega)
        have hx : (listsOf xs)[k]'(by omega) = xs[k].data.toList := by simp [listsOf]
        rw [← hSl, ← hPk, hx, size_data] at g
        rw [step_tok (by rw [step_same.1, g]; simp), g])
      have H2 := Lib.hid (fun (h3 : m ≠ 3) (k : Nat) (hk : k < xs.length) => show stepP S.data.toList (Pk k + xs[k].size) true = ⟨some (3, [44]), 1, Pk (k + 1), false⟩ from by
        have hgap' := hgap
        rw [decide_eq_false h3] at hgap'
        have g := names_comma hgap' hSn (i := k) (by omega)
        have hx : (listsOf xs)[k]'(by omega) = xs[k].data.toList := by simp [listsOf]
        rw [← hSl, ← hPk, ← hPk, hx, size_data] at g
        rw [step_tok (by rw [step_same.1, g]; simp), g])
      have H3 := Lib.hid (fun (h3 : m = 3) (k : Nat) (hk : k < xs.length) => show stepP S.data.toList (Pk k + xs[k].size) true = ⟨some (4, [47, 42, 42, 47]), 1, Pk k + xs[k].size + 4, true⟩ ∧ stepP S.data.toList (Pk k + xs[k].size + 4) true = ⟨some (3, [44]), 1, Pk (k + 1), false⟩ from by
        have hgap' := hgap
        rw [decide_eq_true h3] at hgap'
        obtain ⟨g1, g2⟩ := names_remark hgap' hSn (i := k) (by omega)
        have hx : (listsOf xs)[k]'(by omega) = xs[k].data.toList := by simp [listsOf]
        rw [← hSl, ← hPk, hx, size_data] at g1
        rw [← hSl, ← hPk, ← hPk, hx, size_data] at g2
        exact ⟨by rw [step_tok (by rw [step_same.1, g1]; simp), g1], by rw [step_tok (by rw [step_same.1, g2]; simp), g2]⟩)
      have H4 := Lib.hid (show stepP S.data.toList (Pk xs.length) false = ⟨some (0, []), 1, Pk xs.length, false⟩ from by
        have g := names_end hgap hSn
        rw [← hSl] at g
        have e : S.data.toList.length = Pk xs.length := by rw [hPk, hall, hSl]
        rw [e] at g
        rw [step_tok (by rw [step_same.1, g]; simp), g])
      have hP0 : Pk 0 = 0 := by rw [hPk]; rfl
      clear hSl hSn hSz hll hall hgap hy hbom hPk HS
      go_wp2_with (go_at_call 14; (with_reducible refine (HM.out _ HB.out.1).mono ?_); rintro _ w3 ⟨hB, p, -, rfl, hL⟩; have HL3 := Lib.hid (hL.alloc (.cells #[.int .i64 0, .string ⟨#[]⟩, .int .i64 0] 30)); clear hB hL)
      go_loopw [12] (fun i wx => ∃ k : Nat, i = .int .i64 k ∧ k ≤ xs.length ∧ Hid (LS w wx p S (Pk k) false)) (fun i _ => xs.length + 4 - (intOf i).toNat)
      case atStart => exact ⟨0, rfl, Nat.zero_le _, Lib.hid (by rw [hP0]; exact HL3.out)⟩
      case round =>
        obtain ⟨k, rfl, hk2, HL⟩ := hrel
        clear HL3 HM HB hk
        by_cases hlt3 : k < xs.length
        · have i3 : (k : Int) < (xs.length : Int) := by omega
          obtain ⟨g, o, rfl, hg, hc⟩ := HCell.out (by rintro rfl; simp at hlt3)
          have HX := Lib.hid (HNx.out _ _ _ _ HL.out)
          rw [H1.out k hlt3] at HX
          have H2k := Lib.hid (fun h3 => H2.out h3 k hlt3)
          have H3k := Lib.hid (fun h3 => H3.out h3 k hlt3)
          have hck := hc k hlt3
          clear H1 H2 H3 H4 hc
          obtain ⟨T, hT⟩ : ∃ T, xs[k] = T := ⟨_, rfl⟩
          rw [hT] at HX H2k H3k hck
          have HX : Hid (Calls Tryd.prog 16 #[.pointer (some ⟨p, 0, none⟩)] _ fun e w' => e = .returned (.tuple #[.agg #[.int .i64 1, .string T, .int .i64 1], .agg #[.int .i64 0, .string ⟨#[]⟩, .int .i64 0]]) ∧ LS w w' p S (Pk k + T.size) true ∧ Only p _ w') := HX
          by_cases hm3 : m = 3
          · have i4 : ((m : Int) == 3) = true := by rw [hm3]; rfl
            have HC1 : Hid (∀ (W : World) (p : Nat) (h : LS w W p S (Pk k + T.size) true), Calls Tryd.prog 16 #[.pointer (some ⟨p, 0, none⟩)] W fun e w' => e = .returned (.tuple #[.agg #[.int .i64 4, .string ⟨#[47, 42, 42, 47]⟩, .int .i64 1], .agg #[.int .i64 0, .string ⟨#[]⟩, .int .i64 0]]) ∧ LS w w' p S (Pk k + T.size + 4) true ∧ Only p W w') := Lib.hid (fun W p h => by
              have g := HNx.out W p _ _ h
              rw [(H3k.out hm3).1] at g
              exact g)
            have HC2 : Hid (∀ (W : World) (p : Nat) (h : LS w W p S (Pk k + T.size + 4) true), Calls Tryd.prog 16 #[.pointer (some ⟨p, 0, none⟩)] W fun e w' => e = .returned (.tuple #[.agg #[.int .i64 3, .string ⟨#[44]⟩, .int .i64 1], .agg #[.int .i64 0, .string ⟨#[]⟩, .int .i64 0]]) ∧ LS w w' p S (Pk (k + 1)) false ∧ Only p W w') := Lib.hid (fun W p h => by
              have g := HNx.out W p _ _ h
              rw [(H3k.out hm3).2] at g
              exact g)
            clear H2k H3k HNx
            generalize Pk k + T.size + 4 = P2 at *
            generalize Pk k + T.size = P1 at *
            go_wp2_with (go_at_call 16; (with_reducible refine HX.out.mono ?_); rintro _ w4 ⟨rfl, hL, hO⟩; have HK4 := Lib.hid (NK.mk' (s := S) T hL); have q0 : ∀ o1 o2, ((w4.alloc o1).alloc o2).cell? ⟨g, o + k, none⟩ = some (.string T) := fun o1 o2 => (World.cell?_of_block (((hL.alloc o1).alloc o2).bel.block g hg)).trans hck; clear hL hO)
            go_region
            go_wp2_with (first
              | (go_at_call 16; (with_reducible refine (HC1.out _ _ HK4.out.drew.ls).mono ?_); rintro _ w5 ⟨rfl, hL, hO⟩; have HK5 := Lib.hid (HK4.out.drew.step hL hO); have gB := HK5.out.gB; have r0 : w5.cell? ⟨w4.heap.size, 0, none⟩ = some (.int .i64 1) := gB.cell 0; have rf0 : w5.frozen? ⟨w4.heap.size, 0, none⟩ = false := gB.frozen 0; have r1 : w5.cell? ⟨w4.heap.size, 1, none⟩ = some (.string T) := gB.cell 1; have rf1 : w5.frozen? ⟨w4.heap.size, 1, none⟩ = false := gB.frozen 1; have r2 : w5.cell? ⟨w4.heap.size, 2, none⟩ = some (.int .i64 1) := gB.cell 2; have rf2 : w5.frozen? ⟨w4.heap.size, 2, none⟩ = false := gB.frozen 2; have HK6 := Lib.hid (HK5.out.set3 (.int .i64 4) (.string ⟨#[47, 42, 42, 47]⟩) (.int .i64 1)); clear hL hO gB)
              | (go_at_call 16; (with_reducible refine (HC2.out _ _ HK6.out.ls).mono ?_); rintro _ w7 ⟨rfl, hL, hO⟩; have HK7 := Lib.hid (HK6.out.step hL hO); have gB := HK7.out.gB; have s0 : w7.cell? ⟨w4.heap.size, 0, none⟩ = some (.int .i64 4) := gB.cell 0; have sf0 : w7.frozen? ⟨w4.heap.size, 0, none⟩ = false := gB.frozen 0; have s1 : w7.cell? ⟨w4.heap.size, 1, none⟩ = some (.string ⟨#[47, 42, 42, 47]⟩) := gB.cell 1; have sf1 : w7.frozen? ⟨w4.heap.size, 1, none⟩ = false := gB.frozen 1; have s2 : w7.cell? ⟨w4.heap.size, 2, none⟩ = some (.int .i64 1) := gB.cell 2; have sf2 : w7.frozen? ⟨w4.heap.size, 2, none⟩ = false := gB.frozen 2; have HK8 := Lib.hid (HK7.out.set3 (.int .i64 3) (.string ⟨#[44]⟩) (.int .i64 1)); clear hL hO gB))
            go_roundw
            case rel => exact ⟨k + 1, by go_num, hlt3, Lib.hid HK8.out.ls⟩
            case measure => simp [intOf]; omega
          · have i4 : ((m : Int) == 3) = false := beq_eq_false_iff_ne.2 (by omega)
            have HC1 : Hid (∀ (W : World) (p : Nat) (h : LS w W p S (Pk k + T.size) true), Calls Tryd.prog 16 #[.pointer (some ⟨p, 0, none⟩)] W fun e w' => e = .returned (.tuple #[.agg #[.int .i64 3, .string ⟨#[44]⟩, .int .i64 1], .agg #[.int .i64 0, .string ⟨#[]⟩, .int .i64 0]]) ∧ LS w w' p S (Pk (k + 1)) false ∧ Only p W w') := Lib.hid (fun W p h => by
              have g := HNx.out W p _ _ h
              rw [H2k.out hm3] at g
              exact g)
            clear H2k H3k HNx
            generalize Pk k + T.size = P1 at *
            go_wp2_with (go_at_call 16; (with_reducible refine HX.out.mono ?_); rintro _ w4 ⟨rfl, hL, hO⟩; have HK4 := Lib.hid (NK.mk' (s := S) T hL); have q0 : ∀ o1 o2, ((w4.alloc o1).alloc o2).cell? ⟨g, o + k, none⟩ = some (.string T) := fun o1 o2 => (World.cell?_of_block (((hL.alloc o1).alloc o2).bel.block g hg)).trans hck; clear hL hO)
            go_region
            go_wp2_with (go_at_call 16; (with_reducible refine (HC1.out _ _ HK4.out.drew.ls).mono ?_); rintro _ w5 ⟨rfl, hL, hO⟩; have HK5 := Lib.hid (HK4.out.drew.step hL hO); have gB := HK5.out.gB; have r0 : w5.cell? ⟨w4.heap.size, 0, none⟩ = some (.int .i64 1) := gB.cell 0; have rf0 : w5.frozen? ⟨w4.heap.size, 0, none⟩ = false := gB.frozen 0; have r1 : w5.cell? ⟨w4.heap.size, 1, none⟩ = some (.string T) := gB.cell 1; have rf1 : w5.frozen? ⟨w4.heap.size, 1, none⟩ = false := gB.frozen 1; have r2 : w5.cell? ⟨w4.heap.size, 2, none⟩ = some (.int .i64 1) := gB.cell 2; have rf2 : w5.frozen? ⟨w4.heap.size, 2, none⟩ = false := gB.frozen 2; have HK6 := Lib.hid (HK5.out.set3 (.int .i64 3) (.string ⟨#[44]⟩) (.int .i64 1)); clear hL hO gB)
            go_roundw
            case rel => exact ⟨k + 1, by go_num, hlt3, Lib.hid HK6.out.ls⟩
            case measure => simp [intOf]; omega
        · have i3 : ¬ (k : Int) < (xs.length : Int) := by omega
          obtain rfl : k = xs.length := by omega
          have HX := Lib.hid (HNx.out _ _ _ _ HL.out)
          rw [H4.out] at HX
          have HX : Hid (Calls Tryd.prog 16 #[.pointer (some ⟨p, 0, none⟩)] _ fun e w' => e = .returned (.tuple #[.agg #[.int .i64 0, .string ⟨#[]⟩, .int .i64 1], .agg #[.int .i64 0, .string ⟨#[]⟩, .int .i64 0]]) ∧ LS w w' p S (Pk xs.length) false ∧ Only p _ w') := HX
          clear H1 H2 H3 H4
          go_wp2_with (go_at_call 16; (with_reducible refine HX.out.mono ?_); rintro _ w4 ⟨rfl, hL4, -⟩; have HL4 := Lib.hid (((hL4.alloc (.cells #[.int .i64 0, .string ⟨#[]⟩, .int .i64 1] 37)).alloc (.cells #[.int .i64 0, .string ⟨#[]⟩, .int .i64 0] 30))); clear hL4)
          go_ret
          exact ⟨rfl, HL4.out.bel⟩
theorem names_law {W : World} (xs : List ByteArray) (v : Value) (hT : Texts W v xs) (b : Int) (hb : (Lit.int .u8 b).wf = true) (_ : World) (hE : Env W) : Calls Tryd.prog 7 #[v, .int .u8 b] W fun e w' => e = .returned (.bool true) ∧ Below W.heap.size W w' := names_walk v xs W hT b hb hE
end Go.Proofs.YtinaeegijmkbhaaDoor
