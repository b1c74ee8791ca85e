/-
  The program's scanner: numbers behind a backslash.
-/
import Derived.Test.YtinaeegijmkbhaaGreatDoorA2
import Derived.Test.YtinaeegijmkbhaaGreatDoorA6
import Derived.Test.YtinaeegijmkbhaaGreatDoorR6
import Derived.Test.YtinaeegijmkbhaaGreatDoorQ5
set_option linter.unusedVariables false
namespace Go.Proofs.YtinaeegijmkbhaaGreatDoor
open Go.RowKit Go.Shelf

/-- What the library's variables are there for. -/
structure Env (w : World) : Prop where
  size : 4 ≤ w.heap.size
  max : ∃ m, w.cell? ⟨0, 0, none⟩ = some (.int .i64 m)
  err : ∃ ev, w.cell? ⟨3, 0, none⟩ = some ev ∧ (ev = .nilIface ∨ ∃ te pe, ev = .iface te pe)
theorem Env.below {w w' : World} (h : Env w) {k : Nat} (hk : 4 ≤ k) (b : Below k w w') : Env w' := by
  obtain ⟨h1, ⟨m, h2⟩, ev, h3, h4⟩ := h
  refine ⟨Nat.le_trans h1 b.size, ⟨m, (b.cell (p := ⟨0, 0, none⟩) (by show 0 < k; omega)).trans h2⟩, ev, (b.cell (p := ⟨3, 0, none⟩) (by show 3 < k; omega)).trans h3, h4⟩
theorem Env.on {w w' : World} (h : Env w) (b : Below w.heap.size w w') : Env w' := h.below h.size b
theorem bytes_below (w : World) (s : ByteArray) : Below w.heap.size w (Lib.bytesWorld w 5 s) := by
  refine ⟨rfl, rfl, rfl, ?_, ?_⟩
  · rw [Lib.bytesWorld_size]; omega
  · intro k hk
    exact Lib.bytesWorld_at_old w 5 s k hk

/-- What the public ParseUint tells. -/
def PubOut (n : Int) (w : World) (e : Ending) (w' : World) : Prop := Below w.heap.size w w' ∧ ((0 ≤ n ∧ e = .returned (.tuple #[.int .u64 n, .nilIface])) ∨ (n < 0 ∧ ∃ N, e = .returned (.tuple #[.int .u64 0, .iface 117 (.pointer (some ⟨N, 0, none⟩))])))
set_option maxHeartbeats 1600000 in
set_option maxRecDepth 100000 in
theorem public_any (t : ByteArray) (b : Int) (n : Int) (hp : ∀ w, Calls Tryz.prog 83 #[.string t, .int .i64 b, .int .i64 64] w fun e w' => e = .returned (numT n) ∧ w' = Lib.bytesWorld w 5 t) (hs : t.size ≤ 8) (w : World) (hE : Env w) :
    Calls Tryz.prog 80 #[.string t, .int .i64 b, .int .i64 64] w (PubOut n w) := by
  by_cases h0 : 0 ≤ n
  · have hn := numT_yes (n := n) rfl h0
    go_enter Tryz.func80, Tryz.ntmps80
    go_wp2_with (go_at_call 83; refine (hp _).mono ?_; rintro _ _ ⟨rfl, rfl⟩; rw [hn])
    go_ret2
    exact ⟨bytes_below w t, .inl ⟨h0, rfl⟩⟩
  · have hn : numT n = .tuple #[.int .u64 0, .iface 115 (.int .i64 2)] := by unfold numT; rw [if_pos (by omega)]
    have hE1 := hE.on (bytes_below w t)
    obtain ⟨ev, h1, h2⟩ := hE1.err
    have hb := bytes_below w t
    have hC := Tryz.strconv_toError_syntax ⟨#[80, 97, 114, 115, 101, 85, 105, 110, 116]⟩ t b 64 ev (Lib.bytesWorld w 5 t) (by omega) h1 h2
    go_enter Tryz.func80, Tryz.ntmps80
    go_wp2_with (first | (go_at_call 83; refine (hp _).mono ?_; rintro _ _ ⟨rfl, rfl⟩; rw [hn]) | (go_at_call 84; refine hC.mono ?_; rintro _ w2 ⟨N, rfl, hN1, hN2, hB⟩))
    go_ret2
    have hb2 : Below w.heap.size w w2 := hb.trans (hB.mono hb.size)
    exact ⟨hb2, .inr ⟨by omega, N, rfl⟩⟩

theorem numF_ge (b : Int) (hb : 0 < b) : ∀ (l : List UInt8) (n : Int), 0 ≤ n → -1 ≤ numF b n l
  | [], n, h => by rw [numF]; omega
  | c :: r, n, h => by
    rw [numF]
    split
    · omega
    · rename_i hc
      exact numF_ge b hb r _ (by have := Int.mul_nonneg h (Int.le_of_lt hb); omega)
theorem numL_ge (k : Nat) (b : Int) (hb : 0 < b) (l : List UInt8) : -1 ≤ numL k b l := by
  unfold numL
  split
  · omega
  · exact numF_ge b hb _ 0 (by omega)
def ParseAt (b : Int) : Prop := ∀ (t : ByteArray) (w : World), t.size ≠ 0 → t.size ≤ 8 → Calls Tryz.prog 83 #[.string t, .int .i64 b, .int .i64 64] w fun e w' => e = .returned (numT (numF b 0 t.data.toList)) ∧ w' = Lib.bytesWorld w 5 t
theorem parseAt_16 : ParseAt 16 := fun t w h0 h8 => parse_16 t h0 h8 w
theorem parseAt_8 : ParseAt 8 := fun t w h0 h8 => parse_8 t h0 h8 w
theorem ret_num {a b : Int} {p q : Bool} (h : a = b) (k : p = q) : Ending.returned (.tuple #[.int .u64 a, .bool p]) = .returned (.tuple #[.int .u64 b, .bool q]) := by rw [h, k]
set_option maxHeartbeats 1600000 in
set_option maxRecDepth 100000 in
theorem number_any (b : Int) (hp : ParseAt b) (s : ByteArray) (hs : s.size ≤ 20400) (k : Nat) (hk : 1 ≤ k) (hk8 : k ≤ 8) (w : World) (hE : Env w) :
    Calls Tryz.prog 77 #[.string s, .int .i64 (k : Int), .int .i64 b] w fun e w' => e = .returned (.tuple #[.int .u64 (max (numL k b s.data.toList) 0), .bool (decide (0 ≤ numL k b s.data.toList))]) ∧ Below w.heap.size w w' := by
  have HL := Lib.hid (show numL k b s.data.toList = if s.data.toList.length < k then -1 else numF b 0 (s.data.toList.take k) from rfl)
  go_enter Tryz.func77, Tryz.ntmps77
  by_cases h : s.size < k
  · have hn : numL k b s.data.toList = -1 := by rw [HL.out, if_pos (by rw [size_data]; exact h)]
    rw [hn]
    have i1 : (s.size : Int) < (k : Int) := by omega
    go_wp2
    go_ret2
    exact ⟨ret_num rfl rfl, Below.refl _ _⟩
  · have hn : numL k b s.data.toList = numF b 0 (s.extract 0 k).data.toList := by rw [HL.out, if_neg (by rw [size_data]; exact h), extract_mid, List.drop_zero, Nat.sub_zero]
    have hx : (s.extract 0 k).size = k := by rw [ByteArray.size_extract]; omega
    have hP := public_any (s.extract 0 k) b (numF b 0 (s.extract 0 k).data.toList) (fun w => hp _ w (by omega) (by omega)) (by omega) w hE
    rw [← hn] at hP
    generalize numL k b s.data.toList = n at *
    have i1 : ¬ (s.size : Int) < (k : Int) := by omega
    have HH := Lib.hid hP
    clear hP hn hx h
    go_wp2_with (go_at_call 80; refine HH.out.mono ?_; rintro _ w1 ⟨hB, (⟨h0, rfl⟩ | ⟨h0, N, rfl⟩)⟩)
    · have HB := Lib.hid hB
      clear hB
      go_quiet (fail)
      go_wp2
      go_ret2
      exact ⟨ret_num (by omega) (by simp [h0]), below_drewN HB.out _⟩
    · have HB := Lib.hid hB
      clear hB
      go_quiet (fail)
      go_wp2
      go_ret2
      exact ⟨ret_num (by omega) (by simp; omega), below_drewN HB.out _⟩
end Go.Proofs.YtinaeegijmkbhaaGreatDoor
