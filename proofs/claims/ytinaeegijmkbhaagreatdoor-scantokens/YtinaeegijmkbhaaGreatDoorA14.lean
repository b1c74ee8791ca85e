/-
  The program's scanner: Next: what it keeps; what it tells.
-/
import Derived.Test.YtinaeegijmkbhaaGreatDoorA13
import Derived.Deep.AppendLies
import Derived.Deep.DeepCutAuto
set_option linter.unusedVariables false
namespace Go.Proofs.YtinaeegijmkbhaaGreatDoor
open Go.RowKit Go.Shelf

theorem Only.trans {p : Nat} {a b c : World} (h : Only p a b) (k : Only p b c) : Only p a c :=
  ⟨Nat.le_trans h.size k.size, fun i hi hne => (k.block i (Nat.lt_of_lt_of_le hi h.size) hne).trans (h.block i hi hne), k.os.trans h.os, k.tape.trans h.tape, k.output.trans h.output⟩
theorem GBlk.only {w w' : World} {B p : Nat} {t : TypeId} {cs : Array Value} (h : GBlk w B t cs) (o : Only p w w') (hne : B ≠ p) : GBlk w' B t cs := (o.block B h.lt hne).trans h
theorem Env.only {w w' : World} {p : Nat} (h : Env w) (hp : 4 ≤ p) (o : Only p w w') : Env w' := by
  obtain ⟨h1, ⟨m, h2⟩, ev, h3, h4⟩ := h
  have e0 : w'.cell? ⟨0, 0, none⟩ = w.cell? ⟨0, 0, none⟩ := World.cell?_of_block (o.block 0 (by omega) (by omega))
  have e3 : w'.cell? ⟨3, 0, none⟩ = w.cell? ⟨3, 0, none⟩ := World.cell?_of_block (o.block 3 (by omega) (by omega))
  exact ⟨Nat.le_trans h1 o.size, ⟨m, e0.trans h2⟩, ev, e3.trans h3, h4⟩
theorem Only.set3 {p : Nat} {w W : World} {B : Nat} (h : Only p w W) (hB : B = p ∨ w.heap.size ≤ B) (x y z : Value) : Only p w (((W.setCell ⟨B, 0, none⟩ x).setCell ⟨B, 1, none⟩ y).setCell ⟨B, 2, none⟩ z) := ((h.set hB x).set hB y).set hB z
/-- What a step keeps: the scanner, the two results, all else. -/
structure St (w : World) (p : Nat) (rest : ByteArray) (line : Nat) (semi : Bool) (W : World) : Prop where
  sc : ScanP W p rest line semi
  rr : GBlk W w.heap.size 33 #[.int .i64 0, .string ⟨#[]⟩, .int .i64 0]
  ff : GBlk W (w.heap.size + 1) 26 #[.int .i64 0, .string ⟨#[]⟩, .int .i64 0]
  on : Only p w W
  env : Env W
theorem St.below {w W W' : World} {p : Nat} {rest : ByteArray} {line : Nat} {semi : Bool} (h : St w p rest line semi W) (b : Below W.heap.size W W') : St w p rest line semi W' :=
  ⟨h.sc.below b, h.rr.below b, h.ff.below b, h.on.trans (Only.of_below b), h.env.on b⟩
theorem St.drew {w W : World} {p : Nat} {rest : ByteArray} {line : Nat} {semi : Bool} (h : St w p rest line semi W) : St w p rest line semi W.drew := h.below (Below.refl _ _).drew
theorem St.pass {w W W' : World} {p : Nat} {rest rest' : ByteArray} {line line' : Nat} {semi semi' : Bool} (h : St w p rest line semi W) (hp : p < w.heap.size) (hp4 : 4 ≤ p) (hs : ScanP W' p rest' line' semi') (o : Only p W W') : St w p rest' line' semi' W' :=
  ⟨hs, h.rr.only o (by omega), h.ff.only o (by omega), h.on.trans o, h.env.only hp4 o⟩
theorem St.alloc {w W : World} {p : Nat} {rest : ByteArray} {line : Nat} {semi : Bool} (h : St w p rest line semi W) (o : Obj) : St w p rest line semi (W.alloc o) := h.below ((Below.refl _ _).alloc (Nat.le_refl _) o)
/-- The two results' blocks. -/
def twoW (w : World) : World := (w.alloc (.cells #[.int .i64 0, .string ⟨#[]⟩, .int .i64 0] 33)).alloc (.cells #[.int .i64 0, .string ⟨#[]⟩, .int .i64 0] 26)
theorem two_size (w : World) : (w.alloc (.cells #[.int .i64 0, .string ⟨#[]⟩, .int .i64 0] 33)).heap.size = w.heap.size + 1 := by simp
theorem St.start {w : World} {p : Nat} {rest : ByteArray} {line : Nat} {semi : Bool} (h : ScanP w p rest line semi) (hE : Env w) : St w p rest line semi (twoW w) := by
  have b : Below w.heap.size w (twoW w) := ((Below.refl _ _).alloc (Nat.le_refl _) _).alloc (by simp) _
  refine ⟨h.below b, (GBlk.new w 33 _).alloc _, ?_, Only.of_below b, hE.on b⟩
  have := GBlk.new (w.alloc (.cells #[.int .i64 0, .string ⟨#[]⟩, .int .i64 0] 33)) 26 #[.int .i64 0, .string ⟨#[]⟩, .int .i64 0]
  rw [two_size] at this
  exact this
theorem line_add (l : List UInt8) (a b : Nat) : lineL ((l.drop a).take b) + lineL (l.take a) - 1 = lineL (l.take (a + b)) := by
  rw [line_count, line_count, line_count, List.take_add, List.count_append]
  omega
theorem extract_more (s : ByteArray) (k j : Nat) (h : k ≤ s.size) : (s.extract k s.size).extract j (s.extract k s.size).size = s.extract (k + j) s.size := extract_extract_tail s k j h

/-- A step of the program's scanner. -/
def stepP (l : List UInt8) (pos : Nat) (semi : Bool) : Step :=
  match pieceL semi (l.drop (pos + blanks semi (l.drop pos))) with
  | none => ⟨none, lineL (l.take (pos + blanks semi (l.drop pos))), pos + blanks semi (l.drop pos), semi⟩
  | some (k, t, n) => ⟨some (k, t), lineL (l.take (pos + blanks semi (l.drop pos))), pos + blanks semi (l.drop pos) + n, if k = 4 then semi else ends k t⟩
theorem stepP_none {l : List UInt8} {pos b : Nat} {semi : Bool} (hb : blanks semi (l.drop pos) = b) (h : pieceL semi (l.drop (pos + b)) = none) : stepP l pos semi = ⟨none, lineL (l.take (pos + b)), pos + b, semi⟩ := by
  subst hb; unfold stepP; rw [h]
theorem stepP_some {l t : List UInt8} {pos b k n : Nat} {semi : Bool} (hb : blanks semi (l.drop pos) = b) (h : pieceL semi (l.drop (pos + b)) = some (k, t, n)) : stepP l pos semi = ⟨some (k, t), lineL (l.take (pos + b)), pos + b + n, if k = 4 then semi else ends k t⟩ := by
  subst hb; unfold stepP; rw [h]
/-- What Next tells, and where the scanner is then. -/
def NextAt (s : ByteArray) (p pos : Nat) (semi : Bool) (w : World) (e : Ending) (w' : World) : Prop :=
  e = .returned (StepOut (stepP s.data.toList pos semi)) ∧ ScanP w' p (s.extract (stepP s.data.toList pos semi).pos s.size) (lineL (s.data.toList.take (stepP s.data.toList pos semi).pos)) (stepP s.data.toList pos semi).semi ∧ Only p w w'
theorem NextAt.no {s : ByteArray} {p pos b L : Nat} {semi : Bool} {w W : World} (hb : blanks semi (s.data.toList.drop pos) = b) (h : pieceL semi (s.data.toList.drop (pos + b)) = none) (hL : lineL (s.data.toList.take (pos + b)) = L) (sc : ScanP W p (s.extract (pos + b) s.size) L semi) (on : Only p w W) :
    NextAt s p pos semi w (.returned (.tuple #[.agg #[.int .i64 0, .string ⟨#[]⟩, .int .i64 0], .agg #[.int .i64 100, .string ⟨#[]⟩, .int .i64 (L : Int)]])) W := by
  unfold NextAt
  rw [stepP_none hb h, hL]
  exact ⟨rfl, sc, on⟩
theorem NextAt.yes {s : ByteArray} {p pos b L k n : Nat} {t : List UInt8} {semi semi' : Bool} {kz : Int} {w W : World} (hb : blanks semi (s.data.toList.drop pos) = b) (h : pieceL semi (s.data.toList.drop (pos + b)) = some (k, t, n)) (hL : lineL (s.data.toList.take (pos + b)) = L) (hk : (k : Int) = kz) (hs : (if k = 4 then semi else ends k t) = semi') (sc : ScanP W p (s.extract (pos + b + n) s.size) (lineL (s.data.toList.take (pos + b + n))) semi') (on : Only p w W) :
    NextAt s p pos semi w (.returned (.tuple #[.agg #[.int .i64 kz, .string (mkB t), .int .i64 (L : Int)], .agg #[.int .i64 0, .string ⟨#[]⟩, .int .i64 0]])) W := by
  unfold NextAt
  rw [stepP_some hb h, hL, hs]
  refine ⟨?_, sc, on⟩
  subst hk
  rfl
theorem St.semi {w W : World} {p : Nat} {rest : ByteArray} {line : Nat} {semi : Bool} (h : St w p rest line semi W) (hp : p < w.heap.size) (hp4 : 4 ≤ p) (s' : Bool) : St w p rest line s' (W.setCell ⟨p, 2, none⟩ (.bool s')) := by
  have o : Only p W (W.setCell ⟨p, 2, none⟩ (.bool s')) := (Only.of_below (Below.refl _ _)).set (.inl rfl) _
  exact h.pass hp hp4 (h.sc.set 2 (.bool s')) o
theorem piece_fits {semi : Bool} {l t : List UInt8} {kd n : Nat} (h : pieceL semi l = some (kd, t, n)) : n ≤ l.length := by
  unfold pieceL at h
  split at h
  · simp only [Option.some.injEq, Prod.mk.injEq] at h
    obtain ⟨-, -, rfl⟩ := h
    split
    · rename_i e
      cases l with
      | nil => cases e
      | cons c r => simp
    · omega
  · exact (tok_fits h).1
set_option maxRecDepth 100000 in
set_option maxHeartbeats 6400000 in
theorem next_walk (s : ByteArray) (hs : s.size ≤ 20400) (p pos : Nat) (hpos : pos ≤ s.size) (semi : Bool) (w : World) (hE : Env w) (hp4 : 4 ≤ p) (hp : ScanP w p (s.extract pos s.size) (lineL (s.data.toList.take pos)) semi) :
    Calls Tryz.prog 7 #[.pointer (some ⟨p, 0, none⟩)] w (NextAt s p pos semi w) := by
  have hlt : p < w.heap.size := hp.lt
  have HS := Lib.hid (St.start hp hE)
  have hz := size_tail s pos
  have HB := Lib.hid (blank_any (s.extract pos s.size) (by omega) semi)
  have hbl := blanks_le semi s.data.toList pos (by rw [size_data]; exact hpos)
  rw [size_data] at hbl
  rw [extract_tail] at HB
  generalize hb : blanks semi (s.data.toList.drop pos) = b at *
  have hl1 := line_small (s.data.toList.take pos) (by rw [List.length_take, size_data]; omega)
  have hl2 := line_pos (s.data.toList.take pos)
  have HPass : Hid (∀ W, St w p (s.extract pos s.size) (lineL (s.data.toList.take pos)) semi W → Calls Tryz.prog 14 #[.pointer (some ⟨p, 0, none⟩), .int .i64 (b : Int)] W fun e w' => e = .returned (.tuple #[]) ∧ St w p (s.extract (pos + b) s.size) (lineL (s.data.toList.take (pos + b))) semi w') := Lib.hid (fun W hW => by
    refine (pass_any p (s.extract pos s.size) (by omega) _ (by omega) hl2 semi b (by omega) W hW.sc).mono ?_
    rintro e w' ⟨rfl, h1, h2⟩
    rw [extract_more s pos b hpos, extract_tail, line_add] at h1
    exact ⟨rfl, hW.pass hlt hp4 h1 h2⟩)
  have p0 : (twoW w).cell? ⟨p, 0, none⟩ = some (.string (s.extract pos s.size)) := HS.out.sc.cell 0
  have p2 : (twoW w).cell? ⟨p, 2, none⟩ = some (.bool semi) := HS.out.sc.cell 2
  have HE := Lib.hid hE
  have HBb := Lib.hid hb
  clear hp hE hb
  go_enter Tryz.func7, Tryz.ntmps7
  go_wp2
  rw [show (w.alloc (.cells #[.int .i64 0, .string ⟨#[]⟩, .int .i64 0] 33)).alloc (.cells #[.int .i64 0, .string ⟨#[]⟩, .int .i64 0] 26) = twoW w from rfl]
  generalize twoW w = W0 at *
  go_cut [16] (fun s16 wx => s16 = .int .i64 (b : Int) ∧ Hid (St w p (s.extract (pos + b) s.size) (lineL (s.data.toList.take (pos + b))) semi wx))
  case first =>
    go_region_law (first
      | (go_simp; go_at_call 15; refine (HB.out _).mono ?_; rintro _ w1 ⟨rfl, hB⟩; have HS1 : Hid (St w p (s.extract pos s.size) (lineL (s.data.toList.take pos)) semi w1) := Lib.hid (by first | exact HS.out.below hB | exact HS.out.drew.below hB); clear hB)
      | (go_simp; go_at_call 14; refine (HPass.out _ (by first | exact HS1.out | exact HS1.out.drew)).mono ?_; rintro _ w2 ⟨rfl, hS2⟩; have HS2 := Lib.hid hS2; clear hS2))
    all_goals
      go_wp2
      go_meet
      exact ⟨rfl, HS2⟩
  case rest =>
    obtain ⟨rfl, HS2⟩ := hcut
    clear HPass HB HS p0 p2
    have hz2 := size_tail s (pos + b)
    have HPi : Hid (∀ W, St w p (s.extract (pos + b) s.size) (lineL (s.data.toList.take (pos + b))) semi W → Calls Tryz.prog 16 #[.pointer (some ⟨p, 0, none⟩)] W (PieceOut (pieceL semi (s.data.toList.drop (pos + b))) W)) := Lib.hid (fun W hW => by
      have := piece_any p (s.extract (pos + b) s.size) (by omega) _ semi W hW.env hW.sc
      rwa [extract_tail] at this)
    cases hpc : pieceL semi (s.data.toList.drop (pos + b)) with
    | none =>
      rw [hpc] at HPi
      have HPC := Lib.hid hpc
      clear hpc
      go_upto_region 4 with (go_at_call 16; refine (HPi.out _ HS2.out).mono ?_; rintro e w3 ⟨hB, a, x, c, rfl⟩; have HS3 := Lib.hid ((HS2.out.below hB).alloc (.cells #[.int .i64 a, .string x, .int .i64 c] 50)); clear hB)
      generalize w3.alloc (.cells #[.int .i64 a, .string x, .int .i64 c] 50) = W4 at *
      have p1 : W4.cell? ⟨p, 1, none⟩ = some (.int .i64 (lineL (s.data.toList.take (pos + b)) : Nat)) := HS3.out.sc.cell 1
      have r0 : W4.cell? ⟨w.heap.size, 0, none⟩ = some (.int .i64 0) := HS3.out.rr.cell 0
      have r1 : W4.cell? ⟨w.heap.size, 1, none⟩ = some (.string ⟨#[]⟩) := HS3.out.rr.cell 1
      have r2 : W4.cell? ⟨w.heap.size, 2, none⟩ = some (.int .i64 0) := HS3.out.rr.cell 2
      have r3 := HS3.out.rr.frozen 0
      have r4 := HS3.out.rr.frozen 1
      have r5 := HS3.out.rr.frozen 2
      have f0 : W4.cell? ⟨w.heap.size + 1, 0, none⟩ = some (.int .i64 0) := HS3.out.ff.cell 0
      have f1 : W4.cell? ⟨w.heap.size + 1, 1, none⟩ = some (.string ⟨#[]⟩) := HS3.out.ff.cell 1
      have f2 : W4.cell? ⟨w.heap.size + 1, 2, none⟩ = some (.int .i64 0) := HS3.out.ff.cell 2
      have f3 := HS3.out.ff.frozen 0
      have f4 := HS3.out.ff.frozen 1
      have f5 := HS3.out.ff.frozen 2
      have n1 : p ≠ w.heap.size := by omega
      have n2 : p ≠ w.heap.size + 1 := by omega
      have n3 : w.heap.size ≠ p := by omega
      have n4 : w.heap.size + 1 ≠ p := by omega
      generalize hLL : lineL (s.data.toList.take (pos + b)) = L at *
      go_region
      go_wp2
      have gP := ((HS3.out.sc.other3 (B' := w.heap.size) (by omega) (.int .i64 0) (.string ⟨#[]⟩) (.int .i64 0)).other3 (B' := w.heap.size + 1) (by omega) (.int .i64 100) (.string ⟨#[]⟩) (.int .i64 (L : Int)))
      have gR := ((HS3.out.rr.set3 (.int .i64 0) (.string ⟨#[]⟩) (.int .i64 0)).other3 (B' := w.heap.size + 1) (by omega) (.int .i64 100) (.string ⟨#[]⟩) (.int .i64 (L : Int)))
      have gF := ((HS3.out.ff.other3 (B' := w.heap.size) (by omega) (.int .i64 0) (.string ⟨#[]⟩) (.int .i64 0)).set3 (.int .i64 100) (.string ⟨#[]⟩) (.int .i64 (L : Int)))
      have gO := ((HS3.out.on.set3 (B := w.heap.size) (.inr (Nat.le_refl _)) (.int .i64 0) (.string ⟨#[]⟩) (.int .i64 0)).set3 (B := w.heap.size + 1) (.inr (Nat.le_succ _)) (.int .i64 100) (.string ⟨#[]⟩) (.int .i64 (L : Int)))
      generalize ((((((W4.setCell ⟨w.heap.size, 0, none⟩ (.int .i64 0)).setCell ⟨w.heap.size, 1, none⟩ (.string ⟨#[]⟩)).setCell ⟨w.heap.size, 2, none⟩ (.int .i64 0)).setCell ⟨w.heap.size + 1, 0, none⟩ (.int .i64 100)).setCell ⟨w.heap.size + 1, 1, none⟩ (.string ⟨#[]⟩)).setCell ⟨w.heap.size + 1, 2, none⟩ (.int .i64 (L : Int))) = W at *
      have y0 : W.cell? ⟨w.heap.size, 0, none⟩ = some (.int .i64 0) := gR.cell 0
      have y1 : W.cell? ⟨w.heap.size, 1, none⟩ = some (.string ⟨#[]⟩) := gR.cell 1
      have y2 : W.cell? ⟨w.heap.size, 2, none⟩ = some (.int .i64 0) := gR.cell 2
      have z0 : W.cell? ⟨w.heap.size + 1, 0, none⟩ = some (.int .i64 100) := gF.cell 0
      have z1 : W.cell? ⟨w.heap.size + 1, 1, none⟩ = some (.string ⟨#[]⟩) := gF.cell 1
      have z2 : W.cell? ⟨w.heap.size + 1, 2, none⟩ = some (.int .i64 (L : Int)) := gF.cell 2
      refine bodyPost_ret (v := .tuple #[.agg #[.int .i64 0, .string ⟨#[]⟩, .int .i64 0], .agg #[.int .i64 100, .string ⟨#[]⟩, .int .i64 (L : Int)]]) (by simp [results, Tryz.results7, go_sem, y0, y1, y2, z0, z1, z2]) rfl ?_
      exact NextAt.no HBb.out HPC.out hLL gP gO.drew
    | some y =>
      obtain ⟨kd, t, n⟩ := y
      rw [hpc] at HPi
      have HPC := Lib.hid hpc
      clear hpc
      have hPi : ∀ W, St w p (s.extract (pos + b) s.size) (lineL (s.data.toList.take (pos + b))) semi W → Calls Tryz.prog 16 #[.pointer (some ⟨p, 0, none⟩)] W fun e w' => Below W.heap.size W w' ∧ e = .returned (.tuple #[.agg #[.int .i64 (kd : Int), .string (mkB t), .int .i64 (n : Int)], .bool true]) := fun W h => HPi.out W h
      clear HPi
      have HPi := Lib.hid hPi
      clear hPi
      generalize hkz : (kd : Int) = kz at *
      have HK := Lib.hid hkz
      clear hkz
      go_upto_region 5 with (go_at_call 16; refine (HPi.out _ HS2.out).mono ?_; rintro e w3 ⟨hB, rfl⟩; have HS3 := Lib.hid ((HS2.out.below hB).alloc (.cells #[.int .i64 kz, .string (mkB t), .int .i64 (n : Int)] 50)); have HQ3 := Lib.hid (GBlk.new w3 50 #[.int .i64 kz, .string (mkB t), .int .i64 (n : Int)]); have HW3 := Lib.hid hB; clear hB)
      generalize w3.alloc (.cells #[.int .i64 kz, .string (mkB t), .int .i64 (n : Int)] 50) = W4 at *
      have p1 : W4.cell? ⟨p, 1, none⟩ = some (.int .i64 (lineL (s.data.toList.take (pos + b)) : Nat)) := HS3.out.sc.cell 1
      have q0 : W4.cell? ⟨w3.heap.size, 0, none⟩ = some (.int .i64 kz) := HQ3.out.cell 0
      have q1 : W4.cell? ⟨w3.heap.size, 1, none⟩ = some (.string (mkB t)) := HQ3.out.cell 1
      have p1' : ∀ o, (W4.alloc o).cell? ⟨p, 1, none⟩ = some (.int .i64 (lineL (s.data.toList.take (pos + b)) : Nat)) := fun o => (HS3.out.alloc o).sc.cell 1
      have q0' : ∀ o, (W4.alloc o).cell? ⟨w3.heap.size, 0, none⟩ = some (.int .i64 kz) := fun o => (HQ3.out.alloc o).cell 0
      have q1' : ∀ o, (W4.alloc o).cell? ⟨w3.heap.size, 1, none⟩ = some (.string (mkB t)) := fun o => (HQ3.out.alloc o).cell 1
      generalize hLL : lineL (s.data.toList.take (pos + b)) = L at *
      go_region
      clear HPi p1 q0 q1 p1' q0' q1' HS2
      have hfit := piece_fits HPC.out
      rw [List.length_drop, size_data] at hfit
      have hLs : L ≤ 20401 := by rw [← hLL]; exact line_small _ (by rw [List.length_take, size_data]; omega)
      have hLp : 1 ≤ L := by rw [← hLL]; exact line_pos _
      have HPass : Hid (∀ W, St w p (s.extract (pos + b) s.size) L semi W → Calls Tryz.prog 14 #[.pointer (some ⟨p, 0, none⟩), .int .i64 (n : Int)] W fun e w' => e = .returned (.tuple #[]) ∧ St w p (s.extract (pos + b + n) s.size) (lineL (s.data.toList.take (pos + b + n))) semi w' ∧ Only p W w') := Lib.hid (fun W hW => by
        refine (pass_any p (s.extract (pos + b) s.size) (by omega) L (by omega) hLp semi n (by omega) W hW.sc).mono ?_
        rintro e w' ⟨rfl, h1, h2⟩
        rw [extract_more s (pos + b) n hbl, extract_tail, ← hLL, line_add] at h1
        exact ⟨rfl, hW.pass hlt hp4 h1 h2, h2⟩)
      have hW4 : p < W4.heap.size := HS3.out.sc.lt
      have HT3 := Lib.hid (GBlk.new W4 33 #[.int .i64 kz, .string (mkB t), .int .i64 (L : Int)])
      have HS3' := Lib.hid (HS3.out.alloc (.cells #[.int .i64 kz, .string (mkB t), .int .i64 (L : Int)] 33)).drew
      have q2' : (W4.alloc (.cells #[.int .i64 kz, .string (mkB t), .int .i64 (L : Int)] 33)).cell? ⟨w3.heap.size, 2, none⟩ = some (.int .i64 (n : Int)) := (HQ3.out.alloc _).cell 2
      have HCl := Lib.hid (closes_any kd (mkB t) (L : Int))
      rw [data_mkB, HK.out] at HCl
      by_cases hk4 : kz = 4
      · subst hk4
        go_wp2_with (first
          | (go_at_call 14; refine (HPass.out _ HS3'.out).mono ?_; rintro _ w6 ⟨rfl, hS6, hO6⟩; have HS6 := Lib.hid hS6; have HT6 := Lib.hid (GBlk.only (HT3.out.drew) hO6 (by omega)); clear hS6 hO6; have r0 : w6.cell? ⟨w.heap.size, 0, none⟩ = some (.int .i64 0) := HS6.out.rr.cell 0; have r1 : w6.cell? ⟨w.heap.size, 1, none⟩ = some (.string ⟨#[]⟩) := HS6.out.rr.cell 1; have r2 : w6.cell? ⟨w.heap.size, 2, none⟩ = some (.int .i64 0) := HS6.out.rr.cell 2; have r3 := HS6.out.rr.frozen 0; have r4 := HS6.out.rr.frozen 1; have r5 := HS6.out.rr.frozen 2; have f0 : w6.cell? ⟨w.heap.size + 1, 0, none⟩ = some (.int .i64 0) := HS6.out.ff.cell 0; have f1 : w6.cell? ⟨w.heap.size + 1, 1, none⟩ = some (.string ⟨#[]⟩) := HS6.out.ff.cell 1; have f2 : w6.cell? ⟨w.heap.size + 1, 2, none⟩ = some (.int .i64 0) := HS6.out.ff.cell 2; have f3 := HS6.out.ff.frozen 0; have f4 := HS6.out.ff.frozen 1; have f5 := HS6.out.ff.frozen 2; have n1 : p ≠ w.heap.size := (by omega); have n2 : p ≠ w.heap.size + 1 := (by omega); have n3 : w.heap.size ≠ p := (by omega); have n4 : w.heap.size + 1 ≠ p := (by omega); have t0 : w6.cell? ⟨W4.heap.size, 0, none⟩ = some (.int .i64 4) := HT6.out.cell 0; have t1 : w6.cell? ⟨W4.heap.size, 1, none⟩ = some (.string (mkB t)) := HT6.out.cell 1; have t2 : w6.cell? ⟨W4.heap.size, 2, none⟩ = some (.int .i64 (L : Int)) := HT6.out.cell 2))
        have HSf := HS6
        have gP := ((HSf.out.sc.other3 (B' := w.heap.size) (by omega) (.int .i64 4) (.string (mkB t)) (.int .i64 (L : Int))).other3 (B' := w.heap.size + 1) (by omega) (.int .i64 0) (.string ⟨#[]⟩) (.int .i64 0))
        have gR := ((HSf.out.rr.set3 (.int .i64 4) (.string (mkB t)) (.int .i64 (L : Int))).other3 (B' := w.heap.size + 1) (by omega) (.int .i64 0) (.string ⟨#[]⟩) (.int .i64 0))
        have gF := ((HSf.out.ff.other3 (B' := w.heap.size) (by omega) (.int .i64 4) (.string (mkB t)) (.int .i64 (L : Int))).set3 (.int .i64 0) (.string ⟨#[]⟩) (.int .i64 0))
        have gO := ((HSf.out.on.set3 (B := w.heap.size) (.inr (Nat.le_refl _)) (.int .i64 4) (.string (mkB t)) (.int .i64 (L : Int))).set3 (B := w.heap.size + 1) (.inr (Nat.le_succ _)) (.int .i64 0) (.string ⟨#[]⟩) (.int .i64 0))
        generalize ((((((w6.setCell ⟨w.heap.size, 0, none⟩ (.int .i64 4)).setCell ⟨w.heap.size, 1, none⟩ (.string (mkB t))).setCell ⟨w.heap.size, 2, none⟩ (.int .i64 (L : Int))).setCell ⟨w.heap.size + 1, 0, none⟩ (.int .i64 0)).setCell ⟨w.heap.size + 1, 1, none⟩ (.string ⟨#[]⟩)).setCell ⟨w.heap.size + 1, 2, none⟩ (.int .i64 0)) = W at *
        have y0 : W.cell? ⟨w.heap.size, 0, none⟩ = some (.int .i64 4) := gR.cell 0
        have y1 : W.cell? ⟨w.heap.size, 1, none⟩ = some (.string (mkB t)) := gR.cell 1
        have y2 : W.cell? ⟨w.heap.size, 2, none⟩ = some (.int .i64 (L : Int)) := gR.cell 2
        have z0 : W.cell? ⟨w.heap.size + 1, 0, none⟩ = some (.int .i64 0) := gF.cell 0
        have z1 : W.cell? ⟨w.heap.size + 1, 1, none⟩ = some (.string ⟨#[]⟩) := gF.cell 1
        have z2 : W.cell? ⟨w.heap.size + 1, 2, none⟩ = some (.int .i64 0) := gF.cell 2
        refine bodyPost_ret (v := .tuple #[.agg #[.int .i64 4, .string (mkB t), .int .i64 (L : Int)], .agg #[.int .i64 0, .string ⟨#[]⟩, .int .i64 0]]) (by simp [results, Tryz.results7, go_sem, y0, y1, y2, z0, z1, z2]) rfl ?_
        exact NextAt.yes HBb.out HPC.out hLL HK.out (if_pos (by have := HK.out; omega)) gP gO
      · have k4 : ¬ kz = 4 := hk4
        go_wp2_with (first
          | (go_at_call 14; refine (HPass.out _ HS3'.out).mono ?_; rintro _ w6 ⟨rfl, hS6, hO6⟩; have HS6 := Lib.hid hS6; have HT6 := Lib.hid (GBlk.only (HT3.out.drew) hO6 (by omega)); clear hS6 hO6; have r0 : w6.cell? ⟨w.heap.size, 0, none⟩ = some (.int .i64 0) := HS6.out.rr.cell 0; have r1 : w6.cell? ⟨w.heap.size, 1, none⟩ = some (.string ⟨#[]⟩) := HS6.out.rr.cell 1; have r2 : w6.cell? ⟨w.heap.size, 2, none⟩ = some (.int .i64 0) := HS6.out.rr.cell 2; have r3 := HS6.out.rr.frozen 0; have r4 := HS6.out.rr.frozen 1; have r5 := HS6.out.rr.frozen 2; have f0 : w6.cell? ⟨w.heap.size + 1, 0, none⟩ = some (.int .i64 0) := HS6.out.ff.cell 0; have f1 : w6.cell? ⟨w.heap.size + 1, 1, none⟩ = some (.string ⟨#[]⟩) := HS6.out.ff.cell 1; have f2 : w6.cell? ⟨w.heap.size + 1, 2, none⟩ = some (.int .i64 0) := HS6.out.ff.cell 2; have f3 := HS6.out.ff.frozen 0; have f4 := HS6.out.ff.frozen 1; have f5 := HS6.out.ff.frozen 2; have n1 : p ≠ w.heap.size := (by omega); have n2 : p ≠ w.heap.size + 1 := (by omega); have n3 : w.heap.size ≠ p := (by omega); have n4 : w.heap.size + 1 ≠ p := (by omega); have t0 : w6.cell? ⟨W4.heap.size, 0, none⟩ = some (.int .i64 kz) := HT6.out.cell 0; have t1 : w6.cell? ⟨W4.heap.size, 1, none⟩ = some (.string (mkB t)) := HT6.out.cell 1; have t2 : w6.cell? ⟨W4.heap.size, 2, none⟩ = some (.int .i64 (L : Int)) := HT6.out.cell 2)
          | (go_at_call 17; refine (HCl.out _).mono ?_; rintro _ w7 ⟨rfl, hB⟩; have HS7 := Lib.hid (HS6.out.below hB); have HT7 := Lib.hid (HT6.out.below hB); clear hB; have r0 : w7.cell? ⟨w.heap.size, 0, none⟩ = some (.int .i64 0) := HS7.out.rr.cell 0; have r1 : w7.cell? ⟨w.heap.size, 1, none⟩ = some (.string ⟨#[]⟩) := HS7.out.rr.cell 1; have r2 : w7.cell? ⟨w.heap.size, 2, none⟩ = some (.int .i64 0) := HS7.out.rr.cell 2; have r3 := HS7.out.rr.frozen 0; have r4 := HS7.out.rr.frozen 1; have r5 := HS7.out.rr.frozen 2; have f0 : w7.cell? ⟨w.heap.size + 1, 0, none⟩ = some (.int .i64 0) := HS7.out.ff.cell 0; have f1 : w7.cell? ⟨w.heap.size + 1, 1, none⟩ = some (.string ⟨#[]⟩) := HS7.out.ff.cell 1; have f2 : w7.cell? ⟨w.heap.size + 1, 2, none⟩ = some (.int .i64 0) := HS7.out.ff.cell 2; have f3 := HS7.out.ff.frozen 0; have f4 := HS7.out.ff.frozen 1; have f5 := HS7.out.ff.frozen 2; have n1 : p ≠ w.heap.size := (by omega); have n2 : p ≠ w.heap.size + 1 := (by omega); have n3 : w.heap.size ≠ p := (by omega); have n4 : w.heap.size + 1 ≠ p := (by omega); have t0 : w7.cell? ⟨W4.heap.size, 0, none⟩ = some (.int .i64 kz) := HT7.out.cell 0; have t1 : w7.cell? ⟨W4.heap.size, 1, none⟩ = some (.string (mkB t)) := HT7.out.cell 1; have t2 : w7.cell? ⟨W4.heap.size, 2, none⟩ = some (.int .i64 (L : Int)) := HT7.out.cell 2; have p2' : w7.cell? ⟨p, 2, none⟩ = some (.bool semi) := HS7.out.sc.cell 2; have p3' := HS7.out.sc.frozen 2))
        have HSf := Lib.hid (HS7.out.semi hlt hp4 (ends kd t))
        have gP := ((HSf.out.sc.other3 (B' := w.heap.size) (by omega) (.int .i64 kz) (.string (mkB t)) (.int .i64 (L : Int))).other3 (B' := w.heap.size + 1) (by omega) (.int .i64 0) (.string ⟨#[]⟩) (.int .i64 0))
        have gR := ((HSf.out.rr.set3 (.int .i64 kz) (.string (mkB t)) (.int .i64 (L : Int))).other3 (B' := w.heap.size + 1) (by omega) (.int .i64 0) (.string ⟨#[]⟩) (.int .i64 0))
        have gF := ((HSf.out.ff.other3 (B' := w.heap.size) (by omega) (.int .i64 kz) (.string (mkB t)) (.int .i64 (L : Int))).set3 (.int .i64 0) (.string ⟨#[]⟩) (.int .i64 0))
        have gO := ((HSf.out.on.set3 (B := w.heap.size) (.inr (Nat.le_refl _)) (.int .i64 kz) (.string (mkB t)) (.int .i64 (L : Int))).set3 (B := w.heap.size + 1) (.inr (Nat.le_succ _)) (.int .i64 0) (.string ⟨#[]⟩) (.int .i64 0))
        generalize (((((((w7.setCell ⟨p, 2, none⟩ (.bool (ends kd t))).setCell ⟨w.heap.size, 0, none⟩ (.int .i64 kz)).setCell ⟨w.heap.size, 1, none⟩ (.string (mkB t))).setCell ⟨w.heap.size, 2, none⟩ (.int .i64 (L : Int))).setCell ⟨w.heap.size + 1, 0, none⟩ (.int .i64 0)).setCell ⟨w.heap.size + 1, 1, none⟩ (.string ⟨#[]⟩)).setCell ⟨w.heap.size + 1, 2, none⟩ (.int .i64 0)) = W at *
        have y0 : W.cell? ⟨w.heap.size, 0, none⟩ = some (.int .i64 kz) := gR.cell 0
        have y1 : W.cell? ⟨w.heap.size, 1, none⟩ = some (.string (mkB t)) := gR.cell 1
        have y2 : W.cell? ⟨w.heap.size, 2, none⟩ = some (.int .i64 (L : Int)) := gR.cell 2
        have z0 : W.cell? ⟨w.heap.size + 1, 0, none⟩ = some (.int .i64 0) := gF.cell 0
        have z1 : W.cell? ⟨w.heap.size + 1, 1, none⟩ = some (.string ⟨#[]⟩) := gF.cell 1
        have z2 : W.cell? ⟨w.heap.size + 1, 2, none⟩ = some (.int .i64 0) := gF.cell 2
        refine bodyPost_ret (v := .tuple #[.agg #[.int .i64 kz, .string (mkB t), .int .i64 (L : Int)], .agg #[.int .i64 0, .string ⟨#[]⟩, .int .i64 0]]) (by simp [results, Tryz.results7, go_sem, y0, y1, y2, z0, z1, z2]) rfl ?_
        exact NextAt.yes HBb.out HPC.out hLL HK.out (if_neg (by have := HK.out; omega)) gP gO
end Go.Proofs.YtinaeegijmkbhaaGreatDoor
