/-
  The stable sort of files in place (slices' stable).
-/
import Derived.Test.YteffoajheolpmaaF27
import Derived.Test.YteffoajheolpmaaT12
namespace Go.Proofs.Yteffoajheolpmaa
open Go.RowKit Go.Shelf

set_option maxRecDepth 100000 in
set_option maxHeartbeats 4000000 in
theorem stable_any (w0 : World) (g c n B : Nat) (u : Value) (w : World) (xs : List FileB) (hw : Work w0 g c n B u w xs) (hs : Short xs) (hn : n ≤ 1000) :
    Calls Try.prog 74 #[.slice (some ⟨g, 0, none⟩) n c, .int .i64 n, cmpV B] w (fun e w' => e = .returned (.tuple #[]) ∧ ∃ ys, Rises ys ∧ Kept xs ys ∧ Work w0 g c n B u w' ys) := by
  have HW := Lib.hid hw
  have HSh := Lib.hid hs
  have HL := Lib.hid hw.len
  clear hw hs
  unfold cmpV
  go_enter Try.func74, Try.ntmps74
  go_wp2
  go_loopw [7, 8] (fun i j wr => ∃ (a b : Nat) (ys : List FileB), i = .int .i64 a ∧ j = .int .i64 b ∧ a + 20 = b ∧ a ≤ n ∧ Pass1 xs a ys ∧ Short ys ∧ Work w0 g c n B u wr ys) (fun i _ _ => n - (intOf i).toNat)
  case atStart => exact ⟨0, 20, xs, rfl, rfl, rfl, Nat.zero_le _, Pass1.start xs, HSh.out, HW.out⟩
  case round =>
    obtain ⟨a, b, ys, rfl, rfl, hab, han, hp, hsy, hwk⟩ := hrel
    have hlen := hwk.len
    by_cases hlt : b ≤ n
    · obtain ⟨P, A, S, rfl, e1, e2, hnx⟩ := hp.next (by omega)
      have HX := Lib.hid (insertion_any w0 g c n B u _ P A S hwk hsy a b e1 (by omega) hn)
      have HN := Lib.hid hnx
      clear hnx hwk hsy e1 e2 hlen hp
      go_wp2_with fail
      refine HX.out.mono ?_
      rintro _ w1 ⟨rfl, zs, hpz, hsz, hw1⟩
      have HP := Lib.hid (HN.out zs hpz)
      have HZ := Lib.hid hsz
      clear HX HN hpz hsz
      go_wp2
      go_roundw
      case rel => exact ⟨b, b + 20, zs, rfl, by go_num, rfl, hlt, by rw [← hab]; exact HP.out, HZ.out, hw1⟩
      case measure => simp [intOf]; omega
    · obtain ⟨P, A, rfl, e1, e2, hnx⟩ := hp.done (by omega) (by omega)
      have HX := Lib.hid (insertion_any w0 g c n B u _ P A [] hwk hsy a n e1 (by omega) hn)
      have HN := Lib.hid hnx
      clear hnx hwk hsy e1 e2 hlen hp
      go_wp2_with fail
      refine HX.out.mono ?_
      rintro _ w1 ⟨rfl, zs, hpz, hsz, hw1⟩
      have HP := Lib.hid (HN.out zs hpz)
      have HZ := Lib.hid hsz
      clear HX HN hpz hsz
      go_wp2
      go_loopw [6] (fun i wr => ∃ (z : Nat) (ys : List FileB), i = .int .i64 z ∧ 20 ≤ z ∧ z ≤ 4000 ∧ Runs z ys ∧ Kept xs ys ∧ Short ys ∧ Work w0 g c n B u wr ys) (fun i _ => n - (intOf i).toNat)
      case atStart => exact ⟨20, zs, rfl, by omega, by omega, HP.out.1, HP.out.2, HZ.out, hw1⟩
      case round =>
        obtain ⟨z, ys, rfl, hz1, hz2, hr, hk, hsy, hwk⟩ := hrel
        by_cases hzn : z < n
        · have HSt := Lib.hid (Pass2.start hr hk)
          have HY := Lib.hid hsy
          clear hr hk hsy
          obtain ⟨zz, hzz⟩ : ∃ zz, 2 * z = zz := ⟨_, rfl⟩
          have tz : 2 * (z : Int) = (zz : Int) := by omega
          have tz' : (z : Int) * 2 = (zz : Int) := by omega
          have HZZ := Lib.hid hzz
          go_wp2
          go_loopw [7, 8] (fun i j wr => ∃ (a b : Nat) (ys : List FileB), i = .int .i64 a ∧ j = .int .i64 b ∧ a + zz = b ∧ a ≤ n ∧ Pass2 xs z a ys ∧ Short ys ∧ Work w0 g c n B u wr ys) (fun i _ _ => n - (intOf i).toNat)
          case atStart => exact ⟨0, zz, ys, rfl, by go_num, by omega, Nat.zero_le _, HSt.out, HY.out, hwk⟩
          case round =>
            obtain ⟨a, b, ys, rfl, rfl, hab, han, hp, hsy, hwk⟩ := hrel
            have hlen := hwk.len
            by_cases hlt : b ≤ n
            · obtain ⟨P, A, C, S, rfl, e1, e2, e3, r1, r2, hnx⟩ := hp.next (by omega)
              obtain ⟨m, hm⟩ : ∃ m, a + z = m := ⟨_, rfl⟩
              have tm : (a : Int) + (z : Int) = (m : Int) := by omega
              have HX := Lib.hid (merges_all w0 g c n B u hn _ P A C S _ (Nat.le_refl _) (by omega) (by omega) r1 r2 hsy hwk a m b e1 (by omega) (by omega))
              have HN := Lib.hid hnx
              clear hnx hwk hsy e1 e2 e3 hlen hp r1 r2 hm
              go_wp2_with fail
              refine HX.out.mono ?_
              rintro _ w1 ⟨rfl, zs, hpz, hsz, hw1⟩
              have HP := Lib.hid (HN.out zs hpz)
              have HZ := Lib.hid hsz
              clear HX HN hpz hsz
              go_wp2
              go_roundw
              case rel => exact ⟨b, b + zz, zs, rfl, by go_num, rfl, hlt, by rw [← hab, ← HZZ.out]; exact HP.out, HZ.out, hw1⟩
              case measure => simp [intOf]; omega
            · obtain ⟨m, hm⟩ : ∃ m, a + z = m := ⟨_, rfl⟩
              have tm : (a : Int) + (z : Int) = (m : Int) := by omega
              by_cases hmn : m < n
              · obtain ⟨P, A, C, rfl, e1, e2, e3, e4, r1, r2, hnx⟩ := hp.rest (by omega) (by omega)
                have HX := Lib.hid (merges_all w0 g c n B u hn _ P A C [] _ (Nat.le_refl _) (by omega) (by omega) r1 r2 hsy hwk a m n e1 (by omega) (by omega))
                have HN := Lib.hid hnx
                clear hnx hwk hsy e1 e2 e3 e4 hlen hp r1 r2 hm
                go_wp2_with fail
                refine HX.out.mono ?_
                rintro _ w1 ⟨rfl, zs, hpz, hsz, hw1⟩
                have HP := Lib.hid (HN.out zs hpz)
                have HZ := Lib.hid hsz
                clear HX HN hpz hsz
                go_wp2
                go_roundw
                case rel => exact ⟨zz, zs, by go_num, by omega, by omega, by rw [← HZZ.out]; exact HP.out.1, HP.out.2, HZ.out, hw1⟩
                case measure => simp [intOf]; omega
              · have HP := Lib.hid (hp.done (by omega))
                have HZ := Lib.hid hsy
                clear hp hsy hlen hm
                go_wp2
                go_roundw
                case rel => exact ⟨zz, ys, by go_num, by omega, by omega, by rw [← HZZ.out]; exact HP.out.1, HP.out.2, HZ.out, hwk⟩
                case measure => simp [intOf]; omega
        · have HR := Lib.hid (hr.rises (by rw [hwk.len]; omega))
          have HK := Lib.hid hk
          clear hr hk hsy
          go_wp2
          go_end0
          exact ⟨rfl, ys, HR.out, HK.out, hwk⟩
end Go.Proofs.Yteffoajheolpmaa
