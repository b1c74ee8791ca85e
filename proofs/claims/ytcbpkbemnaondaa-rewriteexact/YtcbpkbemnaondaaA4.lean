/-
  That something is replaced.
-/
import Derived.Test.YtcbpkbemnaondaaA3
namespace Go.Proofs.Ytcbpkbemnaondaa
open Go.RowKit Go.Shelf

set_option maxRecDepth 100000 in
set_option maxHeartbeats 2000000 in
theorem shownR_any (w : World) : Calls Try.prog 5 #[] w fun e w' => e = .returned (.bool true) ∧ Below w.heap.size w w' := by
  have hb0 := (Below.refl w.heap.size w).alloc (Nat.le_refl _) (.cells #[.string ⟨#[97, 46, 98]⟩, .string ⟨#[118, 49, 46, 48, 46, 48]⟩] 29)
  have g0 := GBlk.new w 29 #[.string ⟨#[97, 46, 98]⟩, .string ⟨#[118, 49, 46, 48, 46, 48]⟩]
  have z0 := g0.cell 0
  have z1 := g0.cell 1
  simp only [List.getElem?_toArray, List.getElem?_cons_succ, List.getElem?_cons_zero] at z0 z1
  have hs1 : (w.alloc (.cells #[.string ⟨#[97, 46, 98]⟩, .string ⟨#[118, 49, 46, 48, 46, 48]⟩] 29)).heap.size = w.heap.size + 1 := by simp
  have hr := RRow.one (R := repR) (w.alloc (.cells #[.string ⟨#[97, 46, 98]⟩, .string ⟨#[118, 49, 46, 48, 46, 48]⟩] 29)) ((⟨#[97, 46, 98]⟩, ⟨#[118, 49, 46, 48, 46, 48]⟩), (⟨#[46, 47, 99]⟩, ⟨#[]⟩)) 33
  rw [hs1] at hr
  have hb1 := hb0.alloc (by simp) (.cells (repR.cells ((⟨#[97, 46, 98]⟩, ⟨#[118, 49, 46, 48, 46, 48]⟩), (⟨#[46, 47, 99]⟩, ⟨#[]⟩))).toArray 33)
  have hR : replL [(((⟨#[97, 46, 98]⟩, ⟨#[118, 49, 46, 48, 46, 48]⟩), (⟨#[46, 47, 99]⟩, ⟨#[]⟩)) : RepB)] (⟨#[97, 46, 98]⟩, ⟨#[118, 49, 46, 48, 46, 48]⟩) = ((⟨#[46, 47, 99]⟩, ⟨#[]⟩), true) := by decide +kernel
  have HX := Lib.hid (replaced_any ⟨#[]⟩ ⟨#[]⟩ (.slice none 0 0) (.slice (some ⟨w.heap.size + 1, 0, none⟩) 1 1) (.slice none 0 0) (.slice none 0 0) _ ⟨#[97, 46, 98]⟩ ⟨#[118, 49, 46, 48, 46, 48]⟩ _ hr (by simp))
  have HR := Lib.hid hR
  have HB := Lib.hid hb1
  clear hr hR hb1 g0
  simp only [repR, List.toArray] at HX HB
  go_enter Try.func5, Try.ntmps5
  go_wp2_with fail
  refine HX.out.mono ?_
  rintro _ w1 ⟨r, b, hr, rfl, hb2⟩
  rw [HR.out] at hr
  simp only [Prod.mk.injEq] at hr
  obtain ⟨rfl, rfl⟩ := hr
  have hb3 := HB.out.trans (hb2.mono HB.out.size)
  have g1 := GBlk.new w1 29 #[.string ⟨#[46, 47, 99]⟩, .string ⟨#[]⟩]
  have y0 := g1.cell 0
  have y1 := g1.cell 1
  simp only [List.getElem?_toArray, List.getElem?_cons_succ, List.getElem?_cons_zero] at y0 y1
  have HB3 := Lib.hid (hb3.alloc hb3.size (.cells #[.string ⟨#[46, 47, 99]⟩, .string ⟨#[]⟩] 29))
  clear hb3 hb2 g1 HX HB
  go_wp2
  go_ret
  exact ⟨rfl, HB3.out⟩
end Go.Proofs.Ytcbpkbemnaondaa
