/-
  Trees: what is put into one leaves one. The tree that is grown of any files.
-/
import Derived.Test.YteffoajheolpmaaF5
namespace Go.Proofs.Yteffoajheolpmaa
open Go.RowKit Go.Shelf

structure Tree (xs : List FileB) : Prop where
  ok : ∀ f ∈ xs, validB f.1 = true ∧ f.2.size ≤ 4000
  up : Up xs
  apart : ∀ f ∈ xs, ∀ g ∈ xs, insC f.1 g.1 = false
  few : xs.length ≤ 60
theorem Tree.nil : Tree [] := ⟨by simp, List.Pairwise.nil, by simp, by simp⟩
theorem Tree.short {xs : List FileB} (h : Tree xs) : Short xs := fun f hf => Nat.le_trans (valid_size (h.ok f hf).1).2 (by decide)
theorem Tree.len {xs : List FileB} (h : Tree xs) : xs.length ≤ 1000 := Nat.le_trans h.few (by decide)

theorem insC_comm (p q : ByteArray) : insC p q = insC q p := by unfold insC; exact Bool.or_comm _ _
theorem inside_self {p : ByteArray} (h : hereB p = false) : insideB p p = false := by
  unfold insideB
  rw [withinB_2 h (by simp)]; simp [Lib.toList_data]
theorem insC_self {p : ByteArray} (h : hereB p = false) : insC p p = false := by unfold insC; rw [inside_self h]; rfl
theorem putE_zero {xs : List FileB} {f : FileB} (h : putE xs f = 0) : validB f.1 = true ∧ f.2.size ≤ 4000 ∧ clashI xs f.1 = false ∧ (putL xs f).length ≤ 60 := by
  cases h1 : validB f.1
  · rw [putE_1 h1] at h; cases h
  · by_cases h2 : 4000 < f.2.size
    · rw [putE_2 h1 h2] at h; cases h
    · cases h3 : clashI xs f.1
      · by_cases h4 : 60 < (putL xs f).length
        · rw [putE_4 h1 h2 h3 h4] at h; cases h
        · exact ⟨rfl, by omega, rfl, by omega⟩
      · rw [putE_3 h1 h2 h3] at h; cases h
theorem mem_putL {xs : List FileB} {f g : FileB} (h : g ∈ putL xs f) : g = f ∨ g ∈ xs := by
  unfold putL loF hiF at h
  rcases List.mem_append.1 h with h | h
  · exact .inr (List.mem_filter.1 h).1
  · rcases List.mem_cons.1 h with h | h
    · exact .inl h
    · exact .inr (List.mem_filter.1 h).1
theorem up_put {xs : List FileB} (h : Up xs) (f : FileB) : Up (putL xs f) := by
  unfold Up putL loF hiF
  rw [List.pairwise_append]
  refine ⟨h.filter _, ?_, ?_⟩
  · rw [List.pairwise_cons]
    refine ⟨fun g hg => ?_, h.filter _⟩
    have := (List.mem_filter.1 hg).2
    simp only [decide_eq_true_eq] at this
    have e := cmp_neg g.1 f.1
    rcases cmp_range f.1 g.1 with r | r | r <;> omega
  · intro a ha b hb
    have ha' := (List.mem_filter.1 ha).2
    simp only [decide_eq_true_eq] at ha'
    have hb' : compareN f.1 b.1 ≤ 0 := by
      rcases List.mem_cons.1 hb with rfl | hb
      · rw [cmp_self]; exact Int.le_refl _
      · have := (List.mem_filter.1 hb).2
        simp only [decide_eq_true_eq] at this
        have e := cmp_neg b.1 f.1
        omega
    have := cmp_lt ha' hb'
    rcases cmp_range a.1 b.1 with r | r | r <;> omega
theorem clashI_no {xs : List FileB} {q : ByteArray} (h : clashI xs q = false) : ∀ g ∈ xs, insC g.1 q = false := by
  unfold clashI at h
  rw [List.any_eq_false] at h
  intro g hg
  simpa using h g hg
theorem Tree.put {xs : List FileB} (h : Tree xs) {f : FileB} (e : putE xs f = 0) : Tree (putL xs f) := by
  obtain ⟨h1, h2, h3, h4⟩ := putE_zero e
  have h3' := clashI_no h3
  refine ⟨fun g hg => ?_, up_put h.up f, fun a ha b hb => ?_, h4⟩
  · rcases mem_putL hg with rfl | hg
    · exact ⟨h1, h2⟩
    · exact h.ok g hg
  · rcases mem_putL ha with ea | ha'
    · rcases mem_putL hb with eb | hb'
      · rw [ea, eb]; exact insC_self (valid_here h1)
      · rw [ea, insC_comm]; exact h3' b hb'
    · rcases mem_putL hb with eb | hb'
      · rw [eb]; exact h3' a ha'
      · exact h.apart a ha' b hb'

/-- A call that hands back a tree. -/
def GrownOut (w : World) (e : Ending) (w' : World) : Prop := ∃ A c t, e = .returned (.slice A t.length c) ∧ FRow w' (.slice A t.length c) t ∧ Tree t ∧ Below w.heap.size w w'

set_option maxRecDepth 100000 in
set_option maxHeartbeats 1000000 in
theorem grown_any (xs : List FileB) (v : Value) (w : World) (hv : FRow w v xs) (hl : Light xs) :
    Calls Try.prog 20 #[v] w (GrownOut w) := by
  have hm := hl.1
  have HV := Lib.hid hv
  have HL := Lib.hid hl.2
  obtain ⟨a, c, rfl, hlc, -⟩ := hv
  clear hl
  go_enter Try.func20, Try.ntmps20
  go_wp2
  go_loopw [3, 4] (fun tv i wr => ∃ (k : Nat) (t : List FileB) (A : Option Addr) (c' : Nat), k ≤ xs.length ∧ i = .int .i64 k ∧ tv = .slice A t.length c' ∧ FRow wr (.slice A t.length c') t ∧ Tree t ∧ Below w.heap.size w wr)
    (fun _ i _ => xs.length - (intOf i).toNat)
  case atStart => exact ⟨0, [], _, 0, Nat.zero_le _, rfl, rfl, (Acc.start w).own.row, Tree.nil, (Acc.start w).below⟩
  case round =>
    obtain ⟨k, t, A, c', hk, rfl, rfl, hrow, ht, hb⟩ := hrel
    have HT := Lib.hid ht
    have HR := Lib.hid hrow
    clear ht hrow
    by_cases hlt : k < xs.length
    · obtain ⟨a', c'', e', hl', hcl⟩ := HV.out.below hb
      cases e'
      obtain ⟨g, o, rfl, hg, hcell⟩ := hcl (by intro e; rw [e] at hlt; simp at hlt)
      obtain ⟨q1, q2⟩ := hcell k hlt
      obtain ⟨hs1, hs2⟩ := HL.out _ (List.getElem_mem hlt)
      clear hcell hcl
      generalize xs[k] = x at *
      obtain ⟨x1, x2⟩ := x
      have hs1' : x1.size ≤ maxLen := Nat.le_trans hs1 (by decide)
      have hs2' : x2.size ≤ maxLen := Nat.le_trans hs2 (by decide)
      go_wp2_with fail
      refine (rput_any t (x1, x2) _ _ HR.out HT.out.short hs1' hs2' HT.out.len HT.out.up).mono ?_
      rintro _ w1 ⟨A1, c1, rfl, hrow1, hb1⟩
      have hb' := hb.trans (hb1.mono hb.size)
      by_cases he : putE t (x1, x2) = 0
      · have HP := Lib.hid (HT.out.put he)
        rw [putR_yes he] at hrow1 ⊢
        rw [he]
        have HR1 := Lib.hid hrow1
        clear he hrow1
        go_wp2
        go_roundw
        case rel => exact ⟨k + 1, _, A1, c1, by omega, by go_num, rfl, HR1.out, HP.out, hb'⟩
        case measure => simp [intOf]; omega
      · have he' : (putE t (x1, x2) == 0) = false := by simp [he]
        have HR2 := Lib.hid (HR.out.below hb1)
        clear hrow1
        go_wp2
        go_roundw
        case rel => exact ⟨k + 1, t, A, c', by omega, by go_num, rfl, HR2.out, HT.out, hb'⟩
        case measure => simp [intOf]; omega
    · go_wp2
      go_ret
      exact ⟨A, c', t, rfl, HR.out, HT.out, hb⟩
end Go.Proofs.Yteffoajheolpmaa
