/-
  The machine draws forward: no step sets the number of draws back. (Of no program.)
-/
import GoSem.Step
import Derived.Calls
import Derived.RunT
import Derived.Control
import Derived.Shelf.SlSortCmp.Whole1
import Derived.Shelf.SlGeneric
import Derived.Ground.SlsfProg
import Derived.Test.YtcbpkbemnaondaaGreatDoorProg
import Derived.Test.YtcbpkbemnaondaaGreatDoorX1
import Derived.Test.YtcbpkbemnaondaaGreatDoorRec
set_option linter.unusedVariables false
namespace Go.Proofs.YtcbpkbemnaondaaGreatDoor

def upR {α : Type} (d : Nat) : Result α → Prop
  | .ok _ w => d ≤ w.drawn
  | .halt _ w => d ≤ w.drawn
def upG (d : Nat) : GStep → Prop
  | .go _ w _ => d ≤ w.drawn
  | .comm _ _ _ _ w _ => d ≤ w.drawn
  | .spawn _ _ w _ => d ≤ w.drawn
  | .count _ w _ => d ≤ w.drawn
  | .timer _ _ w _ => d ≤ w.drawn
  | .alone _ _ w _ => d ≤ w.drawn
  | .newcoro _ _ _ w _ => d ≤ w.drawn
  | .coroswitch _ _ _ w _ => d ≤ w.drawn
  | .collect _ w _ => d ≤ w.drawn
  | .watch _ w _ => d ≤ w.drawn
  | .ended .. => True
def upS (d : Nat) : Stepped → Prop
  | .next m => d ≤ m.world.drawn
  | .ended .. => True

theorem upG_le {d d' : Nat} (h : d ≤ d') {s : GStep} (k : upG d' s) : upG d s := by
  cases s <;> first | exact Nat.le_trans h k | trivial
theorem upS_le {d d' : Nat} (h : d ≤ d') {s : Stepped} (k : upS d' s) : upS d s := by
  cases s <;> first | exact Nat.le_trans h k | trivial
theorem upR_le {α : Type} {d d' : Nat} (h : d ≤ d') {s : Result α} (k : upR d' s) : upR d s := by
  cases s <;> exact Nat.le_trans h k
theorem upG_after {d : Nat} {es : Array Event} {s : GStep} (k : upG d s) : upG d (GStep.after es s) := by
  cases s <;> exact k

theorem upG_ite {d : Nat} {c : Prop} [Decidable c] {a b : GStep} (ha : upG d a) (hb : upG d b) : upG d (if c then a else b) := by
  split <;> assumption
theorem upS_ite {d : Nat} {c : Prop} [Decidable c] {a b : Stepped} (ha : upS d a) (hb : upS d b) : upS d (if c then a else b) := by
  split <;> assumption
theorem ask_up {α : Type} : ∀ (a : Ask α) (w : World), w.drawn ≤ (w.ask a).2.drawn
  | .done a, w => by simp [World.ask]
  | .ask what range k, w => by
    unfold World.ask
    dsimp only
    split
    · exact ask_up (k 0) w
    · exact Nat.le_trans (Nat.le_succ _) (ask_up (k _) { w with drawn := w.drawn + 1 })
theorem sys_up (c : Sys) (w : World) : w.drawn ≤ (w.sys c).2.drawn := by
  have h := ask_up (Kernel.perform c w.os) w
  unfold World.sys
  split
  · exact Nat.le_refl _
  · rename_i he
    rw [he] at h
    exact h
theorem view_up {p : Program} {w w' : World} {at_ : Addr} {u : TypeId} {k : Addr} {v : Value} {atomic : Bool} {l : List Addr} (h : w.viewStore p at_ u k v atomic = .ok (w', l)) : w.drawn ≤ w'.drawn := by
  simp only [World.viewStore, bind, Except.bind, pure, Except.pure, throwThe, MonadExcept.throw, MonadExceptOf.throw] at h
  repeat' (split at h)
  all_goals first
    | (cases h; done)
    | (simp only [Except.ok.injEq, Prod.mk.injEq] at h; obtain ⟨rfl, -⟩ := h; exact Nat.le_refl _)
theorem far_up {p : Program} {w w' : World} {a : Addr} {v : Value} {atomic : Bool} {l : List Addr} (h : w.farStore p a v atomic = .ok (w', l)) : w.drawn ≤ w'.drawn := by
  unfold World.farStore at h
  split at h
  · split at h
    · rename_i hv
      cases h
      exact view_up hv
    · cases h
  · cases h

theorem run_up {α : Type} (p : Program) : ∀ (s : Sem α) (w : World), upR w.drawn (s.run p w)
  | .pure a, w => Nat.le_refl _
  | .load m a k, w => by
    unfold Sem.run
    split
    · exact run_up p (k _) w
    · split
      · exact run_up p (k _) w
      · exact Nat.le_refl _
  | .store m a v k, w => by
    have hk := run_up p k
    cases v
    all_goals
      unfold Sem.run
      try dsimp only
    all_goals first
      | exact Nat.le_refl _
      | (split
         · split
           · exact Nat.le_refl _
           · exact hk (w.setCell a _)
         · split
           · rename_i h
             exact upR_le (far_up h) (hk _)
           · exact Nat.le_refl _)
  | .new o k, w => run_up p (k _) { w with heap := w.heap.push o }
  | .shape r k, w => run_up p (k _) w
  | .freeze a n k, w => by
    unfold Sem.run
    exact upR_le (Nat.le_of_eq (by unfold World.freeze; split <;> rfl)) (run_up p k (w.freeze a n))
  | .frozen a k, w => run_up p (k _) w
  | .getObj r k, w => by
    unfold Sem.run
    split
    · exact Nat.le_refl _
    · exact run_up p (k _) w
    · exact Nat.le_refl _
  | .setObj r o k, w => by
    unfold Sem.run
    split
    · exact Nat.le_refl _
    · exact run_up p k { w with heap := w.heap.setIfInBounds r o }
    · exact Nat.le_refl _
  | .choose q k, w => by
    unfold Sem.run
    split
    · exact run_up p (k 0) w
    · exact upR_le (Nat.le_succ _) (run_up p (k _) { w with drawn := w.drawn + 1 })
  | .sys c k, w => by
    unfold Sem.run
    exact upR_le (sys_up c w) (run_up p (k _) (w.sys c).2)
  | .program k, w => run_up p (k p) w
  | .mark _ k, w => run_up p k w
  | .halt h, w => Nat.le_refl _
theorem run_ok {α : Type} {p : Program} {s : Sem α} {w w' : World} {a : α} (h : s.run p w = .ok a w') : w.drawn ≤ w'.drawn := by
  have := run_up p s w
  rw [h] at this
  exact this
theorem run_halt {α : Type} {p : Program} {s : Sem α} {w w' : World} {a : Halt} (h : s.run p w = .halt a w') : w.drawn ≤ w'.drawn := by
  have := run_up p s w
  rw [h] at this
  exact this
theorem runT_up {α : Type} (p : Program) (s : Sem α) (w : World) (es : Array Event) : upR w.drawn (s.runT p w es).1 := by
  rw [Sem.runT_fst]
  exact run_up p s w

theorem runT_eq {α : Type} {p : Program} {s : Sem α} {w : World} {es : Array Event} {r : Result α} (h : (s.runT p w es).1 = r) : upR w.drawn r := by
  have := runT_up p s w es
  rw [h] at this
  exact this

theorem dieOf_up {fr : Frame} {l : List ByteArray} {m : String} {b : Bool} {w : World} : upG w.drawn (dieOf fr l m b w) := Nat.le_refl _
theorem endThrow_up {fr : Frame} {m : String} {w : World} : upG w.drawn (endThrow fr m w) := Nat.le_refl _
theorem endWith_up {d : Nat} {w : World} {fd : Nat} {t : ByteArray} {o : Outcome} : upG d (endWith w fd t o) := by
  unfold endWith
  dsimp only
  split
  · split <;> trivial
  · trivial
  · trivial
theorem endPrinting_up {p : Program} {fr : Frame} {v : Value} {w : World} : upG w.drawn (endPrinting p fr v w) := by
  unfold endPrinting
  dsimp only
  split
  · exact Nat.le_refl _
  · trivial
theorem endFatal_up {p : Program} {fr : Frame} {cs : List Frame} {dy : Option Dying} {m : String} {w : World} : upG w.drawn (endFatal p fr cs dy m w) := by
  unfold endFatal
  dsimp only
  split
  · rename_i h
    exact run_ok h
  · trivial
  · trivial
theorem writeOn_up {p : Program} {fr : Frame} {d : Dying} {f : Fatal} {w : World} : upG w.drawn (writeOn p fr d f w) := by
  unfold writeOn
  dsimp only
  split
  · trivial
  · split
    · rename_i h
      have := runT_up p _ w #[] |> (fun x => (congrArg (fun r => upR w.drawn r.1) h).mp x)
      exact this
    · rename_i h
      have := runT_up p _ w #[] |> (fun x => (congrArg (fun r => upR w.drawn r.1) h).mp x)
      exact this
    · trivial
    · trivial
theorem die_up {p : Program} {fr : Frame} {d : Dying} {w : World} : upG w.drawn (die p fr d w) := by
  unfold die
  split
  · exact writeOn_up
  · split
    · split
      · exact Nat.le_refl _
      · exact endWith_up
    · dsimp only
      split
      · exact Nat.le_refl _
      · split
        · rename_i h
          exact run_ok h
        · trivial
      · rename_i t recv name _
        have hr := runT_up p (invoke (.fn (.method name) #[]) #[.iface t recv]) w #[]
        generalize (invoke (.fn (.method name) #[]) #[.iface t recv]).runT p w #[] = x at hr ⊢
        obtain ⟨r, es⟩ := x
        dsimp only at hr ⊢
        apply upG_after
        split
        · exact hr
        · exact hr
        · trivial
        · exact upG_le hr endPrinting_up
        · trivial
      · trivial
theorem doReturn_up {p : Program} {main : Bool} {fr : Frame} {cs : List Frame} {dy : Option Dying} {v : Value} {w : World} : upG w.drawn (doReturn p main fr cs dy v w) := by
  unfold doReturn
  repeat' split
  all_goals first | exact Nat.le_refl _ | trivial
theorem callDeferred_up {p : Program} {fr : Frame} {cs : List Frame} {dy : Option Dying} {d : Deferred} {w : World} : upG w.drawn (callDeferred p fr cs dy d w) := by
  unfold callDeferred
  apply upG_ite
  · trivial
  · have hr := runT_up p (invoke d.target d.args) w #[]
    generalize (invoke d.target d.args).runT p w #[] = x at hr ⊢
    obtain ⟨r, es⟩ := x
    dsimp only at hr ⊢
    apply upG_after
    repeat' split
    all_goals first | exact hr | trivial | exact upG_le hr endFatal_up | exact upG_le hr endThrow_up
theorem unwind_up {p : Program} {main : Bool} {fr : Frame} {cs : List Frame} {dy : Option Dying} {w : World} : upG w.drawn (unwind p main fr cs dy w) := by
  unfold unwind
  split
  · rename_i block _ ds _
    have hr := runT_up p (Instr.takeDeferred block) w #[]
    generalize (Instr.takeDeferred block).runT p w #[] = x at hr ⊢
    obtain ⟨r, es⟩ := x
    dsimp only at hr ⊢
    apply upG_after
    split
    · exact hr
    · trivial
  · exact callDeferred_up
  · split
    · trivial
    · split
      · trivial
      · split
        · exact Nat.le_refl _
        · split
          · split
            · exact Nat.le_refl _
            · split
              · rename_i h
                exact run_ok h
              · trivial
              · trivial
          · split
            · exact endPrinting_up
            · trivial
    · split
      · exact doReturn_up
      · rename_i fn _
        have hr := runT_up p (results fn fr.tmps) w #[]
        generalize (results fn fr.tmps).runT p w #[] = x at hr ⊢
        obtain ⟨r, es⟩ := x
        dsimp only at hr ⊢
        apply upG_after
        split
        · exact upG_le hr doReturn_up
        · trivial
        · trivial
theorem early_up {p : Program} {fr : Frame} {cs : List Frame} {dy : Option Dying} {g : Nat} {w : World} : upG w.drawn (early p fr cs dy g w) := by
  unfold early
  dsimp only
  split
  · split <;> first | exact Nat.le_refl _ | trivial
  · split
    · trivial
    · split
      · split <;> first | exact Nat.le_refl _ | trivial
      · split
        · split <;> first | exact Nat.le_refl _ | trivial
        · split
          · trivial
          · exact Nat.le_refl _
          · trivial
          · split <;> first | exact Nat.le_refl _ | trivial
          · split
            · exact Nat.le_refl _
            · split
              · split <;> first | exact Nat.le_refl _ | trivial
              · split
                · rename_i h
                  have h1 := run_ok h
                  split <;> first | exact h1 | trivial
                · rename_i h
                  have h1 := run_ok h
                  exact h1
                · trivial
theorem apply_up {p : Program} {listen : Bool} {fr : Frame} {cs : List Frame} {dy : Option Dying} {s : Sem Next} {w : World} : upG w.drawn (stepG.apply p listen fr cs dy s w) := by
  unfold stepG.apply
  have hr : upR w.drawn (if listen then s.runT p w #[] else (s.run p w, #[])).1 := by
    split
    · exact runT_up p s w #[]
    · exact run_up p s w
  generalize (if listen then s.runT p w #[] else (s.run p w, #[])) = x at hr ⊢
  obtain ⟨r, es⟩ := x
  dsimp only at hr ⊢
  apply upG_after
  repeat' split
  all_goals first | exact hr | trivial | exact upG_le hr endFatal_up | exact upG_le hr endThrow_up | exact upG_le hr early_up
theorem oper_up {p : Program} {listen : Bool} {fr : Frame} {cs : List Frame} {dy : Option Dying} {w : World} : upG w.drawn (stepG.oper p listen fr cs dy w) := by
  unfold stepG.oper
  repeat' split
  all_goals first | exact apply_up | trivial
theorem exec_up {p : Program} {main listen : Bool} {fr : Frame} {cs : List Frame} {dy : Option Dying} {w : World} : upG w.drawn (stepG.exec p main listen fr cs dy w) := by
  unfold stepG.exec
  dsimp only
  split
  · split
    · apply upG_ite
      · exact Nat.le_refl _
      · trivial
    · apply upG_after
      split
      · rename_i heq
        exact upG_le (runT_eq heq) doReturn_up
      · trivial
  · split
    · apply upG_ite
      · exact Nat.le_refl _
      · trivial
    · apply upG_after
      split
      · rename_i heq
        exact upG_le (runT_eq heq) doReturn_up
      · trivial
  · exact Nat.le_refl _
  · exact Nat.le_refl _
  · exact Nat.le_refl _
  · exact Nat.le_refl _
  · exact Nat.le_refl _
  · split
    · exact Nat.le_refl _
    · trivial
  · exact Nat.le_refl _
  · exact Nat.le_refl _
  · exact Nat.le_refl _
  · exact Nat.le_refl _
  · rename_i id k _
    cases exitTo id k with
    | none =>
      dsimp only [Option.elim]
      split
      · apply upG_ite
        · exact Nat.le_refl _
        · trivial
      · apply upG_after
        split
        · rename_i heq
          exact upG_le (runT_eq heq) doReturn_up
        · trivial
    | some x => exact Nat.le_refl _
  · rename_i l k _
    cases gotoIn l k with
    | none =>
      dsimp only [Option.elim]
      split
      · apply upG_ite
        · exact Nat.le_refl _
        · trivial
      · apply upG_after
        split
        · rename_i heq
          exact upG_le (runT_eq heq) doReturn_up
        · trivial
    | some x => exact Nat.le_refl _
  · apply upG_after
    split
    · rename_i heq
      exact upG_le (runT_eq heq) apply_up
    · trivial
  · trivial
  · exact apply_up
  · apply upG_after
    split
    · rename_i heq
      exact runT_eq heq
    · rename_i heq
      exact runT_eq heq
    · trivial
  · trivial
  · exact apply_up
  · rename_i row args _ _
    cases Extern.next row with
    | none => trivial
    | some e => exact apply_up
  · apply upG_ite
    · exact Nat.le_refl _
    · split
      · rename_i h
        exact run_ok h
      · trivial
  · exact Nat.le_refl _
  · apply upG_ite
    · exact oper_up
    · exact Nat.le_refl _
theorem stepG_up (p : Program) (main : Bool) (g : Goroutine) (w : World) (listen : Bool) : upG w.drawn (stepG p main g w listen) := by
  unfold stepG
  dsimp only
  split
  · exact die_up
  · exact exec_up
  · exact unwind_up

theorem communicate_up {p : Program} {rest : Rest} {gs : Array Goroutine} {i : Nat} {g : Goroutine} {cases : Array CommCase} {blocking : Bool} {shape : CommShape} {w : World} : upS w.drawn (communicate p rest gs i g cases blocking shape w).1 := by
  unfold communicate
  dsimp only
  split
  · trivial
  · split
    · split
      · split
        · rename_i h
          unfold waitingAt at h
          split at h
          · split at h
            · cases h; exact Nat.le_refl _
            · cases h
          · cases h; exact Nat.le_refl _
        · trivial
      · exact Nat.le_refl _
    · split
      · trivial
      · rename_i h
        have hd := run_ok h
        split
        · split
          · rename_i h2
            exact Nat.le_trans hd (run_halt h2)
          · trivial
        · exact hd
        · exact hd
        · split
          · exact hd
          · split
            · rename_i h2
              have h3 := run_ok h2
              exact Nat.le_trans hd h3
            · trivial
        · exact hd
        · exact hd
        · trivial
theorem look_up {p : Program} {gs : Array Goroutine} {rest : Rest} {w : World} : upS w.drawn (look p gs rest w) := by
  unfold look
  split
  · dsimp only
    apply upS_ite
    · trivial
    · split
      · trivial
      · split
        · rename_i h
          have h3 := run_ok h
          exact h3
        · trivial
        · trivial
  · trivial
theorem drain_up (w : World) (c : Nat) : (drain w c).2.drawn = w.drawn := by
  unfold drain
  split <;> rfl
theorem retime_up (m : Machine) (k : Nat) (t : Timer) (a b : Nat) : (retime m k t a b).2.world.drawn = m.world.drawn := by
  unfold retime
  dsimp only
  split
  · exact drain_up _ _
  · rfl
theorem timer_up {m m' : Machine} {op : TimerOp} {v : Value} (h : timerOp m op = .ok (v, m')) : m.world.drawn ≤ m'.world.drawn := by
  cases op with
  | new t =>
    simp only [timerOp] at h
    split at h
    · cases h; exact Nat.le_refl _
    · split at h
      · split at h
        · cases h
        · cases h; exact Nat.le_refl _
      · cases h
  | stop var =>
    simp only [timerOp, timerOp.named] at h
    split at h
    · simp only [Except.ok.injEq] at h
      rw [← show (retime m _ _ _ _).2 = m' from congrArg Prod.snd h]
      exact Nat.le_of_eq (retime_up _ _ _ _ _).symm
    · cases h
  | reset var when_ period =>
    simp only [timerOp] at h
    split at h
    · rename_i m1 ho
      have e1 : m1.world.drawn = m.world.drawn := by
        unfold timerOp.opened at ho
        split at ho
        · split at ho
          · cases ho; rfl
          · cases ho
        · cases ho; rfl
      simp only [timerOp.named] at h
      split at h
      · simp only [Except.ok.injEq] at h
        rw [← show (retime m1 _ _ _ _).2 = m' from congrArg Prod.snd h, ← e1]
        exact Nat.le_of_eq (retime_up _ _ _ _ _).symm
      · cases h
    · cases h
  | deadline ctx read write when_ =>
    simp only [timerOp] at h
    cases h
    exact Nat.le_refl _

theorem serve_up {p : Program} {m : Machine} {k : Nat} : upS m.world.drawn (serve p m k) := by
  unfold serve
  split
  · trivial
  · exact Nat.le_refl _
  · dsimp only
    split
    · trivial
    · exact Nat.le_refl _
theorem run1_up {p : Program} {m : Machine} {i : Nat} {listen : Bool} : upS m.world.drawn (runT p m i listen).1 := by
  unfold Go.runT
  dsimp only
  have hs := fun g => stepG_up p (i == 0) g m.world listen
  generalize (m.gs.swapAt! i { (default : Goroutine) with status := .finished }) = y
  obtain ⟨g, gs⟩ := y
  dsimp only
  replace hs := hs g
  generalize stepG p (i == 0) g m.world listen = s at hs ⊢
  cases s with
  | ended o w es => trivial
  | comm g' cases blocking shape w es => exact upS_le hs communicate_up
  | go g' w es => exact hs
  | spawn g' child w es => exact hs
  | count g' w es =>
    dsimp only
    apply upS_ite
    · trivial
    · exact hs
  | alone g' on w es => exact hs
  | collect g' w es => exact upS_le hs look_up
  | watch g' w es => exact hs
  | newcoro g' c d w es => exact hs
  | coroswitch g' c exit w es =>
    dsimp only
    split
    · exact hs
    · exact hs
    · trivial
  | timer g' op w es =>
    dsimp only
    split
    · rename_i h
      have h3 := timer_up h
      exact Nat.le_trans hs h3
    · exact hs
    · trivial
    · trivial
def upM (d : Nat) : Move → Prop
  | .goroutine m _ => d ≤ m.world.drawn
  | .machine s _ => upS d s
theorem askOn_up {p : Program} {d : Nat} {m : Machine} (h : d ≤ m.world.drawn) : upM d (askOn p m) := by
  unfold askOn
  dsimp only
  split
  · trivial
  · rename_i h1
    have h2 := Nat.le_trans h (run_ok h1)
    split
    · exact upS_le h2 serve_up
    · split
      · split
        · exact h2
        · split
          · exact h2
          · split <;> trivial
      · split
        · split
          · trivial
          · rename_i p1
            have p2 := run_ok p1
            split
            · exact Nat.le_trans h2 p2
            · split
              · trivial
              · rename_i p3
                have p4 := run_ok p3
                exact Nat.le_trans h2 (Nat.le_trans p2 p4)
        · split
          · trivial
          · rename_i h3
            have h4 := Nat.le_trans h2 (run_ok h3)
            split
            · trivial
            · rename_i p1
              have p2 := run_ok p1
              split
              · exact Nat.le_trans h4 p2
              · split
                · trivial
                · rename_i p3
                  have p4 := run_ok p3
                  exact Nat.le_trans h4 (Nat.le_trans p2 p4)
          · rename_i h3
            have h4 := Nat.le_trans h2 (run_ok h3)
            exact h4
          · rename_i h3
            have h4 := Nat.le_trans h2 (run_ok h3)
            split
            · trivial
            · rename_i p1
              have p2 := run_ok p1
              split
              · exact Nat.le_trans h4 p2
              · split
                · trivial
                · rename_i p3
                  have p4 := run_ok p3
                  exact Nat.le_trans h4 (Nat.le_trans p2 p4)
theorem ask_up' {p : Program} {d : Nat} {m : Machine} (h : d ≤ m.world.drawn) : upM d (ask p m) := by
  unfold ask
  split
  · split
    · trivial
    · rename_i h1
      have h2 := Nat.le_trans h (run_ok h1)
      split
      · rename_i h3
        have h4 := look_up (p := p) (gs := m.gs) (rest := m.rest) (w := _) |> (fun x => (congrArg (fun r => upS _ r) h3).mp x)
        exact askOn_up (Nat.le_trans h2 h4)
      · exact upS_le h2 look_up
    · rename_i h1
      have h2 := Nat.le_trans h (run_ok h1)
      exact askOn_up h2
  · exact askOn_up h
theorem move_up {p : Program} {m : Machine} : upM m.world.drawn (move p m) := by
  unfold move
  split
  · split
    · exact Nat.le_refl _
    · trivial
  · split
    · split
      · exact Nat.le_refl _
      · exact ask_up' (Nat.le_refl _)
    · exact ask_up' (Nat.le_refl _)
theorem step_up {p : Program} {m : Machine} : upS m.world.drawn (step p m) := by
  unfold step stepT
  have h := move_up (p := p) (m := m)
  generalize move p m = x at h ⊢
  cases x with
  | goroutine m' i => exact upS_le h run1_up
  | machine s ops => exact h
theorem runN_up {p : Program} : ∀ (n : Nat) (m : Machine), upS m.world.drawn (runN p n m)
  | 0, m => Nat.le_refl _
  | n + 1, m => by
    have h := step_up (p := p) (m := m)
    unfold runN
    split
    · rename_i h1
      rw [h1] at h
      exact upS_le h (runN_up n _)
    · exact h
theorem Steps_up {P : Program} {m m' : Machine} (h : Steps P m m') : m.world.drawn ≤ m'.world.drawn := by
  obtain ⟨n, hn⟩ := h
  have := runN_up (p := P) n m
  rw [hn] at this
  exact this
/-- What a call leaves has drawn no less. -/
theorem calls_up {P : Program} {f : FuncId} {args : Array Value} {w : World} {R : Ending → World → Prop} (h : Calls P f args w R) : Calls P f args w fun e w' => R e w' ∧ ((∃ v, e = .returned v) → w.drawn ≤ w'.drawn) := by
  intro cs
  obtain ⟨e, w', fr, hR, hc, h1, h2⟩ := h cs
  refine ⟨e, w', fr, ⟨hR, ?_⟩, hc, h1, h2⟩
  rintro ⟨v, rfl⟩
  exact Steps_up (show Steps P (lone (Frame.enter P f args .normal) cs w) (lone fr cs w') from hc)
end Go.Proofs.YtcbpkbemnaondaaGreatDoor

/-
  slices.SortFunc at texts over this translation, by the contract that the library has proved of it: laid by program, field by field.
-/
namespace Go.Proofs
open Go.Shelf
def Tryz.sortS_ren : Go.Shelf.Ren := ⟨fun | 6 => 37 | 15 => 65 | 14 => 64 | 28 => 107 | 29 => 108 | 20 => 99 | 21 => 100 | 22 => 101 | 23 => 102 | 24 => 103 | 25 => 104 | 26 => 105 | 27 => 106 | 46 => 133 | 47 => 134 | 48 => 135 | 49 => 136 | 50 => 137 | 57 => 153 | n => n, fun | 22 => 40 | 24 => 9 | 25 => 53 | 3 => 3 | 39 => 96 | 0 => 0 | 53 => 133 | 55 => 135 | 4 => 4 | 46 => 126 | 45 => 125 | 50 => 130 | 5 => 5 | 9 => 9 | 66 => 148 | 70 => 152 | 76 => 160 | 77 => 161 | n => n, fun | n => n⟩
theorem Tryz.sortS : Go.Proofs.SlLaysF.n6 Tryz.prog Tryz.sortS_ren := {
  mixed := by kernel_rfl
  f6 := ⟨Tryz.f37.name, by decide, Tryz.func37.trans (congrArg some (by kernel_rfl))⟩
  f14 := ⟨Tryz.f64.name, by decide, Tryz.func64.trans (congrArg some (by kernel_rfl))⟩
  f15 := Tryz.func65.trans (congrArg some (by kernel_rfl))
  f20 := ⟨Tryz.f99.name, by decide, Tryz.func99.trans (congrArg some (by kernel_rfl))⟩
  f21 := ⟨Tryz.f100.name, by decide, Tryz.func100.trans (congrArg some (by kernel_rfl))⟩
  f22 := ⟨Tryz.f101.name, by decide, Tryz.func101.trans (congrArg some (by kernel_rfl))⟩
  f23 := ⟨Tryz.f102.name, by decide, Tryz.func102.trans (congrArg some (by kernel_rfl))⟩
  f24 := ⟨Tryz.f103.name, by decide, Tryz.func103.trans (congrArg some (by kernel_rfl))⟩
  f25 := ⟨Tryz.f104.name, by decide, Tryz.func104.trans (congrArg some (by kernel_rfl))⟩
  f26 := ⟨Tryz.f105.name, by decide, Tryz.func105.trans (congrArg some (by kernel_rfl))⟩
  f27 := ⟨Tryz.f106.name, by decide, Tryz.func106.trans (congrArg some (by kernel_rfl))⟩
  f28 := Tryz.func107.trans (congrArg some (by kernel_rfl))
  f29 := Tryz.func108.trans (congrArg some (by kernel_rfl))
  f46 := ⟨Tryz.f133.name, by decide, Tryz.func133.trans (congrArg some (by kernel_rfl))⟩
  f47 := Tryz.func134.trans (congrArg some (by kernel_rfl))
  f48 := Tryz.func135.trans (congrArg some (by kernel_rfl))
  f49 := ⟨Tryz.f136.name, by decide, Tryz.func136.trans (congrArg some (by kernel_rfl))⟩
  f50 := ⟨Tryz.f137.name, by decide, Tryz.func137.trans (congrArg some (by kernel_rfl))⟩
  f57 := ⟨Tryz.f153.name, by decide, Tryz.func153.trans (congrArg some (by kernel_rfl))⟩
  t0 := Tryz.underlying0
  a0 := Tryz.isAgg0
  z0 := Tryz.sizeOf0
  v0 := Tryz.zeroValue0
  t3 := Tryz.underlying3
  a3 := Tryz.isAgg3
  z3 := Tryz.sizeOf3
  v3 := Tryz.zeroValue3
  t4 := Tryz.underlying4
  a4 := Tryz.isAgg4
  z4 := Tryz.sizeOf4
  v4 := Tryz.zeroValue4
  t5 := Tryz.underlying5
  a5 := Tryz.isAgg5
  z5 := Tryz.sizeOf5
  v5 := Tryz.zeroValue5
  t9 := Tryz.underlying9
  a9 := Tryz.isAgg9
  z9 := Tryz.sizeOf9
  v9 := Tryz.zeroValue9
  t22 := Tryz.underlying40
  a22 := Tryz.isAgg40
  z22 := Tryz.sizeOf40
  v22 := Tryz.zeroValue40
  a24 := Tryz.isAgg9
  z24 := Tryz.sizeOf9
  t25 := Tryz.underlying53
  a25 := Tryz.isAgg53
  z25 := Tryz.sizeOf53
  v25 := Tryz.zeroValue53
  t39 := Tryz.underlying96
  a39 := Tryz.isAgg96
  z39 := Tryz.sizeOf96
  v39 := Tryz.zeroValue96
  t45 := Tryz.underlying125
  a45 := Tryz.isAgg125
  z45 := Tryz.sizeOf125
  v45 := Tryz.zeroValue125
  t46 := Tryz.underlying126
  a46 := Tryz.isAgg126
  z46 := Tryz.sizeOf126
  v46 := Tryz.zeroValue126
  t50 := Tryz.underlying130
  a50 := Tryz.isAgg130
  z50 := Tryz.sizeOf130
  v50 := Tryz.zeroValue130
  t53 := Tryz.underlying133
  a53 := Tryz.isAgg133
  z53 := Tryz.sizeOf133
  v53 := Tryz.zeroValue133
  t55 := Tryz.underlying135
  a55 := Tryz.isAgg135
  z55 := Tryz.sizeOf135
  v55 := Tryz.zeroValue135
  t66 := Tryz.underlying148
  a66 := Tryz.isAgg148
  z66 := Tryz.sizeOf148
  v66 := Tryz.zeroValue148
  t70 := Tryz.underlying152
  a70 := Tryz.isAgg152
  z70 := Tryz.sizeOf152
  v70 := Tryz.zeroValue152
  t76 := Tryz.underlying160
  a76 := Tryz.isAgg160
  z76 := Tryz.sizeOf160
  v76 := Tryz.zeroValue160
  t77 := Tryz.underlying161
  a77 := Tryz.isAgg161
  z77 := Tryz.sizeOf161
  v77 := Tryz.zeroValue161 }
end Go.Proofs

/-
  Texts, sorted as versions by the library's sort.
-/
namespace Go.Proofs.YtcbpkbemnaondaaGreatDoor
open Go.RowKit Go.Shelf Go.Sort Go.Lib

abbrev TxtB := { s : ByteArray // s.size ≤ 20400 }
instance : Inhabited TxtB := ⟨⟨⟨#[]⟩, by decide⟩⟩
def txtV (x : TxtB) : Value := .string x.1
def txtC (x y : TxtB) : Int := verCmp x.1 y.1
theorem grown_of {w w' : World} (h : Go.RowKit.Below w.heap.size w w') (hd : w.drawn ≤ w'.drawn) : ∃ q os', w' = grow (w.drewN q) os' := by
  refine ⟨w'.drawn - w.drawn, w'.heap.extract w.heap.size w'.heap.size, ?_⟩
  obtain ⟨heap, tape, drawn, os, output⟩ := w
  obtain ⟨heap', tape', drawn', os', output'⟩ := w'
  obtain ⟨h1, h2, h3, h4, h5⟩ := h
  dsimp only at h1 h2 h3 h4 h5 hd
  subst h1 h2 h3
  simp only [grow, World.drewN, World.mk.injEq, and_true, true_and]
  refine ⟨?_, by omega⟩
  apply Array.ext_getElem?
  intro i
  rw [Array.getElem?_append]
  split
  · rename_i hi
    exact h5 i hi
  · rename_i hi
    rw [Array.getElem?_extract]
    split
    · rw [show heap.size + (i - heap.size) = i by omega]
    · rename_i hn
      rw [Array.getElem?_eq_none (by omega)]
theorem cmpLays (blk off size : Nat) (w : World) : CmpLays1 Tryz.prog 38 #[] txtV txtC blk off size w := by
  intro m os dk hs x y
  refine (calls_up (orderV_any x.1 y.1 x.2 y.2 _)).mono ?_
  rintro e w' ⟨⟨rfl, hb⟩, hd⟩
  exact ⟨rfl, grown_of hb (hd ⟨_, rfl⟩)⟩
theorem txt_lt {x y : TxtB} : ltOf txtC x y = true ↔ verCmp x.1 y.1 < 0 := by unfold ltOf txtC; exact decide_eq_true_iff
theorem txt_nlt {x y : TxtB} : ltOf txtC x y = false ↔ ¬ verCmp x.1 y.1 < 0 := by unfold ltOf txtC; exact decide_eq_false_iff_not
theorem swo : SWO (ltOf txtC) where
  irrefl x := by rw [txt_nlt, verCmp_cmp.self]; decide
  trans x y z h1 h2 := by
    rw [txt_lt] at *
    obtain ⟨t1, t2⟩ := verCmp_cmp.trans x.1 y.1 z.1 (by omega) (by omega)
    rcases verCmp_cmp.range x.1 z.1 with e | e | e
    · omega
    · have := (t2 e).1; omega
    · omega
  ntrans x y z h1 h2 := by
    rw [txt_nlt] at *
    have n1 := verCmp_cmp.neg x.1 y.1
    have n2 := verCmp_cmp.neg y.1 z.1
    have n3 := verCmp_cmp.neg x.1 z.1
    have := (verCmp_cmp.trans z.1 y.1 x.1 (by omega) (by omega)).1
    omega

def strR : Rec ByteArray := ⟨1, fun x => [.string x], fun _ => rfl, fun x u hu => by simp at hu; rw [hu]; rfl, by decide⟩
theorem strR_flat (xs : List ByteArray) : strR.flat xs = xs.map Value.string := by
  induction xs with
  | nil => rfl
  | cons x xs ih => rw [Rec.flat_cons, ih]; rfl
def Rising (xs : List ByteArray) : Prop := xs.Pairwise fun a b => ¬ verCmp b a < 0

theorem heap_putRow {α : Type} [Inhabited α] (enc : α → Value) (w : World) (blk off k : Nat) (d : Array α) (h : k ≠ blk) : (putRow enc w blk off d).heap[k]? = w.heap[k]? := by
  simp only [putRow, mapBlock, Array.getElem?_modify]
  rw [if_neg (fun e => h e.symm)]
theorem heap_grow (w : World) (os : Array Obj) (k : Nat) (h : k < w.heap.size) : (grow w os).heap[k]? = w.heap[k]? := by
  simp [grow, Array.getElem?_append, h]
theorem sortWorld_grown {w : World} {blk n : Nat} {d : Array TxtB} {os : Array Obj} : w.grownBy (sortWorld txtV w blk 0 n d os) (some blk) := by
  refine ⟨rfl, rfl, rfl, ?_, fun k hk hne => ?_⟩
  · simp [sortWorld, grow, Sort.ahead, putRow, mapBlock]
  · unfold sortWorld
    rw [heap_grow _ _ _ (by simpa [Sort.ahead, putRow, mapBlock] using hk), heap_putRow _ _ _ _ _ _ (fun e => hne (by rw [e]))]
    rfl

set_option maxRecDepth 100000 in
theorem sort_some (g cap : Nat) (cur : Array Value) (ys : List ByteArray) (w : World) (hg : w.heap[g]? = some (.cells cur 9 (0, 0))) (hc : ys.length ≤ cap) (ht : cur.toList.take ys.length = ys.map Value.string) (hs : ∀ y ∈ ys, y.size ≤ 20400) (hl : ys.length ≤ 1000) :
    Calls Tryz.prog 37 #[.slice (some ⟨g, 0, none⟩) ys.length cap, .func (.func 38) #[] #[]] w fun e w' => e = .returned (.tuple #[]) ∧ ∃ zs : List ByteArray, zs.Perm ys ∧ Rising zs ∧ RRow strR w' (.slice (some ⟨g, 0, none⟩) ys.length cap) zs ∧ w.grownBy w' (some g) := by
  let d : Array TxtB := (ys.attach.map fun y => (⟨y.1, hs y.1 y.2⟩ : TxtB)).toArray
  have hd : d.size = ys.length := by simp [d]
  have hdi : ∀ j (h : j < ys.length), d[j]! = ⟨ys[j], hs _ (List.getElem_mem h)⟩ := by
    intro j h
    rw [getElem!_pos d j (by rw [hd]; exact h)]
    simp [d]
  have hcell : ∀ j (h : j < ys.length), w.cell? ⟨g, 0 + j, none⟩ = some (.string ys[j]) := by
    intro j h
    have : (cur.toList.take ys.length)[j]? = some (.string ys[j]) := by rw [ht]; simp [h]
    rw [List.getElem?_take_of_lt h, Array.getElem?_toList] at this
    simp [World.cell?, hg, this]
  have hH : Holds txtV w g 0 d := by
    intro j hj
    rw [hd] at hj
    refine ⟨by rw [hcell j hj, hdi j hj]; rfl, ?_⟩
    simp [World.frozen?, hg]
  have hlt : g < w.heap.size := (Array.getElem?_eq_some_iff.1 hg).1
  have hcon := Any.slices_SortFunc Tryz.sortS txtV (fun _ => rfl) txtC swo 38 #[] g 0 cap d w (enters_of Tryz.func38 (by kernel_rfl) rfl) (cmpLays g 0 d.size w) hH hlt (by rw [hd]; omega)
  rw [hd] at hcon
  refine (show Calls Tryz.prog 37 _ _ _ from hcon).mono ?_
  rintro e w' ⟨rfl, d', n, os, hp, hsd, rfl⟩
  obtain ⟨hsz, _, hperm⟩ := hp
  rw [← hd, Array.extract_size] at hperm
  have hsz' : d'.size = ys.length := by omega
  rw [show d.size = d'.size by omega, Array.extract_size] at hperm
  have hmap : d.toList.map (·.1) = ys := by simp [d]
  refine ⟨rfl, d'.toList.map (·.1), by rw [← hmap]; exact hperm.map _, ?_, ?_, sortWorld_grown⟩
  · unfold Rising
    rw [List.pairwise_map, List.pairwise_iff_getElem]
    intro i j hi hj hij
    simp only [Array.length_toList] at hi hj
    have := hsd i j (Nat.zero_le _) hij (by omega)
    rw [getElem!_pos d' i hi, getElem!_pos d' j hj, txt_nlt] at this
    simpa using this
  · have hH' : Holds txtV (sortWorld txtV w g 0 n d' os) g 0 d' := by
      have h0 := holds_putRow txtV (Sort.ahead w n) g 0 d d' hH (by omega)
      intro j hj
      obtain ⟨a, b⟩ := h0 j hj
      have hb : (sortWorld txtV w g 0 n d' os).heap[g]? = (putRow txtV (Sort.ahead w n) g 0 d').heap[g]? := heap_grow _ _ _ (by simpa [Sort.ahead, putRow, mapBlock] using hlt)
      exact ⟨(World.cell?_of_block (a := ⟨g, _, none⟩) hb).trans a, (World.frozen?_of_block (a := ⟨g, _, none⟩) hb).trans b⟩
    refine ⟨_, cap, by simp [hsz'], by simpa [hsz'] using hc, fun _ => ⟨g, 0, rfl, Nat.lt_of_lt_of_le hlt sortWorld_grown.size, RAt.mk fun j u hu => ?_⟩⟩
    rw [strR_flat] at hu
    simp only [List.map_map, List.getElem?_map, Option.map_eq_some_iff] at hu
    obtain ⟨x, hx, rfl⟩ := hu
    rw [Array.getElem?_toList] at hx
    obtain ⟨hj, hx⟩ := Array.getElem?_eq_some_iff.1 hx
    have := (hH' j hj).1
    rw [getElem!_pos d' j hj, hx] at this
    exact this
end Go.Proofs.YtcbpkbemnaondaaGreatDoor
