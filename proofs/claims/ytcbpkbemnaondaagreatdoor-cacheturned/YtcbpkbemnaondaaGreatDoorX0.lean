/-
  Plain facts, of no program: the order of modules: by their paths, then by their versions, then by these as texts; what a module's name is, and whether it is known.
-/
import Derived.Test.YtcbpkbemnaondaaGreatDoorP13
import Derived.Test.YtcbpkbemnaondaaGreatDoorP14
import Derived.Test.YtcbpkbemnaondaaGreatDoorW8
import Derived.Test.YtcbpkbemnaondaaGreatDoorP15
import Derived.Test.YtcbpkbemnaondaaGreatDoorP18
import Derived.Test.YtcbpkbemnaondaaGreatDoorG2
import Derived.Test.YtcbpkbemnaondaaGreatDoorW5m
import Derived.Test.YtcbpkbemnaondaaGreatDoorW10
set_option linter.unusedVariables false
namespace Go.Proofs.YtcbpkbemnaondaaGreatDoor

theorem compareN_cmp : Cmp compareN where
  range a b := cmpE_range _ _
  neg a b := cmpE_neg _ _
  trans a b c := by
    intro h1 h2
    refine ⟨cmpE_trans _ _ _ h1 h2, fun e => ?_⟩
    have := compareN_eq e
    subst this
    have h3 : compareN b a = - compareN a b := cmpE_neg _ _
    omega
abbrev ModB := ByteArray × ByteArray
def verCmp (a b : ByteArray) : Int := orI (scmp a.data.toList b.data.toList) (tcmp a.data.toList b.data.toList)
def modCmp (a b : ModB) : Int := orI (compareN a.1 b.1) (verCmp a.2 b.2)
theorem verCmp_cmp : Cmp verCmp := (Cmp.or scmp_cmp tcmp_cmp).on (fun a : ByteArray => a.data.toList)
theorem modCmp_cmp : Cmp modCmp := Cmp.or (compareN_cmp.on (fun a : ModB => a.1)) (verCmp_cmp.on (fun a : ModB => a.2))
theorem modCmp_zero {a b : ModB} : modCmp a b = 0 ↔ a = b := by
  constructor
  · intro h
    obtain ⟨h1, h2⟩ := orI_zero.1 h
    obtain ⟨_, h3⟩ := orI_zero.1 h2
    exact Prod.ext (compareN_eq h1) (data_inj (tcmp_zero.1 h3))
  · rintro rfl
    exact modCmp_cmp.self a

def unl (b : Bool) (e : Int) : Int := if b then 0 else e
theorem unl_t (e : Int) : unl true e = 0 := rfl
theorem unl_f (e : Int) : unl false e = e := rfl
def atB (m : ModB) : ByteArray := if m.2.toList.isEmpty then m.1 else m.1 ++ ⟨#[64]⟩ ++ m.2
theorem atB_1 {p v : ByteArray} (h : v.toList.isEmpty = true) : atB (p, v) = p := by simp [atB, h]
theorem atB_2 {p v : ByteArray} (h : v.toList.isEmpty = false) : atB (p, v) = p ++ ⟨#[64]⟩ ++ v := by simp [atB, h]
def knownN (m : ModB) : Int := if m.2.toList.isEmpty then unl (localB m.1) 10 else orL [moduleN m.1, unl ((canonS m.2).toList == m.2.toList) 30, fitN m.1 m.2.data.toList]
theorem known_1 {p v : ByteArray} (h : v.toList.isEmpty = true) : knownN (p, v) = unl (localB p) 10 := by simp [knownN, h]
theorem known_2 {p v : ByteArray} (h : v.toList.isEmpty = false) : knownN (p, v) = orL [moduleN p, unl ((canonS v).toList == v.toList) 30, fitN p v.data.toList] := by simp [knownN, h]
theorem or3_1 {a b c : Int} (h : ¬ a = 0) : orL [a, b, c] = a := by simp [orL, orI, h]
theorem or3_2 {a b c : Int} (h : a = 0) (k : ¬ b = 0) : orL [a, b, c] = b := by simp [orL, orI, h, k]
theorem or3_3 {a b c : Int} (h : a = 0) (k : b = 0) : orL [a, b, c] = c := by subst h k; simp [orL, orI]; exact fun e => e.symm
theorem orL_two (a b : Int) : orL [a, b] = orI a b := by simp only [orL, orI_nought]
end Go.Proofs.YtcbpkbemnaondaaGreatDoor
