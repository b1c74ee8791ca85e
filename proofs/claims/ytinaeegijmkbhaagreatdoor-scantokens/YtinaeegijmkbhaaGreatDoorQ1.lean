/-
  Plain: what a source's tokens are, over lists of bytes: lines, runes, quoted texts, tokens, the next one. Of no program.
-/
import Derived.Lib.Strings
import Derived.Lib.Bytealg
import Derived.Lib.IndexLaws
set_option linter.unusedVariables false
namespace Go.Proofs.YtinaeegijmkbhaaGreatDoor

/-- One more than the line feeds. -/
def lineL : List UInt8 → Nat
  | [] => 1
  | c :: r => if c = 10 then lineL r + 1 else lineL r

/-- A rune's further byte. -/
def contB (c : UInt8) : Bool := decide (128 ≤ c.toNat) && decide (c.toNat < 192)
def contV (v : Nat) (l : List UInt8) : Nat := l.foldl (fun a c => a * 64 + (c.toNat - 128)) v
/-- A rune of n bytes that is not as short as can be, or none. -/
def offV (n v : Nat) : Bool := (n == 2 && decide (v < 128)) || (n == 3 && decide (v < 2048)) || (n == 4 && decide (v < 65536)) || decide (1114111 < v) || (decide (55296 ≤ v) && decide (v < 57344))
def wideR (n v : Nat) (r : List UInt8) : Nat := if r.length < n - 1 then 0 else if (r.take (n - 1)).all contB then (if offV n (contV v (r.take (n - 1))) then 0 else n) else 0
/-- How many bytes the rune has with which a text begins; 0: none does. -/
def wideL : List UInt8 → Nat
  | [] => 0
  | c :: r => if c.toNat < 128 then 1 else if c.toNat < 192 then 0 else if c.toNat < 224 then wideR 2 (c.toNat - 192) r else if c.toNat < 240 then wideR 3 (c.toNat - 224) r else if c.toNat < 248 then wideR 4 (c.toNat - 240) r else 0
theorem wideL_le : ∀ l, wideL l ≤ l.length
  | [] => Nat.le_refl _
  | c :: r => by
    unfold wideL wideR
    simp only [List.length_cons]
    repeat' split
    all_goals omega
/-- The place of the first byte that is no rune, or is 00. -/
def badL (k : Nat) (l : List UInt8) : Option Nat :=
  match h : l with
  | [] => none
  | c :: r => if wideL l = 0 ∨ c = 0 then some k else if h2 : wideL l = 0 then none else badL (k + wideL l) (l.drop (wideL l))
termination_by l.length
decreasing_by subst h; simp only [List.length_drop, List.length_cons]; omega

def letB (c : UInt8) : Bool := (decide (97 ≤ c.toNat) && decide (c.toNat ≤ 122)) || (decide (65 ≤ c.toNat) && decide (c.toNat ≤ 90)) || decide (c.toNat = 95) || decide (127 < c.toNat)
def digB (c : UInt8) : Bool := decide (48 ≤ c.toNat) && decide (c.toNat ≤ 57)
def nameB (c : UInt8) : Bool := letB c || digB c
def hexV (c : UInt8) : Int := if digB c then (c.toNat : Int) - 48 else if 97 ≤ c.toNat ∧ c.toNat ≤ 102 then (c.toNat : Int) - 87 else if 65 ≤ c.toNat ∧ c.toNat ≤ 70 then (c.toNat : Int) - 55 else -1
/-- The number of these digits to a base; below 0: they are none. -/
def numF (base : Int) (n : Int) : List UInt8 → Int
  | [] => n
  | c :: r => if hexV c < 0 ∨ base ≤ hexV c then -1 else numF base (n * base + hexV c) r
def numL (many : Nat) (base : Int) (l : List UInt8) : Int := if l.length < many then -1 else numF base 0 (l.take many)
def oct8 (n : Int) : UInt8 := UInt8.ofNat n.toNat
def utfL (r : Int) : List UInt8 :=
  if r < 0 ∨ 1114111 < r ∨ (55296 ≤ r ∧ r < 57344) then []
  else if r < 128 then [oct8 r]
  else if r < 2048 then [oct8 (192 + r / 64), oct8 (128 + r % 64)]
  else if r < 65536 then [oct8 (224 + r / 4096), oct8 (128 + r / 64 % 64), oct8 (128 + r % 64)]
  else [oct8 (240 + r / 262144), oct8 (128 + r / 4096 % 64), oct8 (128 + r / 64 % 64), oct8 (128 + r % 64)]
def escB (c : UInt8) : List UInt8 :=
  if c = 97 then [7] else if c = 98 then [8] else if c = 102 then [12] else if c = 110 then [10] else if c = 114 then [13] else if c = 116 then [9] else if c = 118 then [11] else if c = 92 then [92] else if c = 34 then [34] else []
/-- What a backslash says with what is behind it, and how much of that it takes. -/
def escL : List UInt8 → List UInt8 × Nat
  | [] => ([], 0)
  | c :: r =>
    if escB c ≠ [] then (escB c, 1)
    else if digB c then (if 0 ≤ numL 3 8 (c :: r) ∧ numL 3 8 (c :: r) < 256 then [oct8 (numL 3 8 (c :: r))] else [], 3)
    else if c = 120 then (if 0 ≤ numL 2 16 r then [oct8 (numL 2 16 r)] else [], 3)
    else if c = 117 then (utfL (numL 4 16 r), 5)
    else if c = 85 then (utfL (numL 8 16 r), 9)
    else ([], 1)
/-- What stands between quotes. -/
def unqL (l : List UInt8) : Option (List UInt8) :=
  match h : l with
  | [] => some []
  | c :: r => if c = 10 ∨ c = 34 then none else if c ≠ 92 then (unqL r).map (c :: ·) else if (escL r).1 = [] then none else (unqL (r.drop (escL r).2)).map ((escL r).1 ++ ·)
termination_by l.length
decreasing_by
  · subst h; simp
  · subst h; simp only [List.length_drop, List.length_cons]; omega

/-- How far it is to the quote that ends a text; none: it has no end. -/
def quoL : List UInt8 → Option Nat
  | [] => none
  | c :: r => if c = 10 then none else if c = 34 then some 0 else if c = 92 then (match r with | [] => none | d :: r' => if d = 10 then none else (quoL r').map (· + 2)) else (quoL r).map (· + 1)
/-- How far it is to a star and a slash. -/
def comL : List UInt8 → Option Nat
  | [] => none
  | [_] => none
  | a :: b :: r => if a = 42 ∧ b = 47 then some 0 else (comL (b :: r)).map (· + 1)

/-- The token with which a text begins, and how long it stands; none: its fault. -/
def tokL : List UInt8 → Option (Nat × List UInt8 × Nat)
  | [] => some (0, [], 0)
  | c :: r =>
    if letB c then some (1, (c :: r).takeWhile nameB, ((c :: r).takeWhile nameB).length)
    else if c = 96 then (if (r.takeWhile (· ≠ 96)).length = r.length then none else some (2, (r.takeWhile (· ≠ 96)).filter (· ≠ 13), (r.takeWhile (· ≠ 96)).length + 2))
    else if c = 34 then (match quoL r with | none => none | some k => (unqL (r.take k)).map fun u => (2, u, k + 2))
    else if c = 47 ∧ r.head? = some 47 then
      (if ((c :: r).takeWhile (· ≠ 10)).getLast? = some 13 then some (4, ((c :: r).takeWhile (· ≠ 10)).dropLast, ((c :: r).takeWhile (· ≠ 10)).length) else some (4, (c :: r).takeWhile (· ≠ 10), ((c :: r).takeWhile (· ≠ 10)).length))
    else if c = 47 ∧ r.head? = some 42 then (match comL (r.drop 1) with | none => none | some k => some (4, (c :: r).take (k + 4), k + 4))
    else some (3, [c], 1)

/-- A blank; a line feed, too, where no line may end. -/
def blankB (semi : Bool) (c : UInt8) : Bool := c == 32 || c == 9 || c == 13 || (c == 10 && !semi)
def blanks (semi : Bool) (l : List UInt8) : Nat := (l.takeWhile (blankB semi)).length
/-- May a line end behind it? -/
def ends (k : Nat) (t : List UInt8) : Bool := k == 1 || k == 2 || (k == 3 && (t == [41] || t == [93] || t == [125]))
structure Tok where
  kind : Nat
  text : List UInt8
  line : Nat
/-- The next token (none: the fault), its line, where the scanner is then, and may a line end there. -/
structure Step where
  tok : Option (Nat × List UInt8)
  line : Nat
  pos : Nat
  semi : Bool
def nextL (l : List UInt8) (pos : Nat) (semi : Bool) : Step :=
  let a := pos + blanks semi (l.drop pos)
  let r := l.drop a
  let line := lineL (l.take a)
  if semi && r.head? == some 10 then ⟨some (3, [10]), line, a + 1, false⟩
  else match tokL r with
    | none => ⟨none, line, pos, semi⟩
    | some (k, t, n) =>
      if semi && (k == 0 || (k == 4 && decide (1 < lineL t))) then ⟨some (3, [10]), line, a, false⟩
      else ⟨some (k, t), line, a + n, if k = 4 then semi else ends k t⟩
end Go.Proofs.YtinaeegijmkbhaaGreatDoor
