/- Policies, plainly: over lists of bytes, as the document says it. No program in it. -/
import Derived.Test.YthopnliaikkhbaaGreatDoorPl10
set_option linter.unusedVariables false
set_option linter.unusedSimpArgs false
namespace Go.Proofs.YthopnliaikkhbaaGreatDoor

abbrev Bs := List UInt8
structure RU where
  nm : Bs
  at_ : List Bs
structure PO where
  ru : List RU := []
  li : List Bs := []
  sc : List Bs := []
  dr : List Bs := []
  de : Int := 0
def inName (c : UInt8) : Bool := smallN c.toNat || figureN c.toNat || c.toNat == 45
/-- May a name be? -/
def nameL (l : Bs) : Bool := decide (1 ≤ l.length) && decide (l.length ≤ 20) && (l.head?.any fun c => smallN c.toNat) && l.all inName
/-- May all be, each once? -/
def namesK (seen : List Bs) : List Bs → Bool
  | [] => true
  | x :: r => nameL x && !amongL seen x && namesK (seen ++ [x]) r
def namesL (l : List Bs) : Bool := namesK [] l
def styleN : Bs := [115, 116, 121, 108, 101]
def srcdocN : Bs := [115, 114, 99, 100, 111, 99]
def onN : Bs := [111, 110]
def badA (a : Bs) : Bool := a == styleN || a == srcdocN || (decide (2 ≤ a.length) && a.take 2 == onN)
def oddN : List Bs := [[109, 97, 116, 104], [110, 111, 115, 99, 114, 105, 112, 116], [112, 108, 97, 105, 110, 116, 101, 120, 116], [115, 118, 103], [116, 101, 109, 112, 108, 97, 116, 101]]
def ruleL (r : RU) : Bool := nameL r.nm && namesL r.at_ && !isL 2 r.nm && !isL 3 r.nm && !isL 12 r.nm && !r.at_.any badA && !amongL oddN r.nm
def largeP (p : PO) : Bool := decide (40 < p.ru.length) || decide (20 < p.li.length) || decide (20 < p.sc.length) || decide (20 < p.dr.length) || p.ru.any fun r => decide (20 < r.at_.length)
/-- Rules that may stand behind others, none of which goes. -/
def rulesK (dr : List Bs) (seen : List Bs) : List RU → Bool
  | [] => true
  | r :: l => !amongL seen r.nm && ruleL r && !amongL dr r.nm && rulesK dr (seen ++ [r.nm]) l
def dataN : Bs := [100, 97, 116, 97]
def jsN : Bs := [106, 97, 118, 97, 115, 99, 114, 105, 112, 116]
def vbN : Bs := [118, 98, 115, 99, 114, 105, 112, 116]
def okP (p : PO) : Bool := (decide (1 ≤ p.de) && decide (p.de ≤ 60) && namesL p.li && namesL p.sc && namesL p.dr) && rulesK p.dr [] p.ru && !(amongL p.sc dataN || amongL p.sc jsN || amongL p.sc vbN)
def checkP (p : PO) : Int := if largeP p then 4 else if okP p then 0 else 1
/-- Where the rule of a name stands. -/
def findR (l : List RU) (n : Bs) : Option RU := l.find? fun r => r.nm == n
def ruleOf (p : PO) (n : Bs) : Option RU := if checkP p = 0 then findR p.ru n else none
def elementP (p : PO) (n : Bs) : Bool := (ruleOf p n).isSome

/-! A policy's text. -/
/-- A line's words. -/
def wordsK : Bs → Bs → List Bs
  | cur, [] => if cur = [] then [] else [cur]
  | cur, c :: r => if c = 32 then (if cur = [] then wordsK [] r else cur :: wordsK [] r) else wordsK (cur ++ [c]) r
def wordsL (l : Bs) : List Bs := wordsK [] l
/-- The number that a word says. -/
def deepL (w : Bs) : Option Nat := match w with
  | [a] => if figureN a.toNat then some (a.toNat - 48) else none
  | [a, b] => if figureN a.toNat && figureN b.toNat && !(a.toNat == 48) then some ((a.toNat - 48) * 10 + (b.toNat - 48)) else none
  | _ => none
def deepN : Bs := [100, 101, 101, 112]
def elemN : Bs := [101, 108, 101, 109, 101, 110, 116]
def linkN : Bs := [108, 105, 110, 107]
def schemeN : Bs := [115, 99, 104, 101, 109, 101]
def dropN : Bs := [100, 114, 111, 112]
/-- What a line says more; none: something else. -/
def lineL (p : PO) (s : Bs) : Option PO := match wordsL s with
  | [] => some p
  | w :: r => if s.head? = some 35 then some p
    else if w = deepN then (match r with
      | [d] => (deepL d).map fun n => { p with de := (n : Int) }
      | _ => none)
    else if w = elemN then (match r with
      | [] => none
      | n :: at_ => some { p with ru := p.ru ++ [⟨n, at_⟩] })
    else if w = linkN then some { p with li := p.li ++ r }
    else if w = schemeN then some { p with sc := p.sc ++ r }
    else if w = dropN then some { p with dr := p.dr ++ r }
    else none
/-- A text's lines. -/
def linesK : Bs → Bs → List Bs
  | cur, [] => [cur]
  | cur, c :: r => if c = 10 then cur :: linesK [] r else linesK (cur ++ [c]) r
def linesL (s : Bs) : List Bs := linesK [] s
/-- The lines, one behind the other: what they say, or the number of the first that says something else. -/
def readK : Nat → PO → List Bs → PO ⊕ Nat
  | _, p, [] => .inl p
  | n, p, l :: r => match lineL p l with
    | none => .inr (n + 1)
    | some q => readK (n + 1) q r
/-- The policy, a line's number, an error. -/
def parseP (s : Bs) : PO × Nat × Int :=
  if 2000 < s.length then ({}, 0, 4) else
  match readK 0 {} (linesL s) with
  | .inr n => ({}, n, 7)
  | .inl p => if checkP p = 0 then (p, 0, 0) else ({}, 0, checkP p)
def saidL (w : Bs) (l : List Bs) : Bs := w ++ l.flatMap (fun x => 32 :: x) ++ [10]
def figL (n : Nat) : Bs := [UInt8.ofNat (48 + n % 10)]
def numL (n : Nat) : Bs := if 10 ≤ n then figL (n / 10) ++ figL (n % 10) else figL n
def printL (p : PO) : Bs := saidL deepN [numL p.de.toNat] ++ p.ru.flatMap (fun r => saidL (elemN ++ 32 :: r.nm) r.at_) ++ (if p.li = [] then [] else saidL linkN p.li) ++ (if p.sc = [] then [] else saidL schemeN p.sc) ++ (if p.dr = [] then [] else saidL dropN p.dr)
def printP (p : PO) : Bs × Int := if checkP p = 0 then (printL p, 0) else ([], checkP p)
end Go.Proofs.YthopnliaikkhbaaGreatDoor
