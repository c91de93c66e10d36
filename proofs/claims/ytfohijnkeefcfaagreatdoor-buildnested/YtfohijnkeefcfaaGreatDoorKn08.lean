import Derived.Test.YtfohijnkeefcfaaGreatDoorKn00
import Derived.Test.YtfohijnkeefcfaaGreatDoorKn01
import Derived.Test.YtfohijnkeefcfaaGreatDoorKn02
import Derived.Test.YtfohijnkeefcfaaGreatDoorKn07
set_option linter.unusedVariables false
set_option linter.unusedSimpArgs false
set_option maxRecDepth 100000
set_option maxHeartbeats 8000000
namespace Go.Proofs.YtfohijnkeefcfaaGreatDoor
open S5 (ND TR kidsAt nodeAt parentN appendL beforeL moveL addL withinL newL)
open S4 (Tok nextR)
abbrev Bs := List UInt8
abbrev As := List (List UInt8 × List UInt8)
structure OM where
  id : Nat
  sp : Int
  nm : Bs
structure MM where
  id : Nat
  nm : Bs
  aa : As
structure BS where
  T : TR := newL
  op : List OM := [⟨0, 0, [104, 116, 109, 108]⟩]
  mr : List MM := []
  rules : Nat := 0
  mode : Int := 0
  name : Bs := []
  fost : Bool := false
  skip : Bool := false
  e : Int := 0
def OM.v (o : OM) : S6.OV := ⟨(o.id : Int), o.sp, ⟨o.nm.toArray⟩⟩
def MM.v (m : MM) : S7.MV := ⟨(m.id : Int), ⟨m.nm.toArray⟩, m.aa, .slice none 0 0⟩
def ofV (m : S7.MV) : MM := ⟨m.id.toNat, m.nm.data.toList, m.aa⟩
def vs (l : List OM) : List S6.OV := l.map OM.v
def ms (l : List MM) : List S7.MV := l.map MM.v
def rootO : OM := ⟨0, 0, [104, 116, 109, 108]⟩
def curB (b : BS) : OM := b.op.getLast?.getD rootO
def isO (o : OM) (names : List Bs) : Bool := o.sp == 0 && S6.amongL names o.nm
def hasB (b : BS) (names : List Bs) (sc : Int) : Bool := S6.hasZ (vs b.op) names sc
def setOf (k : Int) (n : Bs) : Bool := S6.isL k n
def growB (b : BS) (d : ND) : BS × Option Nat :=
  if b.e ≠ 0 then (b, none) else if 2000 <= b.T.length then ({ b with e := 4 }, none) else ({ b with T := S5.pushL b.T d }, some b.T.length)
def putL (T : TR) (p : Nat) (before : Option Nat) (n : Nat) : TR :=
  if n = 0 \/ withinL T (before.getD p) n = true then T else match before with
    | none => appendL T p n
    | some r => beforeL T p r n
def putB (b : BS) (p : Nat) (before : Option Nat) : Option Nat -> BS
  | none => b
  | some n => { b with T := putL b.T p before n }
def ofTable : List Bs := [[116, 97, 98, 108, 101], [116, 98, 111, 100, 121], [116, 102, 111, 111, 116], [116, 104, 101, 97, 100], [116, 114]]
def ofRows : List Bs := [[116, 98, 111, 100, 121], [116, 102, 111, 111, 116], [116, 104, 101, 97, 100]]
def ofCell : List Bs := [[116, 100], [116, 104]]
def headN : List Bs := [[104, 49], [104, 50], [104, 51], [104, 52], [104, 53], [104, 54]]
def placeB (b : BS) (o : OM) : Nat × Option Nat :=
  if !b.fost || !isO o ofTable then (o.id, none) else
  match S6.lastO (S6.namedL [[116, 97, 98, 108, 101]]) (vs b.op) b.op.length with
  | none => (0, none)
  | some 0 => (0, none)
  | some (k + 1) =>
    match b.op[k + 1]? with
    | none => (0, none)
    | some t => match parentN b.T t.id with
      | some p => (p, some t.id)
      | none => (((b.op[k]?).getD rootO).id, none)
def aheadK (l : List Nat) (before : Option Nat) : Option Nat := (l.takeWhile fun x => !(some x == before)).getLast?
def textB (b : BS) (s : Bs) : BS :=
  let pl := placeB b (curB b)
  match aheadK (kidsAt b.T pl.1) pl.2 with
  | some a => if (nodeAt b.T a).kind = 2 then { b with T := addL b.T a s } else putB (growB b { kind := 2, text := s }).1 pl.1 pl.2 (growB b { kind := 2, text := s }).2
  | none => putB (growB b { kind := 2, text := s }).1 pl.1 pl.2 (growB b { kind := 2, text := s }).2
def commentB (b : BS) (s : Bs) : BS :=
  let pl := placeB b (curB b)
  putB (growB b { kind := 3, text := s }).1 pl.1 pl.2 (growB b { kind := 3, text := s }).2
def deepB (b : BS) : BS := if b.e = 0 /\ 60 < b.op.length then { b with e := 5 } else b
def insertB (b : BS) (sp : Int) (nm : Bs) (aa : As) : BS × Option Nat :=
  let b := deepB b
  let pl := placeB b (curB b)
  let g := growB b { kind := 1, space := sp, name := nm, attrs := aa }
  match g.2 with
  | none => (g.1, none)
  | some n => ({ putB g.1 pl.1 pl.2 (some n) with op := b.op ++ [⟨n, sp, nm⟩] }, some n)
def popB (b : BS) : BS := if 1 < b.op.length then { b with op := b.op.dropLast } else b
def upToB (b : BS) (names : List Bs) : BS :=
  match S6.lastO (S6.namedL names) (vs b.op) b.op.length with
  | some (k + 1) => { b with op := b.op.take (k + 1) }
  | _ => b
def impliedB (b : BS) (ex : Bs) : BS := { b with op := b.op.take (S6.leftO ⟨ex.toArray⟩ (vs b.op) b.op.length) }
def closePB (b : BS) : BS := if hasB b [[112]] 3 then upToB (impliedB b [112]) [[112]] else b
def renewK : Nat -> Nat -> BS -> BS
  | 0, _, b => b
  | k + 1, i, b => if b.e ≠ 0 then b else match b.mr[i]? with
    | none => b
    | some m => match insertB b 0 m.nm m.aa with
      | (b', none) => b'
      | (b', some n) => renewK k (i + 1) { b' with mr := b'.mr.set i ⟨n, m.nm, m.aa⟩ }
def renewB (b : BS) : BS := renewK b.mr.length (S7.renewL (ms b.mr) (b.op.map fun o => (o.id : Int))) b
def clearK (names : List Bs) : Nat -> BS -> BS
  | 0, b => b
  | k + 1, b => if decide (1 < b.op.length) && !isO (curB b) names then clearK names k (popB b) else b
def clearToB (b : BS) (names : List Bs) : BS := clearK names b.op.length b
def rulesOf (o : OM) : Option Nat :=
  if isO o ofCell then some 6 else if isO o [[116, 114]] then some 5 else if isO o ofRows then some 4 else if isO o [[99, 97, 112, 116, 105, 111, 110]] then some 2 else if isO o [[99, 111, 108, 103, 114, 111, 117, 112]] then some 3 else if isO o [[116, 97, 98, 108, 101]] then some 1 else none
def resetB (b : BS) : BS := { b with rules := ((b.op.drop 1).reverse.findSome? rulesOf).getD 0 }
def startT (t : Tok) (names : List Bs) : Bool := t.kind == 2 && S6.amongL names t.name
def stopT (t : Tok) (names : List Bs) : Bool := t.kind == 3 && S6.amongL names t.name
def skippedT (t : Tok) : Bool := t.kind == 3 && setOf 12 t.name
def ofSetT (t : Tok) : Bool := t.kind == 2 && setOf 9 t.name
def otherK (name : Bs) (b : BS) : Nat -> BS
  | 0 => b
  | i + 1 => match b.op[i + 1]? with
    | none => b
    | some o => if isO o [name] then { b with op := b.op.take (i + 1) } else if S6.specialL o.v then b else otherK name b i
def otherB (b : BS) (name : Bs) : BS := otherK name b (b.op.length - 1)
def findM (l : List MM) (id : Nat) : Option Nat := l.findIdx? fun m => m.id == id
def lastM (l : List MM) (n : Bs) : Int := S7.lastZ (ms l) ⟨n.toArray⟩
def dropMark (b : BS) (i : Nat) : BS := { b with mr := b.mr.eraseIdx i }
def lessIf (i bm : Nat) : Nat := if i < bm then bm - 1 else bm
def shutB (b : BS) (i : Nat) : BS := { b with op := b.op.eraseIdx i }
def betweenK (a block : Nat) : Nat -> Nat -> Nat -> Nat -> BS -> BS × Nat × Nat
  | 0, _, last, bm, b => (b, last, bm)
  | d + 1, k, last, bm, b =>
    if b.e ≠ 0 then (b, last, bm) else
    match b.op[a + d + 1]? with
    | none => (b, last, bm)
    | some o =>
      let m := findM b.mr o.id
      let gone := decide (3 < k) && m.isSome
      let b1 := if gone then dropMark b (m.getD 0) else b
      let bm1 := if gone then lessIf (m.getD 0) bm else bm
      match (if gone then none else m) with
      | none => betweenK a block d (k + 1) last bm1 (shutB b1 (a + d + 1))
      | some j => match growB b1 (nodeAt b1.T o.id) with
        | (b2, none) => (b2, last, bm1)
        | (b2, some n) =>
          let b3 := { b2 with op := b2.op.set (a + d + 1) { o with id := n }, mr := b2.mr.modify j fun x => { x with id := n } }
          betweenK a block d (k + 1) n (if last = block then j + 1 else bm1) { b3 with T := putL b3.T n none last }
def moveK (n : Nat) : List Nat -> TR -> TR
  | [], T => T
  | c :: r, T => moveK n r (putL T n none c)
def blockK (l : List OM) (a : Nat) : Nat -> Option Nat -> Option (Option Nat)
  | 0, f => some f
  | d + 1, f => match l[a + d + 1]? with
    | none => blockK l a d f
    | some o => if S6.endsL o.v 1 then none else blockK l a d (if S6.specialL o.v then some (a + d + 1) else f)
def adoptOnce (b : BS) (f : Nat) : BS × Bool :=
  match b.mr[f]? with
  | none => (b, false)
  | some mark => match S6.lastO (fun o => o.id == (mark.id : Int)) (vs b.op) b.op.length with
    | none => (dropMark b f, false)
    | some a => match blockK b.op a (b.op.length - 1 - a) none with
      | none => (b, false)
      | some none => (dropMark { b with op := b.op.take a } f, false)
      | some (some first) =>
        let block := (b.op[first]?).getD rootO
        let target := (b.op[a - 1]?).getD rootO
        match betweenK a block.id (first - 1 - a) 1 block.id f b with
        | (b1, last, bm) => if b1.e ≠ 0 then (b1, false) else
          let pl := placeB b1 target
          let b2 := putB b1 pl.1 pl.2 (some last)
          match growB b2 (nodeAt b2.T mark.id) with
          | (b3, none) => (b3, false)
          | (b3, some n) =>
            let T4 := putL (moveK n (kidsAt b3.T block.id) b3.T) block.id none n
            let f2 := (findM b3.mr mark.id).getD 0
            let mk5 := b3.mr.eraseIdx f2
            let bm5 := lessIf f2 bm
            let mk6 := mk5.take bm5 ++ ⟨n, mark.nm, mark.aa⟩ :: mk5.drop bm5
            let op7 := (b3.op.eraseIdx a).flatMap fun o => if o.id = block.id then [o, ⟨n, 0, mark.nm⟩] else [o]
            ({ b3 with T := T4, mr := mk6, op := op7 }, true)
def adoptK (name : Bs) : Nat -> BS -> BS
  | 0, b => b
  | k + 1, b => if b.e ≠ 0 then b else
    if lastM b.mr name < 0 then otherB b name else
    match adoptOnce b (lastM b.mr name).toNat with
    | (b', false) => b'
    | (b', true) => adoptK name k b'
def adoptB (b : BS) (name : Bs) : BS :=
  if isO (curB b) [name] && (findM b.mr (curB b).id).isNone then popB b else adoptK name 8 b
def tagB (b : BS) (t : Tok) : BS × Option Nat := insertB b 0 t.name t.attrs
def singleB (b : BS) (t : Tok) : BS := match tagB b t with
  | (b', some _) => popB b'
  | (b', none) => b'
def rawB (b : BS) (t : Tok) (mode : Int) : BS := { (tagB b t).1 with mode := mode, name := t.name }
def pushM (l : List MM) (m : MM) : List MM := (S7.pushL (ms l) m.v).map ofV
def clearM (l : List MM) : List MM := (S7.clearL (ms l)).map ofV
def markerB (b : BS) : BS := { b with mr := pushM b.mr ⟨0, [], []⟩ }
def markedB (b : BS) (t : Tok) : BS := match tagB b t with
  | (b', some n) => { b' with mr := pushM b'.mr ⟨n, t.name, t.attrs⟩ }
  | (b', none) => b'
def strangeB (b : BS) (t : Tok) (sp : Int) : BS := match insertB b sp t.name t.attrs with
  | (b', some _) => if t.closed then popB b' else b'
  | (b', none) => b'
def formB (b : BS) : Bool := (S6.lastO (S6.namedL [[102, 111, 114, 109]]) (vs b.op) b.op.length).isNone
def listedK (names : List Bs) (b : BS) : Nat -> BS
  | 0 => b
  | i + 1 => match b.op[i + 1]? with
    | none => b
    | some o => if isO o names then upToB (impliedB b o.nm) [o.nm] else if S6.specialL o.v && !isO o [[97, 100, 100, 114, 101, 115, 115], [100, 105, 118], [112]] then b else listedK names b i
def listedB (b : BS) (t : Tok) (names : List Bs) : BS := (tagB (closePB (listedK names b (b.op.length - 1))) t).1
def rubyB (b : BS) (t : Tok) : BS :=
  (tagB (if hasB b [[114, 117, 98, 121]] 1 then (if startT t [[114, 98], [114, 116, 99]] then impliedB b [] else impliedB b [114, 116, 99]) else b) t).1
def closesT (t : Tok) : Bool := startT t [[112, 108, 97, 105, 110, 116, 101, 120, 116], [112, 114, 101], [108, 105, 115, 116, 105, 110, 103], [116, 97, 98, 108, 101], [104, 114]] || setOf 6 t.name || setOf 7 t.name
def closingB (b : BS) (t : Tok) : BS :=
  if startT t [[112, 108, 97, 105, 110, 116, 101, 120, 116]] then rawB b t 3
  else if startT t [[112, 114, 101], [108, 105, 115, 116, 105, 110, 103]] then { (tagB b t).1 with skip := true }
  else if startT t [[116, 97, 98, 108, 101]] then { (tagB b t).1 with rules := 1 }
  else if startT t [[104, 114]] then singleB b t
  else (tagB (if setOf 7 t.name && isO (curB b) headN then popB b else b) t).1
def dropId (l : List MM) (id : Nat) : List MM := match findM l id with
  | none => l
  | some i => l.eraseIdx i
def againA (b : BS) : BS :=
  if lastM b.mr [97] < 0 then b else
  let id : Nat := ((b.mr[(lastM b.mr [97]).toNat]?).map fun x => x.id).getD 0
  let b1 := adoptB b [97]
  let b2 := { b1 with mr := dropId b1.mr id }
  match S6.lastO (fun o => o.id == (id : Int)) (vs b2.op) b2.op.length with
  | some (i + 1) => shutB b2 (i + 1)
  | _ => b2
def phraseA (b : BS) (t : Tok) : BS :=
  if startT t [[98, 117, 116, 116, 111, 110]] then (if hasB b [[98, 117, 116, 116, 111, 110]] 1 then upToB (impliedB b []) [[98, 117, 116, 116, 111, 110]] else b)
  else if startT t [[97]] then againA b
  else if startT t [[110, 111, 98, 114]] then (if hasB (renewB b) [[110, 111, 98, 114]] 1 then adoptB (renewB b) [110, 111, 98, 114] else renewB b)
  else if startT t [[111, 112, 116, 105, 111, 110], [111, 112, 116, 103, 114, 111, 117, 112]] then (if isO (curB b) [[111, 112, 116, 105, 111, 110]] then popB b else b)
  else b
def phraseB (b : BS) (t : Tok) : BS :=
  let b := renewB (phraseA b t)
  if setOf 5 t.name then markedB b t
  else if setOf 11 t.name then markerB (tagB b t).1
  else if startT t [[105, 109, 97, 103, 101]] then singleB b { t with name := [105, 109, 103] }
  else if startT t [[97, 114, 101, 97], [98, 114], [101, 109, 98, 101, 100], [105, 109, 103], [105, 110, 112, 117, 116], [107, 101, 121, 103, 101, 110], [119, 98, 114]] then singleB b t
  else if startT t [[115, 118, 103]] then strangeB b t 1
  else if startT t [[109, 97, 116, 104]] then strangeB b t 2
  else (tagB b t).1
def bodyStart (b : BS) (t : Tok) : BS :=
  if setOf 12 t.name then b
  else if startT t [[98, 97, 115, 101], [98, 97, 115, 101, 102, 111, 110, 116], [98, 103, 115, 111, 117, 110, 100], [108, 105, 110, 107], [109, 101, 116, 97], [112, 97, 114, 97, 109], [115, 111, 117, 114, 99, 101], [116, 114, 97, 99, 107]] then singleB b t
  else if startT t [[116, 105, 116, 108, 101]] then rawB b t 1
  else if startT t [[116, 101, 120, 116, 97, 114, 101, 97]] then { rawB b t 1 with skip := true }
  else if startT t [[115, 116, 121, 108, 101], [115, 99, 114, 105, 112, 116], [110, 111, 102, 114, 97, 109, 101, 115], [105, 102, 114, 97, 109, 101], [110, 111, 101, 109, 98, 101, 100]] then rawB b t 2
  else if startT t [[120, 109, 112]] then rawB (renewB (closePB b)) t 2
  else if startT t [[102, 111, 114, 109]] then (if formB b then (tagB (closePB b) t).1 else b)
  else if startT t [[108, 105]] then listedB b t [[108, 105]]
  else if startT t [[100, 100], [100, 116]] then listedB b t [[100, 100], [100, 116]]
  else if startT t [[114, 98], [114, 116, 99], [114, 112], [114, 116]] then rubyB b t
  else if closesT t then closingB (closePB b) t
  else phraseB b t
def endsB (b : BS) (names : List Bs) (ex : Bs) (sc : Int) : BS := if hasB b names sc then upToB (impliedB b ex) names else b
def bodyStop (b : BS) (n : Bs) : BS :=
  if setOf 12 n then b
  else if n == [112] then closePB (if hasB b [[112]] 3 then b else (insertB b 0 [112] []).1)
  else if n == [108, 105] then endsB b [[108, 105]] [108, 105] 2
  else if n == [100, 100] || n == [100, 116] then endsB b [n] n 1
  else if setOf 7 n then endsB b headN [] 1
  else if setOf 6 n || S6.amongL [[98, 117, 116, 116, 111, 110], [102, 111, 114, 109], [108, 105, 115, 116, 105, 110, 103], [112, 114, 101]] n then endsB b [n] [] 1
  else if setOf 5 n then adoptB b n
  else if setOf 11 n then (if hasB b [n] 1 then { endsB b [n] [] 1 with mr := clearM (endsB b [n] [] 1).mr } else b)
  else if n == [98, 114] then bodyStart b { kind := 2, name := [98, 114] }
  else otherB b n
def bodyB (b : BS) (t : Tok) : BS :=
  if t.kind = 1 then textB (renewB b) t.text
  else if t.kind = 4 then commentB b t.text
  else if t.kind = 2 then bodyStart b t
  else if t.kind = 3 then bodyStop b t.name
  else b
def fosterB (b : BS) (t : Tok) : BS := { bodyB { b with fost := true } t with fost := false }
def hiddenT (t : Tok) : Bool := match S4.getA t.attrs [116, 121, 112, 101] with
  | some v => S4.lowerL v == [104, 105, 100, 100, 101, 110]
  | none => false
def tableB (b : BS) (t : Tok) : BS × Option Tok :=
  if t.kind == 1 && (S6.whiteL t.text && isO (curB b) ofTable) then (textB b t.text, none)
  else if t.kind == 4 then (commentB b t.text, none)
  else if startT t [[99, 97, 112, 116, 105, 111, 110]] then ({ (tagB (markerB (clearToB b [[116, 97, 98, 108, 101]])) t).1 with rules := 2 }, none)
  else if startT t [[99, 111, 108, 103, 114, 111, 117, 112]] then ({ (tagB (clearToB b [[116, 97, 98, 108, 101]]) t).1 with rules := 3 }, none)
  else if startT t [[99, 111, 108]] then ({ (insertB (clearToB b [[116, 97, 98, 108, 101]]) 0 [99, 111, 108, 103, 114, 111, 117, 112] []).1 with rules := 3 }, some t)
  else if startT t ofRows then ({ (tagB (clearToB b [[116, 97, 98, 108, 101]]) t).1 with rules := 4 }, none)
  else if startT t [[116, 100], [116, 104], [116, 114]] then ({ (insertB (clearToB b [[116, 97, 98, 108, 101]]) 0 [116, 98, 111, 100, 121] []).1 with rules := 4 }, some t)
  else if startT t [[116, 97, 98, 108, 101]] || stopT t [[116, 97, 98, 108, 101]] then (if hasB b [[116, 97, 98, 108, 101]] 4 then (resetB (upToB b [[116, 97, 98, 108, 101]]), if t.kind == 2 then some t else none) else (b, none))
  else if startT t [[115, 116, 121, 108, 101], [115, 99, 114, 105, 112, 116]] then (bodyB b t, none)
  else if startT t [[105, 110, 112, 117, 116]] && hiddenT t then (singleB b t, none)
  else if startT t [[102, 111, 114, 109]] then (if formB b then singleB b t else b, none)
  else if skippedT t then (b, none)
  else (fosterB b t, none)
def captionB (b : BS) (t : Tok) : BS × Option Tok :=
  if ofSetT t || stopT t [[99, 97, 112, 116, 105, 111, 110], [116, 97, 98, 108, 101]] then
    (if hasB b [[99, 97, 112, 116, 105, 111, 110]] 4 then
      let b1 := upToB (impliedB b []) [[99, 97, 112, 116, 105, 111, 110]]
      ({ b1 with mr := clearM b1.mr, rules := 1 }, if stopT t [[99, 97, 112, 116, 105, 111, 110]] then none else some t)
    else (b, none))
  else if skippedT t then (b, none)
  else (bodyB b t, none)
def groupB (b0 : BS) (t0 : Tok) : BS × Option Tok :=
  let sp := t0.text.takeWhile S6.isSpace
  let b := if t0.kind == 1 && !sp.isEmpty then textB b0 sp else b0
  let t := if t0.kind == 1 then { t0 with text := t0.text.dropWhile S6.isSpace } else t0
  if t.kind == 1 && t.text.isEmpty then (b, none)
  else if t.kind == 4 then (commentB b t.text, none)
  else if startT t [[99, 111, 108]] then (singleB b t, none)
  else if stopT t [[99, 111, 108]] then (b, none)
  else if isO (curB b) [[99, 111, 108, 103, 114, 111, 117, 112]] then ({ popB b with rules := 1 }, if stopT t [[99, 111, 108, 103, 114, 111, 117, 112]] then none else some t)
  else (b, none)
def rowsB (b : BS) (t : Tok) : BS × Option Tok :=
  if startT t [[116, 114]] then ({ (tagB (clearToB b ofRows) t).1 with rules := 5 }, none)
  else if startT t ofCell then ({ (insertB (clearToB b ofRows) 0 [116, 114] []).1 with rules := 5 }, some t)
  else if ofSetT t || stopT t [[116, 97, 98, 108, 101]] then (if hasB b ofRows 4 then ({ popB (clearToB b ofRows) with rules := 1 }, some t) else (b, none))
  else if stopT t ofRows then (if hasB b [t.name] 4 then { popB (clearToB b ofRows) with rules := 1 } else b, none)
  else if skippedT t then (b, none)
  else tableB b t
def rowB (b : BS) (t : Tok) : BS × Option Tok :=
  if startT t ofCell then (markerB { (tagB (clearToB b [[116, 114]]) t).1 with rules := 6 }, none)
  else if ofSetT t || stopT t [[116, 97, 98, 108, 101], [116, 114], [116, 98, 111, 100, 121], [116, 102, 111, 111, 116], [116, 104, 101, 97, 100]] then
    (if !hasB b [[116, 114]] 4 || stopT t ofRows && !hasB b [t.name] 4 then (b, none)
    else ({ popB (clearToB b [[116, 114]]) with rules := 4 }, if stopT t [[116, 114]] then none else some t))
  else if skippedT t then (b, none)
  else tableB b t
def closeCell (b : BS) (names : List Bs) : BS :=
  let b1 := upToB (impliedB b []) names
  { b1 with mr := clearM b1.mr, rules := 5 }
def cellB (b : BS) (t : Tok) : BS × Option Tok :=
  if stopT t ofCell then (if hasB b [t.name] 4 then closeCell b [t.name] else b, none)
  else if ofSetT t then (if hasB b ofCell 4 then (closeCell b ofCell, some t) else (b, none))
  else if stopT t [[116, 97, 98, 108, 101], [116, 98, 111, 100, 121], [116, 102, 111, 111, 116], [116, 104, 101, 97, 100], [116, 114]] then (if hasB b [t.name] 4 then (closeCell b ofCell, some t) else (b, none))
  else if skippedT t then (b, none)
  else (bodyB b t, none)
def stepB (b : BS) (t : Tok) : BS × Option Tok :=
  if b.rules = 1 then tableB b t else if b.rules = 2 then captionB b t else if b.rules = 3 then groupB b t else if b.rules = 4 then rowsB b t else if b.rules = 5 then rowB b t else if b.rules = 6 then cellB b t else (bodyB b t, none)
def rulesK : Nat -> BS -> Tok -> BS
  | 0, b, _ => b
  | k + 1, b, t => match stepB b t with
    | (b', none) => b'
    | (b', some t') => if b'.e ≠ 0 then b' else rulesK k b' t'
def rulesB (b : BS) (t : Tok) : BS := rulesK (3 * b.op.length + 20) b t
def breaksT (t : Tok) : Bool :=
  if t.kind = 3 then t.name == [98, 114] || t.name == [112]
  else if t.kind = 2 /\ t.name = [102, 111, 110, 116] then (S4.getA t.attrs [99, 111, 108, 111, 114]).isSome || (S4.getA t.attrs [102, 97, 99, 101]).isSome || (S4.getA t.attrs [115, 105, 122, 101]).isSome
  else t.kind == 2 && setOf 10 t.name
def breakK : Nat -> BS -> BS
  | 0, b => b
  | k + 1, b => if (curB b).sp ≠ 0 /\ S6.pointL (curB b).v = false then breakK k (popB b) else b
def foreignK (b : BS) (t : Tok) : Nat -> BS
  | 0 => b
  | i + 1 => match b.op[i]? with
    | none => b
    | some o => if o.sp = 0 then rulesB b t else if o.nm = t.name then { b with op := b.op.take i } else foreignK b t i
def foreignB (b : BS) (t : Tok) : BS :=
  if t.kind = 1 then textB b t.text
  else if t.kind = 4 then commentB b t.text
  else if breaksT t then rulesB (breakK b.op.length b) t
  else if t.kind = 2 then strangeB b t (curB b).sp
  else if t.kind = 3 then foreignK b t b.op.length
  else b
def takeT (b : BS) (t : Tok) : BS :=
  if t.kind = 5 then b
  else if b.mode = 2 \/ b.mode = 1 then (if t.kind = 1 then textB b t.text else { popB b with mode := 0 })
  else if (curB b).sp ≠ 0 /\ ¬ (S6.pointL (curB b).v = true /\ (t.kind = 1 \/ t.kind = 2)) then foreignB b t
  else rulesB b t
def takeB (b : BS) (t : Tok) : BS :=
  let b1 := { b with skip := false }
  match t.text with
  | 10 :: r => if b.skip = true /\ t.kind = 1 then (if r = [] then b1 else takeT b1 { t with text := r }) else takeT b1 t
  | _ => takeT b1 t
def runB : Nat -> BS -> Bs -> BS
  | 0, b, _ => b
  | k + 1, b, r => if b.e ≠ 0 then b else
    if (nextR b.mode b.name (!((curB b).sp == 0)) r).1.kind = 0 then b else
    runB k (takeB b (nextR b.mode b.name (!((curB b).sp == 0)) r).1) (nextR b.mode b.name (!((curB b).sp == 0)) r).2
def buildL (s : Bs) : BS := runB (s.length + 1) {} s
def fragErr (s : Bs) : Int := if 4096 < s.length then 4 else (buildL s).e
end Go.Proofs.YtfohijnkeefcfaaGreatDoor
namespace Go.Proofs.YtfohijnkeefcfaaGreatDoor
open S5 (ND TR kidsAt nodeAt parentN appendL beforeL moveL addL withinL newL setK outL)
open S4 (Tok nextR)
abbrev FL := List (Nat × ND)
def depF (F : FL) (i : Nat) : Nat := ((F[i]?).map (·.1)).getD 0
def ndF (F : FL) (i : Nat) : ND := ((F[i]?).map (·.2)).getD {}
def kidF (F : FL) (i j : Nat) : Bool := decide (i < j) && ((depF F j == depF F i + 1) && (List.range j).all fun k => decide (k <= i) || decide (depF F i < depF F k))
def kidsF (F : FL) (i : Nat) : List Nat := (List.range F.length).filter (kidF F i)
def layF (F : FL) : TR := (List.range F.length).map fun i => (ndF F i, kidsF F i)
theorem kidF_iff (F : FL) (i j : Nat) : kidF F i j = true ↔ i < j /\ depF F j = depF F i + 1 /\ ∀ k, i < k -> k < j -> depF F i < depF F k := by
  unfold kidF
  simp only [Bool.and_eq_true, decide_eq_true_eq, beq_iff_eq, List.all_eq_true, List.mem_range, Bool.or_eq_true]
  constructor
  · rintro ⟨h1, h2, h3⟩
    refine ⟨h1, h2, fun k hk1 hk2 => ?_⟩
    rcases h3 k hk2 with h | h
    · omega
    · exact h
  · rintro ⟨h1, h2, h3⟩
    refine ⟨h1, h2, fun k hk => ?_⟩
    by_cases h : k <= i
    · exact .inl h
    · exact .inr (h3 k (by omega) hk)
theorem lay_len (F : FL) : (layF F).length = F.length := by simp [layF]
theorem lay_get (F : FL) (i : Nat) (h : i < F.length) : (layF F)[i]? = some (ndF F i, kidsF F i) := by
  unfold layF
  rw [List.getElem?_map, List.getElem?_range h]
  rfl
theorem kidsF_lt {F : FL} {i j : Nat} (h : j ∈ kidsF F i) : i < j /\ j < F.length := by
  unfold kidsF at h
  rw [List.mem_filter, List.mem_range] at h
  exact ⟨((kidF_iff F i j).1 h.2).1, h.1⟩
theorem kidsF_out {F : FL} {i : Nat} (h : F.length <= i) : kidsF F i = [] := by
  cases hk : kidsF F i with
  | nil => rfl
  | cons x r =>
    have := kidsF_lt (F := F) (i := i) (j := x) (by rw [hk]; simp)
    omega
theorem kids_lay (F : FL) (i : Nat) : kidsAt (layF F) i = kidsF F i := by
  by_cases h : i < F.length
  · unfold kidsAt
    rw [lay_get F i h]
    rfl
  · rw [kidsF_out (by omega)]
    exact S5.kidsAt_out (by rw [lay_len]; omega)
theorem node_lay (F : FL) (i : Nat) : nodeAt (layF F) i = ndF F i := by
  unfold nodeAt
  by_cases h : i < F.length
  · rw [lay_get F i h]
    rfl
  · rw [List.getElem?_eq_none (by rw [lay_len]; omega)]
    unfold ndF
    rw [List.getElem?_eq_none (by omega)]
    rfl
def RightF (F : FL) (c : Nat) : Prop := c < F.length /\ ∀ j, c < j -> j < F.length -> depF F c < depF F j
theorem dep_app (F : FL) (x : Nat × ND) (i : Nat) (h : i < F.length) : depF (F ++ [x]) i = depF F i := by unfold depF; rw [List.getElem?_append_left h]
theorem dep_new (F : FL) (x : Nat × ND) : depF (F ++ [x]) F.length = x.1 := by unfold depF; simp
theorem nd_app (F : FL) (x : Nat × ND) (i : Nat) (h : i < F.length) : ndF (F ++ [x]) i = ndF F i := by unfold ndF; rw [List.getElem?_append_left h]
theorem nd_new (F : FL) (x : Nat × ND) : ndF (F ++ [x]) F.length = x.2 := by unfold ndF; simp
theorem kidF_app (F : FL) (x : Nat × ND) (i j : Nat) (h : j < F.length) : kidF (F ++ [x]) i j = kidF F i j := by
  have e : (kidF (F ++ [x]) i j = true) ↔ (kidF F i j = true) := by
    rw [kidF_iff, kidF_iff]
    constructor
    · rintro ⟨h1, h2, h3⟩
      rw [dep_app F x j h, dep_app F x i (by omega)] at h2
      refine ⟨h1, h2, fun k hk1 hk2 => ?_⟩
      have := h3 k hk1 hk2
      rwa [dep_app F x i (by omega), dep_app F x k (by omega)] at this
    · rintro ⟨h1, h2, h3⟩
      refine ⟨h1, by rw [dep_app F x j h, dep_app F x i (by omega)]; exact h2, fun k hk1 hk2 => ?_⟩
      rw [dep_app F x i (by omega), dep_app F x k (by omega)]
      exact h3 k hk1 hk2
  exact Bool.eq_iff_iff.2 e
theorem kids_app (F : FL) (x : Nat × ND) (i : Nat) : kidsF (F ++ [x]) i = kidsF F i ++ (if kidF (F ++ [x]) i F.length = true then [F.length] else []) := by
  unfold kidsF
  rw [List.length_append, List.length_singleton, List.range_succ, List.filter_append]
  congr 1
  · exact List.filter_congr fun j hj => kidF_app F x i j (List.mem_range.1 hj)
  · rw [List.filter_cons]
    split <;> simp_all
theorem kid_new (F : FL) (c : Nat) (d : ND) (h : RightF F c) (i : Nat) : kidF (F ++ [(depF F c + 1, d)]) i F.length = decide (i = c) := by
  have e : (kidF (F ++ [(depF F c + 1, d)]) i F.length = true) ↔ i = c := by
    rw [kidF_iff, dep_new]
    constructor
    · rintro ⟨h1, h2, h3⟩
      rw [dep_app F _ i h1] at h2
      simp only [Nat.add_right_cancel_iff] at h2
      rcases Nat.lt_trichotomy i c with hc | hc | hc
      · have := h3 c hc h.1
        rw [dep_app F _ i h1, dep_app F _ c h.1] at this
        omega
      · exact hc
      · have := h.2 i hc h1
        omega
    · rintro rfl
      refine ⟨h.1, by rw [dep_app F _ i h.1], fun k hk1 hk2 => ?_⟩
      rw [dep_app F _ i h.1, dep_app F _ k hk2]
      exact h.2 k hk1 hk2
  by_cases hi : i = c
  · rw [decide_eq_true hi]; exact e.2 hi
  · rw [decide_eq_false hi]; exact Bool.eq_false_iff.2 fun h => hi (e.1 h)
theorem parent_none (F : FL) (d : ND) : parentN (S5.pushL (layF F) d) F.length = none := by
  unfold parentN
  rw [List.findIdx?_eq_none_iff]
  intro it hit
  unfold S5.pushL at hit
  rcases List.mem_append.1 hit with h | h
  · unfold layF at h
    obtain ⟨i, hi, rfl⟩ := List.mem_map.1 h
    rw [Bool.eq_false_iff]
    intro hc
    have := kidsF_lt (List.contains_iff_mem.1 hc)
    omega
  · obtain rfl := List.mem_singleton.1 h
    rfl
theorem within_none (F : FL) (d : ND) : ∀ (k n : Nat), n < F.length -> S5.withinK k (S5.pushL (layF F) d) n F.length = false := by
  intro k
  induction k with
  | zero => intro n _; rfl
  | succ k ih =>
    intro n hn
    rw [S5.withinK, if_neg (by omega)]
    cases hp : parentN (S5.pushL (layF F) d) n with
    | none => rfl
    | some p =>
      have hlt : p < F.length := by
        unfold parentN at hp
        obtain ⟨h1, h2, -⟩ := List.findIdx?_eq_some_iff_getElem.1 hp
        unfold S5.pushL at h1 h2
        rw [List.length_append, lay_len, List.length_singleton] at h1
        rcases Nat.lt_or_ge p F.length with h | h
        · exact h
        · obtain rfl : p = F.length := by omega
          rw [List.getElem_append_right (by rw [lay_len]; exact Nat.le_refl _)] at h2
          simp at h2
      exact ih p hlt
theorem set_out {T : TR} {n : Nat} (h : parentN T n = none) : outL T n = T := by unfold outL; rw [h]
theorem put_lay (F : FL) (c : Nat) (d : ND) (h : RightF F c) : putL (S5.pushL (layF F) d) c none F.length = layF (F ++ [(depF F c + 1, d)]) := by
  have h0 : F.length ≠ 0 := by have := h.1; omega
  unfold putL
  rw [if_neg (by
    rintro (h1 | h1)
    · exact h0 h1
    · have := within_none F d ((S5.pushL (layF F) d).length + 1) c h.1
      unfold withinL at h1
      simp only [Option.getD_none] at h1
      rw [this] at h1
      exact Bool.false_ne_true h1)]
  show appendL _ c F.length = _
  unfold appendL
  rw [set_out (parent_none F d)]
  apply List.ext_getElem?
  intro i
  unfold setK
  have hlen : (S5.pushL (layF F) d).length = F.length + 1 := by simp [S5.pushL, lay_len]
  have hk : kidsAt (S5.pushL (layF F) d) c = kidsF F c := by rw [S5.kids_push, kids_lay]
  have hnd : nodeAt (S5.pushL (layF F) d) c = ndF F c := by
    unfold nodeAt S5.pushL
    rw [List.getElem?_append_left (by rw [lay_len]; exact h.1), lay_get F c h.1]
    rfl
  rw [hk, hnd]
  rcases Nat.lt_trichotomy i F.length with hi | hi | hi
  · rw [lay_get _ i (by simp; omega), nd_app F _ i hi, kids_app, kid_new F c d h i]
    by_cases hc : i = c
    · subst hc
      rw [List.getElem?_set_self (by omega)]
      simp
    · rw [List.getElem?_set_ne (fun e => hc e.symm)]
      unfold S5.pushL
      rw [List.getElem?_append_left (by rw [lay_len]; exact hi), lay_get F i hi]
      simp [hc]
  · subst hi
    rw [lay_get _ F.length (by simp), nd_new, kids_app, kid_new F c d h, kidsF_out (Nat.le_refl _), List.getElem?_set_ne (by have := h.1; omega)]
    unfold S5.pushL
    rw [List.getElem?_append_right (by rw [lay_len]; exact Nat.le_refl _), lay_len, Nat.sub_self]
    have : ¬ F.length = c := by have := h.1; omega
    simp [this]
  · rw [List.getElem?_eq_none (by rw [List.length_set, hlen]; omega), List.getElem?_eq_none (by rw [lay_len]; simp; omega)]
end Go.Proofs.YtfohijnkeefcfaaGreatDoor
namespace Go.Proofs.YtfohijnkeefcfaaGreatDoor
open S5 (ND TR kidsAt nodeAt parentN appendL beforeL moveL addL withinL newL setK outL)
open S4 (Tok nextR)
def divN : Bs := [100, 105, 118]
def spanN : Bs := [115, 112, 97, 110]
def opsF (ps : List (Nat × Bs)) : List OM := rootO :: ps.map fun p => ⟨p.1, 0, p.2⟩
def stB (F : FL) (ps : List (Nat × Bs)) : BS := { T := layF F, op := opsF ps }
structure OkF (F : FL) (ps : List (Nat × Bs)) : Prop where
  root : RightF F 0 /\ depF F 0 = 0 /\ (ndF F 0).kind ≠ 2
  path : ∀ i (h : i < ps.length), RightF F ps[i].1 /\ depF F ps[i].1 = i + 1 /\ (ndF F ps[i].1).kind ≠ 2
  nm : ∀ p ∈ ps, p.2 = divN \/ p.2 = spanN
  txt : ∀ i, i + 1 < F.length -> (ndF F i).kind = 2 -> depF F (i + 1) <= depF F i
def curN (ps : List (Nat × Bs)) : Nat := ((ps.getLast?).map (·.1)).getD 0
theorem cur_id (F : FL) (ps : List (Nat × Bs)) : (curB (stB F ps)).id = curN ps /\ (curB (stB F ps)).sp = 0 := by
  unfold curB stB opsF curN
  cases h : ps.getLast? with
  | none =>
    obtain rfl := List.getLast?_eq_none_iff.1 h
    exact ⟨rfl, rfl⟩
  | some p =>
    simp only []
    rw [List.getLast?_cons, List.getLast?_map, h]
    exact ⟨rfl, rfl⟩
theorem OkF.cur {F : FL} {ps : List (Nat × Bs)} (h : OkF F ps) : RightF F (curN ps) /\ depF F (curN ps) = ps.length /\ (ndF F (curN ps)).kind ≠ 2 := by
  unfold curN
  cases hl : ps.getLast? with
  | none =>
    obtain rfl := List.getLast?_eq_none_iff.1 hl
    exact h.root
  | some p =>
    rw [List.getLast?_eq_getElem?] at hl
    obtain ⟨h1, h2⟩ := List.getElem?_eq_some_iff.1 hl
    have := h.path _ h1
    rw [h2] at this
    simp only [Option.map_some, Option.getD_some]
    exact ⟨this.1, by rw [this.2.1]; omega, this.2.2⟩
theorem OkF.pos {F : FL} {ps : List (Nat × Bs)} (h : OkF F ps) : 0 < F.length := by have := h.root.1.1; omega
theorem OkF.more {F : FL} {ps : List (Nat × Bs)} (h : OkF F ps) (d : ND) : OkF (F ++ [(ps.length + 1, d)]) ps := by
  have hr : ∀ c, RightF F c -> depF F c <= ps.length -> RightF (F ++ [(ps.length + 1, d)]) c := fun c hc hd => by
    refine ⟨by have := hc.1; simp; omega, fun j hj hl => ?_⟩
    rw [dep_app F _ c hc.1]
    rcases Nat.lt_or_ge j F.length with h1 | h1
    · rw [dep_app F _ j h1]
      exact hc.2 j hj h1
    · obtain rfl : j = F.length := by simp at hl; omega
      rw [dep_new]
      simp only []
      omega
  refine ⟨⟨hr 0 h.root.1 (by rw [h.root.2.1]; omega), ?_, ?_⟩, fun i hi => ?_, h.nm, fun i hi hk => ?_⟩
  · rw [dep_app F _ 0 h.pos]; exact h.root.2.1
  · rw [nd_app F _ 0 h.pos]; exact h.root.2.2
  · obtain ⟨h1, h2, h3⟩ := h.path i hi
    exact ⟨hr _ h1 (by omega), by rw [dep_app F _ _ h1.1]; exact h2, by rw [nd_app F _ _ h1.1]; exact h3⟩
  · rw [List.length_append, List.length_singleton] at hi
    have hi2 : i < F.length := by omega
    rw [nd_app F _ i hi2] at hk
    rw [dep_app F _ i hi2]
    rcases Nat.lt_or_ge (i + 1) F.length with h1 | h1
    · rw [dep_app F _ _ h1]
      exact h.txt i h1 hk
    · have e : i + 1 = F.length := by omega
      rw [e, dep_new]
      simp only []
      obtain ⟨c1, c2, c3⟩ := h.cur
      rcases Nat.lt_or_ge (curN ps) i with hc | hc
      · have := c1.2 i hc hi2
        omega
      · have : curN ps = i := by have := c1.1; omega
        rw [this] at c3
        exact absurd hk c3
theorem OkF.pop {F : FL} {ps : List (Nat × Bs)} {p : Nat × Bs} (h : OkF F (ps ++ [p])) : OkF F ps := by
  refine ⟨h.root, fun i hi => ?_, fun q hq => h.nm q (by simp [hq]), h.txt⟩
  have := h.path i (by simp; omega)
  simp only [List.getElem_append_left hi] at this
  exact this
theorem lay_set (F : FL) (i : Nat) (hi : i < F.length) (d : ND) : layF (F.set i (depF F i, d)) = (layF F).set i (d, kidsF F i) := by
  have hd : ∀ j, depF (F.set i (depF F i, d)) j = depF F j := fun j => by
    by_cases h : i = j
    · subst h
      unfold depF
      rw [List.getElem?_set_self hi]
      rfl
    · unfold depF
      rw [List.getElem?_set_ne h]
  have hkf : ∀ a b, kidF (F.set i (depF F i, d)) a b = kidF F a b := fun a b => by
    unfold kidF
    simp only [hd]
  have hk : ∀ j, kidsF (F.set i (depF F i, d)) j = kidsF F j := fun j => by
    unfold kidsF
    rw [List.length_set]
    exact List.filter_congr fun x _ => hkf j x
  apply List.ext_getElem?
  intro j
  rcases Nat.lt_or_ge j F.length with h | h
  · rw [lay_get _ j (by rw [List.length_set]; exact h), hk]
    by_cases he : i = j
    · subst he
      rw [List.getElem?_set_self (by rw [lay_len]; exact hi)]
      unfold ndF
      rw [List.getElem?_set_self hi]
      rfl
    · rw [List.getElem?_set_ne he, lay_get F j h]
      unfold ndF
      rw [List.getElem?_set_ne he]
  · rw [List.getElem?_eq_none (by rw [lay_len, List.length_set]; exact h), List.getElem?_eq_none (by rw [List.length_set, lay_len]; exact h)]
def txtF (F : FL) (D : Nat) (s : Bs) : FL :=
  if (ndF F (F.length - 1)).kind = 2 /\ depF F (F.length - 1) = D then F.set (F.length - 1) (D, { ndF F (F.length - 1) with text := (ndF F (F.length - 1)).text ++ s }) else F ++ [(D, { kind := 2, text := s })]
theorem take_all (p : Nat -> Bool) (hp : ∀ x, p x = true) : ∀ l : List Nat, l.takeWhile p = l
  | [] => rfl
  | x :: r => by rw [List.takeWhile_cons, if_pos (hp x), take_all p hp r]
theorem ahead_none (l : List Nat) : aheadK l none = l.getLast? := by
  unfold aheadK
  rw [take_all _ (fun x => by rfl)]
theorem text_step {F : FL} {ps : List (Nat × Bs)} (h : OkF F ps) (hl : F.length < 2000) (s : Bs) : textB (stB F ps) s = stB (txtF F (ps.length + 1) s) ps /\ OkF (txtF F (ps.length + 1) s) ps := by
  obtain ⟨c1, c2, c3⟩ := h.cur
  have hp : placeB (stB F ps) (curB (stB F ps)) = (curN ps, none) := by
    unfold placeB
    rw [if_pos (by rfl), (cur_id F ps).1]
  have hpos := h.pos
  have hgrow : ∀ d, growB (stB F ps) d = ({ stB F ps with T := S5.pushL (layF F) d }, some F.length) := fun d => by
    unfold growB
    rw [if_neg (by simp [stB]), if_neg (by simp [stB, lay_len]; omega)]
    simp [stB, lay_len]
  have hput : ∀ d, putB (growB (stB F ps) d).1 (curN ps) none (growB (stB F ps) d).2 = stB (F ++ [(ps.length + 1, d)]) ps := fun d => by
    rw [hgrow d]
    show ({ stB F ps with T := putL (S5.pushL (layF F) d) (curN ps) none F.length } : BS) = _
    rw [put_lay F (curN ps) d c1, c2]
    rfl
  unfold textB
  simp only [hp, ahead_none]
  have hk : kidsAt (stB F ps).T (curN ps) = kidsF F (curN ps) := kids_lay F (curN ps)
  rw [hk]
  by_cases ht : (ndF F (F.length - 1)).kind = 2 /\ depF F (F.length - 1) = ps.length + 1
  · have hlast : (kidsF F (curN ps)).getLast? = some (F.length - 1) := by
      have hkid : kidF F (curN ps) (F.length - 1) = true := by
        rw [kidF_iff]
        have hne : curN ps ≠ F.length - 1 := fun e => c3 (by rw [e]; exact ht.1)
        refine ⟨by have := c1.1; omega, by rw [ht.2, c2], fun k hk1 hk2 => c1.2 k hk1 (by omega)⟩
      unfold kidsF
      obtain ⟨n, hn⟩ : ∃ n, F.length = n + 1 := ⟨F.length - 1, by omega⟩
      rw [hn, Nat.add_sub_cancel] at hkid ⊢
      rw [List.range_succ, List.filter_append, List.filter_cons, if_pos hkid]
      simp
    rw [hlast]
    simp only []
    have hnd : (nodeAt (stB F ps).T (F.length - 1)) = ndF F (F.length - 1) := node_lay F _
    rw [hnd, if_pos ht.1]
    unfold txtF
    rw [if_pos ht]
    constructor
    · show ({ stB F ps with T := addL (layF F) (F.length - 1) s } : BS) = _
      unfold addL
      rw [node_lay, kids_lay, <- lay_set F (F.length - 1) (by omega), ht.2]
      rfl
    · have hd : ∀ j, depF (F.set (F.length - 1) (ps.length + 1, { ndF F (F.length - 1) with text := (ndF F (F.length - 1)).text ++ s })) j = depF F j := fun j => by
        by_cases he : F.length - 1 = j
        · subst he
          rw [ht.2]
          unfold depF
          rw [List.getElem?_set_self (by omega)]
          rfl
        · unfold depF
          rw [List.getElem?_set_ne he]
      have hkd : ∀ j, (ndF (F.set (F.length - 1) (ps.length + 1, { ndF F (F.length - 1) with text := (ndF F (F.length - 1)).text ++ s })) j).kind = (ndF F j).kind := fun j => by
        by_cases he : F.length - 1 = j
        · subst he
          conv => lhs; unfold ndF
          rw [List.getElem?_set_self (by omega)]
          rfl
        · unfold ndF
          rw [List.getElem?_set_ne he]
      have hr : ∀ c, RightF F c -> RightF (F.set (F.length - 1) (ps.length + 1, { ndF F (F.length - 1) with text := (ndF F (F.length - 1)).text ++ s })) c := fun c hc => ⟨by rw [List.length_set]; exact hc.1, fun j hj hl => by rw [hd, hd]; exact hc.2 j hj (by rw [List.length_set] at hl; exact hl)⟩
      refine ⟨⟨hr _ h.root.1, by rw [hd]; exact h.root.2.1, by rw [hkd]; exact h.root.2.2⟩, fun i hi => ?_, h.nm, fun i hi hk => ?_⟩
      · obtain ⟨h1, h2, h3⟩ := h.path i hi
        exact ⟨hr _ h1, by rw [hd]; exact h2, by rw [hkd]; exact h3⟩
      · rw [List.length_set] at hi
        rw [hkd] at hk
        rw [hd, hd]
        exact h.txt i hi hk
  · have hno : ∀ a, (kidsF F (curN ps)).getLast? = some a -> ¬ (nodeAt (stB F ps).T a).kind = 2 := fun a ha hk2 => by
      have hnd : (nodeAt (stB F ps).T a) = ndF F a := node_lay F _
      rw [hnd] at hk2
      have hmem : a ∈ kidsF F (curN ps) := List.mem_of_getLast? ha
      obtain ⟨h1, h2⟩ := kidsF_lt hmem
      have hka : kidF F (curN ps) a = true := by
        unfold kidsF at hmem
        exact (List.mem_filter.1 hmem).2
      obtain ⟨-, k2, k3⟩ := (kidF_iff F _ _).1 hka
      rcases Nat.lt_or_ge (a + 1) F.length with h3 | h3
      · have h4 := h.txt a h3 hk2
        have h5 := c1.2 (a + 1) (by omega) h3
        have hkid : kidF F (curN ps) (a + 1) = true := by
          rw [kidF_iff]
          refine ⟨by omega, by omega, fun k hk1 hk2 => c1.2 k hk1 (by omega)⟩
        have hgt : a + 1 <= a := by
          obtain ⟨ys, hys⟩ := List.getLast?_eq_some_iff.1 ha
          have hsort : (kidsF F (curN ps)).Pairwise (· < ·) := by
            unfold kidsF
            exact List.Pairwise.filter _ List.pairwise_lt_range
          have hm1 : a + 1 ∈ kidsF F (curN ps) := by
            unfold kidsF
            exact List.mem_filter.2 ⟨List.mem_range.2 h3, hkid⟩
          rw [hys] at hm1 hsort
          rcases List.mem_append.1 hm1 with h6 | h6
          · have := (List.pairwise_append.1 hsort).2.2 _ h6 a (by simp)
            omega
          · have := List.mem_singleton.1 h6
            omega
        omega
      · obtain rfl : a = F.length - 1 := by omega
        exact ht ⟨hk2, by rw [k2, c2]⟩
    unfold txtF
    rw [if_neg ht]
    refine ⟨?_, h.more _⟩
    cases hla : (kidsF F (curN ps)).getLast? with
    | none => exact hput _
    | some a =>
      simp only []
      rw [if_neg (hno a hla)]
      exact hput _
end Go.Proofs.YtfohijnkeefcfaaGreatDoor
namespace Go.Proofs.YtfohijnkeefcfaaGreatDoor
open S5 (ND TR kidsAt nodeAt parentN appendL beforeL moveL addL withinL newL setK outL)
open S4 (Tok nextR)
theorem has_none (names : List Bs) (sc : Int) (l : List S6.OV) (h : ∀ o ∈ l, S6.namedL names o = false) : ∀ k, S6.hasO names sc l k = false := by
  intro k
  induction k with
  | zero => rfl
  | succ k ih =>
    rw [S6.hasO, ih, Bool.and_false, Bool.or_false]
    cases hk : l[k]? with
    | none => rfl
    | some o => exact h o (List.mem_of_getElem? hk)
theorem vs_mem {ps : List (Nat × Bs)} {o : S6.OV} (h : o ∈ vs (opsF ps)) : o = rootO.v \/ ∃ p ∈ ps, o = (⟨p.1, 0, p.2⟩ : OM).v := by
  unfold vs opsF at h
  rw [List.map_cons, List.map_map, List.mem_cons] at h
  rcases h with h | h
  · exact .inl h
  · obtain ⟨p, hp, rfl⟩ := List.mem_map.1 h
    exact .inr ⟨p, hp, rfl⟩
theorem named_v (names : List Bs) (i : Nat) (nm : Bs) : S6.namedL names (⟨i, 0, nm⟩ : OM).v = S6.amongL names nm := by
  unfold S6.namedL S6.htmlL OM.v
  simp
theorem close_none {F : FL} {ps : List (Nat × Bs)} (h : OkF F ps) : closePB (stB F ps) = stB F ps := by
  unfold closePB hasB S6.hasZ
  rw [has_none _ _ _ (fun o ho => by
    rcases vs_mem ho with rfl | ⟨p, hp, rfl⟩
    · decide +kernel
    · rw [named_v]
      rcases h.nm p hp with e | e <;> rw [e] <;> decide +kernel), if_neg Bool.false_ne_true]
theorem take_body (F : FL) (ps : List (Nat × Bs)) (t : Tok) (h5 : t.kind ≠ 5) : takeB (stB F ps) t = bodyB (stB F ps) t := by
  have hs : ({ stB F ps with skip := false } : BS) = stB F ps := rfl
  have ht : ∀ t : Tok, t.kind ≠ 5 -> takeT (stB F ps) t = bodyB (stB F ps) t := fun t h5 => by
    unfold takeT
    rw [if_neg h5, if_neg (by simp [stB]), if_neg (by rw [(cur_id F ps).2]; simp)]
    unfold rulesB
    rw [show 3 * (stB F ps).op.length + 20 = (3 * (stB F ps).op.length + 19) + 1 from rfl, rulesK]
    have : stepB (stB F ps) t = (bodyB (stB F ps) t, none) := by
      unfold stepB
      rw [if_neg (by simp [stB]), if_neg (by simp [stB]), if_neg (by simp [stB]), if_neg (by simp [stB]), if_neg (by simp [stB]), if_neg (by simp [stB])]
    rw [this]
  unfold takeB
  simp only [hs]
  split
  · rw [if_neg (by simp [stB])]
    exact ht t h5
  · exact ht t h5
theorem take_text {F : FL} {ps : List (Nat × Bs)} (h : OkF F ps) (hl : F.length < 2000) (s : Bs) : takeB (stB F ps) { kind := 1, text := s } = stB (txtF F (ps.length + 1) s) ps := by
  rw [take_body F ps _ (by simp)]
  exact (text_step h hl s).1
def startOf (nm : Bs) : Tok := { kind := 2, name := nm }
def stopOf (nm : Bs) : Tok := { kind := 3, name := nm }
theorem ops_get (ps : List (Nat × Bs)) (p : Nat × Bs) : (opsF (ps ++ [p]))[ps.length + 1]? = some ⟨p.1, 0, p.2⟩ := by
  unfold opsF
  simp
theorem vs_get (ps : List (Nat × Bs)) (p : Nat × Bs) : (vs (opsF (ps ++ [p])))[ps.length + 1]? = some (⟨p.1, 0, p.2⟩ : OM).v := by
  unfold vs
  rw [List.getElem?_map, ops_get]
  rfl
theorem ops_len (ps : List (Nat × Bs)) : (opsF ps).length = ps.length + 1 := by simp [opsF]
theorem ops_take (ps : List (Nat × Bs)) (p : Nat × Bs) : (opsF (ps ++ [p])).take (ps.length + 1) = opsF ps := by
  unfold opsF
  simp
theorem take_stop_div {F : FL} {ps : List (Nat × Bs)} (c : Nat) : takeB (stB F (ps ++ [(c, divN)])) (stopOf divN) = stB F ps := by
  rw [take_body F _ _ (by simp [stopOf])]
  have hnm : S6.namedL [divN] (⟨c, 0, divN⟩ : OM).v = true := by rw [named_v]; decide +kernel
  have hlen : (opsF (ps ++ [(c, divN)])).length = ps.length + 1 + 1 := by simp [opsF]
  have hany : ∀ p, ((vs (opsF (ps ++ [(c, divN)])))[ps.length + 1]?).any p = p (⟨c, 0, divN⟩ : OM).v := fun p => by rw [vs_get]; rfl
  have hhas : hasB (stB F (ps ++ [(c, divN)])) [divN] 1 = true := by
    unfold hasB S6.hasZ
    show S6.hasO [divN] 1 (vs (opsF (ps ++ [(c, divN)]))) (vs (opsF (ps ++ [(c, divN)]))).length = true
    rw [show (vs (opsF (ps ++ [(c, divN)]))).length = ps.length + 1 + 1 by unfold vs; rw [List.length_map, hlen], S6.hasO, hany, hnm]
    rfl
  have himp : impliedB (stB F (ps ++ [(c, divN)])) [] = stB F (ps ++ [(c, divN)]) := by
    unfold impliedB
    show ({ stB F (ps ++ [(c, divN)]) with op := (opsF (ps ++ [(c, divN)])).take (S6.leftO ⟨([] : Bs).toArray⟩ (vs (opsF (ps ++ [(c, divN)]))) (opsF (ps ++ [(c, divN)])).length) } : BS) = _
    rw [hlen, S6.leftO, hany]
    have : S6.goesL ⟨([] : Bs).toArray⟩ (⟨c, 0, divN⟩ : OM).v = false := by
      have h8 : S6.isL 8 divN = false := by decide +kernel
      unfold S6.goesL OM.v
      simp [h8]
    rw [this, if_neg Bool.false_ne_true, <- hlen, List.take_length]
    rfl
  have hup : upToB (stB F (ps ++ [(c, divN)])) [divN] = stB F ps := by
    unfold upToB
    have : S6.lastO (S6.namedL [divN]) (vs (stB F (ps ++ [(c, divN)])).op) (stB F (ps ++ [(c, divN)])).op.length = some (ps.length + 1) := by
      show S6.lastO (S6.namedL [divN]) (vs (opsF (ps ++ [(c, divN)]))) (opsF (ps ++ [(c, divN)])).length = _
      rw [hlen, S6.lastO, hany, if_pos hnm]
    rw [this]
    show ({ stB F (ps ++ [(c, divN)]) with op := (opsF (ps ++ [(c, divN)])).take (ps.length + 1) } : BS) = _
    rw [ops_take]
    rfl
  unfold bodyB
  rw [if_neg (by simp [stopOf]), if_neg (by simp [stopOf]), if_neg (by simp [stopOf]), if_pos (by simp [stopOf])]
  show bodyStop _ divN = _
  unfold bodyStop
  rw [if_neg (by decide +kernel), if_neg (by decide +kernel), if_neg (by decide +kernel), if_neg (by decide +kernel), if_neg (by decide +kernel), if_pos (by decide +kernel)]
  unfold endsB
  rw [hhas, if_pos rfl, himp, hup]
theorem take_stop_span {F : FL} {ps : List (Nat × Bs)} (c : Nat) : takeB (stB F (ps ++ [(c, spanN)])) (stopOf spanN) = stB F ps := by
  rw [take_body F _ _ (by simp [stopOf])]
  have hlen : (opsF (ps ++ [(c, spanN)])).length = ps.length + 1 + 1 := by simp [opsF]
  unfold bodyB
  rw [if_neg (by simp [stopOf]), if_neg (by simp [stopOf]), if_neg (by simp [stopOf]), if_pos (by simp [stopOf])]
  show bodyStop _ spanN = _
  unfold bodyStop
  rw [if_neg (by decide +kernel), if_neg (by decide +kernel), if_neg (by decide +kernel), if_neg (by decide +kernel), if_neg (by decide +kernel), if_neg (by decide +kernel), if_neg (by decide +kernel), if_neg (by decide +kernel), if_neg (by decide +kernel)]
  unfold otherB
  show otherK spanN (stB F (ps ++ [(c, spanN)])) ((opsF (ps ++ [(c, spanN)])).length - 1) = _
  rw [hlen, Nat.add_sub_cancel, otherK]
  have : (stB F (ps ++ [(c, spanN)])).op[ps.length + 1]? = some ⟨c, 0, spanN⟩ := ops_get ps (c, spanN)
  rw [this]
  simp only []
  rw [if_pos (by show (((0 : Int) == 0) && S6.amongL [spanN] spanN) = true; decide +kernel)]
  show ({ stB F (ps ++ [(c, spanN)]) with op := (opsF (ps ++ [(c, spanN)])).take (ps.length + 1) } : BS) = _
  rw [ops_take]
  rfl
theorem take_stop {F : FL} {ps : List (Nat × Bs)} (c : Nat) (nm : Bs) (hn : nm = divN \/ nm = spanN) : takeB (stB F (ps ++ [(c, nm)])) (stopOf nm) = stB F ps := by
  rcases hn with rfl | rfl
  · exact take_stop_div c
  · exact take_stop_span c
end Go.Proofs.YtfohijnkeefcfaaGreatDoor
namespace Go.Proofs.YtfohijnkeefcfaaGreatDoor
open S5 (ND TR kidsAt nodeAt parentN appendL beforeL moveL addL withinL newL setK outL)
open S4 (Tok nextR)
def startA (nm : Bs) (aa : List (Bs × Bs)) : Tok := { kind := 2, name := nm, attrs := aa }
theorem OkF.pushA {F : FL} {ps : List (Nat × Bs)} (h : OkF F ps) (nm : Bs) (aa : List (Bs × Bs)) (hn : nm = divN \/ nm = spanN) : OkF (F ++ [(ps.length + 1, { kind := 1, name := nm, attrs := aa })]) (ps ++ [(F.length, nm)]) := by
  have hm := h.more { kind := 1, name := nm, attrs := aa }
  refine ⟨hm.root, fun i hi => ?_, fun p hp => ?_, hm.txt⟩
  · rw [List.length_append, List.length_singleton] at hi
    rcases Nat.lt_or_ge i ps.length with h1 | h1
    · simp only [List.getElem_append_left h1]
      exact hm.path i h1
    · obtain rfl : i = ps.length := by omega
      simp only [List.getElem_append_right (Nat.le_refl _), Nat.sub_self, List.getElem_cons_zero]
      refine ⟨⟨by simp, fun j hj hl => ?_⟩, by rw [dep_new], ?_⟩
      · simp at hl
        omega
      · rw [nd_new]
        simp
  · rcases List.mem_append.1 hp with hp | hp
    · exact h.nm p hp
    · obtain rfl := List.mem_singleton.1 hp
      exact hn
theorem insert_stepA {F : FL} {ps : List (Nat × Bs)} (h : OkF F ps) (hl : F.length < 2000) (hd : ps.length < 60) (nm : Bs) (aa : List (Bs × Bs)) :
    insertB (stB F ps) 0 nm aa = (stB (F ++ [(ps.length + 1, { kind := 1, name := nm, attrs := aa })]) (ps ++ [(F.length, nm)]), some F.length) := by
  obtain ⟨c1, c2, c3⟩ := h.cur
  have hdp : deepB (stB F ps) = stB F ps := by
    unfold deepB
    rw [if_neg (by simp [stB, opsF]; omega)]
  have hp : placeB (stB F ps) (curB (stB F ps)) = (curN ps, none) := by
    unfold placeB
    rw [if_pos (by rfl), (cur_id F ps).1]
  have hg : growB (stB F ps) { kind := 1, space := 0, name := nm, attrs := aa } = ({ stB F ps with T := S5.pushL (layF F) { kind := 1, name := nm, attrs := aa } }, some F.length) := by
    unfold growB
    rw [if_neg (by simp [stB]), if_neg (by simp [stB, lay_len]; omega)]
    simp [stB, lay_len]
  unfold insertB
  simp only [hdp, hp, hg]
  congr 1
  show ({ stB F ps with T := putL (S5.pushL (layF F) { kind := 1, name := nm, attrs := aa }) (curN ps) none F.length, op := opsF ps ++ [⟨F.length, 0, nm⟩] } : BS) = _
  rw [put_lay F (curN ps) _ c1, c2]
  unfold stB opsF
  simp
theorem div_toA (aa : List (Bs × Bs)) (b : BS) (hc : closePB b = b) : bodyB b (startA divN aa) = (tagB b (startA divN aa)).1 := by
  have h12 : setOf 12 divN = false := by decide +kernel
  have h7 : setOf 7 divN = false := by decide +kernel
  have hcl : closesT (startA divN aa) = true := (show closesT (startA divN aa) = closesT (startOf divN) from rfl).trans (by decide +kernel)
  have hs : ∀ names : List Bs, S6.amongL names divN = false -> startT (startA divN aa) names = false := fun names h => by
    unfold startT startA
    rw [h, Bool.and_false]
  unfold bodyB
  rw [if_neg (by simp [startA]), if_neg (by simp [startA]), if_pos (by simp [startA])]
  unfold bodyStart
  rw [if_neg (by show ¬ setOf 12 divN = true; rw [h12]; exact Bool.false_ne_true)]
  rw [hs _ (by decide +kernel), hs _ (by decide +kernel), hs _ (by decide +kernel), hs _ (by decide +kernel), hs _ (by decide +kernel), hs _ (by decide +kernel), hs _ (by decide +kernel), hs _ (by decide +kernel), hs _ (by decide +kernel), hcl]
  simp only [Bool.false_eq_true, if_false, if_true]
  rw [hc]
  unfold closingB
  rw [hs _ (by decide +kernel), hs _ (by decide +kernel), hs _ (by decide +kernel), hs _ (by decide +kernel)]
  simp only [Bool.false_eq_true, if_false]
  rw [show setOf 7 (startA divN aa).name = false from h7]
  simp
theorem span_toA (aa : List (Bs × Bs)) (b : BS) (hr : renewB b = b) : bodyB b (startA spanN aa) = (tagB b (startA spanN aa)).1 := by
  have hset : ∀ k, (setOf k spanN = false) -> setOf k (startA spanN aa).name = false := fun _ h => h
  have hcl : closesT (startA spanN aa) = false := (show closesT (startA spanN aa) = closesT (startOf spanN) from rfl).trans (by decide +kernel)
  have hs : ∀ names : List Bs, S6.amongL names spanN = false -> startT (startA spanN aa) names = false := fun names h => by
    unfold startT startA
    rw [h, Bool.and_false]
  unfold bodyB
  rw [if_neg (by simp [startA]), if_neg (by simp [startA]), if_pos (by simp [startA])]
  unfold bodyStart
  rw [hset 12 (by decide +kernel), hs _ (by decide +kernel), hs _ (by decide +kernel), hs _ (by decide +kernel), hs _ (by decide +kernel), hs _ (by decide +kernel), hs _ (by decide +kernel), hs _ (by decide +kernel), hs _ (by decide +kernel), hs _ (by decide +kernel), hcl]
  simp only [Bool.false_eq_true, if_false]
  have hpa : phraseA b (startA spanN aa) = b := by
    unfold phraseA
    rw [hs _ (by decide +kernel), hs _ (by decide +kernel), hs _ (by decide +kernel), hs _ (by decide +kernel)]
    simp
  unfold phraseB
  simp only [hpa, hr]
  rw [hset 5 (by decide +kernel), hset 11 (by decide +kernel), hs _ (by decide +kernel), hs _ (by decide +kernel), hs _ (by decide +kernel), hs _ (by decide +kernel)]
  simp
theorem take_startA {F : FL} {ps : List (Nat × Bs)} (h : OkF F ps) (hl : F.length < 2000) (hd : ps.length < 60) (nm : Bs) (aa : List (Bs × Bs)) (hn : nm = divN \/ nm = spanN) :
    takeB (stB F ps) (startA nm aa) = stB (F ++ [(ps.length + 1, { kind := 1, name := nm, attrs := aa })]) (ps ++ [(F.length, nm)]) := by
  rw [take_body F ps _ (by simp [startA])]
  have hi := insert_stepA h hl hd nm aa
  rcases hn with rfl | rfl
  · rw [div_toA aa _ (close_none h)]
    unfold tagB
    show (insertB (stB F ps) 0 divN aa).1 = _
    rw [hi]
  · rw [span_toA aa _ rfl]
    unfold tagB
    show (insertB (stB F ps) 0 spanN aa).1 = _
    rw [hi]
end Go.Proofs.YtfohijnkeefcfaaGreatDoor
namespace Go.Proofs.YtfohijnkeefcfaaGreatDoor
open S5 (ND TR kidsAt nodeAt parentN appendL beforeL moveL addL withinL newL setK outL)
open S4 (Tok nextR)
theorem run_step (k : Nat) (F : FL) (ps : List (Nat × Bs)) (r r' : Bs) (t : Tok) (hn : nextR 0 [] false r = (t, r')) (hk : t.kind ≠ 0) : runB (k + 1) (stB F ps) r = runB k (takeB (stB F ps) t) r' := by
  have hf : (!((curB (stB F ps)).sp == 0)) = false := by rw [(cur_id F ps).2]; rfl
  rw [runB, if_neg (by simp [stB]), hf]
  show (if (nextR 0 [] false r).1.kind = 0 then _ else runB k (takeB (stB F ps) (nextR 0 [] false r).1) (nextR 0 [] false r).2) = _
  rw [hn, if_neg hk]
theorem run_end (k : Nat) (F : FL) (ps : List (Nat × Bs)) : runB k (stB F ps) [] = stB F ps := by
  cases k with
  | zero => rfl
  | succ k =>
    have hf : (!((curB (stB F ps)).sp == 0)) = false := by rw [(cur_id F ps).2]; rfl
    rw [runB, if_neg (by simp [stB]), hf, if_pos (by rfl)]
def shutT (nm : Bs) : Bs := 60 :: 47 :: (nm ++ [62])
theorem next_shut (nm r : Bs) (hn : nm = divN \/ nm = spanN) : nextR 0 [] false (shutT nm ++ r) = (stopOf nm, r) := by
  have h := S4.data_stop nm r (by rcases hn with rfl | rfl <;> decide) (by rcases hn with rfl | rfl <;> decide +kernel)
  have e : shutT nm ++ r = 60 :: 47 :: (nm ++ 62 :: r) := by
    unfold shutT
    simp
  rw [e, h]
  rfl
def Mk (r : Bs) : Prop := r = [] \/ S4.beginsB r = true
theorem mk_shut (nm r : Bs) (hn : nm = divN \/ nm = spanN) : Mk (shutT nm ++ r) := by
  rcases hn with rfl | rfl <;> exact .inr (by rfl)
theorem begins_not (c : UInt8) (r : Bs) (h : c ≠ 60) : S4.beginsB (c :: r) = false := by
  unfold S4.beginsB
  cases r with
  | nil => rfl
  | cons d q => simp [h]
theorem span_text : ∀ (s r : Bs), (∀ c ∈ s, c ≠ 60) -> Mk r -> S4.spanT (s ++ r) = (s, r)
  | [], r, _, hr => by
    rcases hr with rfl | hr
    · rfl
    · cases r with
      | nil => rfl
      | cons c q => rw [List.nil_append, S4.spanT, if_pos hr]
  | c :: s, r, h, hr => by
    rw [List.cons_append, S4.spanT, if_neg (by rw [begins_not c _ (h c (by simp))]; exact Bool.false_ne_true), span_text s r (fun x hx => h x (by simp [hx])) hr]
theorem next_text (s r : Bs) (h0 : s ≠ []) (h : ∀ c ∈ s, c ≠ 60) (hr : Mk r) : nextR 0 [] false (s ++ r) = ({ kind := 1, text := S4.decL false s }, r) := by
  cases s with
  | nil => exact absurd rfl h0
  | cons c s =>
    unfold nextR
    rw [if_neg (by simp), if_neg (by decide), if_pos (by decide)]
    unfold S4.dataL
    rw [List.cons_append, List.length_cons, S4.dataK, if_neg (by simp), if_pos (begins_not c _ (h c (by simp))), <- List.cons_append, span_text (c :: s) r h hr]
def xs (p : Nat) : Bs := List.replicate p 120
theorem txt_len (F : FL) (D : Nat) (s : Bs) : F.length <= (txtF F D s).length /\ (txtF F D s).length <= F.length + 1 := by
  unfold txtF
  split
  · rw [List.length_set]; omega
  · simp
theorem nd_set (F : FL) (i D : Nat) (d : ND) (h : i < F.length) : ndF (F.set i (D, d)) i = d := by
  unfold ndF
  rw [List.getElem?_set_self h]
  rfl
theorem start_ok : OkF [(0, {})] [] := by
  refine ⟨⟨⟨by simp, fun j h1 h2 => ?_⟩, rfl, by decide⟩, (fun i h => absurd h (by simp)), (fun p hp => absurd hp (by simp)), (fun i h => absurd h (by simp))⟩
  simp at h2
  omega
theorem start_eq : ({} : BS) = stB [(0, {})] [] := rfl
end Go.Proofs.YtfohijnkeefcfaaGreatDoor
namespace Go.Proofs.YtfohijnkeefcfaaGreatDoor
open S5 (ND TR kidsAt nodeAt)
def flK : Nat -> TR -> Nat -> Nat -> FL
  | 0, T, d, n => [(d, nodeAt T n)]
  | k + 1, T, d, n => (d, nodeAt T n) :: (kidsAt T n).flatMap fun c => flK k T (d + 1) c
structure VF (F : FL) : Prop where
  pos : 0 < F.length
  root : depF F 0 = 0
  step : ∀ i, i + 1 < F.length -> 0 < depF F (i + 1) /\ depF F (i + 1) <= depF F i + 1
def stopAt (F : FL) (i e : Nat) : Prop := i < e /\ e <= F.length /\ (∀ k, i < k -> k < e -> depF F i < depF F k) /\ (e < F.length -> depF F e <= depF F i)
theorem stop_ex (F : FL) (i : Nat) (hi : i < F.length) : ∀ n, ∀ p, F.length - p <= n -> i < p -> p <= F.length -> (∀ k, i < k -> k < p -> depF F i < depF F k) -> ∃ e, p <= e /\ stopAt F i e := by
  intro n
  induction n with
  | zero => intro p h1 h2 h3 h4; exact ⟨p, Nat.le_refl _, h2, h3, h4, fun h => by omega⟩
  | succ n ih =>
    intro p h1 h2 h3 h4
    by_cases hp : p < F.length /\ depF F i < depF F p
    · obtain ⟨e, h5, h6⟩ := ih (p + 1) (by omega) (by omega) (by omega) (fun k k1 k2 => by
        by_cases hk : k = p
        · subst hk; exact hp.2
        · exact h4 k k1 (by omega))
      exact ⟨e, by omega, h6⟩
    · exact ⟨p, Nat.le_refl _, h2, h3, h4, fun h => by
        rw [not_and] at hp
        have := hp h
        omega⟩
theorem stop_of (F : FL) (i : Nat) (hi : i < F.length) : ∃ e, stopAt F i e := by
  obtain ⟨e, -, h⟩ := stop_ex F i hi F.length (i + 1) (by omega) (by omega) (by omega) (fun k h1 h2 => by omega)
  exact ⟨e, h⟩
theorem kids_from (F : FL) (i e p : Nat) (hs : stopAt F i e) (hp : i < p) (hpe : p < e) (hd : depF F p = depF F i + 1) (p' : Nat) (hs' : stopAt F p p') : p' <= e /\ (p' < e -> depF F p' = depF F i + 1) /\
    (kidsF F i).filter (fun j => decide (p <= j)) = p :: (kidsF F i).filter (fun j => decide (p' <= j)) := by
  obtain ⟨s1, s2, s3, s4⟩ := hs
  obtain ⟨t1, t2, t3, t4⟩ := hs'
  have hle : p' <= e := by
    rcases Nat.lt_or_ge e p' with h | h
    · have h1 := t3 e hpe h
      have h2 := s4 (by omega)
      omega
    · exact h
  refine ⟨hle, fun h => ?_, ?_⟩
  · have h1 := t4 (by omega)
    have h2 := s3 p' (by omega) h
    omega
  · unfold kidsF
    rw [List.filter_filter, List.filter_filter]
    have hkid : kidF F i p = true := by
      rw [kidF_iff]
      exact ⟨hp, hd, fun k k1 k2 => s3 k k1 (by omega)⟩
    obtain ⟨m, hm⟩ : ∃ m, F.length = p + 1 + m := ⟨F.length - (p + 1), by omega⟩
    have e1 : List.range F.length = List.range p ++ p :: (List.range m).map (p + 1 + ·) := by
      rw [hm, List.range_add, List.range_succ, List.append_assoc]
      rfl
    rw [e1, List.filter_append, List.filter_append, List.filter_cons, List.filter_cons]
    have h1 : (List.range p).filter (fun a => decide (p <= a) && kidF F i a) = [] := by
      rw [List.filter_eq_nil_iff]
      intro a ha
      have := List.mem_range.1 ha
      simp; omega
    have h2 : (List.range p).filter (fun a => decide (p' <= a) && kidF F i a) = [] := by
      rw [List.filter_eq_nil_iff]
      intro a ha
      have := List.mem_range.1 ha
      simp; omega
    rw [h1, h2, if_pos (by simp [hkid]), if_neg (by simp; omega)]
    simp only [List.nil_append]
    congr 1
    apply List.filter_congr
    intro a ha
    obtain ⟨b, hb, rfl⟩ := List.mem_map.1 ha
    have hb2 := List.mem_range.1 hb
    by_cases h : p' <= p + 1 + b
    · rw [decide_eq_true h, decide_eq_true (by omega : p <= p + 1 + b)]
    · rw [decide_eq_false h, Bool.false_and]
      have : kidF F i (p + 1 + b) = false := by
        rw [Bool.eq_false_iff]
        intro hk
        obtain ⟨-, k2, -⟩ := (kidF_iff F i _).1 hk
        have := t3 (p + 1 + b) (by omega) (by omega)
        omega
      rw [this, Bool.and_false]
theorem kids_stop (F : FL) (i e : Nat) (hs : stopAt F i e) : (kidsF F i).filter (fun j => decide (e <= j)) = [] := by
  rw [List.filter_eq_nil_iff]
  intro a ha h
  have h1 : e <= a := by simpa using h
  obtain ⟨h2, h3⟩ := kidsF_lt ha
  unfold kidsF at ha
  obtain ⟨-, k2, k3⟩ := (kidF_iff F i a).1 (List.mem_filter.1 ha).2
  have h4 := hs.2.2.2 (by omega)
  rcases Nat.eq_or_lt_of_le h1 with h5 | h5
  · subst h5; omega
  · have := k3 e hs.1 h5
    omega
theorem get_pair (F : FL) (i : Nat) (h : i < F.length) : F[i] = (depF F i, ndF F i) := by
  unfold depF ndF
  rw [List.getElem?_eq_getElem h]
  rfl
theorem take_split (F : FL) (p q e : Nat) (h1 : p <= q) (h2 : q <= e) : (F.drop p).take (e - p) = (F.drop p).take (q - p) ++ (F.drop q).take (e - q) := by
  have : e - p = (q - p) + (e - q) := by omega
  rw [this, List.take_add, List.drop_drop, show p + (q - p) = q by omega]
theorem fl_seg (F : FL) (hv : VF F) : ∀ (k i e : Nat), i < F.length -> F.length <= i + k -> stopAt F i e -> flK k (layF F) (depF F i) i = (F.drop i).take (e - i) := by
  intro k
  induction k with
  | zero => intro i e h1 h2 _; omega
  | succ k ih =>
    intro i e hi hk hs
    have hs0 := hs
    obtain ⟨s1, s2, s3, s4⟩ := hs
    rw [flK, node_lay, kids_lay]
    have key : ∀ n p, e - p <= n -> i < p -> p <= e -> (p < e -> depF F p = depF F i + 1) -> ((kidsF F i).filter (fun j => decide (p <= j))).flatMap (fun c => flK k (layF F) (depF F i + 1) c) = (F.drop p).take (e - p) := by
      intro n
      induction n with
      | zero =>
        intro p h1 h2 h3 h4
        obtain rfl : p = e := by omega
        rw [kids_stop F i p hs0, Nat.sub_self]
        rfl
      | succ n ihn =>
        intro p h1 h2 h3 h4
        rcases Nat.lt_or_ge p e with hpe | hpe
        · obtain ⟨p', hs'⟩ := stop_of F p (by omega)
          obtain ⟨g1, g2, g3⟩ := kids_from F i e p hs0 h2 hpe (h4 hpe) p' hs'
          rw [g3, List.flatMap_cons, ihn p' (by have := hs'.1; omega) (by have := hs'.1; omega) g1 g2, <- h4 hpe, ih p p' (by omega) (by omega) hs', <- take_split F p p' e (by have := hs'.1; omega) g1]
        · obtain rfl : p = e := by omega
          rw [kids_stop F i p hs0, Nat.sub_self]
          rfl
    have hall : (kidsF F i).filter (fun j => decide (i + 1 <= j)) = kidsF F i := by
      rw [List.filter_eq_self]
      intro a ha
      have := (kidsF_lt ha).1
      simp; omega
    have hk1 := key (e - (i + 1)) (i + 1) (Nat.le_refl _) (by omega) (by omega) (fun h => by
      have h1 := (hv.step i (by omega)).2
      have h2 := s3 (i + 1) (by omega) h
      omega)
    rw [hall] at hk1
    rw [hk1]
    have : (F.drop i).take (e - i) = F[i] :: (F.drop (i + 1)).take (e - (i + 1)) := by
      rw [List.drop_eq_getElem_cons hi, show e - i = (e - (i + 1)) + 1 by omega, List.take_succ_cons]
    rw [this, get_pair F i hi]
theorem fl_all (F : FL) (hv : VF F) (k : Nat) (hk : F.length <= k) : flK k (layF F) 0 0 = F := by
  have hs : stopAt F 0 F.length := ⟨hv.pos, Nat.le_refl _, fun j h1 h2 => by
    rw [hv.root]
    obtain ⟨i, rfl⟩ : ∃ i, j = i + 1 := ⟨j - 1, by omega⟩
    exact (hv.step i h2).1, fun h => by omega⟩
  have := fl_seg F hv k 0 F.length hv.pos (by omega) hs
  rw [hv.root, Nat.sub_zero, List.drop_zero, List.take_length] at this
  exact this
end Go.Proofs.YtfohijnkeefcfaaGreatDoor
namespace Go.Proofs.YtfohijnkeefcfaaGreatDoor
open S5 (ND TR kidsAt nodeAt)
def lastD (F : FL) : Nat := depF F (F.length - 1)
theorem VF.app {F : FL} (hv : VF F) (D : Nat) (d : ND) (hD : D <= lastD F) : VF (F ++ [(D + 1, d)]) /\ lastD (F ++ [(D + 1, d)]) = D + 1 := by
  have hp := hv.pos
  have hl : (F ++ [(D + 1, d)]).length - 1 = F.length := by simp
  refine ⟨⟨by simp, by rw [dep_app F _ 0 hp]; exact hv.root, fun i hi => ?_⟩, by unfold lastD; rw [hl, dep_new]⟩
  rw [List.length_append, List.length_singleton] at hi
  rw [dep_app F _ i (by omega)]
  rcases Nat.lt_or_ge (i + 1) F.length with h | h
  · rw [dep_app F _ (i + 1) h]
    exact hv.step i h
  · have e : i + 1 = F.length := by omega
    rw [e, dep_new]
    unfold lastD at hD
    have e2 : F.length - 1 = i := by omega
    rw [e2] at hD
    simp only []
    omega
theorem root_vf : VF [(0, {})] := ⟨by simp, rfl, fun i h => by simp at h⟩
end Go.Proofs.YtfohijnkeefcfaaGreatDoor
namespace Go.Proofs.YtfohijnkeefcfaaGreatDoor
open S7 (MV behindG markerM behindL tailM firstO lastG likeM goneO withoutZ pushL clearL dropL insertL lastZ findZ renewL nameM idM stopM atN placeZ)
abbrev Core := Int × ByteArray × List (List UInt8 × List UInt8)
def core (m : MV) : Core := (m.id, m.nm, m.aa)
def Sim (l r : List MV) : Prop := l.map core = r.map core
theorem Sim.len {l r : List MV} (h : Sim l r) : l.length = r.length := by have := congrArg List.length h; simpa using this
theorem Sim.any {l r : List MV} (h : Sim l r) (p : MV -> Bool) (q : MV -> Bool) (hpq : ∀ x y, core x = core y -> p x = q y) (k : Nat) : (l[k]?).any p = (r[k]?).any q := by
  have e := congrArg (·[k]?) h
  simp only [List.getElem?_map] at e
  cases h1 : l[k]? with
  | none =>
    cases h2 : r[k]? with
    | none => rfl
    | some y => rw [h1, h2] at e; cases e
  | some x =>
    cases h2 : r[k]? with
    | none => rw [h1, h2] at e; cases e
    | some y =>
      rw [h1, h2] at e
      exact hpq x y (by simpa using e)
theorem Sim.behind {l r : List MV} (h : Sim l r) (p q : MV -> Bool) (hpq : ∀ x y, core x = core y -> p x = q y) : ∀ k, behindG p l k = behindG q r k := by
  intro k
  induction k with
  | zero => rfl
  | succ k ih => rw [behindG, behindG, h.any p q hpq k, ih]
theorem first_sim (p q : MV -> Bool) (hpq : ∀ x y, core x = core y -> p x = q y) : ∀ l r : List MV, Sim l r -> firstO p l = firstO q r
  | [], [], _ => rfl
  | [], _ :: _, h => by cases h
  | _ :: _, [], h => by cases h
  | x :: l, y :: r, h => by
    injection h with h1 h2
    rw [firstO, firstO, hpq x y h1, first_sim p q hpq l r h2]
theorem count_sim (p q : MV -> Bool) (hpq : ∀ x y, core x = core y -> p x = q y) : ∀ l r : List MV, Sim l r -> l.countP p = r.countP q
  | [], [], _ => rfl
  | [], _ :: _, h => by cases h
  | _ :: _, [], h => by cases h
  | x :: l, y :: r, h => by
    injection h with h1 h2
    rw [List.countP_cons, List.countP_cons, hpq x y h1, count_sim p q hpq l r h2]
theorem Sim.drop {l r : List MV} (h : Sim l r) (k : Nat) : Sim (l.drop k) (r.drop k) := by unfold Sim at *; rw [List.map_drop, List.map_drop, h]
theorem Sim.take {l r : List MV} (h : Sim l r) (k : Nat) : Sim (l.take k) (r.take k) := by unfold Sim at *; rw [List.map_take, List.map_take, h]
theorem Sim.app {l r a b : List MV} (h : Sim l r) (h2 : Sim a b) : Sim (l ++ a) (r ++ b) := by unfold Sim at *; rw [List.map_append, List.map_append, h, h2]
theorem Sim.erase {l r : List MV} (h : Sim l r) (k : Nat) : Sim (l.eraseIdx k) (r.eraseIdx k) := by
  rw [List.eraseIdx_eq_take_drop_succ, List.eraseIdx_eq_take_drop_succ]
  exact (h.take k).app (h.drop (k + 1))
theorem marker_sim (x y : MV) (h : core x = core y) : markerM x = markerM y := by
  have : x.id = y.id := congrArg (·.1) h
  unfold markerM
  rw [this]
theorem like_sim (m n : MV) (hm : core m = core n) (x y : MV) (h : core x = core y) : likeM m x = likeM n y := by
  have e1 : x.nm = y.nm := congrArg (·.2.1) h
  have e2 : x.aa = y.aa := congrArg (·.2.2) h
  have e3 : m.nm = n.nm := congrArg (·.2.1) hm
  have e4 : m.aa = n.aa := congrArg (·.2.2) hm
  unfold likeM
  rw [e1, e2, e3, e4]
theorem behind_sim {l r : List MV} (h : Sim l r) : behindL l = behindL r := by
  unfold behindL
  rw [h.len]
  exact h.behind _ _ marker_sim _
theorem gone_sim {l r : List MV} (h : Sim l r) (m n : MV) (hm : core m = core n) : goneO l m = goneO r n := by
  have hid : m.id = n.id := congrArg (·.1) hm
  have ht : Sim (tailM l) (tailM r) := by unfold tailM; rw [behind_sim h]; exact h.drop _
  unfold goneO
  rw [hid, count_sim _ _ (like_sim m n hm) _ _ ht, first_sim _ _ (like_sim m n hm) _ _ ht, behind_sim h]
theorem without_sim {l r : List MV} (h : Sim l r) (z : Int) : Sim (withoutZ l z) (withoutZ r z) := by
  unfold withoutZ
  split
  · exact h
  · exact h.erase _
theorem one_sim {m n : MV} (hm : core m = core n) : Sim [m] [n] := by unfold Sim; simp [hm]
theorem push_sim {l r : List MV} (h : Sim l r) (m n : MV) (hm : core m = core n) : Sim (pushL l m) (pushL r n) := by
  unfold pushL
  rw [gone_sim h m n hm]
  exact (without_sim h _).app (one_sim hm)
theorem renew_sim {l r : List MV} (h : Sim l r) (zs : List Int) : renewL l zs = renewL r zs := by
  unfold renewL
  rw [h.len]
  exact h.behind _ _ (fun x y e => by
    have : x.id = y.id := congrArg (·.1) e
    unfold stopM
    rw [this]) _
def IsM (l : List MV) (mr : List MM) : Prop := Sim l (ms mr)
theorem isM_of (l : List MV) (h : ∀ x ∈ l, 0 <= x.id) : IsM l (l.map ofV) := by
  unfold IsM Sim ms
  rw [List.map_map, List.map_map]
  apply List.map_congr_left
  intro x hx
  have := h x hx
  show (x.id, x.nm, x.aa) = ((x.id.toNat : Int), (⟨x.nm.data.toList.toArray⟩ : ByteArray), x.aa)
  rw [Int.toNat_of_nonneg this]
theorem ids_pos (mr : List MM) : ∀ x ∈ ms mr, 0 <= x.id := by
  intro x hx
  obtain ⟨m, -, rfl⟩ := List.mem_map.1 hx
  exact Int.natCast_nonneg _
theorem push_mem (l : List MV) (m x : MV) (h : x ∈ pushL l m) : x ∈ l \/ x = m := by
  unfold pushL withoutZ at h
  rcases List.mem_append.1 h with h | h
  · split at h
    · exact .inl h
    · exact .inl (List.mem_of_mem_eraseIdx h)
  · exact .inr (List.mem_singleton.1 h)
theorem isM_push {l : List MV} {mr : List MM} (h : IsM l mr) (m : MV) (mm : MM) (hm : core m = core mm.v) : IsM (pushL l m) (pushM mr mm) := by
  have h1 := push_sim h m mm.v hm
  have h2 := isM_of (pushL (ms mr) mm.v) (fun x hx => by
    rcases push_mem _ _ _ hx with hx | rfl
    · exact ids_pos mr x hx
    · exact Int.natCast_nonneg _)
  unfold IsM Sim at *
  rw [h1, h2]
  rfl
end Go.Proofs.YtfohijnkeefcfaaGreatDoor
namespace Go.Proofs.YtfohijnkeefcfaaGreatDoor
open S5 (ND TR WF kidsAt nodeAt parentN appendL beforeL moveL addL withinL newL outL setK aheadL pushL)
open S4 (Tok nextR)
def rowsN : List Bs := [[116, 98, 111, 100, 121], [116, 102, 111, 111, 116], [116, 104, 101, 97, 100]]
def ownN : List Bs := [[116, 98, 111, 100, 121], [116, 102, 111, 111, 116], [116, 104, 101, 97, 100], [99, 97, 112, 116, 105, 111, 110], [99, 111, 108, 103, 114, 111, 117, 112]]
def fitsL (n w : Bs) : Bool :=
  if S6.amongL ofCell n then w == [116, 114] else if n == [116, 114] then S6.amongL rowsN w else if S6.amongL ownN n then w == [116, 97, 98, 108, 101] else if n == [99, 111, 108] then w == [99, 111, 108, 103, 114, 111, 117, 112] else true
def inName (sp : Int) (nm : Bs) : Bs := if sp = 0 then nm else []
def NodeOk (d : ND) : Prop :=
  (d.kind = 1 /\ d.name ≠ [] /\ d.text = []) \/ (d.kind = 2 /\ d.text ≠ [] /\ d.name = [] /\ d.attrs = []) \/ (d.kind = 3 /\ d.name = [] /\ d.attrs = [])
def HoldOk (d : ND) : Prop := (d.kind = 0 /\ d.space = 0 /\ d.name = []) \/ (d.kind = 1 /\ (d.space = 0 -> S6.isL 1 d.name = false))
def EdgeOk (d c : ND) : Prop := HoldOk d /\ (c.kind = 1 -> c.space = 0 -> fitsL c.name (inName d.space d.name) = true)
structure TI (T : TR) : Prop where
  wf : WF T
  pos : 1 <= T.length
  max : T.length <= 2000
  root : nodeAt T 0 = {}
  node : ∀ i, 1 <= i -> i < T.length -> NodeOk (nodeAt T i)
  edge : ∀ p c, c ∈ kidsAt T p -> EdgeOk (nodeAt T p) (nodeAt T c)
def PlaceOk (T : TR) (p : Nat) : Option Nat -> Prop
  | none => p < T.length
  | some r => r ∈ kidsAt T p
end Go.Proofs.YtfohijnkeefcfaaGreatDoor
namespace Go.Proofs.YtfohijnkeefcfaaGreatDoor
open S5 (ND TR WF kidsAt nodeAt parentN appendL beforeL moveL addL withinL newL outL setK aheadL pushL)
open S4 (Tok nextR)
def tabA : List Bs := [[116, 100], [116, 104], [116, 114], [116, 98, 111, 100, 121], [116, 102, 111, 111, 116], [116, 104, 101, 97, 100], [99, 97, 112, 116, 105, 111, 110], [99, 111, 108, 103, 114, 111, 117, 112], [116, 97, 98, 108, 101]]
def tabO (o : OM) : Bool := o.sp == 0 && S6.amongL tabA o.nm
def AdjR (a b : OM) : Prop := b.sp = 0 -> fitsL b.nm (inName a.sp a.nm) = true
def Tie (T : TR) (o : OM) : Prop := 1 <= o.id /\ o.id < T.length /\ (nodeAt T o.id).kind = 1 /\ (nodeAt T o.id).space = o.sp /\ (nodeAt T o.id).name = o.nm /\ (o.sp = 0 -> S6.isL 1 o.nm = false)
structure OI (T : TR) (op : List OM) : Prop where
  hd : op[0]? = some rootO
  tie : ∀ i o, op[i + 1]? = some o -> Tie T o
  adj : ∀ i a b, op[i]? = some a -> op[i + 1]? = some b -> AdjR a b
def MarkOk (T : TR) (m : MM) : Prop := (m.id = 0 /\ m.nm = []) \/ (1 <= m.id /\ m.id < T.length /\ (nodeAt T m.id).kind = 1 /\ (nodeAt T m.id).space = 0 /\ (nodeAt T m.id).name = m.nm /\ S6.amongL S6.formatN m.nm = true)
structure Inv (b : BS) : Prop where
  t : TI b.T
  o : OI b.T b.op
  m : ∀ m ∈ b.mr, MarkOk b.T m
def sk (l : List OM) : List OM := l.filter tabO
theorem OI.pos {T : TR} {l : List OM} (h : OI T l) : 1 <= l.length := by
  have := h.hd
  rcases l with _ | ⟨a, r⟩
  · cases this
  · simp
theorem OI.at {T : TR} {l : List OM} (h : OI T l) (hT : TI T) {o : OM} (ho : o ∈ l) : o.id < T.length /\ HoldOk (nodeAt T o.id) /\ (∀ n, fitsL n (inName (nodeAt T o.id).space (nodeAt T o.id).name) = fitsL n (inName o.sp o.nm)) := by
  obtain ⟨i, hi⟩ := List.mem_iff_getElem?.1 ho
  cases i with
  | zero =>
    rw [h.hd] at hi
    obtain rfl : rootO = o := Option.some.inj hi
    refine ⟨hT.pos, ?_, ?_⟩
    · show HoldOk (nodeAt T 0)
      rw [hT.root]
      exact Or.inl ⟨rfl, rfl, rfl⟩
    · intro n
      show fitsL n (inName (nodeAt T 0).space (nodeAt T 0).name) = fitsL n [104, 116, 109, 108]
      rw [hT.root]
      show fitsL n [] = _
      unfold fitsL
      rfl
  | succ i =>
    obtain ⟨h1, h2, h3, h4, h5, h6⟩ := h.tie i o hi
    refine ⟨h2, Or.inr ⟨h3, ?_⟩, ?_⟩
    · rw [h4, h5]; exact h6
    · intro n; rw [h4, h5]
theorem cur_mem {T : TR} {b : BS} (h : OI T b.op) : curB b ∈ b.op := by
  have := h.pos
  unfold curB
  rw [List.getLast?_eq_getElem?, List.getElem?_eq_getElem (by omega)]
  exact List.getElem_mem _
theorem last_some (p : S6.OV -> Bool) (l : List S6.OV) : ∀ (k j : Nat), S6.lastO p l k = some j -> j < k /\ (l[j]?).any p = true /\ ∀ i, j < i -> i < k -> (l[i]?).any p = false
  | 0, j, h => by cases h
  | k + 1, j, h => by
    rw [S6.lastO] at h
    split at h
    · rename_i e
      obtain rfl : k = j := Option.some.inj h
      exact ⟨by omega, e, fun i h1 h2 => by omega⟩
    · rename_i e
      obtain ⟨h1, h2, h3⟩ := last_some p l k j h
      refine ⟨by omega, h2, fun i a1 a2 => ?_⟩
      rcases Nat.lt_or_ge i k with a | a
      · exact h3 i a1 a
      · rw [show i = k from by omega]
        exact Bool.eq_false_iff.2 e
theorem place_ok {b : BS} (h : Inv b) {o : OM} (ho : o ∈ b.op) : PlaceOk b.T (placeB b o).1 (placeB b o).2 /\ HoldOk (nodeAt b.T (placeB b o).1) := by
  have ob := fun (o : OM) (ho : o ∈ b.op) => h.o.at h.t ho
  have r0 : PlaceOk b.T 0 none /\ HoldOk (nodeAt b.T 0) := ⟨h.t.pos, by rw [h.t.root]; exact Or.inl ⟨rfl, rfl, rfl⟩⟩
  unfold placeB
  split
  · exact ⟨(ob o ho).1, (ob o ho).2.1⟩
  · split
    · exact r0
    · exact r0
    · rename_i k e
      split
      · exact r0
      · rename_i t ht
        split
        · rename_i p hp
          have hm := S5.parent_some hp
          exact ⟨hm, (h.t.edge p t.id hm).1⟩
        · have hk := (last_some _ _ _ _ e).1
          have hl : k < b.op.length := by omega
          show PlaceOk b.T (((b.op[k]?).getD rootO).id) none /\ HoldOk (nodeAt b.T ((b.op[k]?).getD rootO).id)
          rw [List.getElem?_eq_getElem hl]
          exact ⟨(ob _ (List.getElem_mem hl)).1, (ob _ (List.getElem_mem hl)).2.1⟩
end Go.Proofs.YtfohijnkeefcfaaGreatDoor
