import Derived.Test.YtpppdfjdngmaoaaGreatDoorKc00
import Derived.Test.YtpppdfjdngmaoaaGreatDoorKc01
import Derived.Test.YtpppdfjdngmaoaaGreatDoorKc02
import Derived.Test.YtpppdfjdngmaoaaGreatDoorKc11
set_option linter.unusedVariables false
set_option linter.unusedSimpArgs false
set_option maxRecDepth 100000
set_option maxHeartbeats 8000000
namespace Go.Proofs.YtpppdfjdngmaoaaGreatDoor
open S5 (ND TR kidsAt nodeAt parentN appendL beforeL moveL addL withinL newL)
open S4 (Tok nextR)
abbrev Bs := List UInt8
abbrev As := List (List UInt8 × List UInt8)
structure OM where
  id : Nat
  sp : Int
  nm : Bs
structure MM where
  id : Nat
  nm : Bs
  aa : As
structure BS where
  T : TR := newL
  op : List OM := [⟨0, 0, [104, 116, 109, 108]⟩]
  mr : List MM := []
  rules : Nat := 0
  mode : Int := 0
  name : Bs := []
  fost : Bool := false
  skip : Bool := false
  e : Int := 0
def OM.v (o : OM) : S6.OV := ⟨(o.id : Int), o.sp, ⟨o.nm.toArray⟩⟩
def MM.v (m : MM) : S7.MV := ⟨(m.id : Int), ⟨m.nm.toArray⟩, m.aa, .slice none 0 0⟩
def ofV (m : S7.MV) : MM := ⟨m.id.toNat, m.nm.data.toList, m.aa⟩
def vs (l : List OM) : List S6.OV := l.map OM.v
def ms (l : List MM) : List S7.MV := l.map MM.v
def rootO : OM := ⟨0, 0, [104, 116, 109, 108]⟩
def curB (b : BS) : OM := b.op.getLast?.getD rootO
def isO (o : OM) (names : List Bs) : Bool := o.sp == 0 && S6.amongL names o.nm
def hasB (b : BS) (names : List Bs) (sc : Int) : Bool := S6.hasZ (vs b.op) names sc
def setOf (k : Int) (n : Bs) : Bool := S6.isL k n
def growB (b : BS) (d : ND) : BS × Option Nat :=
  if b.e ≠ 0 then (b, none) else if 2000 ≤ b.T.length then ({ b with e := 4 }, none) else ({ b with T := S5.pushL b.T d }, some b.T.length)
def putL (T : TR) (p : Nat) (before : Option Nat) (n : Nat) : TR :=
  if n = 0 ∨ withinL T (before.getD p) n = true then T else match before with
    | none => appendL T p n
    | some r => beforeL T p r n
def putB (b : BS) (p : Nat) (before : Option Nat) : Option Nat → BS
  | none => b
  | some n => { b with T := putL b.T p before n }
def ofTable : List Bs := [[116, 97, 98, 108, 101], [116, 98, 111, 100, 121], [116, 102, 111, 111, 116], [116, 104, 101, 97, 100], [116, 114]]
def ofRows : List Bs := [[116, 98, 111, 100, 121], [116, 102, 111, 111, 116], [116, 104, 101, 97, 100]]
def ofCell : List Bs := [[116, 100], [116, 104]]
def headN : List Bs := [[104, 49], [104, 50], [104, 51], [104, 52], [104, 53], [104, 54]]
def placeB (b : BS) (o : OM) : Nat × Option Nat :=
  if !b.fost || !isO o ofTable then (o.id, none) else
  match S6.lastO (S6.namedL [[116, 97, 98, 108, 101]]) (vs b.op) b.op.length with
  | none => (0, none)
  | some 0 => (0, none)
  | some (k + 1) =>
    match b.op[k + 1]? with
    | none => (0, none)
    | some t => match parentN b.T t.id with
      | some p => (p, some t.id)
      | none => (((b.op[k]?).getD rootO).id, none)
def aheadK (l : List Nat) (before : Option Nat) : Option Nat := (l.takeWhile fun x => !(some x == before)).getLast?
def textB (b : BS) (s : Bs) : BS :=
  let pl := placeB b (curB b)
  match aheadK (kidsAt b.T pl.1) pl.2 with
  | some a => if (nodeAt b.T a).kind = 2 then { b with T := addL b.T a s } else putB (growB b { kind := 2, text := s }).1 pl.1 pl.2 (growB b { kind := 2, text := s }).2
  | none => putB (growB b { kind := 2, text := s }).1 pl.1 pl.2 (growB b { kind := 2, text := s }).2
def commentB (b : BS) (s : Bs) : BS :=
  let pl := placeB b (curB b)
  putB (growB b { kind := 3, text := s }).1 pl.1 pl.2 (growB b { kind := 3, text := s }).2
def deepB (b : BS) : BS := if b.e = 0 ∧ 60 < b.op.length then { b with e := 5 } else b
def insertB (b : BS) (sp : Int) (nm : Bs) (aa : As) : BS × Option Nat :=
  let b := deepB b
  let pl := placeB b (curB b)
  let g := growB b { kind := 1, space := sp, name := nm, attrs := aa }
  match g.2 with
  | none => (g.1, none)
  | some n => ({ putB g.1 pl.1 pl.2 (some n) with op := b.op ++ [⟨n, sp, nm⟩] }, some n)
def popB (b : BS) : BS := if 1 < b.op.length then { b with op := b.op.dropLast } else b
def upToB (b : BS) (names : List Bs) : BS :=
  match S6.lastO (S6.namedL names) (vs b.op) b.op.length with
  | some (k + 1) => { b with op := b.op.take (k + 1) }
  | _ => b
def impliedB (b : BS) (ex : Bs) : BS := { b with op := b.op.take (S6.leftO ⟨ex.toArray⟩ (vs b.op) b.op.length) }
def closePB (b : BS) : BS := if hasB b [[112]] 3 then upToB (impliedB b [112]) [[112]] else b
def renewK : Nat → Nat → BS → BS
  | 0, _, b => b
  | k + 1, i, b => if b.e ≠ 0 then b else match b.mr[i]? with
    | none => b
    | some m => match insertB b 0 m.nm m.aa with
      | (b', none) => b'
      | (b', some n) => renewK k (i + 1) { b' with mr := b'.mr.set i ⟨n, m.nm, m.aa⟩ }
def renewB (b : BS) : BS := renewK b.mr.length (S7.renewL (ms b.mr) (b.op.map fun o => (o.id : Int))) b
def clearK (names : List Bs) : Nat → BS → BS
  | 0, b => b
  | k + 1, b => if decide (1 < b.op.length) && !isO (curB b) names then clearK names k (popB b) else b
def clearToB (b : BS) (names : List Bs) : BS := clearK names b.op.length b
def rulesOf (o : OM) : Option Nat :=
  if isO o ofCell then some 6 else if isO o [[116, 114]] then some 5 else if isO o ofRows then some 4 else if isO o [[99, 97, 112, 116, 105, 111, 110]] then some 2 else if isO o [[99, 111, 108, 103, 114, 111, 117, 112]] then some 3 else if isO o [[116, 97, 98, 108, 101]] then some 1 else none
def resetB (b : BS) : BS := { b with rules := ((b.op.drop 1).reverse.findSome? rulesOf).getD 0 }
def startT (t : Tok) (names : List Bs) : Bool := t.kind == 2 && S6.amongL names t.name
def stopT (t : Tok) (names : List Bs) : Bool := t.kind == 3 && S6.amongL names t.name
def skippedT (t : Tok) : Bool := t.kind == 3 && setOf 12 t.name
def ofSetT (t : Tok) : Bool := t.kind == 2 && setOf 9 t.name
def otherK (name : Bs) (b : BS) : Nat → BS
  | 0 => b
  | i + 1 => match b.op[i + 1]? with
    | none => b
    | some o => if isO o [name] then { b with op := b.op.take (i + 1) } else if S6.specialL o.v then b else otherK name b i
def otherB (b : BS) (name : Bs) : BS := otherK name b (b.op.length - 1)
def findM (l : List MM) (id : Nat) : Option Nat := l.findIdx? fun m => m.id == id
def lastM (l : List MM) (n : Bs) : Int := S7.lastZ (ms l) ⟨n.toArray⟩
def dropMark (b : BS) (i : Nat) : BS := { b with mr := b.mr.eraseIdx i }
def lessIf (i bm : Nat) : Nat := if i < bm then bm - 1 else bm
def shutB (b : BS) (i : Nat) : BS := { b with op := b.op.eraseIdx i }
def betweenK (a block : Nat) : Nat → Nat → Nat → Nat → BS → BS × Nat × Nat
  | 0, _, last, bm, b => (b, last, bm)
  | d + 1, k, last, bm, b =>
    if b.e ≠ 0 then (b, last, bm) else
    match b.op[a + d + 1]? with
    | none => (b, last, bm)
    | some o =>
      let m := findM b.mr o.id
      let gone := decide (3 < k) && m.isSome
      let b1 := if gone then dropMark b (m.getD 0) else b
      let bm1 := if gone then lessIf (m.getD 0) bm else bm
      match (if gone then none else m) with
      | none => betweenK a block d (k + 1) last bm1 (shutB b1 (a + d + 1))
      | some j => match growB b1 (nodeAt b1.T o.id) with
        | (b2, none) => (b2, last, bm1)
        | (b2, some n) =>
          let b3 := { b2 with op := b2.op.set (a + d + 1) { o with id := n }, mr := b2.mr.modify j fun x => { x with id := n } }
          betweenK a block d (k + 1) n (if last = block then j + 1 else bm1) { b3 with T := putL b3.T n none last }
def moveK (n : Nat) : List Nat → TR → TR
  | [], T => T
  | c :: r, T => moveK n r (putL T n none c)
def blockK (l : List OM) (a : Nat) : Nat → Option Nat → Option (Option Nat)
  | 0, f => some f
  | d + 1, f => match l[a + d + 1]? with
    | none => blockK l a d f
    | some o => if S6.endsL o.v 1 then none else blockK l a d (if S6.specialL o.v then some (a + d + 1) else f)
def adoptOnce (b : BS) (f : Nat) : BS × Bool :=
  match b.mr[f]? with
  | none => (b, false)
  | some mark => match S6.lastO (fun o => o.id == (mark.id : Int)) (vs b.op) b.op.length with
    | none => (dropMark b f, false)
    | some a => match blockK b.op a (b.op.length - 1 - a) none with
      | none => (b, false)
      | some none => (dropMark { b with op := b.op.take a } f, false)
      | some (some first) =>
        let block := (b.op[first]?).getD rootO
        let target := (b.op[a - 1]?).getD rootO
        match betweenK a block.id (first - 1 - a) 1 block.id f b with
        | (b1, last, bm) => if b1.e ≠ 0 then (b1, false) else
          let pl := placeB b1 target
          let b2 := putB b1 pl.1 pl.2 (some last)
          match growB b2 (nodeAt b2.T mark.id) with
          | (b3, none) => (b3, false)
          | (b3, some n) =>
            let T4 := putL (moveK n (kidsAt b3.T block.id) b3.T) block.id none n
            let f2 := (findM b3.mr mark.id).getD 0
            let mk5 := b3.mr.eraseIdx f2
            let bm5 := lessIf f2 bm
            let mk6 := mk5.take bm5 ++ ⟨n, mark.nm, mark.aa⟩ :: mk5.drop bm5
            let op7 := (b3.op.eraseIdx a).flatMap fun o => if o.id = block.id then [o, ⟨n, 0, mark.nm⟩] else [o]
            ({ b3 with T := T4, mr := mk6, op := op7 }, true)
def adoptK (name : Bs) : Nat → BS → BS
  | 0, b => b
  | k + 1, b => if b.e ≠ 0 then b else
    if lastM b.mr name < 0 then otherB b name else
    match adoptOnce b (lastM b.mr name).toNat with
    | (b', false) => b'
    | (b', true) => adoptK name k b'
def adoptB (b : BS) (name : Bs) : BS :=
  if isO (curB b) [name] && (findM b.mr (curB b).id).isNone then popB b else adoptK name 8 b
def tagB (b : BS) (t : Tok) : BS × Option Nat := insertB b 0 t.name t.attrs
def singleB (b : BS) (t : Tok) : BS := match tagB b t with
  | (b', some _) => popB b'
  | (b', none) => b'
def rawB (b : BS) (t : Tok) (mode : Int) : BS := { (tagB b t).1 with mode := mode, name := t.name }
def pushM (l : List MM) (m : MM) : List MM := (S7.pushL (ms l) m.v).map ofV
def clearM (l : List MM) : List MM := (S7.clearL (ms l)).map ofV
def markerB (b : BS) : BS := { b with mr := pushM b.mr ⟨0, [], []⟩ }
def markedB (b : BS) (t : Tok) : BS := match tagB b t with
  | (b', some n) => { b' with mr := pushM b'.mr ⟨n, t.name, t.attrs⟩ }
  | (b', none) => b'
def strangeB (b : BS) (t : Tok) (sp : Int) : BS := match insertB b sp t.name t.attrs with
  | (b', some _) => if t.closed then popB b' else b'
  | (b', none) => b'
def formB (b : BS) : Bool := (S6.lastO (S6.namedL [[102, 111, 114, 109]]) (vs b.op) b.op.length).isNone
def listedK (names : List Bs) (b : BS) : Nat → BS
  | 0 => b
  | i + 1 => match b.op[i + 1]? with
    | none => b
    | some o => if isO o names then upToB (impliedB b o.nm) [o.nm] else if S6.specialL o.v && !isO o [[97, 100, 100, 114, 101, 115, 115], [100, 105, 118], [112]] then b else listedK names b i
def listedB (b : BS) (t : Tok) (names : List Bs) : BS := (tagB (closePB (listedK names b (b.op.length - 1))) t).1
def rubyB (b : BS) (t : Tok) : BS :=
  (tagB (if hasB b [[114, 117, 98, 121]] 1 then (if startT t [[114, 98], [114, 116, 99]] then impliedB b [] else impliedB b [114, 116, 99]) else b) t).1
def closesT (t : Tok) : Bool := startT t [[112, 108, 97, 105, 110, 116, 101, 120, 116], [112, 114, 101], [108, 105, 115, 116, 105, 110, 103], [116, 97, 98, 108, 101], [104, 114]] || setOf 6 t.name || setOf 7 t.name
def closingB (b : BS) (t : Tok) : BS :=
  if startT t [[112, 108, 97, 105, 110, 116, 101, 120, 116]] then rawB b t 3
  else if startT t [[112, 114, 101], [108, 105, 115, 116, 105, 110, 103]] then { (tagB b t).1 with skip := true }
  else if startT t [[116, 97, 98, 108, 101]] then { (tagB b t).1 with rules := 1 }
  else if startT t [[104, 114]] then singleB b t
  else (tagB (if setOf 7 t.name && isO (curB b) headN then popB b else b) t).1
def dropId (l : List MM) (id : Nat) : List MM := match findM l id with
  | none => l
  | some i => l.eraseIdx i
def againA (b : BS) : BS :=
  if lastM b.mr [97] < 0 then b else
  let id : Nat := ((b.mr[(lastM b.mr [97]).toNat]?).map fun x => x.id).getD 0
  let b1 := adoptB b [97]
  let b2 := { b1 with mr := dropId b1.mr id }
  match S6.lastO (fun o => o.id == (id : Int)) (vs b2.op) b2.op.length with
  | some (i + 1) => shutB b2 (i + 1)
  | _ => b2
def phraseA (b : BS) (t : Tok) : BS :=
  if startT t [[98, 117, 116, 116, 111, 110]] then (if hasB b [[98, 117, 116, 116, 111, 110]] 1 then upToB (impliedB b []) [[98, 117, 116, 116, 111, 110]] else b)
  else if startT t [[97]] then againA b
  else if startT t [[110, 111, 98, 114]] then (if hasB (renewB b) [[110, 111, 98, 114]] 1 then adoptB (renewB b) [110, 111, 98, 114] else renewB b)
  else if startT t [[111, 112, 116, 105, 111, 110], [111, 112, 116, 103, 114, 111, 117, 112]] then (if isO (curB b) [[111, 112, 116, 105, 111, 110]] then popB b else b)
  else b
def phraseB (b : BS) (t : Tok) : BS :=
  let b := renewB (phraseA b t)
  if setOf 5 t.name then markedB b t
  else if setOf 11 t.name then markerB (tagB b t).1
  else if startT t [[105, 109, 97, 103, 101]] then singleB b { t with name := [105, 109, 103] }
  else if startT t [[97, 114, 101, 97], [98, 114], [101, 109, 98, 101, 100], [105, 109, 103], [105, 110, 112, 117, 116], [107, 101, 121, 103, 101, 110], [119, 98, 114]] then singleB b t
  else if startT t [[115, 118, 103]] then strangeB b t 1
  else if startT t [[109, 97, 116, 104]] then strangeB b t 2
  else (tagB b t).1
def bodyStart (b : BS) (t : Tok) : BS :=
  if setOf 12 t.name then b
  else if startT t [[98, 97, 115, 101], [98, 97, 115, 101, 102, 111, 110, 116], [98, 103, 115, 111, 117, 110, 100], [108, 105, 110, 107], [109, 101, 116, 97], [112, 97, 114, 97, 109], [115, 111, 117, 114, 99, 101], [116, 114, 97, 99, 107]] then singleB b t
  else if startT t [[116, 105, 116, 108, 101]] then rawB b t 1
  else if startT t [[116, 101, 120, 116, 97, 114, 101, 97]] then { rawB b t 1 with skip := true }
  else if startT t [[115, 116, 121, 108, 101], [115, 99, 114, 105, 112, 116], [110, 111, 102, 114, 97, 109, 101, 115], [105, 102, 114, 97, 109, 101], [110, 111, 101, 109, 98, 101, 100]] then rawB b t 2
  else if startT t [[120, 109, 112]] then rawB (renewB (closePB b)) t 2
  else if startT t [[102, 111, 114, 109]] then (if formB b then (tagB (closePB b) t).1 else b)
  else if startT t [[108, 105]] then listedB b t [[108, 105]]
  else if startT t [[100, 100], [100, 116]] then listedB b t [[100, 100], [100, 116]]
  else if startT t [[114, 98], [114, 116, 99], [114, 112], [114, 116]] then rubyB b t
  else if closesT t then closingB (closePB b) t
  else phraseB b t
def endsB (b : BS) (names : List Bs) (ex : Bs) (sc : Int) : BS := if hasB b names sc then upToB (impliedB b ex) names else b
def bodyStop (b : BS) (n : Bs) : BS :=
  if setOf 12 n then b
  else if n == [112] then closePB (if hasB b [[112]] 3 then b else (insertB b 0 [112] []).1)
  else if n == [108, 105] then endsB b [[108, 105]] [108, 105] 2
  else if n == [100, 100] || n == [100, 116] then endsB b [n] n 1
  else if setOf 7 n then endsB b headN [] 1
  else if setOf 6 n || S6.amongL [[98, 117, 116, 116, 111, 110], [102, 111, 114, 109], [108, 105, 115, 116, 105, 110, 103], [112, 114, 101]] n then endsB b [n] [] 1
  else if setOf 5 n then adoptB b n
  else if setOf 11 n then (if hasB b [n] 1 then { endsB b [n] [] 1 with mr := clearM (endsB b [n] [] 1).mr } else b)
  else if n == [98, 114] then bodyStart b { kind := 2, name := [98, 114] }
  else otherB b n
def bodyB (b : BS) (t : Tok) : BS :=
  if t.kind = 1 then textB (renewB b) t.text
  else if t.kind = 4 then commentB b t.text
  else if t.kind = 2 then bodyStart b t
  else if t.kind = 3 then bodyStop b t.name
  else b
def fosterB (b : BS) (t : Tok) : BS := { bodyB { b with fost := true } t with fost := false }
def hiddenT (t : Tok) : Bool := match S4.getA t.attrs [116, 121, 112, 101] with
  | some v => S4.lowerL v == [104, 105, 100, 100, 101, 110]
  | none => false
def tableB (b : BS) (t : Tok) : BS × Option Tok :=
  if t.kind == 1 && (S6.whiteL t.text && isO (curB b) ofTable) then (textB b t.text, none)
  else if t.kind == 4 then (commentB b t.text, none)
  else if startT t [[99, 97, 112, 116, 105, 111, 110]] then ({ (tagB (markerB (clearToB b [[116, 97, 98, 108, 101]])) t).1 with rules := 2 }, none)
  else if startT t [[99, 111, 108, 103, 114, 111, 117, 112]] then ({ (tagB (clearToB b [[116, 97, 98, 108, 101]]) t).1 with rules := 3 }, none)
  else if startT t [[99, 111, 108]] then ({ (insertB (clearToB b [[116, 97, 98, 108, 101]]) 0 [99, 111, 108, 103, 114, 111, 117, 112] []).1 with rules := 3 }, some t)
  else if startT t ofRows then ({ (tagB (clearToB b [[116, 97, 98, 108, 101]]) t).1 with rules := 4 }, none)
  else if startT t [[116, 100], [116, 104], [116, 114]] then ({ (insertB (clearToB b [[116, 97, 98, 108, 101]]) 0 [116, 98, 111, 100, 121] []).1 with rules := 4 }, some t)
  else if startT t [[116, 97, 98, 108, 101]] || stopT t [[116, 97, 98, 108, 101]] then (if hasB b [[116, 97, 98, 108, 101]] 4 then (resetB (upToB b [[116, 97, 98, 108, 101]]), if t.kind == 2 then some t else none) else (b, none))
  else if startT t [[115, 116, 121, 108, 101], [115, 99, 114, 105, 112, 116]] then (bodyB b t, none)
  else if startT t [[105, 110, 112, 117, 116]] && hiddenT t then (singleB b t, none)
  else if startT t [[102, 111, 114, 109]] then (if formB b then singleB b t else b, none)
  else if skippedT t then (b, none)
  else (fosterB b t, none)
def captionB (b : BS) (t : Tok) : BS × Option Tok :=
  if ofSetT t || stopT t [[99, 97, 112, 116, 105, 111, 110], [116, 97, 98, 108, 101]] then
    (if hasB b [[99, 97, 112, 116, 105, 111, 110]] 4 then
      let b1 := upToB (impliedB b []) [[99, 97, 112, 116, 105, 111, 110]]
      ({ b1 with mr := clearM b1.mr, rules := 1 }, if stopT t [[99, 97, 112, 116, 105, 111, 110]] then none else some t)
    else (b, none))
  else if skippedT t then (b, none)
  else (bodyB b t, none)
def groupB (b0 : BS) (t0 : Tok) : BS × Option Tok :=
  let sp := t0.text.takeWhile S6.isSpace
  let b := if t0.kind == 1 && !sp.isEmpty then textB b0 sp else b0
  let t := if t0.kind == 1 then { t0 with text := t0.text.dropWhile S6.isSpace } else t0
  if t.kind == 1 && t.text.isEmpty then (b, none)
  else if t.kind == 4 then (commentB b t.text, none)
  else if startT t [[99, 111, 108]] then (singleB b t, none)
  else if stopT t [[99, 111, 108]] then (b, none)
  else if isO (curB b) [[99, 111, 108, 103, 114, 111, 117, 112]] then ({ popB b with rules := 1 }, if stopT t [[99, 111, 108, 103, 114, 111, 117, 112]] then none else some t)
  else (b, none)
def rowsB (b : BS) (t : Tok) : BS × Option Tok :=
  if startT t [[116, 114]] then ({ (tagB (clearToB b ofRows) t).1 with rules := 5 }, none)
  else if startT t ofCell then ({ (insertB (clearToB b ofRows) 0 [116, 114] []).1 with rules := 5 }, some t)
  else if ofSetT t || stopT t [[116, 97, 98, 108, 101]] then (if hasB b ofRows 4 then ({ popB (clearToB b ofRows) with rules := 1 }, some t) else (b, none))
  else if stopT t ofRows then (if hasB b [t.name] 4 then { popB (clearToB b ofRows) with rules := 1 } else b, none)
  else if skippedT t then (b, none)
  else tableB b t
def rowB (b : BS) (t : Tok) : BS × Option Tok :=
  if startT t ofCell then (markerB { (tagB (clearToB b [[116, 114]]) t).1 with rules := 6 }, none)
  else if ofSetT t || stopT t [[116, 97, 98, 108, 101], [116, 114], [116, 98, 111, 100, 121], [116, 102, 111, 111, 116], [116, 104, 101, 97, 100]] then
    (if !hasB b [[116, 114]] 4 || stopT t ofRows && !hasB b [t.name] 4 then (b, none)
    else ({ popB (clearToB b [[116, 114]]) with rules := 4 }, if stopT t [[116, 114]] then none else some t))
  else if skippedT t then (b, none)
  else tableB b t
def closeCell (b : BS) (names : List Bs) : BS :=
  let b1 := upToB (impliedB b []) names
  { b1 with mr := clearM b1.mr, rules := 5 }
def cellB (b : BS) (t : Tok) : BS × Option Tok :=
  if stopT t ofCell then (if hasB b [t.name] 4 then closeCell b [t.name] else b, none)
  else if ofSetT t then (if hasB b ofCell 4 then (closeCell b ofCell, some t) else (b, none))
  else if stopT t [[116, 97, 98, 108, 101], [116, 98, 111, 100, 121], [116, 102, 111, 111, 116], [116, 104, 101, 97, 100], [116, 114]] then (if hasB b [t.name] 4 then (closeCell b ofCell, some t) else (b, none))
  else if skippedT t then (b, none)
  else (bodyB b t, none)
def stepB (b : BS) (t : Tok) : BS × Option Tok :=
  if b.rules = 1 then tableB b t else if b.rules = 2 then captionB b t else if b.rules = 3 then groupB b t else if b.rules = 4 then rowsB b t else if b.rules = 5 then rowB b t else if b.rules = 6 then cellB b t else (bodyB b t, none)
def rulesK : Nat → BS → Tok → BS
  | 0, b, _ => b
  | k + 1, b, t => match stepB b t with
    | (b', none) => b'
    | (b', some t') => if b'.e ≠ 0 then b' else rulesK k b' t'
def rulesB (b : BS) (t : Tok) : BS := rulesK (3 * b.op.length + 20) b t
def breaksT (t : Tok) : Bool :=
  if t.kind = 3 then t.name == [98, 114] || t.name == [112]
  else if t.kind = 2 ∧ t.name = [102, 111, 110, 116] then (S4.getA t.attrs [99, 111, 108, 111, 114]).isSome || (S4.getA t.attrs [102, 97, 99, 101]).isSome || (S4.getA t.attrs [115, 105, 122, 101]).isSome
  else t.kind == 2 && setOf 10 t.name
def breakK : Nat → BS → BS
  | 0, b => b
  | k + 1, b => if (curB b).sp ≠ 0 ∧ S6.pointL (curB b).v = false then breakK k (popB b) else b
def foreignK (b : BS) (t : Tok) : Nat → BS
  | 0 => b
  | i + 1 => match b.op[i]? with
    | none => b
    | some o => if o.sp = 0 then rulesB b t else if o.nm = t.name then { b with op := b.op.take i } else foreignK b t i
def foreignB (b : BS) (t : Tok) : BS :=
  if t.kind = 1 then textB b t.text
  else if t.kind = 4 then commentB b t.text
  else if breaksT t then rulesB (breakK b.op.length b) t
  else if t.kind = 2 then strangeB b t (curB b).sp
  else if t.kind = 3 then foreignK b t b.op.length
  else b
def takeT (b : BS) (t : Tok) : BS :=
  if t.kind = 5 then b
  else if b.mode = 2 ∨ b.mode = 1 then (if t.kind = 1 then textB b t.text else { popB b with mode := 0 })
  else if (curB b).sp ≠ 0 ∧ ¬ (S6.pointL (curB b).v = true ∧ (t.kind = 1 ∨ t.kind = 2)) then foreignB b t
  else rulesB b t
def takeB (b : BS) (t : Tok) : BS :=
  let b1 := { b with skip := false }
  match t.text with
  | 10 :: r => if b.skip = true ∧ t.kind = 1 then (if r = [] then b1 else takeT b1 { t with text := r }) else takeT b1 t
  | _ => takeT b1 t
def runB : Nat → BS → Bs → BS
  | 0, b, _ => b
  | k + 1, b, r => if b.e ≠ 0 then b else
    if (nextR b.mode b.name (!((curB b).sp == 0)) r).1.kind = 0 then b else
    runB k (takeB b (nextR b.mode b.name (!((curB b).sp == 0)) r).1) (nextR b.mode b.name (!((curB b).sp == 0)) r).2
def buildL (s : Bs) : BS := runB (s.length + 1) {} s
def fragErr (s : Bs) : Int := if 4096 < s.length then 4 else (buildL s).e
end Go.Proofs.YtpppdfjdngmaoaaGreatDoor
namespace Go.Proofs.YtpppdfjdngmaoaaGreatDoor
open S7 (MV behindG markerM behindL tailM firstO lastG likeM goneO withoutZ pushL clearL dropL insertL lastZ findZ renewL nameM idM stopM atN placeZ)
abbrev Core := Int × ByteArray × List (List UInt8 × List UInt8)
def core (m : MV) : Core := (m.id, m.nm, m.aa)
def Sim (l r : List MV) : Prop := l.map core = r.map core
theorem Sim.len {l r : List MV} (h : Sim l r) : l.length = r.length := by have := congrArg List.length h; simpa using this
theorem Sim.any {l r : List MV} (h : Sim l r) (p : MV → Bool) (q : MV → Bool) (hpq : ∀ x y, core x = core y → p x = q y) (k : Nat) : (l[k]?).any p = (r[k]?).any q := by
  have e := congrArg (·[k]?) h
  simp only [List.getElem?_map] at e
  cases h1 : l[k]? with
  | none =>
    cases h2 : r[k]? with
    | none => rfl
    | some y => rw [h1, h2] at e; cases e
  | some x =>
    cases h2 : r[k]? with
    | none => rw [h1, h2] at e; cases e
    | some y =>
      rw [h1, h2] at e
      exact hpq x y (by simpa using e)
theorem Sim.behind {l r : List MV} (h : Sim l r) (p q : MV → Bool) (hpq : ∀ x y, core x = core y → p x = q y) : ∀ k, behindG p l k = behindG q r k := by
  intro k
  induction k with
  | zero => rfl
  | succ k ih => rw [behindG, behindG, h.any p q hpq k, ih]
theorem Sim.last {l r : List MV} (h : Sim l r) (p q : MV → Bool) (hpq : ∀ x y, core x = core y → p x = q y) : ∀ k, lastG p l k = lastG q r k := by
  intro k
  induction k with
  | zero => rfl
  | succ k ih => rw [lastG, lastG, h.any p q hpq k, ih]
theorem first_sim (p q : MV → Bool) (hpq : ∀ x y, core x = core y → p x = q y) : ∀ l r : List MV, Sim l r → firstO p l = firstO q r
  | [], [], _ => rfl
  | [], _ :: _, h => by cases h
  | _ :: _, [], h => by cases h
  | x :: l, y :: r, h => by
    injection h with h1 h2
    rw [firstO, firstO, hpq x y h1, first_sim p q hpq l r h2]
theorem count_sim (p q : MV → Bool) (hpq : ∀ x y, core x = core y → p x = q y) : ∀ l r : List MV, Sim l r → l.countP p = r.countP q
  | [], [], _ => rfl
  | [], _ :: _, h => by cases h
  | _ :: _, [], h => by cases h
  | x :: l, y :: r, h => by
    injection h with h1 h2
    rw [List.countP_cons, List.countP_cons, hpq x y h1, count_sim p q hpq l r h2]
theorem Sim.drop {l r : List MV} (h : Sim l r) (k : Nat) : Sim (l.drop k) (r.drop k) := by unfold Sim at *; rw [List.map_drop, List.map_drop, h]
theorem Sim.take {l r : List MV} (h : Sim l r) (k : Nat) : Sim (l.take k) (r.take k) := by unfold Sim at *; rw [List.map_take, List.map_take, h]
theorem Sim.app {l r a b : List MV} (h : Sim l r) (h2 : Sim a b) : Sim (l ++ a) (r ++ b) := by unfold Sim at *; rw [List.map_append, List.map_append, h, h2]
theorem Sim.erase {l r : List MV} (h : Sim l r) (k : Nat) : Sim (l.eraseIdx k) (r.eraseIdx k) := by
  rw [List.eraseIdx_eq_take_drop_succ, List.eraseIdx_eq_take_drop_succ]
  exact (h.take k).app (h.drop (k + 1))
theorem marker_sim (x y : MV) (h : core x = core y) : markerM x = markerM y := by
  have : x.id = y.id := congrArg (·.1) h
  unfold markerM
  rw [this]
theorem like_sim (m n : MV) (hm : core m = core n) (x y : MV) (h : core x = core y) : likeM m x = likeM n y := by
  have e1 : x.nm = y.nm := congrArg (·.2.1) h
  have e2 : x.aa = y.aa := congrArg (·.2.2) h
  have e3 : m.nm = n.nm := congrArg (·.2.1) hm
  have e4 : m.aa = n.aa := congrArg (·.2.2) hm
  unfold likeM
  rw [e1, e2, e3, e4]
theorem behind_sim {l r : List MV} (h : Sim l r) : behindL l = behindL r := by
  unfold behindL
  rw [h.len]
  exact h.behind _ _ marker_sim _
theorem gone_sim {l r : List MV} (h : Sim l r) (m n : MV) (hm : core m = core n) : goneO l m = goneO r n := by
  have hid : m.id = n.id := congrArg (·.1) hm
  have ht : Sim (tailM l) (tailM r) := by unfold tailM; rw [behind_sim h]; exact h.drop _
  unfold goneO
  rw [hid, count_sim _ _ (like_sim m n hm) _ _ ht, first_sim _ _ (like_sim m n hm) _ _ ht, behind_sim h]
theorem without_sim {l r : List MV} (h : Sim l r) (z : Int) : Sim (withoutZ l z) (withoutZ r z) := by
  unfold withoutZ
  split
  · exact h
  · exact h.erase _
theorem one_sim {m n : MV} (hm : core m = core n) : Sim [m] [n] := by unfold Sim; simp [hm]
theorem push_sim {l r : List MV} (h : Sim l r) (m n : MV) (hm : core m = core n) : Sim (pushL l m) (pushL r n) := by
  unfold pushL
  rw [gone_sim h m n hm]
  exact (without_sim h _).app (one_sim hm)
theorem renew_sim {l r : List MV} (h : Sim l r) (zs : List Int) : renewL l zs = renewL r zs := by
  unfold renewL
  rw [h.len]
  exact h.behind _ _ (fun x y e => by
    have : x.id = y.id := congrArg (·.1) e
    unfold stopM
    rw [this]) _
def IsM (l : List MV) (mr : List MM) : Prop := Sim l (ms mr)
theorem of_v (m : MM) : ofV m.v = m := by
  unfold ofV MM.v
  simp
theorem isM_of (l : List MV) (h : ∀ x ∈ l, 0 ≤ x.id) : IsM l (l.map ofV) := by
  unfold IsM Sim ms
  rw [List.map_map, List.map_map]
  apply List.map_congr_left
  intro x hx
  have := h x hx
  show (x.id, x.nm, x.aa) = ((x.id.toNat : Int), (⟨x.nm.data.toList.toArray⟩ : ByteArray), x.aa)
  rw [Int.toNat_of_nonneg this]
theorem ids_pos (mr : List MM) : ∀ x ∈ ms mr, 0 ≤ x.id := by
  intro x hx
  obtain ⟨m, -, rfl⟩ := List.mem_map.1 hx
  exact Int.natCast_nonneg _
theorem push_mem (l : List MV) (m x : MV) (h : x ∈ pushL l m) : x ∈ l ∨ x = m := by
  unfold pushL withoutZ at h
  rcases List.mem_append.1 h with h | h
  · split at h
    · exact .inl h
    · exact .inl (List.mem_of_mem_eraseIdx h)
  · exact .inr (List.mem_singleton.1 h)
theorem isM_push {l : List MV} {mr : List MM} (h : IsM l mr) (m : MV) (mm : MM) (hm : core m = core mm.v) : IsM (pushL l m) (pushM mr mm) := by
  have h1 := push_sim h m mm.v hm
  have h2 := isM_of (pushL (ms mr) mm.v) (fun x hx => by
    rcases push_mem _ _ _ hx with hx | rfl
    · exact ids_pos mr x hx
    · exact Int.natCast_nonneg _)
  unfold IsM Sim at *
  rw [h1, h2]
  rfl
end Go.Proofs.YtpppdfjdngmaoaaGreatDoor
namespace Go.Proofs.YtpppdfjdngmaoaaGreatDoor
open S5 (ND TR WF kidsAt nodeAt parentN appendL beforeL moveL addL withinL newL outL setK aheadL pushL)
open S4 (Tok nextR)
def rowsN : List Bs := [[116, 98, 111, 100, 121], [116, 102, 111, 111, 116], [116, 104, 101, 97, 100]]
def ownN : List Bs := [[116, 98, 111, 100, 121], [116, 102, 111, 111, 116], [116, 104, 101, 97, 100], [99, 97, 112, 116, 105, 111, 110], [99, 111, 108, 103, 114, 111, 117, 112]]
def fitsL (n w : Bs) : Bool :=
  if S6.amongL ofCell n then w == [116, 114] else if n == [116, 114] then S6.amongL rowsN w else if S6.amongL ownN n then w == [116, 97, 98, 108, 101] else if n == [99, 111, 108] then w == [99, 111, 108, 103, 114, 111, 117, 112] else true
def inName (sp : Int) (nm : Bs) : Bs := if sp = 0 then nm else []
def NodeOk (d : ND) : Prop :=
  (d.kind = 1 ∧ d.name ≠ [] ∧ d.text = []) ∨ (d.kind = 2 ∧ d.text ≠ [] ∧ d.name = [] ∧ d.attrs = []) ∨ (d.kind = 3 ∧ d.name = [] ∧ d.attrs = [])
def HoldOk (d : ND) : Prop := (d.kind = 0 ∧ d.space = 0 ∧ d.name = []) ∨ (d.kind = 1 ∧ (d.space = 0 → S6.isL 1 d.name = false))
def EdgeOk (d c : ND) : Prop := HoldOk d ∧ (c.kind = 1 → c.space = 0 → fitsL c.name (inName d.space d.name) = true)
structure TI (T : TR) : Prop where
  wf : WF T
  pos : 1 ≤ T.length
  max : T.length ≤ 2000
  root : nodeAt T 0 = {}
  node : ∀ i, 1 ≤ i → i < T.length → NodeOk (nodeAt T i)
  edge : ∀ p c, c ∈ kidsAt T p → EdgeOk (nodeAt T p) (nodeAt T c)
theorem TI.new : TI newL where
  wf := WF.new
  pos := by simp [newL]
  max := by simp [newL]
  root := rfl
  node := by intro i h1 h2; simp [newL] at h2; omega
  edge := by
    intro p c h
    have := (WF.new.inb p c h).2
    have := (WF.new.inb p c h).1
    simp [newL] at *
    omega
theorem node_push (T : TR) (d : ND) (i : Nat) : nodeAt (pushL T d) i = if i = T.length then d else nodeAt T i := by
  unfold nodeAt pushL
  rcases Nat.lt_trichotomy i T.length with h | h | h
  · rw [List.getElem?_append_left h, if_neg (by omega)]
  · subst h
    rw [if_pos rfl]
    simp
  · rw [if_neg (by omega), List.getElem?_append_right (by omega), List.getElem?_eq_none (by simp; omega), List.getElem?_eq_none (by omega)]
theorem push_length (T : TR) (d : ND) : (pushL T d).length = T.length + 1 := by simp [pushL]
theorem TI.push {T : TR} (h : TI T) {d : ND} (hd : NodeOk d) (hm : T.length < 2000) : TI (pushL T d) where
  wf := h.wf.push d
  pos := by rw [push_length]; omega
  max := by rw [push_length]; omega
  root := by
    have := h.pos
    rw [node_push, if_neg (by omega)]
    exact h.root
  node := by
    intro i h1 h2
    rw [push_length] at h2
    rw [node_push]
    split
    · exact hd
    · exact h.node i h1 (by omega)
  edge := by
    intro p c hc
    rw [S5.kids_push] at hc
    have h1 := S5.kidsAt_lt hc
    have h2 := h.wf.inb p c hc
    rw [node_push, if_neg (by omega), node_push, if_neg (by omega)]
    exact h.edge p c hc
theorem add_length (T : TR) (n : Nat) (s : Bs) : (addL T n s).length = T.length := by simp [addL]
theorem node_add (T : TR) (n : Nat) (s : Bs) (i : Nat) : nodeAt (addL T n s) i = if i = n ∧ n < T.length then { nodeAt T n with text := (nodeAt T n).text ++ s } else nodeAt T i := by
  unfold addL
  rcases Nat.lt_or_ge n T.length with hn | hn
  · by_cases h : n = i
    · subst h
      rw [if_pos ⟨rfl, hn⟩]
      show (((T.set n (_, kidsAt T n))[n]?).map (·.1)).getD {} = _
      rw [List.getElem?_set_self hn]
      rfl
    · rw [if_neg (by omega)]
      unfold nodeAt
      rw [List.getElem?_set_ne h]
  · rw [List.set_eq_of_length_le hn, if_neg (by omega)]
theorem TI.add {T : TR} (h : TI T) {n : Nat} {s : Bs} (hk : (nodeAt T n).kind = 2) : TI (addL T n s) where
  wf := h.wf.add n s
  pos := by rw [add_length]; exact h.pos
  max := by rw [add_length]; exact h.max
  root := by
    rw [node_add, if_neg]
    · exact h.root
    · rintro ⟨e, _⟩
      rw [← e, h.root] at hk
      exact absurd hk (by decide)
  node := by
    intro i h1 h2
    rw [add_length] at h2
    rw [node_add]
    split
    · rename_i e
      obtain ⟨rfl, _⟩ := e
      rcases h.node i h1 h2 with a | a | a
      · rw [hk] at a; exact absurd a.1 (by decide)
      · refine Or.inr (Or.inl ⟨hk, ?_, a.2.2⟩)
        intro e
        exact a.2.1 (List.append_eq_nil_iff.1 e).1
      · rw [hk] at a; exact absurd a.1 (by decide)
    · exact h.node i h1 h2
  edge := by
    intro p c hc
    rw [S5.kids_add] at hc
    have e := h.edge p c hc
    rw [node_add, node_add]
    split
    · rename_i q
      obtain ⟨rfl, _⟩ := q
      rcases e.1 with a | a
      · rw [hk] at a; exact absurd a.1 (by decide)
      · rw [hk] at a; exact absurd a.1 (by decide)
    · refine ⟨e.1, ?_⟩
      split
      · rename_i q
        obtain ⟨rfl, _⟩ := q
        intro h1
        have h1 : (nodeAt T c).kind = 1 := h1
        rw [hk] at h1
        exact absurd h1 (by decide)
      · exact e.2
theorem put_len (T : TR) (p : Nat) (x : Option Nat) (n : Nat) : (putL T p x n).length = T.length := by
  unfold putL
  split
  · rfl
  · split
    · exact S5.append_len T p n
    · exact S5.before_len T p _ n
theorem put_node (T : TR) (p : Nat) (x : Option Nat) (n i : Nat) : nodeAt (putL T p x n) i = nodeAt T i := by
  unfold putL
  split
  · rfl
  · split
    · exact S5.node_append T p n i
    · exact S5.node_before T p _ n i
theorem out_sub (T : TR) (n i k : Nat) (h : k ∈ kidsAt (outL T n) i) : k ∈ kidsAt T i := by
  unfold outL at h
  split at h
  · exact h
  · rename_i q e
    have hq := S5.kidsAt_lt (S5.parent_some e)
    rw [S5.kids_set T q _ hq] at h
    split at h
    · subst_vars
      exact (List.mem_filter.1 h).1
    · exact h
theorem put_sub (T : TR) (p : Nat) (x : Option Nat) (n i k : Nat) (h : k ∈ kidsAt (putL T p x n) i) : k ∈ kidsAt T i ∨ (k = n ∧ i = p) := by
  unfold putL at h
  split at h
  · exact Or.inl h
  · have main : ∀ ks : List Nat, (∀ y ∈ ks, y ∈ kidsAt (outL T n) p ∨ y = n) → k ∈ kidsAt (setK (outL T n) p ks) i → k ∈ kidsAt T i ∨ (k = n ∧ i = p) := by
      intro ks hks hm
      rcases Nat.lt_or_ge p (outL T n).length with hp | hp
      · rw [S5.kids_set _ p ks hp] at hm
        split at hm
        · rename_i e
          subst e
          rcases hks k hm with a | a
          · exact Or.inl (out_sub T n _ k a)
          · exact Or.inr ⟨a, rfl⟩
        · exact Or.inl (out_sub T n _ k hm)
      · unfold setK at hm
        rw [List.set_eq_of_length_le hp] at hm
        exact Or.inl (out_sub T n _ k hm)
    split at h
    · refine main _ ?_ h
      intro y hy
      rcases List.mem_append.1 hy with a | a
      · exact Or.inl a
      · exact Or.inr (List.mem_singleton.1 a)
    · refine main _ ?_ h
      intro y hy
      rcases (S5.mem_ahead _ _ _ _).1 hy with a | a
      · exact Or.inl a
      · exact Or.inr a.1
def PlaceOk (T : TR) (p : Nat) : Option Nat → Prop
  | none => p < T.length
  | some r => r ∈ kidsAt T p
theorem WF.putB {T : TR} (h : WF T) {p : Nat} {x : Option Nat} {n : Nat} (hp : PlaceOk T p x) (hn : n < T.length) : WF (putL T p x n) := by
  unfold putL
  split
  · exact h
  · rename_i q
    have q0 : 1 ≤ n := Nat.pos_of_ne_zero fun e => q (Or.inl e)
    cases x with
    | none =>
      have hp : p < T.length := hp
      exact h.append hp hn q0 fun u => q (Or.inr ((S5.within_iff h hp).2 u))
    | some r =>
      have hp : r ∈ kidsAt T p := hp
      exact h.before hp hn q0 fun u => q (Or.inr ((S5.within_iff h (h.inb p r hp).2).2 u))
theorem TI.put {T : TR} (h : TI T) {p : Nat} {x : Option Nat} {n : Nat} (hp : PlaceOk T p x) (hn : n < T.length) (he : EdgeOk (nodeAt T p) (nodeAt T n)) : TI (putL T p x n) where
  wf := WF.putB h.wf hp hn
  pos := by rw [put_len]; exact h.pos
  max := by rw [put_len]; exact h.max
  root := by rw [put_node]; exact h.root
  node := by
    intro i h1 h2
    rw [put_len] at h2
    rw [put_node]
    exact h.node i h1 h2
  edge := by
    intro q c hc
    rw [put_node, put_node]
    rcases put_sub T p x n q c hc with a | a
    · exact h.edge q c a
    · obtain ⟨rfl, rfl⟩ := a
      exact he
theorem PlaceOk.lt {T : TR} {p : Nat} {x : Option Nat} (h : PlaceOk T p x) : p < T.length := by
  cases x with
  | none => exact h
  | some r => exact S5.kidsAt_lt (h : r ∈ kidsAt T p)
theorem PlaceOk.push {T : TR} {p : Nat} {x : Option Nat} (h : PlaceOk T p x) (d : ND) : PlaceOk (pushL T d) p x := by
  cases x with
  | none => have h : p < T.length := h; show p < _; rw [push_length]; omega
  | some r => show r ∈ kidsAt (pushL T d) p; rw [S5.kids_push]; exact h
theorem move_len (n : Nat) : ∀ (l : List Nat) (T : TR), (moveK n l T).length = T.length
  | [], _ => rfl
  | c :: r, T => by rw [moveK, move_len n r, put_len]
theorem move_node (n : Nat) : ∀ (l : List Nat) (T : TR) (i : Nat), nodeAt (moveK n l T) i = nodeAt T i
  | [], _, _ => rfl
  | c :: r, T, i => by rw [moveK, move_node n r, put_node]
theorem TI.moveK {n : Nat} : ∀ (l : List Nat) {T : TR}, TI T → n < T.length → (∀ c ∈ l, c < T.length ∧ EdgeOk (nodeAt T n) (nodeAt T c)) → TI (moveK n l T)
  | [], _, h, _, _ => h
  | c :: r, T, h, hn, hl => by
    rw [Go.Proofs.YtpppdfjdngmaoaaGreatDoor.moveK]
    refine TI.moveK r (h.put (x := none) hn (hl c (List.mem_cons_self ..)).1 (hl c (List.mem_cons_self ..)).2) (by rw [put_len]; exact hn) ?_
    intro x hx
    rw [put_len, put_node, put_node]
    exact hl x (List.mem_cons_of_mem _ hx)
end Go.Proofs.YtpppdfjdngmaoaaGreatDoor
namespace Go.Proofs.YtpppdfjdngmaoaaGreatDoor
open S5 (ND TR WF kidsAt nodeAt parentN appendL beforeL moveL addL withinL newL outL setK aheadL pushL)
open S4 (Tok nextR)
def tabA : List Bs := [[116, 100], [116, 104], [116, 114], [116, 98, 111, 100, 121], [116, 102, 111, 111, 116], [116, 104, 101, 97, 100], [99, 97, 112, 116, 105, 111, 110], [99, 111, 108, 103, 114, 111, 117, 112], [116, 97, 98, 108, 101]]
def tabO (o : OM) : Bool := o.sp == 0 && S6.amongL tabA o.nm
def AdjR (a b : OM) : Prop := b.sp = 0 → fitsL b.nm (inName a.sp a.nm) = true
def FreeN (n : Bs) : Prop := ∀ w, fitsL n w = true
def Tie (T : TR) (o : OM) : Prop := 1 ≤ o.id ∧ o.id < T.length ∧ (nodeAt T o.id).kind = 1 ∧ (nodeAt T o.id).space = o.sp ∧ (nodeAt T o.id).name = o.nm ∧ (o.sp = 0 → S6.isL 1 o.nm = false)
structure OI (T : TR) (op : List OM) : Prop where
  hd : op[0]? = some rootO
  tie : ∀ i o, op[i + 1]? = some o → Tie T o
  adj : ∀ i a b, op[i]? = some a → op[i + 1]? = some b → AdjR a b
def MarkOk (T : TR) (m : MM) : Prop := (m.id = 0 ∧ m.nm = []) ∨ (1 ≤ m.id ∧ m.id < T.length ∧ (nodeAt T m.id).kind = 1 ∧ (nodeAt T m.id).space = 0 ∧ (nodeAt T m.id).name = m.nm ∧ S6.amongL S6.formatN m.nm = true)
structure Inv (b : BS) : Prop where
  t : TI b.T
  o : OI b.T b.op
  m : ∀ m ∈ b.mr, MarkOk b.T m
def sk (l : List OM) : List OM := l.filter tabO
theorem fits_part {n : Bs} (h : S6.amongL S6.tableN n = false) : FreeN n := by
  intro w
  have k : ∀ x ∈ S6.tableN, n ≠ x := by
    intro x hx e
    unfold S6.amongL at h
    rw [List.any_eq_false] at h
    exact h x hx (by simp [e])
  unfold fitsL
  rw [if_neg, if_neg, if_neg, if_neg]
  · have := k [99, 111, 108] (by decide); simpa using this
  · unfold S6.amongL ownN
    have a1 := k [116, 98, 111, 100, 121] (by decide)
    have a2 := k [116, 102, 111, 111, 116] (by decide)
    have a3 := k [116, 104, 101, 97, 100] (by decide)
    have a4 := k [99, 97, 112, 116, 105, 111, 110] (by decide)
    have a5 := k [99, 111, 108, 103, 114, 111, 117, 112] (by decide)
    simp [a1, a2, a3, a4, a5]
  · have := k [116, 114] (by decide); simpa using this
  · unfold S6.amongL ofCell
    have a1 := k [116, 100] (by decide)
    have a2 := k [116, 104] (by decide)
    simp [a1, a2]
theorem fits_cases {n w : Bs} (h : fitsL n w = true) : FreeN n ∨ S6.amongL tabA w = true := by
  unfold fitsL at h
  by_cases c1 : S6.amongL ofCell n = true
  · rw [if_pos c1] at h
    exact Or.inr (by rw [show w = [116, 114] from by simpa using h]; decide)
  rw [if_neg c1] at h
  by_cases c2 : (n == [116, 114]) = true
  · rw [if_pos c2] at h
    right
    unfold S6.amongL rowsN at h
    unfold S6.amongL tabA
    simp at h ⊢
    rcases h with rfl | rfl | rfl <;> simp
  rw [if_neg c2] at h
  by_cases c3 : S6.amongL ownN n = true
  · rw [if_pos c3] at h
    exact Or.inr (by rw [show w = [116, 97, 98, 108, 101] from by simpa using h]; decide)
  rw [if_neg c3] at h
  by_cases c4 : (n == [99, 111, 108]) = true
  · rw [if_pos c4] at h
    exact Or.inr (by rw [show w = [99, 111, 108, 103, 114, 111, 117, 112] from by simpa using h]; decide)
  left
  intro v
  unfold fitsL
  rw [if_neg c1, if_neg c2, if_neg c3, if_neg c4]
theorem adj_free {a b : OM} (h : AdjR a b) (ha : tabO a = false) (hb : b.sp = 0) : FreeN b.nm := by
  rcases fits_cases (h hb) with k | k
  · exact k
  · unfold inName at k
    split at k
    · rename_i e
      unfold tabO at ha
      rw [k] at ha
      simp [e] at ha
    · exact absurd k (by decide)
theorem FreeN.adj {a b : OM} (h : b.sp = 0 → FreeN b.nm) : AdjR a b := fun e => h e _
def NE (T U : TR) : Prop := T.length ≤ U.length ∧ ∀ i, i < T.length → (nodeAt U i).kind = (nodeAt T i).kind ∧ (nodeAt U i).space = (nodeAt T i).space ∧ (nodeAt U i).name = (nodeAt T i).name
theorem NE.refl (T : TR) : NE T T := ⟨Nat.le_refl _, fun _ _ => ⟨rfl, rfl, rfl⟩⟩
theorem NE.trans {T U V : TR} (h1 : NE T U) (h2 : NE U V) : NE T V := by
  refine ⟨Nat.le_trans h1.1 h2.1, fun i hi => ?_⟩
  obtain ⟨a1, a2, a3⟩ := h1.2 i hi
  obtain ⟨b1, b2, b3⟩ := h2.2 i (Nat.lt_of_lt_of_le hi h1.1)
  exact ⟨b1.trans a1, b2.trans a2, b3.trans a3⟩
theorem NE.push (T : TR) (d : ND) : NE T (pushL T d) := by
  refine ⟨by rw [push_length]; omega, fun i hi => ?_⟩
  rw [node_push, if_neg (by omega)]
  exact ⟨rfl, rfl, rfl⟩
theorem NE.put (T : TR) (p : Nat) (x : Option Nat) (n : Nat) : NE T (putL T p x n) := by
  refine ⟨by rw [put_len]; omega, fun i hi => ?_⟩
  rw [put_node]
  exact ⟨rfl, rfl, rfl⟩
theorem NE.add (T : TR) (n : Nat) (s : Bs) : NE T (addL T n s) := by
  refine ⟨by rw [add_length]; omega, fun i hi => ?_⟩
  rw [node_add]
  split
  · rename_i e
    obtain ⟨rfl, _⟩ := e
    exact ⟨rfl, rfl, rfl⟩
  · exact ⟨rfl, rfl, rfl⟩
theorem Tie.ne {T U : TR} {o : OM} (h : Tie T o) (e : NE T U) : Tie U o := by
  obtain ⟨h1, h2, h3, h4, h5, h6⟩ := h
  obtain ⟨k1, k2, k3⟩ := e.2 _ h2
  exact ⟨h1, Nat.lt_of_lt_of_le h2 e.1, k1.trans h3, k2.trans h4, k3.trans h5, h6⟩
theorem OI.ne {T U : TR} {l : List OM} (h : OI T l) (e : NE T U) : OI U l := ⟨h.hd, fun i o ho => (h.tie i o ho).ne e, h.adj⟩
theorem MarkOk.ne {T U : TR} {m : MM} (h : MarkOk T m) (e : NE T U) : MarkOk U m := by
  rcases h with h | ⟨h1, h2, h3, h4, h5, h6⟩
  · exact Or.inl h
  · obtain ⟨k1, k2, k3⟩ := e.2 _ h2
    exact Or.inr ⟨h1, Nat.lt_of_lt_of_le h2 e.1, k1.trans h3, k2.trans h4, k3.trans h5, h6⟩
structure FN (b b' : BS) : Prop where
  f : b'.fost = b.fost
  ne : NE b.T b'.T
theorem FN.refl (b : BS) : FN b b := ⟨rfl, NE.refl _⟩
theorem FN.trans {a b c : BS} (h2 : FN b c) (h1 : FN a b) : FN a c := ⟨h2.f.trans h1.f, h1.ne.trans h2.ne⟩
def G (b b' : BS) : Prop := b'.e = 0 → b.e = 0 ∧ (Inv b → Inv b' ∧ sk b'.op = sk b.op ∧ b'.rules = b.rules ∧ FN b b')
theorem G.refl (b : BS) : G b b := fun h => ⟨h, fun i => ⟨i, rfl, rfl, FN.refl b⟩⟩
theorem G.trans {a b c : BS} (h1 : G a b) (h2 : G b c) : G a c := by
  intro hc
  obtain ⟨hb, k2⟩ := h2 hc
  obtain ⟨ha, k1⟩ := h1 hb
  refine ⟨ha, fun i => ?_⟩
  obtain ⟨i1, s1, r1, f1⟩ := k1 i
  obtain ⟨i2, s2, r2, f2⟩ := k2 i1
  exact ⟨i2, s2.trans s1, r2.trans r1, f2.trans f1⟩
theorem OI.pos {T : TR} {l : List OM} (h : OI T l) : 1 ≤ l.length := by
  have := h.hd
  rcases l with _ | ⟨a, r⟩
  · cases this
  · simp
theorem OI.at {T : TR} {l : List OM} (h : OI T l) (hT : TI T) {o : OM} (ho : o ∈ l) : o.id < T.length ∧ HoldOk (nodeAt T o.id) ∧ (∀ n, fitsL n (inName (nodeAt T o.id).space (nodeAt T o.id).name) = fitsL n (inName o.sp o.nm)) := by
  obtain ⟨i, hi⟩ := List.mem_iff_getElem?.1 ho
  cases i with
  | zero =>
    rw [h.hd] at hi
    obtain rfl : rootO = o := Option.some.inj hi
    refine ⟨hT.pos, ?_, ?_⟩
    · show HoldOk (nodeAt T 0)
      rw [hT.root]
      exact Or.inl ⟨rfl, rfl, rfl⟩
    · intro n
      show fitsL n (inName (nodeAt T 0).space (nodeAt T 0).name) = fitsL n [104, 116, 109, 108]
      rw [hT.root]
      show fitsL n [] = _
      unfold fitsL
      rfl
  | succ i =>
    obtain ⟨h1, h2, h3, h4, h5, h6⟩ := h.tie i o hi
    refine ⟨h2, Or.inr ⟨h3, ?_⟩, ?_⟩
    · rw [h4, h5]; exact h6
    · intro n; rw [h4, h5]
theorem cur_mem {T : TR} {b : BS} (h : OI T b.op) : curB b ∈ b.op := by
  have := h.pos
  unfold curB
  rw [List.getLast?_eq_getElem?, List.getElem?_eq_getElem (by omega)]
  exact List.getElem_mem _
theorem vs_len (l : List OM) : (vs l).length = l.length := by simp [vs]
theorem vs_at (l : List OM) (i : Nat) : (vs l)[i]? = (l[i]?).map OM.v := by simp [vs]
theorem last_some (p : S6.OV → Bool) (l : List S6.OV) : ∀ (k j : Nat), S6.lastO p l k = some j → j < k ∧ (l[j]?).any p = true ∧ ∀ i, j < i → i < k → (l[i]?).any p = false
  | 0, j, h => by cases h
  | k + 1, j, h => by
    rw [S6.lastO] at h
    split at h
    · rename_i e
      obtain rfl : k = j := Option.some.inj h
      exact ⟨by omega, e, fun i h1 h2 => by omega⟩
    · rename_i e
      obtain ⟨h1, h2, h3⟩ := last_some p l k j h
      refine ⟨by omega, h2, fun i a1 a2 => ?_⟩
      rcases Nat.lt_or_ge i k with a | a
      · exact h3 i a1 a
      · rw [show i = k from by omega]
        exact Bool.eq_false_iff.2 e
theorem place_ok {b : BS} (h : Inv b) {o : OM} (ho : o ∈ b.op) : PlaceOk b.T (placeB b o).1 (placeB b o).2 ∧ HoldOk (nodeAt b.T (placeB b o).1) := by
  have ob := fun (o : OM) (ho : o ∈ b.op) => h.o.at h.t ho
  have r0 : PlaceOk b.T 0 none ∧ HoldOk (nodeAt b.T 0) := ⟨h.t.pos, by rw [h.t.root]; exact Or.inl ⟨rfl, rfl, rfl⟩⟩
  unfold placeB
  split
  · exact ⟨(ob o ho).1, (ob o ho).2.1⟩
  · split
    · exact r0
    · exact r0
    · rename_i k e
      split
      · exact r0
      · rename_i t ht
        split
        · rename_i p hp
          have hm := S5.parent_some hp
          exact ⟨hm, (h.t.edge p t.id hm).1⟩
        · have hk := (last_some _ _ _ _ e).1
          have hl : k < b.op.length := by omega
          show PlaceOk b.T (((b.op[k]?).getD rootO).id) none ∧ HoldOk (nodeAt b.T ((b.op[k]?).getD rootO).id)
          rw [List.getElem?_eq_getElem hl]
          exact ⟨(ob _ (List.getElem_mem hl)).1, (ob _ (List.getElem_mem hl)).2.1⟩
theorem place_plain {b : BS} (o : OM) (h : b.fost = false) : placeB b o = (o.id, none) := by
  unfold placeB
  rw [h]
  rfl
theorem grow_some {b b' : BS} {d : ND} {n : Nat} (h : growB b d = (b', some n)) : b.e = 0 ∧ b.T.length < 2000 ∧ n = b.T.length ∧ b' = { b with T := pushL b.T d } := by
  unfold growB at h
  split at h
  · cases h
  · split at h
    · cases h
    · rename_i h1 h2
      obtain ⟨rfl, h3⟩ := Prod.mk.inj h
      exact ⟨Classical.not_not.1 h1, by omega, (Option.some.inj h3).symm, rfl⟩
theorem grow_none {b b' : BS} {d : ND} (h : growB b d = (b', none)) : b'.e ≠ 0 := by
  unfold growB at h
  split at h
  · rename_i h1
    obtain ⟨rfl, h⟩ := Prod.mk.inj h
    exact h1
  · split at h
    · obtain ⟨rfl, h⟩ := Prod.mk.inj h
      show (4 : Int) ≠ 0
      decide
    · cases h
theorem G.leaf {b : BS} {d : ND} (hd : NodeOk d) (hk : d.kind ≠ 1) {o : OM} (ho : Inv b → o ∈ b.op) : G b (putB (growB b d).1 (placeB b o).1 (placeB b o).2 (growB b d).2) := by
  cases hg : growB b d with
  | mk b' n =>
  cases n with
  | none =>
    intro he
    exact absurd he (grow_none hg)
  | some n =>
    obtain ⟨h0, hl, rfl, rfl⟩ := grow_some hg
    intro he
    refine ⟨h0, fun i => ⟨⟨?_, ?_, ?_⟩, rfl, rfl, rfl, (NE.push _ _).trans (NE.put _ _ _ _)⟩⟩
    · obtain ⟨p1, p2⟩ := place_ok i (ho i)
      refine (i.t.push hd hl).put (p1.push d) (by rw [push_length]; omega) ?_
      have := p1.lt
      rw [node_push, if_neg (by omega), node_push, if_pos rfl]
      exact ⟨p2, fun e => absurd e hk⟩
    · exact i.o.ne ((NE.push _ _).trans (NE.put _ _ _ _))
    · exact fun m hm => (i.m m hm).ne ((NE.push _ _).trans (NE.put _ _ _ _))
theorem G.text (b : BS) {s : Bs} (hs : s ≠ []) : G b (textB b s) := by
  have leaf := G.leaf (b := b) (d := { kind := 2, text := s }) (o := curB b) (Or.inr (Or.inl ⟨rfl, hs, rfl, rfl⟩)) (fun e => absurd (show _ = (1 : Int) from e) (by decide : ¬ (2 : Int) = 1)) (fun i => cur_mem i.o)
  unfold textB
  simp only []
  split
  · split
    · rename_i a _ hk
      intro he
      refine ⟨he, fun i => ⟨⟨i.t.add hk, i.o.ne (NE.add _ _ _), fun m hm => (i.m m hm).ne (NE.add _ _ _)⟩, rfl, rfl, rfl, NE.add _ _ _⟩⟩
    · exact leaf
  · exact leaf
theorem G.comment (b : BS) (s : Bs) : G b (commentB b s) := by
  exact G.leaf (b := b) (d := { kind := 3, text := s }) (o := curB b) (Or.inr (Or.inr ⟨rfl, rfl, rfl⟩)) (fun e => absurd (show _ = (1 : Int) from e) (by decide : ¬ (3 : Int) = 1)) (fun i => cur_mem i.o)
end Go.Proofs.YtpppdfjdngmaoaaGreatDoor
