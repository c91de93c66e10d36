/- The kinds of bytes and the sets of names, plainly: over lists of bytes. No program in it. -/
import GoSem.Core.Utf8
set_option linter.unusedVariables false
set_option linter.unusedSimpArgs false
namespace Go.Proofs.YthopnliaikkhbaaGreatDoor

def spaceN (n : Nat) : Bool := n == 9 || n == 10 || n == 12 || n == 13 || n == 32
def greatN (n : Nat) : Bool := decide (65 ≤ n) && decide (n ≤ 90)
def letterN (n : Nat) : Bool := greatN n || (decide (97 ≤ n) && decide (n ≤ 122))
def figureN (n : Nat) : Bool := decide (48 ≤ n) && decide (n ≤ 57)
def isSpace (c : UInt8) : Bool := spaceN c.toNat
def isGreat (c : UInt8) : Bool := greatN c.toNat
def isLetter (c : UInt8) : Bool := letterN c.toNat
def isFigure (c : UInt8) : Bool := figureN c.toNat
def whiteL (l : List UInt8) : Bool := l.all isSpace
def low (c : UInt8) : UInt8 := if isGreat c then c + 32 else c
def lowerL (l : List UInt8) : List UInt8 := l.map low
/-- Is the name one of these? -/
def amongL (l : List (List UInt8)) (n : List UInt8) : Bool := l.any fun o => n == o
/-- A text's pieces, blanks between them. -/
def piecesL : List UInt8 → List UInt8 → List (List UInt8)
  | cur, [] => [cur]
  | cur, c :: r => if c = 32 then cur :: piecesL [] r else piecesL (cur ++ [c]) r

def voidN : List (List UInt8) := [[97, 114, 101, 97], [98, 97, 115, 101], [98, 114], [99, 111, 108], [101, 109, 98, 101, 100], [104, 114], [105, 109, 103], [105, 110, 112, 117, 116], [108, 105, 110, 107], [109, 101, 116, 97], [112, 97, 114, 97, 109], [115, 111, 117, 114, 99, 101], [116, 114, 97, 99, 107], [119, 98, 114]]
def voidT : List UInt8 := [97, 114, 101, 97, 32, 98, 97, 115, 101, 32, 98, 114, 32, 99, 111, 108, 32, 101, 109, 98, 101, 100, 32, 104, 114, 32, 105, 109, 103, 32, 105, 110, 112, 117, 116, 32, 108, 105, 110, 107, 32, 109, 101, 116, 97, 32, 112, 97, 114, 97, 109, 32, 115, 111, 117, 114, 99, 101, 32, 116, 114, 97, 99, 107, 32, 119, 98, 114]
def rawN : List (List UInt8) := [[105, 102, 114, 97, 109, 101], [110, 111, 101, 109, 98, 101, 100], [110, 111, 102, 114, 97, 109, 101, 115], [115, 99, 114, 105, 112, 116], [115, 116, 121, 108, 101], [120, 109, 112]]
def rawT : List UInt8 := [105, 102, 114, 97, 109, 101, 32, 110, 111, 101, 109, 98, 101, 100, 32, 110, 111, 102, 114, 97, 109, 101, 115, 32, 115, 99, 114, 105, 112, 116, 32, 115, 116, 121, 108, 101, 32, 120, 109, 112]
def rcdataN : List (List UInt8) := [[116, 101, 120, 116, 97, 114, 101, 97], [116, 105, 116, 108, 101]]
def rcdataT : List UInt8 := [116, 101, 120, 116, 97, 114, 101, 97, 32, 116, 105, 116, 108, 101]
def specialN : List (List UInt8) := [[98, 97, 115, 101, 102, 111, 110, 116], [98, 103, 115, 111, 117, 110, 100], [98, 111, 100, 121], [98, 117, 116, 116, 111, 110], [100, 100], [100, 116], [102, 111, 114, 109], [102, 114, 97, 109, 101], [102, 114, 97, 109, 101, 115, 101, 116], [104, 101, 97, 100], [104, 116, 109, 108], [107, 101, 121, 103, 101, 110], [108, 105], [108, 105, 115, 116, 105, 110, 103], [110, 111, 115, 99, 114, 105, 112, 116], [112, 108, 97, 105, 110, 116, 101, 120, 116], [112, 114, 101], [115, 101, 108, 101, 99, 116], [116, 97, 98, 108, 101], [116, 101, 109, 112, 108, 97, 116, 101]]
def specialT : List UInt8 := [98, 97, 115, 101, 102, 111, 110, 116, 32, 98, 103, 115, 111, 117, 110, 100, 32, 98, 111, 100, 121, 32, 98, 117, 116, 116, 111, 110, 32, 100, 100, 32, 100, 116, 32, 102, 111, 114, 109, 32, 102, 114, 97, 109, 101, 32, 102, 114, 97, 109, 101, 115, 101, 116, 32, 104, 101, 97, 100, 32, 104, 116, 109, 108, 32, 107, 101, 121, 103, 101, 110, 32, 108, 105, 32, 108, 105, 115, 116, 105, 110, 103, 32, 110, 111, 115, 99, 114, 105, 112, 116, 32, 112, 108, 97, 105, 110, 116, 101, 120, 116, 32, 112, 114, 101, 32, 115, 101, 108, 101, 99, 116, 32, 116, 97, 98, 108, 101, 32, 116, 101, 109, 112, 108, 97, 116, 101]
def formatN : List (List UInt8) := [[97], [98], [98, 105, 103], [99, 111, 100, 101], [101, 109], [102, 111, 110, 116], [105], [110, 111, 98, 114], [115], [115, 109, 97, 108, 108], [115, 116, 114, 105, 107, 101], [115, 116, 114, 111, 110, 103], [116, 116], [117]]
def formatT : List UInt8 := [97, 32, 98, 32, 98, 105, 103, 32, 99, 111, 100, 101, 32, 101, 109, 32, 102, 111, 110, 116, 32, 105, 32, 110, 111, 98, 114, 32, 115, 32, 115, 109, 97, 108, 108, 32, 115, 116, 114, 105, 107, 101, 32, 115, 116, 114, 111, 110, 103, 32, 116, 116, 32, 117]
def blockN : List (List UInt8) := [[97, 100, 100, 114, 101, 115, 115], [97, 114, 116, 105, 99, 108, 101], [97, 115, 105, 100, 101], [98, 108, 111, 99, 107, 113, 117, 111, 116, 101], [99, 101, 110, 116, 101, 114], [100, 101, 116, 97, 105, 108, 115], [100, 105, 97, 108, 111, 103], [100, 105, 114], [100, 105, 118], [100, 108], [102, 105, 101, 108, 100, 115, 101, 116], [102, 105, 103, 99, 97, 112, 116, 105, 111, 110], [102, 105, 103, 117, 114, 101], [102, 111, 111, 116, 101, 114], [104, 101, 97, 100, 101, 114], [104, 103, 114, 111, 117, 112], [109, 97, 105, 110], [109, 101, 110, 117], [110, 97, 118], [111, 108], [112], [115, 101, 97, 114, 99, 104], [115, 101, 99, 116, 105, 111, 110], [115, 117, 109, 109, 97, 114, 121], [117, 108]]
def blockT : List UInt8 := [97, 100, 100, 114, 101, 115, 115, 32, 97, 114, 116, 105, 99, 108, 101, 32, 97, 115, 105, 100, 101, 32, 98, 108, 111, 99, 107, 113, 117, 111, 116, 101, 32, 99, 101, 110, 116, 101, 114, 32, 100, 101, 116, 97, 105, 108, 115, 32, 100, 105, 97, 108, 111, 103, 32, 100, 105, 114, 32, 100, 105, 118, 32, 100, 108, 32, 102, 105, 101, 108, 100, 115, 101, 116, 32, 102, 105, 103, 99, 97, 112, 116, 105, 111, 110, 32, 102, 105, 103, 117, 114, 101, 32, 102, 111, 111, 116, 101, 114, 32, 104, 101, 97, 100, 101, 114, 32, 104, 103, 114, 111, 117, 112, 32, 109, 97, 105, 110, 32, 109, 101, 110, 117, 32, 110, 97, 118, 32, 111, 108, 32, 112, 32, 115, 101, 97, 114, 99, 104, 32, 115, 101, 99, 116, 105, 111, 110, 32, 115, 117, 109, 109, 97, 114, 121, 32, 117, 108]
def headingN : List (List UInt8) := [[104, 49], [104, 50], [104, 51], [104, 52], [104, 53], [104, 54]]
def headingT : List UInt8 := [104, 49, 32, 104, 50, 32, 104, 51, 32, 104, 52, 32, 104, 53, 32, 104, 54]
def impliedN : List (List UInt8) := [[100, 100], [100, 116], [108, 105], [111, 112, 116, 103, 114, 111, 117, 112], [111, 112, 116, 105, 111, 110], [112], [114, 98], [114, 112], [114, 116], [114, 116, 99]]
def impliedT : List UInt8 := [100, 100, 32, 100, 116, 32, 108, 105, 32, 111, 112, 116, 103, 114, 111, 117, 112, 32, 111, 112, 116, 105, 111, 110, 32, 112, 32, 114, 98, 32, 114, 112, 32, 114, 116, 32, 114, 116, 99]
def tableN : List (List UInt8) := [[99, 97, 112, 116, 105, 111, 110], [99, 111, 108], [99, 111, 108, 103, 114, 111, 117, 112], [116, 98, 111, 100, 121], [116, 100], [116, 102, 111, 111, 116], [116, 104], [116, 104, 101, 97, 100], [116, 114]]
def tableT : List UInt8 := [99, 97, 112, 116, 105, 111, 110, 32, 99, 111, 108, 32, 99, 111, 108, 103, 114, 111, 117, 112, 32, 116, 98, 111, 100, 121, 32, 116, 100, 32, 116, 102, 111, 111, 116, 32, 116, 104, 32, 116, 104, 101, 97, 100, 32, 116, 114]
def breaksN : List (List UInt8) := [[98], [98, 105, 103], [98, 108, 111, 99, 107, 113, 117, 111, 116, 101], [98, 111, 100, 121], [98, 114], [99, 101, 110, 116, 101, 114], [99, 111, 100, 101], [100, 100], [100, 105, 118], [100, 108], [100, 116], [101, 109], [101, 109, 98, 101, 100], [104, 49], [104, 50], [104, 51], [104, 52], [104, 53], [104, 54], [104, 101, 97, 100], [104, 114], [105], [105, 109, 103], [108, 105], [108, 105, 115, 116, 105, 110, 103], [109, 101, 110, 117], [109, 101, 116, 97], [110, 111, 98, 114], [111, 108], [112], [112, 114, 101], [114, 117, 98, 121], [115], [115, 109, 97, 108, 108], [115, 112, 97, 110], [115, 116, 114, 105, 107, 101], [115, 116, 114, 111, 110, 103], [115, 117, 98], [115, 117, 112], [116, 97, 98, 108, 101], [116, 116], [117], [117, 108], [118, 97, 114]]
def breaksT : List UInt8 := [98, 32, 98, 105, 103, 32, 98, 108, 111, 99, 107, 113, 117, 111, 116, 101, 32, 98, 111, 100, 121, 32, 98, 114, 32, 99, 101, 110, 116, 101, 114, 32, 99, 111, 100, 101, 32, 100, 100, 32, 100, 105, 118, 32, 100, 108, 32, 100, 116, 32, 101, 109, 32, 101, 109, 98, 101, 100, 32, 104, 49, 32, 104, 50, 32, 104, 51, 32, 104, 52, 32, 104, 53, 32, 104, 54, 32, 104, 101, 97, 100, 32, 104, 114, 32, 105, 32, 105, 109, 103, 32, 108, 105, 32, 108, 105, 115, 116, 105, 110, 103, 32, 109, 101, 110, 117, 32, 109, 101, 116, 97, 32, 110, 111, 98, 114, 32, 111, 108, 32, 112, 32, 112, 114, 101, 32, 114, 117, 98, 121, 32, 115, 32, 115, 109, 97, 108, 108, 32, 115, 112, 97, 110, 32, 115, 116, 114, 105, 107, 101, 32, 115, 116, 114, 111, 110, 103, 32, 115, 117, 98, 32, 115, 117, 112, 32, 116, 97, 98, 108, 101, 32, 116, 116, 32, 117, 32, 117, 108, 32, 118, 97, 114]
def markerN : List (List UInt8) := [[97, 112, 112, 108, 101, 116], [109, 97, 114, 113, 117, 101, 101], [111, 98, 106, 101, 99, 116]]
def markerT : List UInt8 := [97, 112, 112, 108, 101, 116, 32, 109, 97, 114, 113, 117, 101, 101, 32, 111, 98, 106, 101, 99, 116]
def skipN : List (List UInt8) := [[98, 111, 100, 121], [102, 114, 97, 109, 101], [102, 114, 97, 109, 101, 115, 101, 116], [104, 101, 97, 100], [104, 116, 109, 108]]
def skipT : List UInt8 := [98, 111, 100, 121, 32, 102, 114, 97, 109, 101, 32, 102, 114, 97, 109, 101, 115, 101, 116, 32, 104, 101, 97, 100, 32, 104, 116, 109, 108]

/-- The lists that a set is made of. -/
def listsOf {α : Type} (v r rc sp f b h i t br m s : α) (k : Int) : List α :=
  if k = 1 then [v] else if k = 2 then [r] else if k = 3 then [rc] else if k = 4 then [v, r, rc, h, b, t, m, sp] else if k = 5 then [f] else if k = 6 then [b]
  else if k = 7 then [h] else if k = 8 then [i] else if k = 9 then [t] else if k = 10 then [br] else if k = 11 then [m] else if k = 12 then [s, t] else []
def listsN (k : Int) : List (List (List UInt8)) := listsOf voidN rawN rcdataN specialN formatN blockN headingN impliedN tableN breaksN markerN skipN k
def textsT (k : Int) : List (List UInt8) := listsOf voidT rawT rcdataT specialT formatT blockT headingT impliedT tableT breaksT markerT skipT k
/-- Is the name in the set? -/
def isL (k : Int) (n : List UInt8) : Bool := (listsN k).any fun l => amongL l n

theorem void_pieces : piecesL [] voidT = voidN := by decide +kernel
theorem raw_pieces : piecesL [] rawT = rawN := by decide +kernel
theorem rcdata_pieces : piecesL [] rcdataT = rcdataN := by decide +kernel
theorem special_pieces : piecesL [] specialT = specialN := by decide +kernel
theorem format_pieces : piecesL [] formatT = formatN := by decide +kernel
theorem block_pieces : piecesL [] blockT = blockN := by decide +kernel
theorem heading_pieces : piecesL [] headingT = headingN := by decide +kernel
theorem implied_pieces : piecesL [] impliedT = impliedN := by decide +kernel
theorem table_pieces : piecesL [] tableT = tableN := by decide +kernel
theorem breaks_pieces : piecesL [] breaksT = breaksN := by decide +kernel
theorem marker_pieces : piecesL [] markerT = markerN := by decide +kernel
theorem skip_pieces : piecesL [] skipT = skipN := by decide +kernel

theorem low_low (c : UInt8) : low (low c) = low c := by
  unfold low isGreat greatN
  by_cases h : (decide (65 ≤ c.toNat) && decide (c.toNat ≤ 90)) = true
  · rw [if_pos h]
    simp at h
    have e : (c + 32).toNat = c.toNat + 32 := by
      rw [UInt8.toNat_add]
      show (c.toNat + 32) % 256 = _
      omega
    rw [if_neg]
    rw [e]
    simp
    omega
  · rw [if_neg h, if_neg h]
theorem lower_lower (l : List UInt8) : lowerL (lowerL l) = lowerL l := by
  unfold lowerL
  rw [List.map_map]
  exact List.map_congr_left fun c _ => low_low c
theorem lower_length (l : List UInt8) : (lowerL l).length = l.length := by unfold lowerL; rw [List.length_map]
theorem letter_space (c : UInt8) (h : isLetter c = true) : isSpace c = false := by
  simp [isLetter, letterN, greatN] at h
  simp [isSpace, spaceN]
  omega
theorem letter_figure (c : UInt8) (h : isLetter c = true) : isFigure c = false := by
  simp [isLetter, letterN, greatN] at h
  simp [isFigure, figureN]
  omega
theorem white_two (c : UInt8) : whiteL [c, c] = isSpace c := by
  unfold whiteL
  simp

theorem among_mem (l : List (List UInt8)) (n : List UInt8) : amongL l n = true ↔ n ∈ l := by
  unfold amongL
  rw [List.any_eq_true]
  constructor
  · rintro ⟨x, hx, he⟩
    rw [show n = x by simpa using he]
    exact hx
  · exact fun h => ⟨n, h, by simp⟩
/-- All names of all sets. -/
def allOf {α : Type} (v r rc sp f b h i t br m s : List α) : List α := v ++ r ++ rc ++ sp ++ f ++ b ++ h ++ i ++ t ++ br ++ m ++ s
theorem lists_none {α : Type} (v r rc sp f b h i t br m s : α) (k : Int) (hk : k < 1 ∨ 12 < k) : listsOf v r rc sp f b h i t br m s k = [] := by
  unfold listsOf
  rw [if_neg (by omega), if_neg (by omega), if_neg (by omega), if_neg (by omega), if_neg (by omega), if_neg (by omega), if_neg (by omega), if_neg (by omega), if_neg (by omega), if_neg (by omega), if_neg (by omega), if_neg (by omega)]
theorem lists_of {α : Type} (v r rc sp f b h i t br m s : List α) (k : Int) (l : List α) (hl : l ∈ listsOf v r rc sp f b h i t br m s k) (n : α) (hn : n ∈ l) : n ∈ allOf v r rc sp f b h i t br m s := by
  unfold allOf
  simp only [List.mem_append]
  rcases (by omega : k = 1 ∨ k = 2 ∨ k = 3 ∨ k = 4 ∨ k = 5 ∨ k = 6 ∨ k = 7 ∨ k = 8 ∨ k = 9 ∨ k = 10 ∨ k = 11 ∨ k = 12 ∨ (k < 1 ∨ 12 < k)) with rfl | rfl | rfl | rfl | rfl | rfl | rfl | rfl | rfl | rfl | rfl | rfl | hk
  case inr.inr.inr.inr.inr.inr.inr.inr.inr.inr.inr.inr =>
    rw [lists_none _ _ _ _ _ _ _ _ _ _ _ _ k hk] at hl
    exact absurd hl List.not_mem_nil
  all_goals simp only [listsOf, Int.reduceEq, if_true, if_false, List.mem_cons, List.not_mem_nil, or_false] at hl
  all_goals (repeat' (rcases hl with hl | hl))
  all_goals simp only [hn, true_or, or_true]
def allN : List (List UInt8) := allOf voidN rawN rcdataN specialN formatN blockN headingN impliedN tableN breaksN markerN skipN
theorem all_small : allN.all (fun n => lowerL n == n) = true := by decide +kernel
theorem lists_all (k : Int) (l : List (List UInt8)) (h : l ∈ listsN k) (n : List UInt8) (hn : n ∈ l) : n ∈ allN := lists_of _ _ _ _ _ _ _ _ _ _ _ _ k l h n hn
theorem is_small (k : Int) (n : List UInt8) (h : isL k n = true) : lowerL n = n := by
  unfold isL at h
  rw [List.any_eq_true] at h
  obtain ⟨l, hl, ha⟩ := h
  have := List.all_eq_true.1 all_small n (lists_all k l hl n ((among_mem _ _).1 ha))
  simpa using this

theorem any_one {α : Type} (p : α → Bool) (a : α) : [a].any p = p a := by simp
theorem any_two {α : Type} (p : α → Bool) (a b : α) : [a, b].any p = (p a || p b) := by simp
theorem any_eight {α : Type} (p : α → Bool) (a b c d e f g h : α) : [a, b, c, d, e, f, g, h].any p = (p a || p b || p c || p d || p e || p f || p g || p h) := by simp [Bool.or_assoc]
theorem is_1 (n : List UInt8) : isL 1 n = amongL voidN n := any_one (fun l => amongL l n) voidN
theorem is_2 (n : List UInt8) : isL 2 n = amongL rawN n := any_one (fun l => amongL l n) rawN
theorem is_3 (n : List UInt8) : isL 3 n = amongL rcdataN n := any_one (fun l => amongL l n) rcdataN
theorem is_5 (n : List UInt8) : isL 5 n = amongL formatN n := any_one (fun l => amongL l n) formatN
theorem is_6 (n : List UInt8) : isL 6 n = amongL blockN n := any_one (fun l => amongL l n) blockN
theorem is_7 (n : List UInt8) : isL 7 n = amongL headingN n := any_one (fun l => amongL l n) headingN
theorem is_8 (n : List UInt8) : isL 8 n = amongL impliedN n := any_one (fun l => amongL l n) impliedN
theorem is_9 (n : List UInt8) : isL 9 n = amongL tableN n := any_one (fun l => amongL l n) tableN
theorem is_10 (n : List UInt8) : isL 10 n = amongL breaksN n := any_one (fun l => amongL l n) breaksN
theorem is_11 (n : List UInt8) : isL 11 n = amongL markerN n := any_one (fun l => amongL l n) markerN
theorem is_12 (n : List UInt8) : isL 12 n = (amongL skipN n || amongL tableN n) := any_two (fun l => amongL l n) skipN tableN
theorem is_4 (n : List UInt8) : isL 4 n = (amongL voidN n || amongL rawN n || amongL rcdataN n || amongL headingN n || amongL blockN n || amongL tableN n || amongL markerN n || amongL specialN n) := any_eight (fun l => amongL l n) voidN rawN rcdataN headingN blockN tableN markerN specialN
theorem is_none (k : Int) (n : List UInt8) (hk : k < 1 ∨ 12 < k) : isL k n = false := by
  unfold isL listsN
  rw [lists_none _ _ _ _ _ _ _ _ _ _ _ _ k hk]; rfl
theorem is_special (n : List UInt8) (k : Int) (hk : k = 1 ∨ k = 2 ∨ k = 3 ∨ k = 7 ∨ k = 6 ∨ k = 9 ∨ k = 11) (h : isL k n = true) : isL 4 n = true := by
  rw [is_4]
  rcases hk with rfl | rfl | rfl | rfl | rfl | rfl | rfl
  · rw [is_1] at h; simp only [h, Bool.true_or, Bool.or_true]
  · rw [is_2] at h; simp only [h, Bool.true_or, Bool.or_true]
  · rw [is_3] at h; simp only [h, Bool.true_or, Bool.or_true]
  · rw [is_7] at h; simp only [h, Bool.true_or, Bool.or_true]
  · rw [is_6] at h; simp only [h, Bool.true_or, Bool.or_true]
  · rw [is_9] at h; simp only [h, Bool.true_or, Bool.or_true]
  · rw [is_11] at h; simp only [h, Bool.true_or, Bool.or_true]
theorem parted (a b : List (List UInt8)) (h : a.all (fun x => !b.contains x) = true) (n : List UInt8) (ha : amongL a n = true) : amongL b n = false := by
  have := List.all_eq_true.1 h n ((among_mem _ _).1 ha)
  cases hb : amongL b n
  · rfl
  · rw [List.contains_iff_mem.2 ((among_mem _ _).1 hb)] at this
    exact absurd this (by simp)
theorem format_special (n : List UInt8) (h : isL 5 n = true) : isL 6 n = false ∧ isL 4 n = false := by
  rw [is_5] at h
  rw [is_6, is_4]
  rw [parted formatN blockN (by decide +kernel) n h, parted formatN voidN (by decide +kernel) n h, parted formatN rawN (by decide +kernel) n h, parted formatN rcdataN (by decide +kernel) n h, parted formatN headingN (by decide +kernel) n h,
    parted formatN tableN (by decide +kernel) n h, parted formatN markerN (by decide +kernel) n h, parted formatN specialN (by decide +kernel) n h]
  exact ⟨rfl, rfl⟩
theorem void_raw (n : List UInt8) (h : isL 1 n = true) : isL 2 n = false ∧ isL 3 n = false := by
  rw [is_1] at h
  rw [is_2, is_3]
  rw [parted voidN rawN (by decide +kernel) n h, parted voidN rcdataN (by decide +kernel) n h]
  exact ⟨rfl, rfl⟩
theorem table_skip (n : List UInt8) (h : isL 9 n = true) : isL 12 n = true := by
  rw [is_9] at h
  rw [is_12]
  rw [h, Bool.or_true]
end Go.Proofs.YthopnliaikkhbaaGreatDoor
