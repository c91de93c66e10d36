/- Policies as the program checks them, and that it is as the document says. Over lists, no program in it. -/
import Derived.Test.YthopnliaikkhbaaGreatDoorPr11
set_option linter.unusedVariables false
set_option linter.unusedSimpArgs false
namespace Go.Proofs.YthopnliaikkhbaaGreatDoor

def neverE (n : Bs) : Bool := amongL oddN n || isL 2 n || isL 3 n || isL 12 n
def neverS (n : Bs) : Bool := n == dataN || n == jsN || n == vbN
def listsP (p : PO) : List (List Bs) := p.li :: p.sc :: p.dr :: p.ru.map fun r => r.at_
def tooP (p : PO) : Bool := decide (40 < p.ru.length) || (listsP p).any fun l => decide (20 < l.length)
def badR (dr : List Bs) (r : RU) : Bool := neverE r.nm || r.at_.any badA || amongL dr r.nm
def mayP (p : PO) : Bool := (decide (1 ≤ p.de) && decide (p.de ≤ 60) && namesL (p.ru.map fun r => r.nm)) && (listsP p).all namesL && !(p.ru.any (badR p.dr)) && !p.sc.any neverS
theorem too_large (p : PO) : tooP p = largeP p := by
  unfold tooP largeP listsP
  simp only [List.any_cons, List.any_map]
  simp only [Bool.or_assoc]
  rfl
theorem rules_are (dr : List Bs) : ∀ (l : List RU) (seen : List Bs), rulesK dr seen l = (namesK seen (l.map fun r => r.nm) && (l.all fun r => namesL r.at_) && !(l.any (badR dr)))
  | [], seen => rfl
  | r :: l, seen => by
    rw [rulesK, rules_are dr l, List.map_cons, namesK, List.all_cons, List.any_cons]
    unfold ruleL badR neverE
    generalize nameL r.nm = a
    generalize amongL seen r.nm = b
    generalize namesL r.at_ = c
    generalize isL 2 r.nm = d
    generalize isL 3 r.nm = e
    generalize isL 12 r.nm = f
    generalize r.at_.any badA = g
    generalize amongL oddN r.nm = h
    generalize amongL dr r.nm = i
    generalize namesK (seen ++ [r.nm]) _ = j
    generalize (l.all fun r => namesL r.at_) = k
    generalize l.any _ = m
    cases a <;> cases b <;> cases c <;> cases d <;> cases e <;> cases f <;> cases g <;> cases h <;> cases i <;> cases j <;> cases k <;> cases m <;> rfl
theorem scheme_any : ∀ l : List Bs, l.any neverS = (amongL l dataN || amongL l jsN || amongL l vbN)
  | [] => rfl
  | x :: l => by
    rw [List.any_cons, scheme_any l]
    unfold amongL neverS
    simp only [List.any_cons]
    rw [show (dataN == x) = (x == dataN) from Bool.eq_iff_iff.2 (by rw [beq_iff_eq, beq_iff_eq]; exact eq_comm), show (jsN == x) = (x == jsN) from Bool.eq_iff_iff.2 (by rw [beq_iff_eq, beq_iff_eq]; exact eq_comm), show (vbN == x) = (x == vbN) from Bool.eq_iff_iff.2 (by rw [beq_iff_eq, beq_iff_eq]; exact eq_comm)]
    generalize (x == dataN) = a
    generalize (x == jsN) = b
    generalize (x == vbN) = c
    generalize (l.any fun o => dataN == o) = d
    generalize (l.any fun o => jsN == o) = e
    generalize (l.any fun o => vbN == o) = f
    cases a <;> cases b <;> cases c <;> cases d <;> cases e <;> cases f <;> rfl
theorem may_ok (p : PO) : mayP p = okP p := by
  unfold mayP okP listsP
  rw [rules_are, scheme_any]
  simp only [List.all_cons, List.all_map]
  unfold namesL
  generalize decide (1 ≤ p.de) = a
  generalize decide (p.de ≤ 60) = b
  generalize namesK [] (p.ru.map fun r => r.nm) = c
  generalize namesK [] p.li = d
  generalize namesK [] p.sc = e
  generalize namesK [] p.dr = f
  generalize p.ru.any _ = g
  generalize (amongL p.sc dataN || amongL p.sc jsN || amongL p.sc vbN) = h
  have e1 : (p.ru.all ((fun l => namesK [] l) ∘ fun r => r.at_)) = (p.ru.all fun r => namesK [] r.at_) := rfl
  rw [e1]
  generalize (p.ru.all fun r => namesK [] r.at_) = i
  cases a <;> cases b <;> cases c <;> cases d <;> cases e <;> cases f <;> cases g <;> cases h <;> cases i <;> rfl
theorem check_is (p : PO) : checkP p = if tooP p then 4 else if mayP p then 0 else 1 := by
  unfold checkP
  rw [too_large, may_ok]
/-! Steps over lists. -/
theorem names_step (l : List Bs) (k : Nat) (h : k < l.length) : namesK (l.take k) (l.drop k) = (nameL l[k] && !amongL (l.take k) l[k] && namesK (l.take (k + 1)) (l.drop (k + 1))) := by
  rw [List.drop_eq_getElem_cons h, namesK]
  congr 2
  rw [List.take_add_one, List.getElem?_eq_getElem h]; rfl
theorem names_end (l : List Bs) (k : Nat) (h : l.length ≤ k) : namesK (l.take k) (l.drop k) = true := by
  rw [List.drop_eq_nil_of_le h, namesK]
theorem all_in_step (l : Bs) (k : Nat) (h : k < l.length) : (l.drop k).all inName = (inName l[k] && (l.drop (k + 1)).all inName) := by
  rw [List.drop_eq_getElem_cons h]; rfl
theorem any_step1 {α : Type} (p : α → Bool) (l : List α) (k : Nat) (h : k < l.length) : (l.drop k).any p = (p l[k] || (l.drop (k + 1)).any p) := by
  rw [List.drop_eq_getElem_cons h]; rfl
theorem any_end1 {α : Type} (p : α → Bool) (l : List α) (k : Nat) (h : l.length ≤ k) : (l.drop k).any p = false := by
  rw [List.drop_eq_nil_of_le h]; rfl
theorem all_step1 {α : Type} (p : α → Bool) (l : List α) (k : Nat) (h : k < l.length) : (l.drop k).all p = (p l[k] && (l.drop (k + 1)).all p) := by
  rw [List.drop_eq_getElem_cons h]; rfl
theorem all_end1 {α : Type} (p : α → Bool) (l : List α) (k : Nat) (h : l.length ≤ k) : (l.drop k).all p = true := by
  rw [List.drop_eq_nil_of_le h]; rfl
end Go.Proofs.YthopnliaikkhbaaGreatDoor
