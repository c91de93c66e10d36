/- A policy that is printed is parsed as it was; what no policy lets. Over lists, no program in it. -/
import Derived.Test.YthopnliaikkhbaaGreatDoorPm11
set_option linter.unusedVariables false
set_option linter.unusedSimpArgs false
namespace Go.Proofs.YthopnliaikkhbaaGreatDoor

/-- Neither a blank nor a line feed, and something. -/
def wordOk (w : Bs) : Prop := w ≠ [] ∧ ∀ c ∈ w, c ≠ 32 ∧ c ≠ 10
theorem words_go : ∀ (w cur r : Bs), (∀ c ∈ w, c ≠ 32) → wordsK cur (w ++ r) = wordsK (cur ++ w) r
  | [], cur, r, _ => by simp
  | c :: w, cur, r, h => by
    rw [List.cons_append, wordsK, if_neg (h c (by simp)), words_go w (cur ++ [c]) r fun x hx => h x (by simp [hx])]
    simp
theorem words_one (w : Bs) (h : wordOk w) : wordsL w = [w] := by
  have := words_go w [] [] fun c hc => (h.2 c hc).1
  rw [List.append_nil, List.nil_append] at this
  unfold wordsL
  rw [this, wordsK, if_neg h.1]
theorem words_sp : ∀ (l : List Bs) (w : Bs), wordOk w → (∀ x ∈ l, wordOk x) → wordsL (w ++ l.flatMap (fun x => 32 :: x)) = w :: l
  | [], w, h, _ => by simpa using words_one w h
  | x :: l, w, h, hl => by
    have e : w ++ (x :: l).flatMap (fun x => 32 :: x) = w ++ 32 :: (x ++ l.flatMap (fun x => 32 :: x)) := by simp
    rw [e]
    unfold wordsL
    rw [words_go w [] _ fun c hc => (h.2 c hc).1, List.nil_append, wordsK, if_pos rfl, if_neg h.1]
    congr 1
    exact words_sp l x (hl x (by simp)) fun y hy => hl y (by simp [hy])
theorem lines_go : ∀ (a cur r : Bs), (∀ c ∈ a, c ≠ 10) → linesK cur (a ++ r) = linesK (cur ++ a) r
  | [], cur, r, _ => by simp
  | c :: a, cur, r, h => by
    rw [List.cons_append, linesK, if_neg (h c (by simp)), lines_go a (cur ++ [c]) r fun x hx => h x (by simp [hx])]
    simp
theorem lines_cut (a r : Bs) (h : ∀ c ∈ a, c ≠ 10) : linesL (a ++ 10 :: r) = a :: linesL r := by
  unfold linesL
  rw [lines_go a [] _ h, List.nil_append, linesK, if_pos rfl]
theorem name_word {n : Bs} (h : nameL n = true) : wordOk n := by
  unfold nameL at h
  simp only [Bool.and_eq_true, decide_eq_true_eq] at h
  refine ⟨fun e => by rw [e] at h; simp at h, fun c hc => ?_⟩
  have := List.all_eq_true.1 h.2 c hc
  unfold inName smallN figureN at this
  simp at this
  constructor
  · rintro rfl; simp at this
  · rintro rfl; simp at this
theorem names_mem : ∀ (l seen : List Bs), namesK seen l = true → ∀ x ∈ l, nameL x = true
  | [], _, _, x, hx => by cases hx
  | y :: l, seen, h, x, hx => by
    rw [namesK, Bool.and_eq_true, Bool.and_eq_true] at h
    rcases List.mem_cons.1 hx with rfl | hx
    · exact h.1.1
    · exact names_mem l _ h.2 x hx
theorem names_words {l : List Bs} (h : namesL l = true) : ∀ x ∈ l, wordOk x := fun x hx => name_word (names_mem l [] h x hx)
/-- A line of a word and names. -/
def lineOf (w : Bs) (l : List Bs) : Bs := w ++ l.flatMap (fun x => 32 :: x)
theorem said_line (w : Bs) (l : List Bs) : saidL w l = lineOf w l ++ [10] := rfl
theorem line_words (w : Bs) (l : List Bs) (h : wordOk w) (hl : ∀ x ∈ l, wordOk x) : wordsL (lineOf w l) = w :: l := words_sp l w h hl
theorem line_none (w : Bs) (l : List Bs) (h : wordOk w) (hl : ∀ x ∈ l, wordOk x) : ∀ c ∈ lineOf w l, c ≠ 10 := by
  intro c hc
  unfold lineOf at hc
  rcases List.mem_append.1 hc with hc | hc
  · exact (h.2 c hc).2
  · obtain ⟨x, hx, hc⟩ := List.mem_flatMap.1 hc
    rcases List.mem_cons.1 hc with rfl | hc
    · decide
    · exact ((hl x hx).2 c hc).2
theorem line_head (w : Bs) (l : List Bs) (h : w ≠ []) : (lineOf w l).head? = w.head? := by
  cases w with
  | nil => exact absurd rfl h
  | cons c w => rfl
theorem read_line {n : Nat} {p q : PO} {s : Bs} {r : List Bs} (h : lineL p s = some q) : readK n p (s :: r) = readK (n + 1) q r := by
  rw [readK, h]
theorem wd_deep : wordOk deepN := ⟨by decide, by decide⟩
theorem wd_elem : wordOk elemN := ⟨by decide, by decide⟩
theorem wd_link : wordOk linkN := ⟨by decide, by decide⟩
theorem wd_scheme : wordOk schemeN := ⟨by decide, by decide⟩
theorem wd_drop : wordOk dropN := ⟨by decide, by decide⟩
theorem num_word (n : Nat) (h : n ≤ 60) : wordOk (numL n) ∧ deepL (numL n) = some n := by
  have key : (List.range 61).all (fun n => decide (numL n ≠ []) && (numL n).all (fun c => c != 32 && c != 10) && (deepL (numL n) == some n)) = true := by decide +kernel
  have := List.all_eq_true.1 key n (List.mem_range.2 (by omega))
  simp only [Bool.and_eq_true, decide_eq_true_eq, List.all_eq_true, bne_iff_ne, beq_iff_eq] at this
  exact ⟨⟨this.1.1, this.1.2⟩, this.2⟩
theorem say_deep (p : PO) (n : Nat) (h : n ≤ 60) : lineL p (lineOf deepN [numL n]) = some { p with de := (n : Int) } := by
  obtain ⟨h1, h2⟩ := num_word n h
  unfold lineL
  rw [line_words deepN _ wd_deep (by simpa using h1), line_head _ _ (by decide)]
  simp only []
  rw [if_neg (by decide), if_pos trivial, h2]
  rfl
theorem say_elem (p : PO) (r : RU) (h1 : wordOk r.nm) (h2 : ∀ x ∈ r.at_, wordOk x) : lineL p (lineOf elemN (r.nm :: r.at_)) = some { p with ru := p.ru ++ [r] } := by
  unfold lineL
  rw [line_words elemN _ wd_elem (by intro x hx; rcases List.mem_cons.1 hx with rfl | hx; exact h1; exact h2 x hx), line_head _ _ (by decide)]
  simp only []
  rw [if_neg (by decide), if_neg (by decide), if_pos trivial]
theorem say_link (p : PO) (l : List Bs) (h : ∀ x ∈ l, wordOk x) : lineL p (lineOf linkN l) = some { p with li := p.li ++ l } := by
  unfold lineL
  rw [line_words linkN _ wd_link h, line_head _ _ (by decide)]
  simp only []
  rw [if_neg (by decide), if_neg (by decide), if_neg (by decide), if_pos trivial]
theorem say_scheme (p : PO) (l : List Bs) (h : ∀ x ∈ l, wordOk x) : lineL p (lineOf schemeN l) = some { p with sc := p.sc ++ l } := by
  unfold lineL
  rw [line_words schemeN _ wd_scheme h, line_head _ _ (by decide)]
  simp only []
  rw [if_neg (by decide), if_neg (by decide), if_neg (by decide), if_neg (by decide), if_pos trivial]
theorem say_drop (p : PO) (l : List Bs) (h : ∀ x ∈ l, wordOk x) : lineL p (lineOf dropN l) = some { p with dr := p.dr ++ l } := by
  unfold lineL
  rw [line_words dropN _ wd_drop h, line_head _ _ (by decide)]
  simp only []
  rw [if_neg (by decide), if_neg (by decide), if_neg (by decide), if_neg (by decide), if_neg (by decide), if_pos trivial]
theorem say_none (p : PO) : lineL p [] = some p := rfl
/-- What is read goes on behind a line. -/
theorem read_said (n : Nat) (p q : PO) (w : Bs) (l : List Bs) (rest : Bs) (hw : wordOk w) (hl : ∀ x ∈ l, wordOk x) (h : lineL p (lineOf w l) = some q) : readK n p (linesL (saidL w l ++ rest)) = readK (n + 1) q (linesL rest) := by
  rw [said_line, List.append_assoc, List.singleton_append, lines_cut _ _ (line_none w l hw hl), read_line h]
theorem elem_said (r : RU) : saidL (elemN ++ 32 :: r.nm) r.at_ = saidL elemN (r.nm :: r.at_) := by
  unfold saidL
  simp
theorem read_rules : ∀ (l : List RU) (n : Nat) (p : PO) (rest : Bs), (∀ r ∈ l, wordOk r.nm ∧ ∀ x ∈ r.at_, wordOk x) → ∃ m, readK n p (linesL (l.flatMap (fun r => saidL (elemN ++ 32 :: r.nm) r.at_) ++ rest)) = readK m { p with ru := p.ru ++ l } (linesL rest)
  | [], n, p, rest, _ => ⟨n, by simp⟩
  | r :: l, n, p, rest, h => by
    obtain ⟨h1, h2⟩ := h r (by simp)
    have e : (r :: l).flatMap (fun r => saidL (elemN ++ 32 :: r.nm) r.at_) ++ rest = saidL elemN (r.nm :: r.at_) ++ (l.flatMap (fun r => saidL (elemN ++ 32 :: r.nm) r.at_) ++ rest) := by
      rw [List.flatMap_cons, elem_said, List.append_assoc]
    rw [e, read_said n p _ _ _ _ wd_elem (by intro x hx; rcases List.mem_cons.1 hx with rfl | hx; exact h1; exact h2 x hx) (say_elem p r h1 h2)]
    obtain ⟨m, hm⟩ := read_rules l (n + 1) { p with ru := p.ru ++ [r] } rest fun x hx => h x (by simp [hx])
    exact ⟨m, by rw [hm]; simp⟩
theorem rules_mem : ∀ (l : List RU) (dr seen : List Bs), rulesK dr seen l = true → ∀ r ∈ l, ruleL r = true
  | [], _, _, _, r, hr => by cases hr
  | x :: l, dr, seen, h, r, hr => by
    rw [rulesK] at h
    simp only [Bool.and_eq_true] at h
    rcases List.mem_cons.1 hr with rfl | hr
    · exact h.1.1.2
    · exact rules_mem l dr _ h.2 r hr
theorem rule_words {r : RU} (h : ruleL r = true) : wordOk r.nm ∧ ∀ x ∈ r.at_, wordOk x := by
  unfold ruleL at h
  simp only [Bool.and_eq_true] at h
  exact ⟨name_word h.1.1.1.1.1.1, names_words h.1.1.1.1.1.2⟩
/-- What is printed says the policy, whatever was said ahead of it that says nothing. -/
theorem read_print (p : PO) (h : checkP p = 0) (n : Nat) : readK n {} (linesL (printL p)) = .inl p := by
  have hok : okP p = true := by
    unfold checkP at h
    split at h
    · omega
    · split at h
      · assumption
      · omega
  unfold okP at hok
  simp only [Bool.and_eq_true, decide_eq_true_eq] at hok
  obtain ⟨⟨⟨⟨⟨⟨d1, d2⟩, hli⟩, hsc⟩, hdr⟩, hru⟩, _⟩ := hok
  have wli := names_words hli
  have wsc := names_words hsc
  have wdr := names_words hdr
  have wru : ∀ r ∈ p.ru, wordOk r.nm ∧ ∀ x ∈ r.at_, wordOk x := fun r hr => rule_words (rules_mem _ _ _ hru r hr)
  obtain ⟨dn, hdn⟩ : ∃ dn : Nat, p.de = dn := ⟨p.de.toNat, by omega⟩
  have hd60 : dn ≤ 60 := by omega
  have e : printL p = saidL deepN [numL dn] ++ (p.ru.flatMap (fun r => saidL (elemN ++ 32 :: r.nm) r.at_) ++ ((if p.li = [] then [] else saidL linkN p.li) ++ ((if p.sc = [] then [] else saidL schemeN p.sc) ++ (if p.dr = [] then [] else saidL dropN p.dr)))) := by
    unfold printL
    rw [hdn]
    simp
  rw [e, read_said n {} _ _ _ _ wd_deep (by intro x hx; obtain rfl := List.mem_singleton.1 hx; exact (num_word dn hd60).1) (say_deep {} dn hd60)]
  obtain ⟨m, hm⟩ := read_rules p.ru (n + 1) { ({} : PO) with de := (dn : Int) } ((if p.li = [] then [] else saidL linkN p.li) ++ ((if p.sc = [] then [] else saidL schemeN p.sc) ++ (if p.dr = [] then [] else saidL dropN p.dr))) wru
  rw [hm]
  have k1 : ∀ (m : Nat) (q : PO) (rest : Bs), q.li = [] → ∃ m', readK m q (linesL ((if p.li = [] then [] else saidL linkN p.li) ++ rest)) = readK m' { q with li := p.li } (linesL rest) := by
    intro m q rest hq
    by_cases h0 : p.li = []
    · rw [if_pos h0]
      refine ⟨m, ?_⟩
      rw [h0, ← hq]
      rfl
    · rw [if_neg h0]
      refine ⟨m + 1, ?_⟩
      rw [read_said m q _ _ _ _ wd_link wli (say_link q _ wli), hq, List.nil_append]
  have k2 : ∀ (m : Nat) (q : PO) (rest : Bs), q.sc = [] → ∃ m', readK m q (linesL ((if p.sc = [] then [] else saidL schemeN p.sc) ++ rest)) = readK m' { q with sc := p.sc } (linesL rest) := by
    intro m q rest hq
    by_cases h0 : p.sc = []
    · rw [if_pos h0]
      refine ⟨m, ?_⟩
      rw [h0, ← hq]
      rfl
    · rw [if_neg h0]
      refine ⟨m + 1, ?_⟩
      rw [read_said m q _ _ _ _ wd_scheme wsc (say_scheme q _ wsc), hq, List.nil_append]
  have k3 : ∀ (m : Nat) (q : PO), q.dr = [] → readK m q (linesL (if p.dr = [] then [] else saidL dropN p.dr)) = .inl { q with dr := p.dr } := by
    intro m q hq
    by_cases h0 : p.dr = []
    · rw [if_pos h0, h0, ← hq]
      rfl
    · rw [if_neg h0]
      have := read_said m q _ dropN p.dr [] wd_drop wdr (say_drop q _ wdr)
      rw [List.append_nil] at this
      rw [this, hq, List.nil_append]
      rfl
  obtain ⟨m1, e1⟩ := k1 m { ({} : PO) with de := (dn : Int), ru := ({} : PO).ru ++ p.ru } ((if p.sc = [] then [] else saidL schemeN p.sc) ++ (if p.dr = [] then [] else saidL dropN p.dr)) rfl
  rw [e1]
  obtain ⟨m2, e2⟩ := k2 m1 { ({} : PO) with de := (dn : Int), ru := ({} : PO).ru ++ p.ru, li := p.li } (if p.dr = [] then [] else saidL dropN p.dr) rfl
  rw [e2, k3 m2 _ rfl, ← hdn]
  rfl
/-- Printed and parsed. -/
theorem parse_print (p : PO) (h : checkP p = 0) (hl : (printL p).length ≤ 2000) : parseP (printL p) = (p, 0, 0) := by
  unfold parseP
  rw [if_neg (by omega), read_print p h 0]
  simp only []
  rw [if_pos h]
/-- A note and an empty line ahead of it say nothing. -/
theorem parse_note (p : PO) (h : checkP p = 0) (note : Bs) (hn : ∀ c ∈ note, c ≠ 10) (hl : (printL p).length + note.length + 4 ≤ 2000) : parseP (35 :: (note ++ 10 :: 32 :: 10 :: printL p)) = (p, 0, 0) := by
  have e : linesL (35 :: (note ++ 10 :: 32 :: 10 :: printL p)) = (35 :: note) :: [32] :: linesL (printL p) := by
    have h1 := lines_cut (35 :: note) (32 :: 10 :: printL p) (by intro c hc; rcases List.mem_cons.1 hc with rfl | hc; decide; exact hn c hc)
    have h2 := lines_cut [32] (printL p) (by decide)
    rw [List.cons_append] at h1
    rw [h1]
    congr 1
  have n1 : lineL {} (35 :: note) = some {} := by
    unfold lineL
    cases wordsL (35 :: note) with
    | nil => rfl
    | cons w r => simp only [List.head?_cons]; rw [if_pos trivial]
  have n2 : lineL {} [32] = some {} := by
    unfold lineL
    have : wordsL [32] = [] := by decide
    rw [this]
  unfold parseP
  rw [if_neg (by simp; omega), e, read_line n1, read_line n2, read_print p h]
  simp only []
  rw [if_pos h]
/-! What no policy lets. -/
theorem check_rules {p : PO} (h : checkP p = 0) : ∀ r ∈ p.ru, ruleL r = true := by
  have hok : okP p = true := by
    unfold checkP at h
    split at h
    · omega
    · split at h
      · assumption
      · omega
  unfold okP at hok
  simp only [Bool.and_eq_true] at hok
  exact rules_mem _ _ _ hok.1.2
theorem never_element {p : PO} {n : Bs} (h : elementP p n = true) : isL 2 n = false ∧ amongL oddN n = false := by
  unfold elementP ruleOf at h
  split at h
  · rename_i hc
    cases hf : findR p.ru n with
    | none => rw [hf] at h; cases h
    | some r =>
      have hr := check_rules hc r (List.mem_of_find?_eq_some hf)
      have hn : r.nm = n := by simpa using List.find?_some hf
      unfold ruleL at hr
      simp only [Bool.and_eq_true, Bool.not_eq_true'] at hr
      rw [hn] at hr
      exact ⟨hr.1.1.1.1.2, hr.2⟩
  · cases h
end Go.Proofs.YthopnliaikkhbaaGreatDoor
