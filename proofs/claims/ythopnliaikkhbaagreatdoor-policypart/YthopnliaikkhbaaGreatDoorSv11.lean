/- How many names a text says, and how long they are. Over lists, no program in it. -/
import Derived.Test.YthopnliaikkhbaaGreatDoorPr11
set_option linter.unusedVariables false
set_option linter.unusedSimpArgs false
namespace Go.Proofs.YthopnliaikkhbaaGreatDoor

theorem words_room : ∀ (l cur : Bs), (cur = [] → 2 * (wordsK cur l).length ≤ l.length + 1) ∧ (cur ≠ [] → 2 * (wordsK cur l).length ≤ l.length + 2)
  | [], cur => by
    refine ⟨fun h => by subst h; simp [wordsK], fun h => ?_⟩
    rw [wordsK, if_neg h]
    simp
  | c :: l, cur => by
    refine ⟨fun h => ?_, fun h => ?_⟩
    · subst h
      rw [wordsK]
      split
      · rw [if_pos rfl]
        have := (words_room l []).1 rfl
        simp only [List.length_cons]
        omega
      · have := (words_room l ([] ++ [c])).2 (by simp)
        simp only [List.length_cons]
        omega
    · rw [wordsK]
      split
      · have := (words_room l []).1 rfl
        simp only [List.length_cons]
        omega
      · have := (words_room l (cur ++ [c])).2 (by simp)
        simp only [List.length_cons]
        omega
theorem words_few (l : Bs) : 2 * (wordsL l).length ≤ l.length + 1 := (words_room l []).1 rfl
theorem words_long : ∀ (l cur : Bs), ∀ x ∈ wordsK cur l, x.length ≤ cur.length + l.length
  | [], cur, x, hx => by
    rw [wordsK] at hx
    split at hx
    · simp at hx
    · obtain rfl := List.mem_singleton.1 hx
      simp
  | c :: l, cur, x, hx => by
    rw [wordsK] at hx
    split at hx
    · split at hx
      · have := words_long l [] x hx
        simp only [List.length_nil, List.length_cons] at this ⊢
        omega
      · rcases List.mem_cons.1 hx with rfl | hx
        · simp
        · have := words_long l [] x hx
          simp only [List.length_nil, List.length_cons] at this ⊢
          omega
    · have := words_long l (cur ++ [c]) x hx
      simp only [List.length_append, List.length_cons, List.length_nil] at this ⊢
      omega
theorem words_short (l : Bs) : ∀ x ∈ wordsL l, x.length ≤ l.length := fun x hx => by
  have := words_long l [] x hx
  simpa using this
def attrsN : List RU → Nat
  | [] => 0
  | r :: l => 1 + r.at_.length + attrsN l
theorem attrs_app : ∀ a b : List RU, attrsN (a ++ b) = attrsN a + attrsN b
  | [], b => by simp [attrsN]
  | r :: a, b => by simp only [List.cons_append, attrsN, attrs_app a b]; omega
theorem attrs_len : ∀ l : List RU, l.length ≤ attrsN l
  | [] => Nat.le_refl _
  | r :: l => by have := attrs_len l; simp only [List.length_cons, attrsN]; omega
theorem attrs_each : ∀ (l : List RU) (r : RU), r ∈ l → r.at_.length ≤ attrsN l
  | [], r, h => by cases h
  | x :: l, r, h => by
    simp only [attrsN]
    rcases List.mem_cons.1 h with rfl | h
    · omega
    · have := attrs_each l r h
      omega
/-- How many names there are. -/
def sizeP (p : PO) : Nat := p.li.length + p.sc.length + p.dr.length + attrsN p.ru
/-- No name is longer. -/
structure ShortP (N : Nat) (p : PO) : Prop where
  l : ∀ x ∈ p.li, x.length ≤ N
  s : ∀ x ∈ p.sc, x.length ≤ N
  d : ∀ x ∈ p.dr, x.length ≤ N
  r : ∀ r ∈ p.ru, r.nm.length ≤ N ∧ ∀ x ∈ r.at_, x.length ≤ N
theorem short_none (N : Nat) : ShortP N {} := ⟨fun x hx => (by cases hx), fun x hx => (by cases hx), fun x hx => (by cases hx), fun x hx => (by cases hx)⟩
theorem line_size {p q : PO} {s : Bs} {N : Nat} (h : lineL p s = some q) (hs : s.length ≤ N) : 2 * sizeP q ≤ 2 * sizeP p + s.length + 1 ∧ (ShortP N p → ShortP N q) := by
  have hf := words_few s
  have hl := words_short s
  unfold lineL at h
  generalize wordsL s = W at *
  cases W with
  | nil =>
    obtain rfl := Option.some.inj h
    exact ⟨by omega, id⟩
  | cons w r =>
    simp only [List.length_cons] at hf
    have hr : ∀ x ∈ r, x.length ≤ N := fun x hx => Nat.le_trans (hl x (by simp [hx])) hs
    have app : ∀ {a b : List Bs} (ha : ∀ x ∈ a, x.length ≤ N) (hb : ∀ x ∈ b, x.length ≤ N), ∀ x ∈ a ++ b, x.length ≤ N := fun ha hb x hx => by
      rcases List.mem_append.1 hx with hx | hx
      · exact ha x hx
      · exact hb x hx
    simp only [] at h
    split at h
    · obtain rfl := Option.some.inj h
      exact ⟨by omega, id⟩
    · split at h
      · split at h
        · rename_i d
          cases hd : deepL d with
          | none => rw [hd] at h; cases h
          | some n =>
            rw [hd] at h
            obtain rfl := Option.some.inj h
            exact ⟨by unfold sizeP; simp only []; omega, fun k => ⟨k.l, k.s, k.d, k.r⟩⟩
        · cases h
      · split at h
        · split at h
          · cases h
          · rename_i n at_
            obtain rfl := Option.some.inj h
            simp only [List.length_cons] at hf
            refine ⟨by unfold sizeP; simp only [attrs_app, attrsN]; omega, fun k => ⟨k.l, k.s, k.d, fun x hx => ?_⟩⟩
            rcases List.mem_append.1 hx with hx | hx
            · exact k.r x hx
            · obtain rfl := List.mem_singleton.1 hx
              exact ⟨hr _ (by simp), fun y hy => hr y (by simp [hy])⟩
        · split at h
          · obtain rfl := Option.some.inj h
            exact ⟨by unfold sizeP; simp only [List.length_append]; omega, fun k => ⟨app k.l hr, k.s, k.d, k.r⟩⟩
          · split at h
            · obtain rfl := Option.some.inj h
              exact ⟨by unfold sizeP; simp only [List.length_append]; omega, fun k => ⟨k.l, app k.s hr, k.d, k.r⟩⟩
            · split at h
              · obtain rfl := Option.some.inj h
                exact ⟨by unfold sizeP; simp only [List.length_append]; omega, fun k => ⟨k.l, k.s, app k.d hr, k.r⟩⟩
              · cases h
/-- The bytes of lines, each with its end. -/
def roomL : List Bs → Nat
  | [] => 0
  | l :: r => l.length + 1 + roomL r
theorem lines_room : ∀ (l cur : Bs), roomL (linesK cur l) = cur.length + l.length + 1
  | [], cur => by simp [linesK, roomL]
  | c :: l, cur => by
    rw [linesK]
    split
    · simp only [roomL, lines_room l [], List.length_cons, List.length_nil]
      omega
    · rw [lines_room l (cur ++ [c])]
      simp only [List.length_append, List.length_cons, List.length_nil]
      omega
theorem lines_all (s : Bs) : roomL (linesL s) = s.length + 1 := by
  unfold linesL
  rw [lines_room]
  simp
theorem room_each : ∀ (ls : List Bs) (l : Bs), l ∈ ls → l.length + 1 ≤ roomL ls
  | [], l, h => by cases h
  | x :: ls, l, h => by
    simp only [roomL]
    rcases List.mem_cons.1 h with rfl | h
    · omega
    · have := room_each ls l h
      omega
theorem room_many : ∀ ls : List Bs, ls.length ≤ roomL ls
  | [] => Nat.le_refl _
  | x :: ls => by have := room_many ls; simp only [List.length_cons, roomL]; omega
end Go.Proofs.YthopnliaikkhbaaGreatDoor
