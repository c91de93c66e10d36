/- Schemes, plainly: over lists of bytes. No program in it. -/
import Derived.Test.YthopnliaikkhbaaGreatDoorPlain
set_option linter.unusedVariables false
set_option linter.unusedSimpArgs false
namespace Go.Proofs.YthopnliaikkhbaaGreatDoor

def hidN (n : Nat) : Bool := n == 9 || n == 10 || n == 13
def hidC (c : UInt8) : Bool := hidN c.toNat
def blankC (c : UInt8) : Bool := decide (c.toNat ≤ 32)
/-- A link, tidied. -/
def tidyL (l : List UInt8) : List UInt8 := (l.dropWhile blankC).filter fun c => !hidC c
def markN (n : Nat) : Bool := n == 43 || n == 45 || n == 46
/-- May the byte stand at that place of a scheme? -/
def fitN (n : Nat) (i : Nat) : Bool := letterN n || (decide (0 < i) && (figureN n || markN n))
/-- Where the colon stands, from a place on. -/
def colonL (i : Nat) : List UInt8 → Option Nat
  | [] => none
  | c :: r => if 0 < i ∧ c.toNat = 58 then some i else if fitN c.toNat i then colonL (i + 1) r else none
/-- A tidied link's scheme. -/
def schL (l : List UInt8) : Option (List UInt8) := (colonL 0 l).map fun k => lowerL (l.take k)
def ofL (l : List UInt8) : Option (List UInt8) := schL (tidyL l)
def safeL (l : List UInt8) (s : List (List UInt8)) : Bool := match ofL l with | none => true | some a => amongL s a

theorem hid_blank (c : UInt8) (h : hidC c = true) : blankC c = true := by
  simp [hidC, hidN] at h
  simp [blankC]
  omega
theorem drop_all (l m : List UInt8) (h : l.all blankC = true) : (l ++ m).dropWhile blankC = m.dropWhile blankC := by
  induction l with
  | nil => rfl
  | cons c r ih =>
    simp only [List.all_cons, Bool.and_eq_true] at h
    rw [List.cons_append, List.dropWhile_cons, if_pos h.1, ih h.2]
theorem drop_some (l m : List UInt8) (h : l.all blankC = false) : (l ++ m).dropWhile blankC = l.dropWhile blankC ++ m := by
  induction l with
  | nil => simp at h
  | cons c r ih =>
    rw [List.cons_append, List.dropWhile_cons, List.dropWhile_cons]
    by_cases hc : blankC c = true
    · rw [if_pos hc, if_pos hc]
      simp only [List.all_cons, hc, Bool.true_and] at h
      exact ih h
    · rw [if_neg hc, if_neg hc]; rfl
theorem tidy_all (l : List UInt8) (h : l.all blankC = true) : tidyL l = [] := by
  have := drop_all l [] h
  rw [List.append_nil] at this
  unfold tidyL
  rw [this]; rfl
theorem tidy_some (l : List UInt8) (h : l.all blankC = false) : tidyL l ≠ [] := by
  unfold tidyL
  induction l with
  | nil => simp at h
  | cons c r ih =>
    rw [List.dropWhile_cons]
    by_cases hc : blankC c = true
    · rw [if_pos hc]
      simp only [List.all_cons, hc, Bool.true_and] at h
      exact ih h
    · rw [if_neg hc]
      have : hidC c = false := by
        cases e : hidC c
        · rfl
        · exact absurd (hid_blank c e) hc
      rw [List.filter_cons, if_pos (by rw [this]; rfl)]
      simp
/-- One byte more: it goes where it is hidden, or a blank with nothing ahead. -/
theorem tidy_step (l : List UInt8) (c : UInt8) : tidyL (l ++ [c]) = if hidC c || ((tidyL l).isEmpty && blankC c) then tidyL l else tidyL l ++ [c] := by
  cases h : l.all blankC
  · have hn : (tidyL l).isEmpty = false := by
      have := tidy_some l h
      cases e : tidyL l
      · exact absurd e this
      · rfl
    rw [hn, Bool.false_and, Bool.or_false]
    have e : tidyL (l ++ [c]) = tidyL l ++ [c].filter fun c => !hidC c := by
      unfold tidyL
      rw [drop_some l [c] h, List.filter_append]
    rw [e]
    cases hc : hidC c
    · rw [if_neg (by decide)]
      simp [hc]
    · rw [if_pos rfl]
      simp [hc]
  · rw [tidy_all l h]
    have e : tidyL (l ++ [c]) = tidyL [c] := by
      unfold tidyL
      rw [drop_all l [c] h]
    rw [e]
    unfold tidyL
    rw [List.dropWhile_cons]
    cases hb : blankC c
    · have hc : hidC c = false := by
        cases e : hidC c
        · rfl
        · rw [hid_blank c e] at hb; exact absurd hb (by decide)
      rw [hc]
      simp [hc]
    · simp
theorem tidy_cons_blank (c : UInt8) (l : List UInt8) (h : blankC c = true) : tidyL (c :: l) = tidyL l := by
  unfold tidyL
  rw [List.dropWhile_cons, if_pos h]
theorem tidy_mid (a b : List UInt8) (c : UInt8) (h : hidC c = true) : tidyL (a ++ [c] ++ b) = tidyL (a ++ b) := by
  unfold tidyL
  cases ha : a.all blankC
  · rw [List.append_assoc, drop_some a _ ha, drop_some a _ ha, List.filter_append, List.filter_append, List.filter_append]
    congr 1
    simp [h]
  · rw [List.append_assoc, drop_all a _ ha, drop_all a _ ha, List.singleton_append, List.dropWhile_cons, if_pos (hid_blank c h)]

theorem colon_bound (l : List UInt8) (i k : Nat) (h : colonL i l = some k) : i ≤ k ∧ k < i + l.length ∧ 0 < k := by
  induction l generalizing i with
  | nil => cases h
  | cons c r ih =>
    unfold colonL at h
    split at h
    · rename_i hc
      injection h with h
      subst h
      exact ⟨Nat.le_refl _, by simp, hc.1⟩
    · split at h
      · have := ih (i + 1) h
        simp only [List.length_cons]
        omega
      · cases h
/-- What stands ahead of the colon fits. -/
theorem colon_fits (l : List UInt8) (i k : Nat) (h : colonL i l = some k) (j : Nat) (hj : j < l.length) (hk : i + j < k) : fitN l[j].toNat (i + j) = true := by
  induction l generalizing i j with
  | nil => cases h
  | cons c r ih =>
    unfold colonL at h
    split at h
    · injection h with h
      omega
    · split at h
      · rename_i hf
        cases j with
        | zero => exact hf
        | succ j =>
          have := ih (i + 1) h j (by simpa using hj) (by omega)
          simp only [List.getElem_cons_succ]
          rw [show i + (j + 1) = i + 1 + j by omega]
          exact this
      · cases h
/-- Bytes that fit, and a colon behind them. -/
theorem colon_of (a r : List UInt8) (i : Nat) (hi : 0 < i + a.length) (hf : ∀ j (hj : j < a.length), fitN a[j].toNat (i + j) = true) : colonL i (a ++ 58 :: r) = some (i + a.length) := by
  induction a generalizing i with
  | nil =>
    simp only [List.nil_append, List.length_nil, Nat.add_zero] at hi ⊢
    unfold colonL
    rw [if_pos ⟨hi, rfl⟩]
  | cons c a ih =>
    have h0 := hf 0 (by simp)
    simp only [List.getElem_cons_zero, Nat.add_zero] at h0
    rw [List.cons_append]
    unfold colonL
    rw [if_neg, if_pos h0, ih (i + 1) (by omega) (fun j hj => by
      have := hf (j + 1) (by simpa using hj)
      simp only [List.getElem_cons_succ] at this
      rw [show i + 1 + j = i + (j + 1) by omega]
      exact this)]
    · simp only [List.length_cons]
      congr 1
      omega
    · rintro ⟨_, h58⟩
      rw [h58] at h0
      simp [fitN, letterN, greatN, figureN, markN] at h0
/-- The bytes that a scheme is told in. -/
def smallN (n : Nat) : Bool := decide (97 ≤ n) && decide (n ≤ 122)
def toldN (n i : Nat) : Bool := smallN n || (decide (0 < i) && (figureN n || markN n))
theorem low_fit (c : UInt8) (i : Nat) (h : fitN c.toNat i = true) : toldN (low c).toNat i = true := by
  unfold low
  cases hg : isGreat c
  · rw [if_neg (by decide)]
    simp only [isGreat] at hg
    simp only [fitN, letterN, hg, Bool.false_or] at h
    exact h
  · rw [if_pos rfl]
    simp [isGreat, greatN] at hg
    have e : (c + 32).toNat = c.toNat + 32 := by
      rw [UInt8.toNat_add]
      show (c.toNat + 32) % 256 = _
      omega
    rw [e]
    simp [toldN, smallN]
    omega
theorem told_fit (n i : Nat) (h : toldN n i = true) : fitN n i = true := by
  simp [toldN, smallN] at h
  simp [fitN, letterN]
  rcases h with h | h
  · left; right; exact h
  · right; exact h
theorem told_low (c : UInt8) (i : Nat) (h : toldN c.toNat i = true) : low c = c := by
  unfold low
  rw [if_neg]
  simp [toldN, smallN, figureN, markN] at h
  simp [isGreat, greatN]
  omega
theorem told_blank (c : UInt8) (i : Nat) (h : toldN c.toNat i = true) : blankC c = false := by
  simp [toldN, smallN, figureN, markN] at h
  simp [blankC]
  omega
/-- What a scheme that is told looks like. -/
structure Told (a : List UInt8) : Prop where
  pos : 0 < a.length
  each : ∀ j (hj : j < a.length), toldN a[j].toNat j = true
theorem of_told (l a : List UInt8) (h : ofL l = some a) : Told a := by
  unfold ofL schL at h
  cases hk : colonL 0 (tidyL l) with
  | none => rw [hk] at h; cases h
  | some k =>
    rw [hk] at h
    injection h with h
    have hb := colon_bound _ _ _ hk
    have hlen : a.length = k := by rw [← h, lower_length, List.length_take]; omega
    refine ⟨by omega, fun j hj => ?_⟩
    have hj2 : j < (tidyL l).length := by omega
    have hf := colon_fits _ 0 k hk j hj2 (by omega)
    rw [Nat.zero_add] at hf
    have e : a[j] = low (tidyL l)[j] := by
      subst h
      simp [lowerL]
    rw [e]
    exact low_fit _ _ hf
theorem Told.lower {a : List UInt8} (h : Told a) : lowerL a = a := by
  apply List.ext_getElem
  · rw [lower_length]
  · intro j h1 h2
    simp only [lowerL, List.getElem_map]
    exact told_low _ j (h.each j h2)
theorem Told.tidy {a : List UInt8} (h : Told a) (r : List UInt8) : tidyL (a ++ 58 :: r) = a ++ 58 :: r.filter fun c => !hidC c := by
  have hall : ∀ c ∈ a, blankC c = false := by
    intro c hc
    obtain ⟨j, hj, rfl⟩ := List.mem_iff_getElem.1 hc
    exact told_blank _ j (h.each j hj)
  have hh : ∀ c ∈ a, hidC c = false := by
    intro c hc
    cases e : hidC c
    · rfl
    · have := hall c hc
      rw [hid_blank c e] at this
      cases this
  unfold tidyL
  have hd : (a ++ 58 :: r).dropWhile blankC = a ++ 58 :: r := by
    have hp := h.pos
    cases a with
    | nil => simp at hp
    | cons c a =>
      rw [List.cons_append, List.dropWhile_cons, if_neg (by rw [hall c (by simp)]; decide)]
  rw [hd, List.filter_append, List.filter_cons, if_pos (by decide)]
  congr 1
  exact List.filter_eq_self.2 fun c hc => by rw [hh c hc]; rfl
/-- A link that begins with a scheme that is told, and a colon, has it. -/
theorem Told.again {a : List UInt8} (h : Told a) (r : List UInt8) : ofL (a ++ 58 :: r) = some a := by
  unfold ofL schL
  rw [h.tidy, colon_of a _ 0 (by have := h.pos; omega) (fun j hj => by rw [Nat.zero_add]; exact told_fit _ _ (h.each j hj))]
  simp only [Option.map_some, Nat.zero_add, List.take_left]
  rw [h.lower]

/-- Letters made great. -/
def up (c : UInt8) : UInt8 := if smallN c.toNat then c - 32 else c
theorem up_nat (c : UInt8) : (up c).toNat = if smallN c.toNat then c.toNat - 32 else c.toNat := by
  unfold up
  cases h : smallN c.toNat
  · rfl
  · simp [smallN] at h
    simp only [if_true]
    rw [UInt8.toNat_sub]
    show (256 - 32 + c.toNat) % 256 = _
    omega
theorem up_blank (c : UInt8) : blankC (up c) = blankC c := by
  unfold blankC
  rw [up_nat]
  split
  · rename_i h
    simp [smallN] at h
    rw [Bool.eq_iff_iff]
    simp
    omega
  · rfl
theorem up_hid (c : UInt8) : hidC (up c) = hidC c := by
  unfold hidC
  rw [up_nat]
  split
  · rename_i h
    simp [smallN] at h
    rw [Bool.eq_iff_iff]
    simp [hidN]
    omega
  · rfl
theorem up_fit (c : UInt8) (i : Nat) : fitN (up c).toNat i = fitN c.toNat i := by
  rw [up_nat]
  split
  · rename_i h
    simp [smallN] at h
    have e1 : letterN (c.toNat - 32) = true := by simp [letterN, greatN]; omega
    have e2 : letterN c.toNat = true := by simp [letterN, greatN]; omega
    unfold fitN
    rw [e1, e2, Bool.true_or, Bool.true_or]
  · rfl
theorem up_colon (c : UInt8) : (up c).toNat = 58 ↔ c.toNat = 58 := by
  rw [up_nat]
  split
  · rename_i h
    simp [smallN] at h
    omega
  · rfl
theorem up_low (c : UInt8) : low (up c) = low c := by
  apply UInt8.toNat_inj.1
  have hl : ∀ d : UInt8, (low d).toNat = if greatN d.toNat then d.toNat + 32 else d.toNat := by
    intro d
    unfold low isGreat
    cases h : greatN d.toNat
    · rfl
    · simp [greatN] at h
      simp only [if_true]
      rw [UInt8.toNat_add]
      show (d.toNat + 32) % 256 = _
      omega
  rw [hl, hl, up_nat]
  cases h : smallN c.toNat
  · rfl
  · simp [smallN] at h
    simp only [if_true]
    have e1 : greatN (c.toNat - 32) = true := by simp [greatN]; omega
    have e2 : greatN c.toNat = false := by simp [greatN]; omega
    rw [e1, e2]
    simp only [if_true]
    simp
    omega
theorem tidy_up (l : List UInt8) : tidyL (l.map up) = (tidyL l).map up := by
  unfold tidyL
  induction l with
  | nil => rfl
  | cons c r ih =>
    rw [List.map_cons, List.dropWhile_cons, List.dropWhile_cons, up_blank]
    split
    · exact ih
    · rw [← List.map_cons, List.filter_map]
      congr 1
      apply List.filter_congr
      intro x _
      simp only [Function.comp, up_hid]
theorem colon_up (l : List UInt8) (i : Nat) : colonL i (l.map up) = colonL i l := by
  induction l generalizing i with
  | nil => rfl
  | cons c r ih =>
    rw [List.map_cons]
    unfold colonL
    rw [up_fit, ih]
    simp only [up_colon]
theorem of_up (l : List UInt8) : ofL (l.map up) = ofL l := by
  unfold ofL schL
  rw [tidy_up, colon_up]
  congr 1
  funext k
  rw [← List.map_take]
  unfold lowerL
  rw [List.map_map]
  exact List.map_congr_left fun c _ => up_low c

/-- The tidying of the document: first the blanks ahead, then what is hidden. -/
theorem colon_step (l : List UInt8) (i : Nat) (h : i < l.length) : colonL i (l.drop i) = if 0 < i ∧ l[i].toNat = 58 then some i else if fitN l[i].toNat i then colonL (i + 1) (l.drop (i + 1)) else none := by
  rw [List.drop_eq_getElem_cons h]; rfl
theorem colon_end (l : List UInt8) (i : Nat) (h : l.length ≤ i) : colonL i (l.drop i) = none := by
  rw [List.drop_eq_nil_of_le h]; rfl
theorem tidy_short (l : List UInt8) : (tidyL l).length ≤ l.length := by
  unfold tidyL
  exact Nat.le_trans (List.length_filter_le _ _) (List.dropWhile_sublist _).length_le
end Go.Proofs.YthopnliaikkhbaaGreatDoor
