/- Heaps of numbers, the least one ahead, as lists. No program in it. -/
import Derived.Test.YtkopfigagnagoaaBk18
set_option linter.unusedVariables false
set_option linter.unusedSimpArgs false
namespace Go.Proofs.Ytkopfigagnagoaa
open Go.RowKit

/-- What stands at a place. -/
def atN (l : List Nat) (k : Nat) : Nat := l.getD k 0
theorem atN_get {l : List Nat} {k : Nat} (h : k < l.length) : l[k]? = some (atN l k) := by
  unfold atN
  rw [List.getD_eq_getElem?_getD, List.getElem?_eq_getElem h, Option.getD_some]
theorem atN_mem {l : List Nat} {k : Nat} (h : k < l.length) : atN l k ∈ l := List.mem_of_getElem? (atN_get h)
/-- Two places' numbers change places. -/
def swapL (l : List Nat) (i j : Nat) : List Nat := (l.set i (atN l j)).set j (atN l i)
theorem swap_len (l : List Nat) (i j : Nat) : (swapL l i j).length = l.length := by
  unfold swapL
  rw [List.length_set, List.length_set]
theorem swap_at {l : List Nat} {i j : Nat} (hi : i < l.length) (hj : j < l.length) (k : Nat) : atN (swapL l i j) k = if k = j then atN l i else if k = i then atN l j else atN l k := by
  show (swapL l i j).getD k 0 = _
  unfold swapL
  rw [List.getD_eq_getElem?_getD, List.getElem?_set, List.getElem?_set, List.length_set]
  by_cases h1 : k = j
  · subst h1
    simp [hj]
  · rw [if_neg (fun e => h1 e.symm), if_neg h1]
    by_cases h2 : k = i
    · subst h2
      simp [hi]
    · rw [if_neg (fun e => h2 e.symm), if_neg h2, atN, List.getD_eq_getElem?_getD]
theorem swap_perm {l : List Nat} {i j : Nat} (hi : i < l.length) (hj : j < l.length) : (swapL l i j).Perm l := by
  have h := Array.swap_perm (xs := l.toArray) (i := i) (j := j) (by simpa using hi) (by simpa using hj)
  have e : (l.toArray.swap i j (by simpa using hi) (by simpa using hj)).toList = swapL l i j := by
    unfold swapL atN
    rw [List.getD_eq_getElem?_getD, List.getD_eq_getElem?_getD, List.getElem?_eq_getElem hi, List.getElem?_eq_getElem hj]
    simp [Array.swap]
  have h2 : (l.toArray.swap i j (by simpa using hi) (by simpa using hj)).toList.Perm l := by
    have := h.toList
    simpa using this
  rw [e] at h2
  exact h2
/-- The numbers ahead of a place are a heap. -/
def HeapN (l : List Nat) (n : Nat) : Prop := ∀ k, 0 < k → k < n → atN l ((k - 1) / 2) ≤ atN l k
/-- A heap but for one place, which may be too small. -/
def UpN (l : List Nat) (j : Nat) : Prop := (∀ k, 0 < k → k < l.length → k ≠ j → atN l ((k - 1) / 2) ≤ atN l k) ∧ (0 < j → ∀ k, 0 < k → k < l.length → (k - 1) / 2 = j → atN l ((j - 1) / 2) ≤ atN l k)
/-- A heap but for one place, which may be too great. -/
def DownN (l : List Nat) (n i : Nat) : Prop := (∀ k, 0 < k → k < n → (k - 1) / 2 ≠ i → atN l ((k - 1) / 2) ≤ atN l k) ∧ (0 < i → ∀ k, 0 < k → k < n → (k - 1) / 2 = i → atN l ((i - 1) / 2) ≤ atN l k)
theorem UpN.swap {l : List Nat} {j : Nat} (h : UpN l j) (hj : j < l.length) (h0 : 0 < j) (hlt : atN l j < atN l ((j - 1) / 2)) : UpN (swapL l ((j - 1) / 2) j) ((j - 1) / 2) := by
  obtain ⟨h1, h2⟩ := h
  have hp : (j - 1) / 2 < l.length := by omega
  have ha := swap_at hp hj
  have hl := swap_len l ((j - 1) / 2) j
  generalize hP : (j - 1) / 2 = p at *
  have hpj : p ≠ j := by omega
  refine ⟨fun k k0 kn kp => ?_, fun p0 k k0 kn kp => ?_⟩
  · rw [hl] at kn
    rw [ha, ha]
    by_cases e1 : k = j
    · subst e1
      rw [if_pos rfl, hP, if_neg hpj, if_pos rfl]
      omega
    · rw [if_neg e1, if_neg kp]
      have hk := h1 k k0 kn e1
      by_cases e2 : (k - 1) / 2 = j
      · rw [if_pos e2]
        exact h2 h0 k k0 kn e2
      · rw [if_neg e2]
        by_cases e3 : (k - 1) / 2 = p
        · rw [if_pos e3]
          rw [e3] at hk
          omega
        · rw [if_neg e3]
          exact hk
  · rw [hl] at kn
    have hpp := h1 p p0 hp hpj
    rw [ha, ha, if_neg (by omega), if_neg (by omega)]
    by_cases e1 : k = j
    · subst e1
      rw [if_pos rfl]
      exact hpp
    · have hk := h1 k k0 kn e1
      rw [kp] at hk
      rw [if_neg e1, if_neg (by omega)]
      omega
theorem UpN.done {l : List Nat} {j : Nat} (h : UpN l j) (he : 0 < j → atN l ((j - 1) / 2) ≤ atN l j) : HeapN l l.length := by
  intro k k0 kn
  by_cases e : k = j
  · subst e
    exact he k0
  · exact h.1 k k0 kn e
theorem DownN.swap {l : List Nat} {n i j : Nat} (h : DownN l n i) (hn : n ≤ l.length) (hj : j < n) (h0 : 0 < j) (hi : (j - 1) / 2 = i) (hlt : atN l j < atN l i) (hs : ∀ s, 0 < s → s < n → (s - 1) / 2 = i → atN l j ≤ atN l s) : DownN (swapL l i j) n j := by
  obtain ⟨h1, h2⟩ := h
  have hij : i < j := by omega
  have ha := swap_at (show i < l.length by omega) (show j < l.length by omega)
  refine ⟨fun k k0 kn kp => ?_, fun _ k k0 kn kp => ?_⟩
  · rw [ha, ha, if_neg kp]
    by_cases e1 : k = j
    · subst e1
      rw [if_pos rfl, if_pos hi]
      omega
    · rw [if_neg e1]
      by_cases e2 : k = i
      · subst e2
        rw [if_pos rfl, if_neg (by omega)]
        exact h2 k0 j h0 hj hi
      · rw [if_neg e2]
        by_cases e3 : (k - 1) / 2 = i
        · rw [if_pos e3]
          exact hs k k0 kn e3
        · rw [if_neg e3]
          exact h1 k k0 kn e3
  · have hk := h1 k k0 kn (by omega)
    rw [kp] at hk
    rw [ha, ha, hi, if_neg (by omega), if_pos rfl, if_neg (by omega), if_neg (by omega)]
    exact hk
theorem DownN.done {l : List Nat} {n i : Nat} (h : DownN l n i) (he : ∀ s, 0 < s → s < n → (s - 1) / 2 = i → atN l i ≤ atN l s) : HeapN l n := by
  intro k k0 kn
  by_cases e : (k - 1) / 2 = i
  · rw [e]
    exact he k k0 kn e
  · exact h.1 k k0 kn e
theorem HeapN.least {l : List Nat} {n : Nat} (h : HeapN l n) : ∀ k, k < n → atN l 0 ≤ atN l k := by
  intro k
  induction k using Nat.strongRecOn with
  | _ k ih =>
    intro hk
    by_cases e : k = 0
    · subst e
      exact Nat.le_refl _
    · exact Nat.le_trans (ih ((k - 1) / 2) (by omega) (by omega)) (h k (by omega) hk)
/-- The free numbers of a space, as a heap. -/
structure HeapOf (l : List Nat) (s : SL) : Prop where
  heap : HeapN l l.length
  nodup : l.Nodup
  mem : ∀ i, i ∈ l ↔ s[i]? = some false
  len : l.length = freeS s
/-- The last one of a heap is put ahead, and the first one last. -/
theorem heap_first {l : List Nat} (h : HeapN l l.length) (h0 : 0 < l.length) : DownN (swapL l 0 (l.length - 1)) (l.length - 1) 0 := by
  have ha := swap_at h0 (show l.length - 1 < l.length by omega)
  refine ⟨fun k k0 kn kp => ?_, fun hh => absurd hh (Nat.lt_irrefl _)⟩
  rw [ha, ha, if_neg (by omega), if_neg kp, if_neg (by omega), if_neg (by omega)]
  exact h k k0 (by omega)
theorem heap_last {l : List Nat} (h : HeapN l l.length) (x : Nat) : UpN (l ++ [x]) l.length := by
  have ha : ∀ k, k < l.length → atN (l ++ [x]) k = atN l k := fun k hk => by
    unfold atN
    rw [List.getD_eq_getElem?_getD, List.getD_eq_getElem?_getD, List.getElem?_append_left hk]
  refine ⟨fun k k0 kn kp => ?_, fun _ k k0 kn kp => ?_⟩
  · rw [List.length_append, List.length_singleton] at kn
    rw [ha _ (by omega), ha _ (by omega)]
    exact h k k0 (by omega)
  · rw [List.length_append, List.length_singleton] at kn
    omega
theorem heap_take {l : List Nat} {n : Nat} (h : HeapN l n) (hn : n ≤ l.length) : HeapN (l.take n) (l.take n).length := by
  have ha : ∀ k, k < n → atN (l.take n) k = atN l k := fun k hk => by
    unfold atN
    rw [List.getD_eq_getElem?_getD, List.getD_eq_getElem?_getD, List.getElem?_take_of_lt hk]
  intro k k0 kn
  rw [List.length_take] at kn
  rw [ha _ (by omega), ha _ (by omega)]
  exact h k k0 (by omega)
/-- Numbers that rise are a heap. -/
theorem heap_rises {l : List Nat} (h : l.Pairwise (· < ·)) : HeapN l l.length := by
  intro k k0 kn
  have h1 := List.pairwise_iff_getElem.1 h ((k - 1) / 2) k (by omega) kn (by omega)
  unfold atN
  rw [List.getD_eq_getElem?_getD, List.getD_eq_getElem?_getD, List.getElem?_eq_getElem (by omega), List.getElem?_eq_getElem kn, Option.getD_some, Option.getD_some]
  omega
/-- The least one is taken. -/
theorem HeapOf.take {l l' : List Nat} {s : SL} (h : HeapOf l s) (h0 : 0 < l.length) (hp : (swapL l 0 (l.length - 1)).Perm l' ∨ l'.Perm (swapL l 0 (l.length - 1))) (hl : atN l' (l.length - 1) = atN l 0) (hh : HeapN l' (l.length - 1)) :
    takeS s = (s.set (atN l 0) true, atN l 0, 0) ∧ atN l 0 < s.length ∧ HeapOf (l'.take (l.length - 1)) (s.set (atN l 0) true) := by
  have hP : l'.Perm l := by
    rcases hp with hp | hp
    · exact hp.symm.trans (swap_perm h0 (by omega))
    · exact hp.trans (swap_perm h0 (by omega))
  have hlen : l'.length = l.length := hP.length_eq
  have hx : s[atN l 0]? = some false := (h.mem _).1 (atN_mem h0)
  have hxl : atN l 0 < s.length := (List.getElem?_eq_some_iff.1 hx).1
  have hsp : l' = l'.take (l.length - 1) ++ [atN l 0] := by
    have e1 : l'.take (l.length - 1) ++ l'.drop (l.length - 1) = l' := List.take_append_drop _ _
    have e2 : l'.drop (l.length - 1) = [atN l 0] := by
      rw [List.drop_eq_getElem_cons (by omega), List.drop_of_length_le (by omega)]
      have := atN_get (l := l') (k := l.length - 1) (by omega)
      rw [List.getElem?_eq_getElem (by omega), hl] at this
      rw [Option.some.inj this]
    rw [e2] at e1
    exact e1.symm
  have hnd : (l'.take (l.length - 1) ++ [atN l 0]).Nodup := by rw [← hsp]; exact hP.nodup_iff.2 h.nodup
  have hmem : ∀ i, i ∈ l'.take (l.length - 1) ++ [atN l 0] ↔ s[i]? = some false := fun i => by rw [← hsp, hP.mem_iff]; exact h.mem i
  have hnd2 := List.nodup_append.1 hnd
  refine ⟨?_, hxl, heap_take hh (by omega), hnd2.1, fun i => ?_, ?_⟩
  · have hle : leastS s 0 = some (atN l 0) := by
      cases e : leastS s 0 with
      | none =>
        have := least_none e false (List.mem_of_getElem? hx)
        cases this
      | some y =>
        obtain ⟨_, y2, y3, y4⟩ := least_some e
        rw [Nat.sub_zero] at y3 y4
        have hy := (h.mem y).2 y3
        obtain ⟨k, hk, rfl⟩ := List.mem_iff_getElem.1 hy
        have h1 := h.heap.least k hk
        have h2 : atN l k = l[k] := by
          have := atN_get hk
          rw [List.getElem?_eq_getElem hk] at this
          exact (Option.some.inj this).symm
        rw [h2] at h1
        by_cases e2 : atN l 0 = l[k]
        · rw [e2]
        · have := y4 (atN l 0) (by omega)
          rw [hx] at this
          cases this
    unfold takeS
    rw [hle]
  · rw [List.getElem?_set]
    constructor
    · intro hi
      have h1 := (hmem i).1 (List.mem_append_left _ hi)
      have h2 : ¬ atN l 0 = i := fun e => hnd2.2.2 i hi (atN l 0) (by simp) e.symm
      rw [if_neg h2]
      exact h1
    · intro hi
      by_cases e : atN l 0 = i
      · rw [if_pos e, if_pos hxl] at hi
        cases hi
      · rw [if_neg e] at hi
        rcases List.mem_append.1 ((hmem i).2 hi) with h1 | h1
        · exact h1
        · exact absurd (List.mem_singleton.1 h1).symm e
  · have h1 := free_set_true s (atN l 0) hx
    rw [List.length_take]
    have := h.len
    omega
theorem HeapOf.none_ {l : List Nat} {s : SL} (h : HeapOf l s) (h0 : l.length = 0) : takeS s = (s, 0, 3) := by
  unfold takeS
  cases e : leastS s 0 with
  | none => rfl
  | some y =>
    obtain ⟨_, _, y3, _⟩ := least_some e
    rw [Nat.sub_zero] at y3
    have hy := (h.mem y).2 y3
    rw [List.eq_nil_of_length_eq_zero h0] at hy
    cases hy
/-- A taken one is given. -/
theorem HeapOf.give {l l' : List Nat} {s : SL} (h : HeapOf l s) (i : Nat) (hi : s[i]? = some true) (hp : l'.Perm (l ++ [i])) (hh : HeapN l' l'.length) : HeapOf l' (s.set i false) := by
  have hil : i < s.length := (List.getElem?_eq_some_iff.1 hi).1
  have hnot : i ∉ l := fun hm => by
    have := (h.mem i).1 hm
    rw [hi] at this
    cases this
  refine ⟨hh, ?_, fun k => ?_, ?_⟩
  · rw [hp.nodup_iff]
    refine List.nodup_append.2 ⟨h.nodup, by simp, fun a ha b hb e => ?_⟩
    rw [List.mem_singleton] at hb
    subst hb
    subst e
    exact hnot ha
  · rw [hp.mem_iff, List.mem_append, List.mem_singleton, List.getElem?_set]
    by_cases e : i = k
    · subst e
      rw [if_pos rfl, if_pos hil]
      simp
    · rw [if_neg e]
      constructor
      · rintro (h1 | h1)
        · exact (h.mem k).1 h1
        · exact absurd h1.symm e
      · exact fun h1 => .inl ((h.mem k).2 h1)
  · rw [hp.length_eq, List.length_append, List.length_singleton, free_set_false s i hi, h.len]
/-- The free ones up to a place, rising. -/
structure Rise (l : List Nat) (s : SL) (i : Nat) : Prop where
  up : l.Pairwise (· < ·)
  mem : ∀ k, k ∈ l ↔ k < i ∧ s[k]? = some false
  len : l.length = freeS (s.take i)
theorem Rise.zero (s : SL) : Rise [] s 0 := ⟨.nil, fun k => by simp, by simp [freeS]⟩
theorem Rise.taken {l : List Nat} {s : SL} {i : Nat} (h : Rise l s i) (hi : s[i]? = some true) : Rise l s (i + 1) := by
  obtain ⟨hil, e⟩ := List.getElem?_eq_some_iff.1 hi
  refine ⟨h.up, fun k => ?_, ?_⟩
  · rw [h.mem k]
    constructor
    · rintro ⟨a, b⟩
      exact ⟨by omega, b⟩
    · rintro ⟨a, b⟩
      refine ⟨?_, b⟩
      by_cases e2 : k = i
      · subst e2
        rw [hi] at b
        cases b
      · omega
  · rw [free_take s i hil, e, h.len]
    simp
theorem Rise.free {l : List Nat} {s : SL} {i : Nat} (h : Rise l s i) (hi : s[i]? = some false) : Rise (l ++ [i]) s (i + 1) := by
  obtain ⟨hil, e⟩ := List.getElem?_eq_some_iff.1 hi
  refine ⟨List.pairwise_append.2 ⟨h.up, by simp, fun a ha b hb => ?_⟩, fun k => ?_, ?_⟩
  · rw [List.mem_singleton] at hb
    subst hb
    exact ((h.mem a).1 ha).1
  · rw [List.mem_append, List.mem_singleton, h.mem k]
    constructor
    · rintro (⟨a, b⟩ | rfl)
      · exact ⟨by omega, b⟩
      · exact ⟨by omega, hi⟩
    · rintro ⟨a, b⟩
      by_cases e2 : k = i
      · exact .inr e2
      · exact .inl ⟨by omega, b⟩
  · rw [free_take s i hil, e, List.length_append, h.len]
    simp
theorem Rise.heap {l : List Nat} {s : SL} (h : Rise l s s.length) : HeapOf l s := by
  refine ⟨heap_rises h.up, ?_, fun i => ?_, by rw [h.len, List.take_length]⟩
  · exact h.up.imp fun hab e => by omega
  · rw [h.mem i]
    constructor
    · exact fun h1 => h1.2
    · exact fun h1 => ⟨(List.getElem?_eq_some_iff.1 h1).1, h1⟩
theorem Rise.le {l : List Nat} {s : SL} {i : Nat} (h : Rise l s i) : l.length ≤ s.length := by
  rw [h.len]
  exact Nat.le_trans (free_le _) (by rw [List.length_take]; omega)
end Go.Proofs.Ytkopfigagnagoaa
