/- Arenas over lists: what is put in, moved or taken out keeps each node in one place. No program in it. -/
import Derived.Test.YthopnliaikkhbaaGreatDoorS5ArL
set_option linter.unusedVariables false
set_option linter.unusedSimpArgs false
set_option maxRecDepth 4000
namespace Go.Proofs.YthopnliaikkhbaaGreatDoor.S5

theorem up_rank {T : TR} {r : Nat → Nat} (hr : ∀ i k, k ∈ kidsAt T i → r i < r k) {a n : Nat} (hu : Up T a n) : r a ≤ r n := by
  induction hu using Up.ind with
  | refl => exact Nat.le_refl _
  | step n p hm _ ih => have := hr _ _ hm; omega
/-- A node more among the kids of another one. -/
theorem WF.put {T U : TR} (h : WF T) {p c : Nat} (hl : T.length = U.length) (hp : p < T.length) (hc : c < T.length) (hc1 : 1 ≤ c) (hu : ¬ Up T c p)
    (hk : ∀ i k, k ∈ kidsAt U i → (k ∈ kidsAt T i ∧ k ≠ c) ∨ (k = c ∧ i = p)) (hn : ∀ i, (kidsAt U i).Nodup) : WF U := by
  obtain ⟨r, hr, hb⟩ := h.ranked
  refine ⟨fun i k hm => ?_, hn, fun i j k h1 h2 => ?_, fun x => r x + (if withinL T x c = true then T.length + 1 else 0), fun i k hm => ?_⟩
  · rw [← hl]
    rcases hk i k hm with ⟨h1, _⟩ | ⟨rfl, _⟩
    · exact h.inb i k h1
    · exact ⟨hc1, hc⟩
  · rcases hk i k h1 with ⟨a1, a2⟩ | ⟨a1, a2⟩ <;> rcases hk j k h2 with ⟨b1, b2⟩ | ⟨b1, b2⟩
    · exact h.once i j k a1 b1
    · exact absurd b1 a2
    · exact absurd a1 b2
    · rw [a2, b2]
  · show r i + _ < r k + _
    rcases hk i k hm with ⟨h1, h2⟩ | ⟨rfl, rfl⟩
    · have hi := kidsAt_lt h1
      have hkl := (h.inb i k h1).2
      have hlt := hr i k h1
      have hbi := hb i hi
      by_cases hw : withinL T i c = true
      · have hwk : withinL T k c = true := (within_iff h hkl).2 (.step h1 ((within_iff h hi).1 hw))
        rw [if_pos hw, if_pos hwk]
        omega
      · rw [if_neg hw]
        omega
    · have hwp : ¬ withinL T i k = true := fun e => hu ((within_iff h hp).1 e)
      have hwc : withinL T k k = true := (within_iff h hc).2 .refl
      have hbi := hb i hp
      rw [if_neg hwp, if_pos hwc]
      omega
theorem append_len (T : TR) (p c : Nat) : (appendL T p c).length = T.length := by unfold appendL; rw [setK_len, out_len]
theorem before_len (T : TR) (p ref c : Nat) : (beforeL T p ref c).length = T.length := by unfold beforeL; rw [setK_len, out_len]
theorem move_len (T : TR) (a b : Nat) : (moveL T a b).length = T.length := by unfold moveL; rw [setK_len, setK_len]
theorem node_append (T : TR) (p c i : Nat) : nodeAt (appendL T p c) i = nodeAt T i := by unfold appendL; rw [node_set, node_out]
theorem node_before (T : TR) (p ref c i : Nat) : nodeAt (beforeL T p ref c) i = nodeAt T i := by unfold beforeL; rw [node_set, node_out]
theorem node_move (T : TR) (a b i : Nat) : nodeAt (moveL T a b) i = nodeAt T i := by unfold moveL; rw [node_set, node_set]
theorem WF.append {T : TR} (h : WF T) {p c : Nat} (hp : p < T.length) (hc : c < T.length) (hc1 : 1 ≤ c) (hu : ¬ Up T c p) : WF (appendL T p c) := by
  have hp2 : p < (outL T c).length := by rw [out_len]; exact hp
  refine h.put (append_len T p c).symm hp hc hc1 hu (fun i k hm => ?_) (fun i => ?_)
  · unfold appendL at hm
    rw [kids_set _ _ _ hp2] at hm
    by_cases e : i = p
    · subst e
      rw [if_pos rfl] at hm
      rcases List.mem_append.1 hm with hm | hm
      · rw [kids_out h] at hm
        obtain ⟨h1, h2⟩ := List.mem_filter.1 hm
        exact .inl ⟨h1, by simpa using h2⟩
      · exact .inr ⟨by simpa using hm, rfl⟩
    · rw [if_neg e, kids_out h] at hm
      obtain ⟨h1, h2⟩ := List.mem_filter.1 hm
      exact .inl ⟨h1, by simpa using h2⟩
  · unfold appendL
    rw [kids_set _ _ _ hp2]
    by_cases e : i = p
    · rw [if_pos e]
      refine List.nodup_append.2 ⟨(h.out c).nodup p, by simp, fun a ha b hb e2 => ?_⟩
      obtain rfl : b = c := by simpa using hb
      subst e2
      exact out_none h a p ha
    · rw [if_neg e]
      exact (h.out c).nodup i
theorem mem_ahead (ref c x : Nat) : ∀ l : List Nat, x ∈ aheadL ref c l ↔ x ∈ l ∨ (x = c ∧ ref ∈ l)
  | [] => by simp [aheadL]
  | y :: r => by
    have ih := mem_ahead ref c x r
    unfold aheadL at ih ⊢
    rw [List.flatMap_cons, List.mem_append, ih, List.mem_cons, List.mem_cons]
    by_cases e : y = ref
    · subst e
      rw [if_pos rfl]
      simp only [List.mem_cons, List.not_mem_nil, or_false, true_or, and_true]
      constructor
      · rintro ((h | h) | h | ⟨h, _⟩)
        · exact .inr h
        · exact .inl (.inl h)
        · exact .inl (.inr h)
        · exact .inr h
      · rintro ((h | h) | h)
        · exact .inl (.inr h)
        · exact .inr (.inl h)
        · exact .inl (.inl h)
    · rw [if_neg e]
      simp only [List.mem_cons, List.not_mem_nil, or_false]
      constructor
      · rintro (h | h | ⟨h1, h2⟩)
        · exact .inl (.inl h)
        · exact .inl (.inr h)
        · exact .inr ⟨h1, .inr h2⟩
      · rintro ((h | h) | ⟨h1, h2 | h2⟩)
        · exact .inl h
        · exact .inr (.inl h)
        · exact absurd h2.symm e
        · exact .inr (.inr ⟨h1, h2⟩)
theorem ahead_nodup (ref c : Nat) : ∀ l : List Nat, l.Nodup → c ∉ l → (aheadL ref c l).Nodup
  | [], _, _ => by simp [aheadL]
  | y :: r, hn, hc => by
    obtain ⟨h1, h2⟩ := List.nodup_cons.1 hn
    have hcy : ¬ c = y := fun e => hc (by simp [e])
    have hcr : c ∉ r := fun e => hc (by simp [e])
    have ih := ahead_nodup ref c r h2 hcr
    have hm := mem_ahead ref c
    unfold aheadL at ih hm ⊢
    rw [List.flatMap_cons]
    by_cases e : y = ref
    · subst e
      rw [if_pos rfl]
      show (c :: y :: List.flatMap _ r).Nodup
      refine List.nodup_cons.2 ⟨fun hx => ?_, List.nodup_cons.2 ⟨fun hx => ?_, ih⟩⟩
      · rcases List.mem_cons.1 hx with hx | hx
        · exact hcy hx
        · rcases (hm c r).1 hx with hx | ⟨_, hx⟩
          · exact hcr hx
          · exact h1 hx
      · rcases (hm y r).1 hx with hx | ⟨hx, _⟩
        · exact h1 hx
        · exact hcy hx.symm
    · rw [if_neg e]
      show (y :: List.flatMap _ r).Nodup
      refine List.nodup_cons.2 ⟨fun hx => ?_, ih⟩
      rcases (hm y r).1 hx with hx | ⟨hx, _⟩
      · exact h1 hx
      · exact hcy hx.symm
theorem WF.before {T : TR} (h : WF T) {p ref c : Nat} (hr : ref ∈ kidsAt T p) (hc : c < T.length) (hc1 : 1 ≤ c) (hu : ¬ Up T c ref) : WF (beforeL T p ref c) := by
  have hp := kidsAt_lt hr
  have hp2 : p < (outL T c).length := by rw [out_len]; exact hp
  refine h.put (before_len T p ref c).symm hp hc hc1 (fun e => hu (.step hr e)) (fun i k hm => ?_) (fun i => ?_)
  · unfold beforeL at hm
    rw [kids_set _ _ _ hp2] at hm
    by_cases e : i = p
    · subst e
      rw [if_pos rfl] at hm
      rcases (mem_ahead _ _ _ _).1 hm with hm | ⟨hm, _⟩
      · rw [kids_out h] at hm
        obtain ⟨h1, h2⟩ := List.mem_filter.1 hm
        exact .inl ⟨h1, by simpa using h2⟩
      · exact .inr ⟨hm, rfl⟩
    · rw [if_neg e, kids_out h] at hm
      obtain ⟨h1, h2⟩ := List.mem_filter.1 hm
      exact .inl ⟨h1, by simpa using h2⟩
  · unfold beforeL
    rw [kids_set _ _ _ hp2]
    by_cases e : i = p
    · rw [if_pos e]
      exact ahead_nodup _ _ _ ((h.out c).nodup p) (out_none h c p)
    · rw [if_neg e]
      exact (h.out c).nodup i
theorem kids_move (T : TR) (a b : Nat) (ha : a < T.length) (hb : b < T.length) (i : Nat) : kidsAt (moveL T a b) i = if i = b then kidsAt T b ++ kidsAt T a else if i = a then [] else kidsAt T i := by
  unfold moveL
  rw [kids_set _ _ _ (by rw [setK_len]; exact hb)]
  by_cases e : i = b
  · rw [if_pos e, if_pos e]
  · rw [if_neg e, if_neg e, kids_set _ _ _ ha]
theorem WF.move {T : TR} (h : WF T) {a b : Nat} (ha : a < T.length) (hb : b < T.length) (hu : ¬ Up T a b) : WF (moveL T a b) := by
  have hne : ¬ b = a := fun e => hu (by rw [e]; exact .refl)
  obtain ⟨r, hr, hbd⟩ := h.ranked
  have hk : ∀ i k, k ∈ kidsAt (moveL T a b) i → (k ∈ kidsAt T i ∧ i ≠ a) ∨ (k ∈ kidsAt T a ∧ i = b) := by
    intro i k hm
    rw [kids_move T a b ha hb] at hm
    by_cases e : i = b
    · rw [if_pos e] at hm
      rcases List.mem_append.1 hm with hm | hm
      · exact .inl ⟨by rw [e]; exact hm, by rw [e]; exact hne⟩
      · exact .inr ⟨hm, e⟩
    · rw [if_neg e] at hm
      by_cases e2 : i = a
      · rw [if_pos e2] at hm
        simp at hm
      · rw [if_neg e2] at hm
        exact .inl ⟨hm, e2⟩
  refine ⟨fun i k hm => ?_, fun i => ?_, fun i j k h1 h2 => ?_, fun x => r x + (if withinL T x a = true ∧ ¬ x = a then T.length + 1 else 0), fun i k hm => ?_⟩
  · rw [move_len]
    rcases hk i k hm with ⟨h1, _⟩ | ⟨h1, _⟩
    · exact h.inb i k h1
    · exact h.inb a k h1
  · rw [kids_move T a b ha hb]
    split
    · refine List.nodup_append.2 ⟨h.nodup b, h.nodup a, fun x hx y hy e => ?_⟩
      subst e
      exact hne (h.once b a x hx hy)
    · split
      · simp
      · exact h.nodup i
  · rcases hk i k h1 with ⟨a1, a2⟩ | ⟨a1, a2⟩ <;> rcases hk j k h2 with ⟨b1, b2⟩ | ⟨b1, b2⟩
    · exact h.once i j k a1 b1
    · exact absurd (h.once i a k a1 b1) a2
    · exact absurd (h.once j a k b1 a1) b2
    · rw [a2, b2]
  · show r i + _ < r k + _
    rcases hk i k hm with ⟨h1, h2⟩ | ⟨h1, rfl⟩
    · have hi := kidsAt_lt h1
      have hkl := (h.inb i k h1).2
      have hlt := hr i k h1
      have hbi := hbd i hi
      by_cases hw : withinL T i a = true ∧ ¬ i = a
      · have hup := (within_iff h hi).1 hw.1
        have hra := up_rank hr hup
        have hka : ¬ k = a := fun e => by subst e; omega
        have hwk : withinL T k a = true := (within_iff h hkl).2 (.step h1 hup)
        rw [if_pos hw, if_pos ⟨hwk, hka⟩]
        omega
      · rw [if_neg hw]
        omega
    · have hlt := hr a k h1
      have hka : ¬ k = a := fun e => by subst e; omega
      have hkl := (h.inb a k h1).2
      have hwk : withinL T k a = true := (within_iff h hkl).2 (.step h1 .refl)
      have hwb : ¬ (withinL T i a = true ∧ ¬ i = a) := fun e => hu ((within_iff h hb).1 e.1)
      have hbb := hbd i hb
      rw [if_neg hwb, if_pos ⟨hwk, hka⟩]
      omega
/-- The arena that is new. -/
def newL : TR := [({}, [])]
theorem WF.new : WF newL := by
  have hk : ∀ i, kidsAt newL i = [] := by
    intro i
    cases i with
    | zero => rfl
    | succ i => rfl
  exact ⟨fun i k hm => by rw [hk] at hm; simp at hm, fun i => by rw [hk]; simp, fun i j k hm => by rw [hk] at hm; simp at hm, fun _ => 0, fun i k hm => by rw [hk] at hm; simp at hm⟩

/-! Going up. -/
def upO (T : TR) : Nat → Option Nat → Option Nat
  | 0, o => o
  | k + 1, o => upO T k (o.bind (parentN T))
theorem upO_none (T : TR) : ∀ k, upO T k none = none
  | 0 => rfl
  | k + 1 => upO_none T k
theorem upO_rank {T : TR} {r : Nat → Nat} (hr : ∀ i k, k ∈ kidsAt T i → r i < r k) : ∀ (k n m : Nat), upO T k (some n) = some m → r m + k ≤ r n
  | 0, n, m, h => by
    obtain rfl : n = m := by simpa [upO] using h
    omega
  | k + 1, n, m, h => by
    simp only [upO, Option.bind_some] at h
    cases hp : parentN T n with
    | none => rw [hp, upO_none] at h; cases h
    | some p =>
      rw [hp] at h
      have := upO_rank hr k p m h
      have := hr p n (parent_some hp)
      omega
theorem WF.up_end {T : TR} (h : WF T) {n : Nat} (hn : n < T.length) : upO T T.length (some n) = none := by
  obtain ⟨r, hr, hb⟩ := h.ranked
  cases hu : upO T T.length (some n) with
  | none => rfl
  | some m =>
    have := upO_rank hr _ _ _ hu
    have := hb n hn
    omega
end Go.Proofs.YthopnliaikkhbaaGreatDoor.S5
