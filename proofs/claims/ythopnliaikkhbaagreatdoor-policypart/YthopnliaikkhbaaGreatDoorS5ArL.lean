/- Arenas over lists: nodes by numbers, put in, moved, taken out; what stays true of them. No program in it. -/
import Derived.KernelRfl
set_option linter.unusedVariables false
set_option linter.unusedSimpArgs false
set_option maxRecDepth 4000
namespace Go.Proofs.YthopnliaikkhbaaGreatDoor.S5

structure ND where
  kind : Int := 0
  space : Int := 0
  name : List UInt8 := []
  attrs : List (List UInt8 × List UInt8) := []
  text : List UInt8 := []
abbrev IT := ND × List Nat
abbrev TR := List IT

def kidsAt (T : TR) (i : Nat) : List Nat := (T[i]?.map (·.2)).getD []
def nodeAt (T : TR) (i : Nat) : ND := (T[i]?.map (·.1)).getD {}
def parentN (T : TR) (n : Nat) : Option Nat := T.findIdx? (fun it => it.2.contains n)
def setK (T : TR) (n : Nat) (ks : List Nat) : TR := T.set n (nodeAt T n, ks)
def outL (T : TR) (n : Nat) : TR :=
  match parentN T n with
  | none => T
  | some p => setK T p ((kidsAt T p).filter (fun x => !(x == n)))
def withinK : Nat → TR → Nat → Nat → Bool
  | 0, _, _, _ => false
  | k + 1, T, n, a => if n = a then true else match parentN T n with
    | none => false
    | some p => withinK k T p a
def withinL (T : TR) (n a : Nat) : Bool := withinK (T.length + 1) T n a
def appendL (T : TR) (p c : Nat) : TR := setK (outL T c) p (kidsAt (outL T c) p ++ [c])
def aheadL (ref c : Nat) (l : List Nat) : List Nat := l.flatMap fun x => if x = ref then [c, x] else [x]
def beforeL (T : TR) (p ref c : Nat) : TR := setK (outL T c) p (aheadL ref c (kidsAt (outL T c) p))
def moveL (T : TR) (a b : Nat) : TR := setK (setK T a []) b (kidsAt T b ++ kidsAt T a)
def pushL (T : TR) (d : ND) : TR := T ++ [(d, [])]
def addL (T : TR) (n : Nat) (s : List UInt8) : TR := T.set n ({ nodeAt T n with text := (nodeAt T n).text ++ s }, kidsAt T n)

/-! What the lists of kids come to. -/
theorem kidsAt_lt {T : TR} {i k : Nat} (h : k ∈ kidsAt T i) : i < T.length := by
  rcases Nat.lt_or_ge i T.length with h1 | h1
  · exact h1
  · unfold kidsAt at h
    rw [List.getElem?_eq_none h1] at h
    simp at h
theorem kidsAt_get {T : TR} {i : Nat} (h : i < T.length) : kidsAt T i = T[i].2 := by
  unfold kidsAt
  rw [List.getElem?_eq_getElem h]
  rfl
theorem kidsAt_out {T : TR} {i : Nat} (h : T.length ≤ i) : kidsAt T i = [] := by
  unfold kidsAt
  rw [List.getElem?_eq_none h]
  rfl
theorem setK_len (T : TR) (n : Nat) (ks : List Nat) : (setK T n ks).length = T.length := by unfold setK; simp
theorem kids_set (T : TR) (n : Nat) (ks : List Nat) (hn : n < T.length) (i : Nat) : kidsAt (setK T n ks) i = if i = n then ks else kidsAt T i := by
  unfold kidsAt setK
  by_cases h : n = i
  · subst h
    rw [List.getElem?_set_self hn, if_pos rfl]
    rfl
  · rw [List.getElem?_set_ne h, if_neg (fun e => h e.symm)]
theorem node_set (T : TR) (n : Nat) (ks : List Nat) (i : Nat) : nodeAt (setK T n ks) i = nodeAt T i := by
  rcases Nat.lt_or_ge n T.length with hn | hn
  · by_cases h : n = i
    · subst h
      show (((T.set n (nodeAt T n, ks))[n]?).map (·.1)).getD {} = _
      rw [List.getElem?_set_self hn]
      rfl
    · unfold nodeAt setK
      rw [List.getElem?_set_ne h]
  · unfold setK
    rw [List.set_eq_of_length_le hn]
theorem kids_push (T : TR) (d : ND) (i : Nat) : kidsAt (pushL T d) i = kidsAt T i := by
  unfold pushL
  rcases Nat.lt_or_ge i T.length with h | h
  · unfold kidsAt
    rw [List.getElem?_append_left h]
  · rw [kidsAt_out h]
    unfold kidsAt
    rw [List.getElem?_append_right h]
    cases hk : i - T.length with
    | zero => rfl
    | succ k => rfl
theorem kids_add (T : TR) (n : Nat) (s : List UInt8) (i : Nat) : kidsAt (addL T n s) i = kidsAt T i := by
  unfold addL
  rcases Nat.lt_or_ge n T.length with hn | hn
  · by_cases h : n = i
    · subst h
      show (((T.set n (_, kidsAt T n))[n]?).map (·.2)).getD [] = _
      rw [List.getElem?_set_self hn]
      rfl
    · unfold kidsAt
      rw [List.getElem?_set_ne h]
  · rw [List.set_eq_of_length_le hn]

/-- What stays true: a node is a kid of one node alone, once, and not within its own kids. -/
structure WF (T : TR) : Prop where
  inb : ∀ i k, k ∈ kidsAt T i → 1 ≤ k ∧ k < T.length
  nodup : ∀ i, (kidsAt T i).Nodup
  once : ∀ i j k, k ∈ kidsAt T i → k ∈ kidsAt T j → i = j
  rank : ∃ r : Nat → Nat, ∀ i k, k ∈ kidsAt T i → r i < r k

theorem parent_some {T : TR} {n p : Nat} (h : parentN T n = some p) : n ∈ kidsAt T p := by
  unfold parentN at h
  obtain ⟨hp, hc, _⟩ := List.findIdx?_eq_some_iff_getElem.1 h
  rw [kidsAt_get hp]
  simpa using hc
theorem parent_none {T : TR} {n : Nat} (h : parentN T n = none) (i : Nat) : n ∉ kidsAt T i := by
  intro hm
  have hi := kidsAt_lt hm
  unfold parentN at h
  rw [List.findIdx?_eq_none_iff] at h
  have := h T[i] (List.getElem_mem hi)
  rw [kidsAt_get hi] at hm
  simp at this
  exact this hm
theorem WF.parent {T : TR} (h : WF T) {n p : Nat} (hk : n ∈ kidsAt T p) : parentN T n = some p := by
  cases hp : parentN T n with
  | none => exact absurd hk (parent_none hp p)
  | some q => rw [h.once q p n (parent_some hp) hk]
theorem WF.root {T : TR} (h : WF T) : parentN T 0 = none := by
  cases hp : parentN T 0 with
  | none => rfl
  | some q =>
    have := (h.inb q 0 (parent_some hp)).1
    omega
theorem WF.of_kids {T U : TR} (h : WF T) (hl : T.length ≤ U.length) (hk : ∀ i, kidsAt U i = kidsAt T i) : WF U := by
  obtain ⟨r, hr⟩ := h.rank
  refine ⟨fun i k hm => ?_, fun i => by rw [hk]; exact h.nodup i, fun i j k h1 h2 => ?_, r, fun i k hm => ?_⟩
  · rw [hk] at hm
    have := h.inb i k hm
    omega
  · rw [hk] at h1 h2
    exact h.once i j k h1 h2
  · rw [hk] at hm
    exact hr i k hm
theorem WF.push {T : TR} (h : WF T) (d : ND) : WF (pushL T d) := h.of_kids (by simp [pushL]) (kids_push T d)
theorem WF.add {T : TR} (h : WF T) (n : Nat) (s : List UInt8) : WF (addL T n s) := h.of_kids (by simp [addL]) (kids_add T n s)

/-! Taken out. -/
theorem filter_self (n : Nat) (l : List Nat) (h : n ∉ l) : l.filter (fun x => !(x == n)) = l := by
  rw [List.filter_eq_self]
  intro a ha
  simp
  rintro rfl
  exact h ha
theorem out_len (T : TR) (n : Nat) : (outL T n).length = T.length := by
  unfold outL
  split
  · rfl
  · exact setK_len _ _ _
theorem kids_out {T : TR} (h : WF T) (n i : Nat) : kidsAt (outL T n) i = (kidsAt T i).filter (fun x => !(x == n)) := by
  unfold outL
  cases hp : parentN T n with
  | none => rw [filter_self n _ (parent_none hp i)]
  | some p =>
    have hm := parent_some hp
    show kidsAt (setK T p _) i = _
    rw [kids_set T p _ (kidsAt_lt hm)]
    by_cases e : i = p
    · subst e; rw [if_pos rfl]
    · rw [if_neg e, filter_self]
      exact fun h2 => e (h.once i p n h2 hm)
theorem node_out (T : TR) (n i : Nat) : nodeAt (outL T n) i = nodeAt T i := by
  unfold outL
  split
  · rfl
  · exact node_set _ _ _ _
theorem WF.sub {T U : TR} (h : WF T) (hl : T.length = U.length) (hk : ∀ i k, k ∈ kidsAt U i → k ∈ kidsAt T i) (hn : ∀ i, (kidsAt U i).Nodup) : WF U := by
  obtain ⟨r, hr⟩ := h.rank
  exact ⟨fun i k hm => by rw [← hl]; exact h.inb i k (hk i k hm), hn, fun i j k h1 h2 => h.once i j k (hk i k h1) (hk j k h2), r, fun i k hm => hr i k (hk i k hm)⟩
theorem WF.out {T : TR} (h : WF T) (n : Nat) : WF (outL T n) := by
  refine h.sub (out_len T n).symm (fun i k hm => ?_) (fun i => ?_)
  · rw [kids_out h] at hm
    exact (List.mem_filter.1 hm).1
  · rw [kids_out h]
    exact (h.nodup i).filter _
theorem out_none {T : TR} (h : WF T) (n i : Nat) : n ∉ kidsAt (outL T n) i := by
  rw [kids_out h]
  intro hm
  have := (List.mem_filter.1 hm).2
  simp at this

/-! Within. -/
def upK (T : TR) (a : Nat) : Nat → Nat → Prop
  | 0, n => n = a
  | k + 1, n => ∃ p, n ∈ kidsAt T p ∧ upK T a k p
/-- Going up from n one comes to a. -/
def Up (T : TR) (a n : Nat) : Prop := ∃ k, upK T a k n
theorem Up.refl {T : TR} {a : Nat} : Up T a a := ⟨0, rfl⟩
theorem Up.step {T : TR} {a n p : Nat} (hm : n ∈ kidsAt T p) (hu : Up T a p) : Up T a n := by
  obtain ⟨k, hk⟩ := hu
  exact ⟨k + 1, p, hm, hk⟩
theorem Up.ind {T : TR} {a : Nat} {motive : (n : Nat) → Up T a n → Prop} (refl : motive a Up.refl) (step : ∀ (n p : Nat) (hm : n ∈ kidsAt T p) (hu : Up T a p), motive p hu → motive n (Up.step hm hu)) {n : Nat} (hu : Up T a n) : motive n hu := by
  have key : ∀ (k n : Nat) (h : upK T a k n), motive n ⟨k, h⟩ := by
    intro k
    induction k with
    | zero =>
      intro n h
      obtain rfl : n = a := h
      exact refl
    | succ k ih =>
      intro n h
      obtain ⟨p, hm, hk⟩ := id h
      exact step n p hm ⟨k, hk⟩ (ih p hk)
  obtain ⟨k, hk⟩ := hu
  exact key k n hk
theorem Up.part {T : TR} {a n : Nat} (hu : Up T a n) : n = a ∨ ∃ p, n ∈ kidsAt T p ∧ Up T a p := by
  obtain ⟨k, hk⟩ := hu
  cases k with
  | zero => exact .inl hk
  | succ k =>
    obtain ⟨p, hm, h⟩ := hk
    exact .inr ⟨p, hm, k, h⟩
theorem within_up {T : TR} : ∀ (k n a : Nat), withinK k T n a = true → Up T a n
  | 0, _, _, h => by simp [withinK] at h
  | k + 1, n, a, h => by
    simp only [withinK] at h
    split at h
    · rename_i e
      subst e
      exact .refl
    · cases hp : parentN T n with
      | none => rw [hp] at h; simp at h
      | some p =>
        rw [hp] at h
        exact .step (parent_some hp) (within_up k p a h)
theorem countP_lt {p q : Nat → Bool} : ∀ (l : List Nat), (∀ x ∈ l, p x = true → q x = true) → ∀ a ∈ l, p a = false → q a = true → l.countP p < l.countP q
  | [], _, a, ha, _, _ => by simp at ha
  | x :: r, h, a, ha, h1, h2 => by
    have hm : r.countP p ≤ r.countP q := List.countP_mono_left fun y hy => h y (by simp [hy])
    rw [List.countP_cons, List.countP_cons]
    rcases List.mem_cons.1 ha with rfl | ha
    · rw [h1, h2]
      simp
      omega
    · have ih := countP_lt r (fun y hy => h y (by simp [hy])) a ha h1 h2
      have := h x (by simp)
      cases hp : p x
      · simp; omega
      · rw [this hp]; simp; omega
/-- A rank below the number of nodes. -/
theorem WF.ranked {T : TR} (h : WF T) : ∃ r : Nat → Nat, (∀ i k, k ∈ kidsAt T i → r i < r k) ∧ ∀ i, i < T.length → r i < T.length := by
  obtain ⟨r, hr⟩ := h.rank
  refine ⟨fun i => (List.range T.length).countP (fun j => decide (r j < r i)), fun i k hm => ?_, fun i hi => ?_⟩
  · have h1 := hr i k hm
    refine countP_lt _ (fun x _ hx => ?_) i (List.mem_range.2 (kidsAt_lt hm)) (by simp) (by simp; exact h1)
    simp at hx ⊢
    omega
  · have h1 := countP_lt (p := fun j => decide (r j < r i)) (q := fun _ => true) (List.range T.length) (fun _ _ _ => rfl) i (List.mem_range.2 hi) (by simp) rfl
    simp at h1
    simpa using h1
theorem up_within {T : TR} (h : WF T) {r : Nat → Nat} (hr : ∀ i k, k ∈ kidsAt T i → r i < r k) {a n : Nat} (hu : Up T a n) : ∀ k, r n < k → withinK k T n a = true := by
  induction hu using Up.ind with
  | refl =>
    intro k hk
    cases k with
    | zero => omega
    | succ k => simp [withinK]
  | step n p hm _ ih =>
    intro k hk
    cases k with
    | zero => omega
    | succ k =>
      simp only [withinK]
      split
      · rfl
      · rw [h.parent hm]
        exact ih k (by have := hr p n hm; omega)
theorem within_iff {T : TR} (h : WF T) {n a : Nat} (hn : n < T.length) : withinL T n a = true ↔ Up T a n := by
  refine ⟨within_up _ n a, fun hu => ?_⟩
  obtain ⟨r, hr, hb⟩ := h.ranked
  exact up_within h hr hu _ (by have := hb n hn; omega)
theorem Up.lt {T : TR} {a n : Nat} (h : WF T) (hu : Up T a n) (ha : a < T.length) : n < T.length := by
  rcases hu.part with rfl | ⟨p, hm, _⟩
  · exact ha
  · exact (h.inb _ _ hm).2
theorem Up.trans {T : TR} {a b c : Nat} (h1 : Up T a b) (h2 : Up T b c) : Up T a c := by
  induction h2 using Up.ind with
  | refl => exact h1
  | step n p hm _ ih => exact .step hm ih
end Go.Proofs.YthopnliaikkhbaaGreatDoor.S5
