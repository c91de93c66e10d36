/- Arenas over lists: nothing is lost: how many nodes there are within. No program in it. -/
import Derived.Test.YthopnliaikkhbaaGreatDoorS5ArP
set_option linter.unusedVariables false
set_option linter.unusedSimpArgs false
set_option maxRecDepth 4000
namespace Go.Proofs.YthopnliaikkhbaaGreatDoor.S5

def ind (b : Bool) : Nat := if b then 1 else 0
def sumL (l : List Nat) (f : Nat → Nat) : Nat := (l.map f).sum
theorem sumL_cons (x : Nat) (l : List Nat) (f : Nat → Nat) : sumL (x :: l) f = f x + sumL l f := by simp [sumL]
theorem sumL_congr {l : List Nat} {f g : Nat → Nat} (h : ∀ x ∈ l, f x = g x) : sumL l f = sumL l g := by
  unfold sumL
  rw [List.map_congr_left h]
theorem sumL_add (l : List Nat) (f g : Nat → Nat) : sumL l (fun x => f x + g x) = sumL l f + sumL l g := by
  induction l with
  | nil => rfl
  | cons x r ih => rw [sumL_cons, sumL_cons, sumL_cons, ih]; omega
theorem sumL_zero (l : List Nat) : sumL l (fun _ => 0) = 0 := by
  induction l with
  | nil => rfl
  | cons x r ih => rw [sumL_cons, ih]
theorem sumL_one (l : List Nat) : sumL l (fun _ => 1) = l.length := by
  induction l with
  | nil => rfl
  | cons x r ih => rw [sumL_cons, ih, List.length_cons]; omega
theorem sumL_swap (l r : List Nat) (f : Nat → Nat → Nat) : sumL l (fun a => sumL r (fun b => f a b)) = sumL r (fun b => sumL l (fun a => f a b)) := by
  induction l with
  | nil => rw [show sumL [] _ = 0 from rfl]; exact (sumL_zero r).symm
  | cons x s ih =>
    rw [sumL_cons, ih, ← sumL_add]
    exact sumL_congr fun b _ => (sumL_cons x s (fun a => f a b)).symm
/-- At most one of a list: its sum is whether there is one. -/
theorem sumL_ind {l : List Nat} (p : Nat → Bool) (hn : l.Nodup) (h : ∀ x ∈ l, ∀ y ∈ l, p x = true → p y = true → x = y) : sumL l (fun x => ind (p x)) = ind (l.any p) := by
  induction l with
  | nil => rfl
  | cons x r ih =>
    obtain ⟨h1, h2⟩ := List.nodup_cons.1 hn
    have ih := ih h2 (fun a ha b hb => h a (by simp [ha]) b (by simp [hb]))
    rw [sumL_cons, ih, List.any_cons]
    cases hp : p x
    · simp [ind]
    · have : r.any p = false := by
        rw [List.any_eq_false]
        intro y hy hpy
        have := h x (by simp) y (by simp [hy]) hp hpy
        subst this
        exact h1 hy
      rw [this]
      simp [ind]
theorem sumL_eq (N n : Nat) (hn : n < N) : sumL (List.range N) (fun m => ind (m == n)) = 1 := by
  rw [sumL_ind (fun m => m == n) List.nodup_range (fun x _ y _ h1 h2 => by simp at h1 h2; omega)]
  have : (List.range N).any (fun m => m == n) = true := List.any_eq_true.2 ⟨n, List.mem_range.2 hn, by simp⟩
  rw [this]
  rfl

/-! Two above one node: one lies within the other. -/
theorem up_either {T : TR} (h : WF T) {a b n : Nat} (h1 : Up T a n) (h2 : Up T b n) : Up T a b ∨ Up T b a := by
  induction h1 using Up.ind with
  | refl => exact .inr h2
  | step n p hm hu ih =>
    rcases h2.part with rfl | ⟨q, hm2, hu2⟩
    · exact .inl (.step hm hu)
    · obtain rfl := h.once p q n hm hm2
      exact ih hu2
theorem up_kid {T : TR} (h : WF T) {n m : Nat} (hu : Up T n m) (hne : ¬ m = n) : ∃ k ∈ kidsAt T n, Up T k m := by
  induction hu using Up.ind with
  | refl => exact absurd rfl hne
  | step m p hm hu ih =>
    by_cases e : p = n
    · subst e
      exact ⟨m, hm, .refl⟩
    · obtain ⟨k, hk, h2⟩ := ih e
      exact ⟨k, hk, .step hm h2⟩
/-- How many nodes lie within a node. -/
def sizeW (T : TR) (n : Nat) : Nat := sumL (List.range T.length) (fun m => ind (withinL T m n))
theorem within_step {T : TR} (h : WF T) {n m : Nat} (hn : n < T.length) (hm : m < T.length) : ind (withinL T m n) = ind (m == n) + sumL (kidsAt T n) (fun k => ind (withinL T m k)) := by
  obtain ⟨r, hr, hb⟩ := h.ranked
  have huniq : ∀ x ∈ kidsAt T n, ∀ y ∈ kidsAt T n, withinL T m x = true → withinL T m y = true → x = y := by
    intro x hx y hy h1 h2
    have u1 := (within_iff h hm).1 h1
    have u2 := (within_iff h hm).1 h2
    have key : ∀ x y, x ∈ kidsAt T n → y ∈ kidsAt T n → Up T x y → x = y := by
      intro x y hx hy hu
      rcases hu.part with rfl | ⟨q, hq, hu⟩
      · rfl
      · obtain rfl := h.once q n y hq hy
        have := up_rank hr hu
        have := hr q x hx
        omega
    rcases up_either h u1 u2 with u | u
    · exact key x y hx hy u
    · exact (key y x hy hx u).symm
  rw [sumL_ind (fun k => withinL T m k) (h.nodup n) huniq]
  by_cases e : m = n
  · subst e
    have h1 : withinL T m m = true := (within_iff h hm).2 .refl
    have h2 : (kidsAt T m).any (fun k => withinL T m k) = false := by
      rw [List.any_eq_false]
      intro k hk hw
      have := up_rank hr ((within_iff h hm).1 hw)
      have := hr m k hk
      omega
    rw [h1, h2]
    simp [ind]
  · have h3 : (m == n) = false := by simpa using e
    rw [h3]
    have : withinL T m n = (kidsAt T n).any (fun k => withinL T m k) := by
      rw [Bool.eq_iff_iff, within_iff h hm, List.any_eq_true]
      constructor
      · intro hu
        obtain ⟨k, hk, hu2⟩ := up_kid h hu e
        exact ⟨k, hk, (within_iff h hm).2 hu2⟩
      · rintro ⟨k, hk, hw⟩
        exact Up.trans (.step hk .refl) ((within_iff h hm).1 hw)
    rw [this]
    simp [ind]
theorem size_step {T : TR} (h : WF T) {n : Nat} (hn : n < T.length) : sizeW T n = 1 + sumL (kidsAt T n) (fun k => sizeW T k) := by
  unfold sizeW
  rw [← sumL_swap, ← sumL_eq T.length n hn, ← sumL_add]
  exact sumL_congr fun m hm => within_step h hn (List.mem_range.1 hm)
/-- The nodes of no parent. -/
def apartL (T : TR) : List Nat := (List.range T.length).filter (fun n => (parentN T n).isNone)
theorem up_root {T : TR} (h : WF T) {r : Nat → Nat} (hr : ∀ i k, k ∈ kidsAt T i → r i < r k) : ∀ (k m : Nat), r m < k → m < T.length → ∃ a, a ∈ apartL T ∧ Up T a m
  | 0, m, hk, _ => by omega
  | k + 1, m, hk, hm => by
    cases hp : parentN T m with
    | none => exact ⟨m, List.mem_filter.2 ⟨List.mem_range.2 hm, by rw [hp]; rfl⟩, .refl⟩
    | some p =>
      have hmem := parent_some hp
      obtain ⟨a, ha, hu⟩ := up_root h hr k p (by have := hr p m hmem; omega) (kidsAt_lt hmem)
      exact ⟨a, ha, .step hmem hu⟩
theorem apart_parent {T : TR} {a : Nat} (ha : a ∈ apartL T) : parentN T a = none := by
  have := (List.mem_filter.1 ha).2
  simpa using this
theorem apart_lt {T : TR} {a : Nat} (ha : a ∈ apartL T) : a < T.length := List.mem_range.1 (List.mem_filter.1 ha).1
theorem apart_up {T : TR} {a b : Nat} (hb : b ∈ apartL T) (hu : Up T a b) : a = b := by
  rcases hu.part with rfl | ⟨p, hm, _⟩
  · rfl
  · exact absurd hm (parent_none (apart_parent hb) _)
/-- Nothing is lost. -/
theorem WF.lost {T : TR} (h : WF T) : sumL (apartL T) (fun n => sizeW T n) = T.length := by
  obtain ⟨r, hr, hb⟩ := h.ranked
  unfold sizeW
  rw [sumL_swap]
  have : ∀ m ∈ List.range T.length, sumL (apartL T) (fun n => ind (withinL T m n)) = 1 := by
    intro m hm
    have hm := List.mem_range.1 hm
    have hnd : (apartL T).Nodup := by unfold apartL; exact List.Pairwise.filter _ List.nodup_range
    rw [sumL_ind (fun n => withinL T m n) hnd (fun x hx y hy h1 h2 => ?_)]
    · obtain ⟨a, ha, hu⟩ := up_root h hr (r m + 1) m (by omega) hm
      have : (apartL T).any (fun n => withinL T m n) = true := List.any_eq_true.2 ⟨a, ha, (within_iff h hm).2 hu⟩
      rw [this]
      rfl
    · rcases up_either h ((within_iff h hm).1 h1) ((within_iff h hm).1 h2) with u | u
      · exact apart_up hy u
      · exact (apart_up hx u).symm
  rw [sumL_congr this, sumL_one, List.length_range]
/-- The kids, and those of no parent, are all nodes. -/
theorem sumL_mem (N : Nat) (l : List Nat) (hn : l.Nodup) (hb : ∀ x ∈ l, x < N) : sumL (List.range N) (fun m => ind (l.contains m)) = l.length := by
  have : ∀ m ∈ List.range N, ind (l.contains m) = sumL l (fun x => ind (m == x)) := by
    intro m _
    rw [sumL_ind (fun x => m == x) hn (fun x _ y _ h1 h2 => by simp at h1 h2; omega)]
    congr 1
    rw [Bool.eq_iff_iff, List.any_eq_true]
    simp
  rw [sumL_congr this, sumL_swap]
  have h2 : ∀ x ∈ l, sumL (List.range N) (fun m => ind (m == x)) = 1 := fun x hx => sumL_eq N x (hb x hx)
  rw [sumL_congr h2, sumL_one]
theorem WF.all_told {T : TR} (h : WF T) : sumL (List.range T.length) (fun i => (kidsAt T i).length) + (apartL T).length = T.length := by
  have h1 : ∀ i ∈ List.range T.length, (kidsAt T i).length = sumL (List.range T.length) (fun m => ind ((kidsAt T i).contains m)) := fun i _ => (sumL_mem T.length _ (h.nodup i) (fun x hx => (h.inb i x hx).2)).symm
  rw [sumL_congr h1, sumL_swap]
  have h2 : ∀ m ∈ List.range T.length, sumL (List.range T.length) (fun i => ind ((kidsAt T i).contains m)) = ind ((parentN T m).isSome) := by
    intro m _
    rw [sumL_ind (fun i => (kidsAt T i).contains m) List.nodup_range (fun x _ y _ a b => h.once x y m (by simpa using a) (by simpa using b))]
    congr 1
    rw [Bool.eq_iff_iff, List.any_eq_true]
    constructor
    · rintro ⟨i, _, hi⟩
      rw [h.parent (p := i) (by simpa using hi)]
      rfl
    · intro hs
      cases hp : parentN T m with
      | none => rw [hp] at hs; cases hs
      | some p => exact ⟨p, List.mem_range.2 (kidsAt_lt (parent_some hp)), by simpa using parent_some hp⟩
  rw [sumL_congr h2]
  have h3 : (apartL T).length = sumL (List.range T.length) (fun m => ind ((parentN T m).isNone)) := by
    unfold apartL
    generalize List.range T.length = l
    induction l with
    | nil => rfl
    | cons x r ih =>
      rw [sumL_cons, List.filter_cons, ← ih]
      cases hp : (parentN T x).isNone
      · rw [if_neg (by simp), show ind false = 0 from rfl]; omega
      · rw [if_pos rfl, show ind true = 1 from rfl, List.length_cons]; omega
  rw [h3, ← sumL_add]
  have h4 : ∀ m ∈ List.range T.length, ind ((parentN T m).isSome) + ind ((parentN T m).isNone) = 1 := by
    intro m _
    cases parentN T m <;> rfl
  rw [sumL_congr h4, sumL_one, List.length_range]

end Go.Proofs.YthopnliaikkhbaaGreatDoor.S5
