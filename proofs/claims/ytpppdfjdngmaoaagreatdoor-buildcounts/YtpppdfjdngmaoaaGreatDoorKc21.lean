import Derived.Test.YtpppdfjdngmaoaaGreatDoorKc20
set_option linter.unusedVariables false
set_option linter.unusedSimpArgs false
set_option maxRecDepth 100000
set_option maxHeartbeats 8000000
namespace Go.Proofs.YtpppdfjdngmaoaaGreatDoor.S5
open Go.RowKit
theorem parent_q {A : Nat → Prop} {w : World} {pb : Nat} {T : TR} (hW : WF T) (hz : T.length ≤ 1000000) (z : Int) (h : PT A w pb T) :
    Calls Tryz.prog 165 #[.pointer (some ⟨pb, 0, none⟩), .int .i64 z] w fun e w' => e = .returned (.int .i64 (parentZ T z)) ∧ w' = w := by
  have hc0 : ∃ g cap, w.cell? ⟨pb, 0, none⟩ = some (.slice (some ⟨g, 0, none⟩) T.length cap) := by
    obtain ⟨g, cap, rs, hR, hP⟩ := h
    have hl := map_len hR
    have c0 := hP.tree
    rw [hl, raw_len] at c0
    exact ⟨g, cap, c0⟩
  by_cases hzz : 0 ≤ z ∧ z < T.length
  · obtain ⟨n, rfl⟩ : ∃ n : Nat, z = (n : Int) := ⟨z.toNat, by omega⟩
    have hn : n < T.length := by omega
    have hni : (n : Int) < T.length := by omega
    rw [show parentZ T (n : Int) = parZ (parentN T n) by unfold parentZ; rw [if_neg (by omega), Int.toNat_natCast]]
    obtain ⟨g, cap, c0, _, c1, _⟩ := h.cells n hn
    generalize parZ (parentN T n) = q at *
    clear hc0 h hW hzz
    go_enter Tryz.func165, Tryz.ntmps165
    go_wp2
    go_ret
    exact ⟨rfl, rfl⟩
  · have hpz : parentZ T z = -1 := by
      unfold parentZ
      split
      · rfl
      · rw [no_parent (fun i hm => by have := (hW.inb i _ hm).2; omega)]
        rfl
    rw [hpz]
    obtain ⟨g, cap, c0⟩ := hc0
    clear h hW hpz
    by_cases h0 : 0 ≤ z
    · have h1 : ¬ z < T.length := by omega
      go_enter Tryz.func165, Tryz.ntmps165
      go_wp2
      go_ret
      exact ⟨rfl, rfl⟩
    · go_enter Tryz.func165, Tryz.ntmps165
      go_wp2
      go_ret
      exact ⟨rfl, rfl⟩
theorem Kept.keep {w W : World} {k : Nat} {cs : List Value} (h : Kept w k cs) (hk : W.heap[k]? = w.heap[k]?) : Kept W k cs :=
  ⟨fun o => by rw [World.cell?_of_block (a := ⟨k, o, none⟩) hk]; exact h.1 o, fun o => by rw [World.frozen?_of_block (a := ⟨k, o, none⟩) hk]; exact h.2 o⟩
theorem Kept.set {w : World} {k : Nat} {cs : List Value} (h : Kept w k cs) (o : Nat) (ho : o < cs.length) (v : Value) : Kept (w.setCell ⟨k, o, none⟩ v) k (cs.set o v) := by
  refine ⟨fun j => ?_, fun j => by rw [World.frozen?_setCell]; exact h.2 j⟩
  by_cases e : o = j
  · subst e
    rw [List.getElem?_set_self ho]
    exact World.cell?_setCell_same _ _ _ (by rw [h.1 o, List.getElem?_eq_getElem ho])
  · rw [List.getElem?_set_ne e, World.cell?_setCell_other _ _ _ _ (by intro h; injection h with _ h _; exact e h)]
    exact h.1 j
theorem IsAB.tight {B : Nat → Prop} {w : World} {v : Value} {aa : AttrL} (h : IsAB B w v aa) : IsAB (fun k => B k ∧ k < w.heap.size) w v aa := by
  refine ⟨h.1, ?_⟩
  rcases h.2 with h2 | h2
  · exact .inl h2
  · by_cases he : aa = []
    · exact .inl he
    · refine .inr fun k e => ⟨h2 k e, ?_⟩
      rcases h.1 with ⟨_, h1⟩ | ⟨b, o, cap, rfl, _, hcs⟩
      · exact absurd h1 he
      · have hl : 0 < aa.length := by
          cases aa with
          | nil => exact absurd rfl he
          | cons a r => simp
        have : b = k := by simpa [Value.ownBlock] using e
        rw [← this]
        exact cell_lt (hcs 0 hl).1
end Go.Proofs.YtpppdfjdngmaoaaGreatDoor.S5
namespace Go.Proofs.YtpppdfjdngmaoaaGreatDoor.S5
def ND.same (a b : ND) : Bool := a.kind == b.kind && a.space == b.space && a.name == b.name && a.attrs == b.attrs && a.text == b.text
def eqG {α β : Type} (f : α → β → Bool) : List α → List β → Bool
  | [], [] => true
  | x :: r, y :: s => f x y && eqG f r s
  | [], _ :: _ => false
  | _ :: _, [] => false
theorem eqG_self {α : Type} (f : α → α → Bool) : ∀ (a : List α), (∀ x ∈ a, f x x = true) → eqG f a a = true
  | [], _ => rfl
  | x :: r, h => by
    rw [eqG, h x (by simp), eqG_self f r fun y hy => h y (by simp [hy])]
    rfl
def eqT : {k : Nat} → NT k → {j : Nat} → NT j → Bool
  | k + 1, t, j + 1, u => t.nd.same u.nd && eqG (fun x y => eqT x y) t.kids u.kids
  | 0, _, _, _ => false
  | _ + 1, _, 0, _ => false
theorem ND.same_self (d : ND) : d.same d = true := by simp [ND.same]
theorem eqT_self : ∀ {k : Nat} (t : NT k), eqT t t = true
  | 0, t => t.none
  | k + 1, t => by
    show (t.nd.same t.nd && eqG (fun x y => eqT x y) t.kids t.kids) = true
    rw [t.nd.same_self, eqG_self _ _ fun x _ => eqT_self x]
    rfl
def maxG {α : Type} (f : α → Nat) : List α → Nat
  | [] => 0
  | x :: r => max (f x) (maxG f r)
def deepT : {k : Nat} → NT k → Nat
  | 0, _ => 0
  | k + 1, t => maxG (fun x => deepT x) t.kids + (if t.nd.kind = 1 then 1 else 0)
theorem maxG_app {α : Type} (f : α → Nat) : ∀ (a b : List α), maxG f (a ++ b) = max (maxG f a) (maxG f b)
  | [], b => by simp [maxG]
  | x :: r, b => by
    rw [List.cons_append, maxG, maxG, maxG_app f r b, Nat.max_assoc]
theorem maxG_take {α : Type} (f : α → Nat) (l : List α) (i : Nat) (h : i < l.length) : maxG f (l.take (i + 1)) = max (maxG f (l.take i)) (f l[i]) := by
  rw [List.take_succ_eq_append_getElem h, maxG_app]
  simp [maxG]
theorem deep_le : ∀ {k : Nat} (t : NT k), deepT t ≤ k
  | 0, t => t.none
  | k + 1, t => by
    have : ∀ (l : List (NT k)), maxG (fun x => deepT x) l ≤ k := by
      intro l
      induction l with
      | nil => exact Nat.zero_le _
      | cons x r ih =>
        have := deep_le x
        show max (deepT x) (maxG (fun x => deepT x) r) ≤ k
        omega
    show maxG (fun x => deepT x) t.kids + (if t.nd.kind = 1 then 1 else 0) ≤ k + 1
    have := this t.kids
    split <;> omega
end Go.Proofs.YtpppdfjdngmaoaaGreatDoor.S5
