import Derived.Test.YteccmjngdibeoaaGreatDoorKp18
set_option linter.unusedVariables false
set_option linter.unusedSimpArgs false
set_option maxRecDepth 4000
namespace Go.Proofs.YteccmjngdibeoaaGreatDoor.S5
def maxG {α : Type} (f : α → Nat) : List α → Nat
  | [] => 0
  | x :: r => max (f x) (maxG f r)
def deepT : {k : Nat} → NT k → Nat
  | 0, _ => 0
  | k + 1, t => maxG (fun x => deepT x) t.kids + (if t.nd.kind = 1 then 1 else 0)
theorem maxG_app {α : Type} (f : α → Nat) : ∀ (a b : List α), maxG f (a ++ b) = max (maxG f a) (maxG f b)
  | [], b => by simp [maxG]
  | x :: r, b => by
    rw [List.cons_append, maxG, maxG, maxG_app f r b, Nat.max_assoc]
theorem maxG_take {α : Type} (f : α → Nat) (l : List α) (i : Nat) (h : i < l.length) : maxG f (l.take (i + 1)) = max (maxG f (l.take i)) (f l[i]) := by
  rw [List.take_succ_eq_append_getElem h, maxG_app]
  simp [maxG]
theorem deep_le : ∀ {k : Nat} (t : NT k), deepT t ≤ k
  | 0, t => t.none
  | k + 1, t => by
    have : ∀ (l : List (NT k)), maxG (fun x => deepT x) l ≤ k := by
      intro l
      induction l with
      | nil => exact Nat.zero_le _
      | cons x r ih =>
        have := deep_le x
        show max (deepT x) (maxG (fun x => deepT x) r) ≤ k
        omega
    show maxG (fun x => deepT x) t.kids + (if t.nd.kind = 1 then 1 else 0) ≤ k + 1
    have := this t.kids
    split <;> omega
end Go.Proofs.YteccmjngdibeoaaGreatDoor.S5
