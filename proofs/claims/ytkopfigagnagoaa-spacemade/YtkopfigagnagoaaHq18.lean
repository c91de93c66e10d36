/- The program's numbers: a row in a space's second cell, and its methods as the heap's calls find them. -/
import Derived.Test.YtkopfigagnagoaaHp18
set_option linter.unusedVariables false
set_option linter.unusedSimpArgs false
set_option maxRecDepth 4000
namespace Go.Proofs.Ytkopfigagnagoaa
open Go.RowKit

def numsV (l : List Nat) : List Value := l.map fun (x : Nat) => Value.int .i64 (x : Int)
theorem numsV_len (l : List Nat) : (numsV l).length = l.length := List.length_map ..
theorem numsV_get (l : List Nat) (j : Nat) (hj : j < l.length) : (numsV l)[j]? = some (.int .i64 (atN l j : Int)) := by
  unfold numsV
  rw [List.getElem?_map, atN_get hj]
  rfl
theorem numsV_set (l : List Nat) (j x : Nat) : (numsV l).set j (.int .i64 (x : Int)) = numsV (l.set j x) := by
  unfold numsV
  rw [List.map_set]
/-- A space's numbers: the row in its second cell. -/
structure NumS (w : World) (T0 : Value) (b : Nat) (v : Value) (l : List Nat) : Prop where
  cell0 : w.cell? ⟨b, 0, none⟩ = some T0
  frozen0 : w.frozen? ⟨b, 0, none⟩ = false
  cell : w.cell? ⟨b, 1, none⟩ = some v
  frozen : w.frozen? ⟨b, 1, none⟩ = false
  row : w.ownsRow 0 3 1 v l.length (numsV l)
  apart : v.ownBlock ≠ some b
  le : l.length ≤ 4096
theorem NumS.form {w : World} {T0 : Value} {b : Nat} {v : Value} {l : List Nat} (h : NumS w T0 b v l) : ∃ a c, v = .slice a l.length c := by
  rcases h.row.2 with ⟨rfl, h2⟩ | ⟨g, cap, cur, rfl, _⟩
  · exact ⟨none, 0, by rw [h2]⟩
  · exact ⟨_, _, rfl⟩
theorem NumS.some_ {w : World} {T0 : Value} {b : Nat} {v : Value} {l : List Nat} (h : NumS w T0 b v l) (h0 : 0 < l.length) : ∃ g cap, v = .slice (some ⟨g, 0, none⟩) l.length cap ∧ g ≠ b ∧ g < w.heap.size ∧ l.length ≤ cap := by
  rcases h.row.2 with ⟨rfl, h2⟩ | ⟨g, cap, cur, rfl, _, hg, hc, _⟩
  · omega
  · exact ⟨g, cap, rfl, fun e => h.apart (by rw [e]; rfl), (Array.getElem?_eq_some_iff.1 hg).1, hc⟩
/-- The methods, as they are found behind an interface. -/
theorem meth_push (a : Addr) (w : World) : (method 182 56 (.pointer (some a)) "Push").run Try.prog w = .ok (49, .pointer (some a)) w := by kernel_rfl
theorem meth_pop (a : Addr) (w : World) : (method 182 56 (.pointer (some a)) "Pop").run Try.prog w = .ok (48, .pointer (some a)) w := by kernel_rfl
theorem meth_len0 (a : Addr) (w : World) : (method 182 56 (.pointer (some a)) "Len").run Try.prog w = (match w.cell? a with
    | some v => .ok (45, v) w
    | none => match w.farLoad Try.prog a false with
      | .ok (v, _) => .ok (45, v) w
      | .error h => .halt h w) := by kernel_rfl
theorem meth_len (a : Addr) (w : World) (v : Value) (h : w.cell? a = some v) : (method 182 56 (.pointer (some a)) "Len").run Try.prog w = .ok (45, v) w := by
  rw [meth_len0, h]
theorem meth_less0 (a : Addr) (w : World) : (method 182 56 (.pointer (some a)) "Less").run Try.prog w = (match w.cell? a with
    | some v => .ok (46, v) w
    | none => match w.farLoad Try.prog a false with
      | .ok (v, _) => .ok (46, v) w
      | .error h => .halt h w) := by kernel_rfl
theorem meth_less (a : Addr) (w : World) (v : Value) (h : w.cell? a = some v) : (method 182 56 (.pointer (some a)) "Less").run Try.prog w = .ok (46, v) w := by
  rw [meth_less0, h]
theorem meth_swap0 (a : Addr) (w : World) : (method 182 56 (.pointer (some a)) "Swap").run Try.prog w = (match w.cell? a with
    | some v => .ok (47, v) w
    | none => match w.farLoad Try.prog a false with
      | .ok (v, _) => .ok (47, v) w
      | .error h => .halt h w) := by kernel_rfl
theorem meth_swap (a : Addr) (w : World) (v : Value) (h : w.cell? a = some v) : (method 182 56 (.pointer (some a)) "Swap").run Try.prog w = .ok (47, v) w := by
  rw [meth_swap0, h]
end Go.Proofs.Ytkopfigagnagoaa
