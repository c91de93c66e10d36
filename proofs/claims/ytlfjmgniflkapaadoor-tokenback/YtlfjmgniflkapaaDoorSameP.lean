/- The document's comparison of a token without attributes and itself, in texts. -/
import Derived.Test.YtlfjmgniflkapaaDoorAlive4
import Derived.Test.YtlfjmgniflkapaaDoorWalkP4
set_option linter.unusedVariables false
set_option linter.unusedSimpArgs false
namespace Go.Proofs.YtlfjmgniflkapaaDoor
open Go.RowKit

theorem str_self (s : ByteArray) : (⟨s.data.toList.toArray⟩ : ByteArray) = s := (str_of s _ rfl).symm
theorem same_plain (k : Nat) (n t : ByteArray) (c : Bool) (va vb : Value) (w : World) (hA : IsA w va []) (hB : IsA w vb []) :
    Calls Tryd.prog 13 #[.agg #[.int .i64 (k : Int), .string n, va, .bool c, .string t], .agg #[.int .i64 (k : Int), .string n, vb, .bool c, .string t]] w fun e w' => e = .returned (.bool true) ∧ Below w.heap.size w w' := by
  have h := same_self { kind := k, name := n.data.toList, closed := c, text := t.data.toList } va vb (by simp) w hA hB
  unfold tokV at h
  simp only [str_self] at h
  exact h
/-- The next token of a text that is one without attributes. -/
theorem next_plainT (S n : ByteArray) (hS : S.size ≤ 20000) (hn : n.size ≤ 20000) (p : Nat) (hp : p < S.size) (m : Int) (f : Bool) (k : Nat) (nm tx : ByteArray) (V : List UInt8) (h : nextR m n.data.toList f (S.data.toList.drop p) = ({ kind := k, name := nm.data.toList, text := tx.data.toList }, V)) (w : World) (he : Env w) :
    Calls Tryd.prog 10 #[.string S, .int .i64 (p : Int), .int .i64 m, .string n, .bool f] w fun e w' => (∃ sv, IsA w' sv [] ∧ e = .returned (.tuple #[.agg #[.int .i64 (k : Int), .string nm, sv, .bool false, .string tx], .int .i64 ((S.size - V.length : Nat) : Int)])) ∧ Below w.heap.size w w' := by
  have hh := pnext_in S n hS hn p hp m f w he
  rw [h] at hh
  refine hh.mono ?_
  rintro e w1 ⟨⟨sv, hA, _, rfl⟩, b1⟩
  refine ⟨⟨sv, hA, ?_⟩, b1⟩
  unfold tokV
  simp only [str_self]
end Go.Proofs.YtlfjmgniflkapaaDoor
