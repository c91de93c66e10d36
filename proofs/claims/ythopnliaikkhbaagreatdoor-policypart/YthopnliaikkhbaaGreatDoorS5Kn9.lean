/- What the walks over lists of nodes share: lengths, what stays, a kid's cells. No function of the program in it. -/
import Derived.Test.YthopnliaikkhbaaGreatDoorS5NV5
set_option linter.unusedVariables false
set_option linter.unusedSimpArgs false
set_option maxRecDepth 4000
namespace Go.Proofs.YthopnliaikkhbaaGreatDoor.S5
open Go.RowKit

def OkT : {k : Nat} → NT k → Prop
  | 0, _ => True
  | k + 1, t => t.nd.attrs.length ≤ 9223372036854775807 ∧ t.kids.length ≤ 9223372036854775807 ∧ ∀ x ∈ t.kids, OkT x
def OkTs {k : Nat} (ks : List (NT k)) : Prop := ∀ x ∈ ks, OkT x
theorem OkTs.get {k : Nat} {ks : List (NT k)} (h : OkTs ks) (j : Nat) (hj : j < ks.length) : OkT ks[j] := h _ (List.getElem_mem hj)
theorem IsK.below {B : Nat → Prop} {w W : World} {k : Nat} {ks : List (NT k)} {kv : Value} (hB : ∀ k, B k → k < w.heap.size) (h : IsK B w ks kv) (hb : Below w.heap.size w W) : IsK B W ks kv := by
  rcases h with h | ⟨b, o, cap, e1, e2, e3, e4⟩
  · exact .inl h
  · refine .inr ⟨b, o, cap, e1, e2, e3, ?_⟩
    rcases e3 with rfl | e3
    · trivial
    · exact IsNs.keep (fun k hk => hb.block k (hB k hk)) (fun _ h => h) b e3 o ks e4
theorem IsN.form {B : Nat → Prop} {w : World} : ∀ {k : Nat} {t : NT k} {vs : List Value}, IsN B w t vs → ∃ (k s : Int) (nm : ByteArray) (a1 : Option Addr) (n1 c1 : Nat) (tx : ByteArray) (a2 : Option Addr) (n2 c2 : Nat), vs = [.int .i64 k, .int .i64 s, .string nm, .slice a1 n1 c1, .string tx, .slice a2 n2 c2]
  | 0, t, _, _ => t.none
  | k + 1, t, vs, h => by
    rw [t.form, isN_iff] at h
    obtain ⟨av, kv, rfl, hA, hK⟩ := h
    obtain ⟨a1, c1, rfl⟩ := isA_form hA.1
    obtain ⟨a3, c3, rfl⟩ := isK_form hK
    exact ⟨_, _, _, _, _, _, _, _, _, _, rfl⟩
/-- A kid's own list of kids lies in its sixth cell. -/
theorem IsK.kid {B : Nat → Prop} {w : World} {k : Nat} {ts : List (NT (k + 1))} {b o : Nat} (h : IsNs B w b o ts) (i : Nat) (hi : i < ts.length) : ∃ (a : Option Addr) (c : Nat), w.cell? ⟨b, o + i * 6 + 5, none⟩ = some (.slice a ts[i].kids.length c) ∧ w.cell? ⟨b, o + i * 6, none⟩ = some (.int .i64 ts[i].nd.kind) ∧ IsK B w ts[i].kids (.slice a ts[i].kids.length c) := by
  obtain ⟨vs, g, n⟩ := IsNs.get o ts h i hi
  rw [ts[i].form, isN_iff] at n
  obtain ⟨av, kv, rfl, hA, hK⟩ := n
  obtain ⟨a, c, rfl⟩ := isK_form hK
  exact ⟨a, c, g 5 (by omega), g 0 (by omega), hK⟩
theorem isK_up {B : Nat → Prop} {w : World} {ts : List (NT 0)} {va : Value} (h : IsK B w ts va) : ts = [] ∧ IsK B w ([] : List (NT 1)) va := by
  have h0 : ts = [] := by
    cases ts with
    | nil => rfl
    | cons x r => exact x.none
  subst h0
  refine ⟨rfl, ?_⟩
  rcases h with ⟨h1, _⟩ | ⟨b, o, cap, e1, e2, _, _⟩
  · exact .inl ⟨h1, rfl⟩
  · exact .inr ⟨b, o, cap, e1, e2, .inl rfl, trivial⟩
end Go.Proofs.YthopnliaikkhbaaGreatDoor.S5
