/- Arenas as the document's own answer keeps them in memory: a row of items, each with its list of kids. No function of the program in it. -/
import Derived.Test.YtjgklemhlmgheaaLow5
set_option linter.unusedVariables false
set_option linter.unusedSimpArgs false
namespace Go.Proofs.Ytjgklemhlmgheaa
open Go.RowKit

/-- A list of numbers lies there. -/
def IsI (w : World) (v : Value) (l : List Nat) : Prop :=
  (v = .slice none 0 0 ∧ l = []) ∨ ∃ b o cap, v = .slice (some ⟨b, o, none⟩) l.length cap ∧ l.length ≤ cap ∧ ∀ j (hj : j < l.length), w.cell? ⟨b, o + j, none⟩ = some (.int .i64 (l[j] : Int))
theorem IsI.below {w W : World} {v : Value} {l : List Nat} (h : IsI w v l) (hb : Below w.heap.size w W) : IsI W v l := by
  rcases h with h | ⟨b, o, cap, hv, hc, hcs⟩
  · exact .inl h
  · exact .inr ⟨b, o, cap, hv, hc, fun j hj => by rw [hb.cell (cell_lt (hcs j hj))]; exact hcs j hj⟩
theorem isI_form {w : World} {v : Value} {l : List Nat} (h : IsI w v l) : ∃ a c, v = .slice a l.length c := by
  rcases h with ⟨rfl, rfl⟩ | ⟨b, o, cap, rfl, _, _⟩
  · exact ⟨_, _, rfl⟩
  · exact ⟨_, _, rfl⟩
theorem isI_nil (w : World) : IsI w (.slice none 0 0) [] := .inl ⟨rfl, rfl⟩
theorem IsI.at {w : World} {a : Option Addr} {n c : Nat} {l : List Nat} (h : IsI w (.slice a n c) l) (hl : 0 < l.length) : ∃ b o, a = some ⟨b, o, none⟩ ∧ ∀ j (hj : j < l.length), w.cell? ⟨b, o + j, none⟩ = some (.int .i64 (l[j] : Int)) := by
  rcases h with ⟨_, rfl⟩ | ⟨b, o, cap, hv, _, hcs⟩
  · simp at hl
  · injection hv with e1 e2 e3
    exact ⟨b, o, e1, hcs⟩
/-- An item's cells. -/
def itC (d : ND) (av kv : Value) : List Value := [.int .i64 d.kind, .int .i64 d.space, .string ⟨d.name.toArray⟩, av, .string ⟨d.text.toArray⟩, .slice none 0 0, kv]
def IsItem (w : World) (b o : Nat) (it : IT) : Prop := ∃ av kv, IsA w av it.1.attrs ∧ IsI w kv it.2 ∧ ∀ i, i < 7 → w.cell? ⟨b, o + i, none⟩ = (itC it.1 av kv)[i]?
theorem IsItem.below {w W : World} {b o : Nat} {it : IT} (h : IsItem w b o it) (hb : Below w.heap.size w W) : IsItem W b o it := by
  obtain ⟨av, kv, h1, h2, h3⟩ := h
  refine ⟨av, kv, h1.below hb, h2.below hb, fun i hi => ?_⟩
  have h0 := h3 i hi
  have hlt : i < (itC it.1 av kv).length := by simpa [itC] using hi
  rw [List.getElem?_eq_getElem hlt] at h0 ⊢
  rw [hb.cell (cell_lt h0)]
  exact h0
/-- The arena lies there. -/
def IsT (w : World) (v : Value) (T : TR) : Prop := ∃ b o cap, v = .slice (some ⟨b, o, none⟩) T.length cap ∧ T.length ≤ cap ∧ ∀ j (hj : j < T.length), IsItem w b (o + j * 7) T[j]
theorem IsT.below {w W : World} {v : Value} {T : TR} (h : IsT w v T) (hb : Below w.heap.size w W) : IsT W v T := by
  obtain ⟨b, o, cap, hv, hc, hi⟩ := h
  exact ⟨b, o, cap, hv, hc, fun j hj => (hi j hj).below hb⟩
theorem IsT.alloc {w : World} {v : Value} {T : TR} (h : IsT w v T) (o : Obj) : IsT (w.alloc o) v T := h.below (below_alloc w o)

/-- Parent by searching from a place on. -/
def parentFrom (T : TR) (i n : Nat) : Option Nat := ((T.drop i).findIdx? (fun it => it.2.contains n)).map (· + i)
def parZ (o : Option Nat) : Int := match o with | some i => (i : Int) | none => -1
theorem parentFrom_hit {T : TR} {i n : Nat} (h : i < T.length) (hc : T[i].2.contains n = true) : parentFrom T i n = some i := by
  unfold parentFrom
  rw [List.drop_eq_getElem_cons h, List.findIdx?_cons, hc]
  simp
theorem parentFrom_miss {T : TR} {i n : Nat} (h : i < T.length) (hc : T[i].2.contains n = false) : parentFrom T i n = parentFrom T (i + 1) n := by
  unfold parentFrom
  rw [List.drop_eq_getElem_cons h, List.findIdx?_cons, hc]
  simp only [Bool.false_eq_true, if_false, Option.map_map]
  congr 1
  funext x
  show x + 1 + i = x + (i + 1)
  omega
theorem parentFrom_end {T : TR} {i n : Nat} (h : T.length ≤ i) : parentFrom T i n = none := by
  unfold parentFrom
  rw [List.drop_eq_nil_of_le h]
  rfl
theorem parentFrom_eq (T : TR) (n : Nat) : ∀ (k i : Nat), T.length - i = k → parentFrom T i n = ((T.drop i).findIdx? (fun it => it.2.contains n)).map (· + i) := fun _ _ _ => rfl
theorem parentFrom_zero (T : TR) (n : Nat) : parentFrom T 0 n = parentN T n := by
  rw [parentFrom_eq T n _ 0 rfl, List.drop_zero]
  unfold parentN
  cases T.findIdx? (fun it => it.2.contains n) <;> simp
/-- Of any number. -/
def parentZ (T : TR) (z : Int) : Int := if z < 0 then -1 else parZ (parentN T z.toNat)
end Go.Proofs.Ytjgklemhlmgheaa
