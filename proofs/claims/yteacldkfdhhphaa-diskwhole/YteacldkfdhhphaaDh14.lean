/- What the document's Write answers. -/
import Derived.Test.YteacldkfdhhphaaDg14
import Derived.Lib.ConvBytes
set_option linter.unusedVariables false
set_option linter.unusedSimpArgs false
set_option maxRecDepth 4000
namespace Go.Proofs.Yteacldkfdhhphaa
open Go.RowKit

/-- Bytes lie there. -/
def IsY (w : World) (v : Value) (l : Bs) : Prop := (l = [] ∧ ∃ a c, v = .slice a 0 c) ∨ ∃ b o cap, v = .slice (some ⟨b, o, none⟩) l.length cap ∧ l.length ≤ cap ∧ ∀ j (hj : j < l.length), w.cell? ⟨b, o + j, none⟩ = some (.int .u8 (l[j].toNat : Int))
theorem IsY.below {w W : World} {v : Value} {l : Bs} (h : IsY w v l) (hb : Below w.heap.size w W) : IsY W v l := by
  rcases h with h | ⟨b, o, cap, rfl, hl, hc⟩
  · exact .inl h
  · exact .inr ⟨b, o, cap, rfl, hl, fun j hj => (hb.cell (cell_lt (hc j hj))).trans (hc j hj)⟩
theorem IsY.form {w : World} {v : Value} {l : Bs} (h : IsY w v l) : ∃ a c, v = .slice a l.length c := by
  rcases h with ⟨rfl, a, c, rfl⟩ | ⟨b, o, cap, rfl, _⟩
  · exact ⟨_, _, rfl⟩
  · exact ⟨_, _, rfl⟩
theorem conv_bytes (w : World) (b o cap : Nat) (l : Bs) (hc : ∀ j (hj : j < l.length), w.cell? ⟨b, o + j, none⟩ = some (.int .u8 (l[j].toNat : Int))) :
    (convert 34 9 (.slice (some ⟨b, o, none⟩) l.length cap)).run Try.prog w = .ok (.string ⟨l.toArray⟩) w :=
  run_convert_bytes_back w 34 9 5 ⟨b, o, none⟩ cap l Try.underlying34 Try.underlying5 Try.underlying9 (fun j hj => by rw [addr_addo]; exact hc j hj)
def pieceCells : List (Nat × Bs) → List Value
  | [] => []
  | p :: r => .int .i64 (p.1 : Int) :: .string ⟨p.2.toArray⟩ :: pieceCells r
theorem pieceCells_len : ∀ l, (pieceCells l).length = l.length * 2
  | [] => rfl
  | p :: r => by simp only [pieceCells, List.length_cons, pieceCells_len r]; omega
theorem pieceCells_app : ∀ a b, pieceCells (a ++ b) = pieceCells a ++ pieceCells b
  | [], b => rfl
  | p :: a, b => by simp only [List.cons_append, pieceCells, pieceCells_app a b]
theorem pieceCells_get : ∀ (l : List (Nat × Bs)) (j : Nat) (hj : j < l.length), (pieceCells l)[j * 2]? = some (.int .i64 (l[j].1 : Int)) ∧ (pieceCells l)[j * 2 + 1]? = some (.string ⟨l[j].2.toArray⟩)
  | r :: l, 0, _ => ⟨rfl, rfl⟩
  | r :: l, j + 1, hj => by
    have h := pieceCells_get l j (by simpa using hj)
    rw [show (j + 1) * 2 = j * 2 + 1 + 1 by omega, show j * 2 + 1 + 1 + 1 = (j * 2 + 1) + 1 + 1 by omega]
    simp only [pieceCells, List.getElem?_cons_succ, List.getElem_cons_succ]
    exact h
theorem owns_isP {w : World} {B n : Nat} {v : Value} {l : List (Nat × Bs)} (h : w.ownsRow B 77 2 v n (pieceCells l)) : IsP w v l := by
  have hn : n = l.length := by
    have := h.1
    rw [pieceCells_len] at this
    omega
  subst hn
  rcases h.2 with ⟨rfl, h2⟩ | ⟨g, cap, cur, rfl, _⟩
  · exact .inl ⟨List.eq_nil_of_length_eq_zero h2, _, _, rfl⟩
  · refine .inr ⟨g, 0, cap, rfl, fun j hj => ?_⟩
    have h2 := pieceCells_get l j hj
    have key : ∀ i x, (pieceCells l)[i]? = some x → w.cell? ⟨g, 0 + i, none⟩ = some x := fun i x hx => by
      have h9 := h.cells rfl i x hx
      rw [addr_add] at h9
      rw [Nat.zero_add]
      exact h9
    refine ⟨key _ _ h2.1, ?_⟩
    rw [Nat.add_assoc]
    exact key _ _ h2.2
theorem own_noP (w : World) (B : Nat) (hB : B ≤ w.heap.size) : (w.alloc (.cells #[] 77)).ownsRow B 77 2 (.slice (some ⟨w.heap.size, 0, none⟩) 0 0) 0 [] := ⟨rfl, .inr ⟨w.heap.size, 0, #[], rfl, hB, by show (Array.push w.heap _)[w.heap.size]? = _; simp, Nat.le_refl _, by decide, rfl, rfl⟩⟩
theorem append_nothingP (W : World) (g n cap : Nat) (a : Option Addr) (c : Nat) (h : n ≤ cap) (hm : cap ≤ maxLen) :
    (Builtin.append_ #[29, 29] 29 #[.slice (some ⟨g, 0, none⟩) n cap, .slice a 0 c]).run Try.prog W = .ok (.slice (some ⟨g, 0, none⟩) n cap) W := by
  simp [Builtin.append_, go_sem]
  rw [if_pos h]
  cases a <;> simp [go_sem, storeCells]
/-- append(v, l...), pieces. -/
theorem append_pieces (W : World) (B n : Nat) (v : Value) (xs : List Value) (b o c : Nat) (l : List (Nat × Bs)) (hown : W.ownsRow B 77 2 v n xs) (hc : ∀ j (hj : j < l.length), W.cell? ⟨b, o + j * 2, none⟩ = some (.int .i64 (l[j].1 : Int)) ∧ W.cell? ⟨b, o + j * 2 + 1, none⟩ = some (.string ⟨l[j].2.toArray⟩)) (h1 : n ≤ 1000000) (h2 : l.length ≤ 1000000) (hB : B ≤ W.heap.size) :
    ∃ v' w', (Builtin.append_ #[29, 29] 29 #[v, .slice (some ⟨b, o, none⟩) l.length c]).run Try.prog W = .ok v' w' ∧ w'.ownsRow B 77 2 v' (n + l.length) (xs ++ pieceCells l) ∧ Below B W w' := by
  obtain ⟨v', w', hr, ho, hg, _, hat⟩ := run_append_own_at (P := Try.prog) W B 29 29 77 Try.t77 (.agg #[.int .i64 0, .string ⟨#[]⟩]) 2 24 Try.underlying29 (by kernel_rfl) (by kernel_rfl) (by kernel_rfl) (by kernel_rfl) (by kernel_rfl) (by omega)
      v n xs hown ⟨b, o, none⟩ l.length c (pieceCells l) (pieceCells_len l)
      (by
        intro j u hu
        have hj : j < l.length * 2 := by rw [← pieceCells_len]; exact (List.getElem?_eq_some_iff.1 hu).1
        rw [addr_addo]
        have h2 := pieceCells_get l (j / 2) (by omega)
        have hcc := hc (j / 2) (by omega)
        rcases (by omega : j = j / 2 * 2 ∨ j = j / 2 * 2 + 1) with hj2 | hj2
        · rw [hj2] at hu ⊢
          rw [h2.1] at hu
          rw [← hu]
          exact hcc.1
        · rw [hj2] at hu ⊢
          rw [h2.2] at hu
          rw [← hu, ← Nat.add_assoc]
          exact hcc.2) (by
        intro u hu
        obtain ⟨j, hj, rfl⟩ := List.getElem_of_mem hu
        have hj' := hj
        rw [pieceCells_len] at hj'
        have h2 := pieceCells_get l (j / 2) (by omega)
        rcases (by omega : j = j / 2 * 2 ∨ j = j / 2 * 2 + 1) with hj2 | hj2
        · have : (pieceCells l)[j]? = some (.int .i64 ((l[j / 2]'(by omega)).1 : Int)) := by rw [← h2.1, ← hj2]
          rw [List.getElem?_eq_getElem hj] at this
          rw [Option.some.inj this]
          rfl
        · have : (pieceCells l)[j]? = some (.string ⟨(l[j / 2]'(by omega)).2.toArray⟩) := by rw [← h2.2, ← hj2]
          rw [List.getElem?_eq_getElem hj] at this
          rw [Option.some.inj this]
          rfl) (by unfold maxLen; omega) (by omega) hB
  exact ⟨v', w', hr, ho, (Below.refl B W).grown hg hB (owns_blk hown)⟩
theorem copy_pieces (w : World) (u : Value) (l : List (Nat × Bs)) (hU : IsP w u l) (hl : l.length ≤ 100000) :
    ∃ a c w1, (Builtin.append_ #[29, 29] 29 #[.slice (some ⟨w.heap.size, 0, none⟩) 0 0, u]).run Try.prog (w.alloc (.cells #[] 77)) = .ok (.slice a l.length c) w1 ∧ w1.ownsRow w.heap.size 77 2 (.slice a l.length c) l.length (pieceCells l) ∧ Below w.heap.size w w1 := by
  have hb := below_alloc w (.cells #[] 77)
  have h0 := own_noP w w.heap.size (Nat.le_refl _)
  rcases hU with ⟨rfl, a, c, rfl⟩ | ⟨b, o, cap, rfl, hc⟩
  · exact ⟨_, _, _, append_nothingP _ w.heap.size 0 0 a c (Nat.le_refl _) (by decide), h0, hb⟩
  · obtain ⟨v3, w3, e1, e2, e3⟩ := append_pieces (w.alloc (.cells #[] 77)) w.heap.size 0 _ [] b o cap l h0 (fun j hj => ⟨(hb.cell (cell_lt (hc j hj).1)).trans (hc j hj).1, (hb.cell (cell_lt (hc j hj).2)).trans (hc j hj).2⟩) (by omega) (by omega) hb.size
    rw [Nat.zero_add, List.nil_append] at e2
    obtain ⟨a, c, rfl⟩ := owns_formG e2
    exact ⟨a, c, w3, e1, e2, hb.trans e3⟩
theorem append_piece (W : World) (B : Nat) (v : Value) (l : List (Nat × Bs)) (at_ : Nat) (x : Bs) (hown : W.ownsRow B 77 2 v l.length (pieceCells l)) (h1 : l.length ≤ 1000000) (hB : B ≤ W.heap.size) :
    ∃ a c w', (Builtin.append_ #[29, 29] 29 #[v, .slice (some ⟨W.heap.size, 0, none⟩) 1 1]).run Try.prog (W.alloc (.cells #[.int .i64 (at_ : Int), .string ⟨x.toArray⟩] 77)) = .ok (.slice a (l ++ [(at_, x)]).length c) w' ∧ w'.ownsRow B 77 2 (.slice a (l ++ [(at_, x)]).length c) (l ++ [(at_, x)]).length (pieceCells (l ++ [(at_, x)])) ∧ Below B W w' := by
  have hb := below_alloc W (.cells #[.int .i64 (at_ : Int), .string ⟨x.toArray⟩] 77)
  obtain ⟨v', w', hr, ho, hg⟩ := append_pieces (W.alloc (.cells #[.int .i64 (at_ : Int), .string ⟨x.toArray⟩] 77)) B l.length v (pieceCells l) W.heap.size 0 1 [(at_, x)] (owns_alloc hown _) (fun j hj => by
    obtain rfl : j = 0 := by simpa using hj
    constructor <;> simp [go_sem]) h1 (by simp) (by have := hb.size; omega)
  rw [← pieceCells_app] at ho
  have hlen : l.length + [(at_, x)].length = (l ++ [(at_, x)]).length := (List.length_append).symm
  rw [hlen] at ho
  obtain ⟨a, c, rfl⟩ := owns_formG ho
  exact ⟨a, c, w', hr, ho, (hb.mono hB).trans hg⟩
theorem take_pieces (n : Nat) (b : Bs) (i : Nat) (h : i < 4) : (piecesL n b).take (i + 1) = (piecesL n b).take i ++ [(n * 4 + i, cutB b i)] := by
  unfold piecesL
  rw [← List.map_take, ← List.map_take, List.take_range, List.take_range, Nat.min_eq_left (by omega), Nat.min_eq_left (by omega), List.range_succ, List.map_append]
  rfl
theorem pieces_len (n : Nat) (b : Bs) : (piecesL n b).length = 4 := by unfold piecesL; simp
theorem cut_get (b : Bs) (i j : Nat) (h : j < (cutB b i).length) (h2 : i * 64 + j < b.length) : (cutB b i)[j] = b[i * 64 + j] := by
  simp [cutB]
theorem cut_bytes {w : World} {bb bo cap : Nat} {b : Bs} (hl : b.length = 256) (hcap : b.length ≤ cap) (hc : ∀ j (hj : j < b.length), w.cell? ⟨bb, bo + j, none⟩ = some (.int .u8 (b[j].toNat : Int))) (i : Nat) (hi : i < 4) :
    (convert 34 9 (.slice (some ⟨bb, bo + i * 64, none⟩) 64 (cap - i * 64))).run Try.prog w = .ok (.string ⟨(cutB b i).toArray⟩) w := by
  have hlc : (cutB b i).length = 64 := by unfold cutB; rw [List.length_take, List.length_drop]; omega
  have h := conv_bytes w bb (bo + i * 64) (cap - i * 64) (cutB b i) (fun j hj => by
    rw [hlc] at hj
    have h1 := hc (i * 64 + j) (by omega)
    rw [← Nat.add_assoc] at h1
    rw [h1, cut_get b i j _ (by omega)])
  rw [hlc] at h
  exact h
end Go.Proofs.Yteacldkfdhhphaa
