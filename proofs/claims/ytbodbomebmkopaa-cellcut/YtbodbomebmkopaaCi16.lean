/- Rows of cells of the call's own; a part of bytes; a copy of bytes. -/
import Derived.Test.YtbodbomebmkopaaCh16
set_option linter.unusedVariables false
set_option linter.unusedSimpArgs false
set_option maxRecDepth 4000
namespace Go.Proofs.Ytbodbomebmkopaa
open Go.RowKit

def cellsV : List (CL × Value) → List Value
  | [] => []
  | x :: r => .int .u64 (x.1.ep : Int) :: .int .u64 (x.1.li : Int) :: .int .i64 x.1.part :: .int .i64 x.1.of :: x.2 :: cellsV r
theorem cellsV_len : ∀ l, (cellsV l).length = l.length * 5
  | [] => rfl
  | x :: r => by
    show (cellsV r).length + 5 = _
    rw [cellsV_len r, List.length_cons]
    omega
theorem cellsV_app : ∀ a b, cellsV (a ++ b) = cellsV a ++ cellsV b
  | [], b => rfl
  | x :: r, b => by
    show _ :: _ :: _ :: _ :: _ :: cellsV (r ++ b) = _
    rw [cellsV_app r b]
    rfl
theorem cellsV_get : ∀ (l : List (CL × Value)) (j : Nat) (hj : j < l.length), (cellsV l)[j * 5]? = some (.int .u64 (l[j].1.ep : Int)) ∧ (cellsV l)[j * 5 + 1]? = some (.int .u64 (l[j].1.li : Int)) ∧ (cellsV l)[j * 5 + 2]? = some (.int .i64 l[j].1.part) ∧ (cellsV l)[j * 5 + 3]? = some (.int .i64 l[j].1.of) ∧ (cellsV l)[j * 5 + 4]? = some l[j].2
  | x :: r, 0, _ => ⟨rfl, rfl, rfl, rfl, rfl⟩
  | x :: r, j + 1, hj => by
    have h := cellsV_get r j (by simpa using hj)
    rw [show (j + 1) * 5 = j * 5 + 5 by omega]
    exact h
theorem owns_isL {w : World} {B n : Nat} {v : Value} {l : List (CL × Value)} (h : w.ownsRow B 25 5 v n (cellsV l)) (hc : ∀ x ∈ l, IsC w x.1 x.2) : IsL w v l := by
  refine ⟨?_, hc⟩
  have hn : l.length = n := by have := h.1; rw [cellsV_len] at this; omega
  subst hn
  rcases h.2 with ⟨rfl, h0⟩ | ⟨g, cap, cur, rfl, hb, hg, h1, h2, h3, h4⟩
  · exact .inl ⟨List.eq_nil_of_length_eq_zero h0, _, _, rfl⟩
  · refine .inr ⟨g, 0, cap, rfl, fun j hj => ?_⟩
    have hcell : ∀ k u, k < l.length * 5 → (cellsV l)[k]? = some u → w.cell? ⟨g, 0 + k, none⟩ = some u := fun k u hk hu => by
      have h5 := h.cells (g := g) rfl k u hu
      rw [addr_add] at h5
      rw [Nat.zero_add]
      exact h5
    obtain ⟨p0, p1, p2, p3, p4⟩ := cellsV_get l j hj
    exact ⟨hcell _ _ (by omega) p0, by rw [Nat.add_assoc]; exact hcell _ _ (by omega) p1, by rw [Nat.add_assoc]; exact hcell _ _ (by omega) p2, by rw [Nat.add_assoc]; exact hcell _ _ (by omega) p3, by rw [Nat.add_assoc]; exact hcell _ _ (by omega) p4⟩
theorem own_noL (w : World) (B : Nat) (hB : B ≤ w.heap.size) : (w.alloc (.cells #[] 25)).ownsRow B 25 5 (.slice (some ⟨w.heap.size, 0, none⟩) 0 0) 0 (cellsV []) := ⟨rfl, .inr ⟨w.heap.size, 0, #[], rfl, hB, alloc_newC w _, Nat.le_refl _, by decide, rfl, rfl⟩⟩
theorem owns_keepC {w W : World} {B n : Nat} {e : TypeId} {z : Nat} {v : Value} {xs : List Value} (h : w.ownsRow B e z v n xs) (hb : Below w.heap.size w W) : W.ownsRow B e z v n xs := by
  refine ⟨h.1, ?_⟩
  rcases h.2 with h | ⟨g, cap, cur, h1, h2, h3, h4⟩
  · exact .inl h
  · exact .inr ⟨g, cap, cur, h1, h2, (hb.block g (Array.getElem?_eq_some_iff.1 h3).1).trans h3, h4⟩
/-- append(v, c), v a row of cells of the call's own, c just built. -/
theorem append_cell (W : World) (B n : Nat) (v : Value) (l : List (CL × Value)) (c : CL) (a : Option Addr) (k cap : Nat) (hown : W.ownsRow B 25 5 v n (cellsV l)) (hl : n ≤ 1000000) (hB : B ≤ W.heap.size) :
    ∃ a' c' w', (Builtin.append_ #[36, 36] 36 #[v, .slice (some ⟨W.heap.size, 0, none⟩) 1 1]).run Try.prog (W.alloc (.cells (clC c (.slice a k cap)) 25)) = .ok (.slice a' (n + 1) c') w' ∧ w'.ownsRow B 25 5 (.slice a' (n + 1) c') (n + 1) (cellsV (l ++ [(c, .slice a k cap)])) ∧ (W.alloc (.cells (clC c (.slice a k cap)) 25)).grownBy w' v.ownBlock ∧ ((Value.slice a' (n + 1) c').ownBlock = v.ownBlock ∨ (Value.slice a' (n + 1) c').ownBlock = some (W.heap.size + 1)) := by
  have hb := below_alloc W (.cells (clC c (.slice a k cap)) 25)
  obtain ⟨v', w', hr, ho, hg, _, hat⟩ := run_append_own_at (P := Try.prog) (W.alloc (.cells (clC c (.slice a k cap)) 25)) B 36 36 25 Try.t25 (.agg #[.int .u64 0, .int .u64 0, .int .i64 0, .int .i64 0, .slice none 0 0]) 5 56 Try.underlying36 (by kernel_rfl) (by kernel_rfl) (by kernel_rfl) (by kernel_rfl) (by kernel_rfl) (by omega)
      v n (cellsV l) (owns_keepC hown hb) ⟨W.heap.size, 0, none⟩ 1 1 (cellsV [(c, .slice a k cap)]) rfl
      (by
        intro j u hu
        rw [addr_add]
        have hj : j < 5 := (List.getElem?_eq_some_iff.1 hu).1
        have hc : (W.alloc (.cells (clC c (.slice a k cap)) 25)).cell? ⟨W.heap.size, j, none⟩ = (clC c (.slice a k cap))[j]? := World.cell?_alloc_mark W _ _ _ j
        rw [hc]
        rcases (by omega : j = 0 ∨ j = 1 ∨ j = 2 ∨ j = 3 ∨ j = 4) with rfl | rfl | rfl | rfl | rfl <;> exact hu)
      (by
        intro u hu
        have : u = .int .u64 (c.ep : Int) ∨ u = .int .u64 (c.li : Int) ∨ u = .int .i64 c.part ∨ u = .int .i64 c.of ∨ u = .slice a k cap := by simpa [cellsV] using hu
        rcases this with rfl | rfl | rfl | rfl | rfl <;> rfl) (by unfold maxLen; omega) (by omega) (Nat.le_trans hB hb.size)
  obtain ⟨a', c', rfl⟩ : ∃ a' c', v' = .slice a' (n + 1) c' := by
    rcases ho.2 with ⟨_, h⟩ | ⟨g, cp, cur, e, _⟩
    · omega
    · exact ⟨_, _, e⟩
  rw [← cellsV_app] at ho
  exact ⟨a', c', w', hr, ho, hg, by simpa using hat⟩
/-- A part of bytes. -/
theorem sub_isY {w : World} {a : Option Addr} {n c : Nat} {b : Bs} (h : IsY w (.slice a n c) b) (i j : Nat) (hij : i ≤ j) (hj : j ≤ b.length) : ∃ u, (∀ W, (Instr.slice 23 (.slice a n c) (some (.int .i64 (i : Int))) (some (.int .i64 (j : Int))) none).run Try.prog W = .ok u W) ∧ IsY w u ((b.drop i).take (j - i)) := by
  have hlen : ((b.drop i).take (j - i)).length = j - i := by rw [List.length_take, List.length_drop]; omega
  have h2 : ¬ (j : Int) < i := by omega
  rcases h with ⟨rfl, a', c', e⟩ | ⟨g, o, cap, e, hc, hh⟩
  · injection e with e1 e2 e3
    subst e1 e2 e3
    simp only [List.length_nil, Nat.le_zero] at hj
    subst hj
    obtain rfl : i = 0 := by omega
    refine ⟨.slice a 0 c, fun W => ?_, .inl ⟨rfl, _, _, rfl⟩⟩
    cases a with
    | none => simp [Instr.slice, run_underlying Try.underlying23, Instr.sliceBounds, Instr.sliceBound, asIntOf, Try.sizeOf5, addr_addo]
    | some x =>
      have hx : x.add 0 = x := by
        unfold Addr.add
        split <;> simp_all
      simp [Instr.slice, run_underlying Try.underlying23, Instr.sliceBounds, Instr.sliceBound, asIntOf, Try.sizeOf5, hx]
  · injection e with e1 e2 e3
    subst e1 e2 e3
    by_cases hi : i = c
    · subst hi
      obtain rfl : j = i := by omega
      refine ⟨.slice (some ⟨g, o, none⟩) 0 0, fun W => ?_, .inl ⟨by rw [Nat.sub_self, List.take_zero], _, _, rfl⟩⟩
      have h4 : (j : Int) ≤ j := by omega
      simp [Instr.slice, run_underlying Try.underlying23, Instr.sliceBounds, Instr.sliceBound, asIntOf, Try.sizeOf5, addr_addo]
    · refine ⟨.slice (some ⟨g, o + i, none⟩) (j - i) (c - i), fun W => ?_, .inr ⟨g, o + i, c - i, by rw [hlen], by rw [hlen]; omega, fun k hk => ?_⟩⟩
      · have h4 : (j : Int) ≤ c := by omega
        have h5 : j ≤ c := by omega
        have h6 : ¬ c = i := fun e => hi e.symm
        simp [Instr.slice, run_underlying Try.underlying23, Instr.sliceBounds, Instr.sliceBound, asIntOf, Try.sizeOf5, addr_addo, h4, h5, h6, hij]
      · rw [hlen] at hk
        have h7 := hh (i + k) (by omega)
        rw [← Nat.add_assoc] at h7
        rw [h7]
        congr 3
        rw [List.getElem_take, List.getElem_drop]
/-- append([]byte{}, u...). -/
theorem copyC (w : World) (u : Value) (l : Bs) (hU : IsY w u l) (hl : l.length ≤ 1000000) :
    ∃ a c w1, (Builtin.append_ #[23, 23] 23 #[.slice (some ⟨w.heap.size, 0, none⟩) 0 0, u]).run Try.prog (w.alloc (.cells #[] 5)) = .ok (.slice a l.length c) w1 ∧ w1.ownsRow w.heap.size 5 1 (.slice a l.length c) l.length (Lib.byteCells l) ∧ Below w.heap.size w w1 := by
  have hb := below_alloc w (.cells #[] 5)
  have h0 : (w.alloc (.cells #[] 5)).ownsRow w.heap.size 5 1 (.slice (some ⟨w.heap.size, 0, none⟩) 0 0) 0 (Lib.byteCells []) := ⟨rfl, .inr ⟨w.heap.size, 0, #[], rfl, Nat.le_refl _, alloc_newC w _, Nat.le_refl _, by decide, rfl, rfl⟩⟩
  rcases hU with ⟨rfl, a, c, rfl⟩ | ⟨b, o, cap, rfl, _, hc⟩
  · exact ⟨_, _, _, append_nothingY _ w.heap.size 0 0 a c (Nat.le_refl _) (by decide), h0, hb⟩
  · obtain ⟨v', w', hr, ho, hg, _, hat⟩ := run_append_own_at (P := Try.prog) (w.alloc (.cells #[] 5)) w.heap.size 23 23 5 Try.t5 (.int .u8 0) 1 1 Try.underlying23 (by kernel_rfl) (by kernel_rfl) (by kernel_rfl) (by kernel_rfl) (by kernel_rfl) (by omega)
      (.slice (some ⟨w.heap.size, 0, none⟩) 0 0) 0 (Lib.byteCells []) h0 ⟨b, o, none⟩ l.length cap (Lib.byteCells l) (by rw [byteCells_len, Nat.mul_one])
      (by
        intro j u hu
        have hj : j < l.length := by rw [← byteCells_len]; exact (List.getElem?_eq_some_iff.1 hu).1
        rw [addr_addo, (hb.cell (cell_lt (hc j hj))).trans (hc j hj)]
        rw [byteCells_get l j hj] at hu
        exact hu) (byteCells_one l) (by unfold maxLen; omega) (by omega) hb.size
    rw [Nat.zero_add, show Lib.byteCells [] = [] from rfl, List.nil_append] at ho
    obtain ⟨a, c, rfl⟩ := owns_formY ho
    exact ⟨a, c, w', hr, ho, hb.trans ((Below.refl _ _).grown hg hb.size (owns_blkY h0))⟩
end Go.Proofs.Ytbodbomebmkopaa
