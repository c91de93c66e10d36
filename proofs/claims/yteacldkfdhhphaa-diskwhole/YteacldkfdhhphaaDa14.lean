/- The document's disk lies there; what Is, spend and Arm answer. -/
import Derived.Test.YteacldkfdhhphaaDm14
set_option linter.unusedVariables false
set_option linter.unusedSimpArgs false
set_option maxRecDepth 4000
namespace Go.Proofs.Yteacldkfdhhphaa
open Go.RowKit

/-- A list of pieces lies there. -/
def IsP (w : World) (v : Value) (l : List (Nat × Bs)) : Prop := (l = [] ∧ ∃ a c, v = .slice a 0 c) ∨ ∃ b o cap, v = .slice (some ⟨b, o, none⟩) l.length cap ∧ ∀ j (hj : j < l.length), w.cell? ⟨b, o + j * 2, none⟩ = some (.int .i64 (l[j].1 : Int)) ∧ w.cell? ⟨b, o + j * 2 + 1, none⟩ = some (.string ⟨l[j].2.toArray⟩)
theorem IsP.below {w W : World} {v : Value} {l : List (Nat × Bs)} (h : IsP w v l) (hb : Below w.heap.size w W) : IsP W v l := by
  rcases h with h | ⟨b, o, cap, rfl, hc⟩
  · exact .inl h
  · exact .inr ⟨b, o, cap, rfl, fun j hj => ⟨(hb.cell (cell_lt (hc j hj).1)).trans (hc j hj).1, (hb.cell (cell_lt (hc j hj).2)).trans (hc j hj).2⟩⟩
theorem IsP.form {w : World} {v : Value} {l : List (Nat × Bs)} (h : IsP w v l) : ∃ a c, v = .slice a l.length c := by
  rcases h with ⟨rfl, a, c, rfl⟩ | ⟨b, o, cap, rfl, _⟩
  · exact ⟨_, _, rfl⟩
  · exact ⟨_, _, rfl⟩
/-- A disk, and where its lists lie. -/
structure DV where
  m : DM
  sv : Value
  lv : Value
abbrev dkC (d : DV) : Array Value := #[d.sv, d.lv, .int .i64 d.m.left, .bool d.m.fuse, .bool d.m.off]
abbrev dkA (d : DV) : Value := .agg (dkC d)
structure IsD (w : World) (d : DV) : Prop where
  s : IsW w d.sv d.m.safe
  l : IsP w d.lv d.m.l
theorem IsD.below {w W : World} {d : DV} (h : IsD w d) (hb : Below w.heap.size w W) : IsD W d := ⟨h.s.below hb, h.l.below hb⟩
abbrev dkW (w : World) (d : DV) : World := w.alloc (.cells (dkC d) 31)
theorem alloc_new (w : World) (o : Obj) : (w.alloc o).heap[w.heap.size]? = some o := by show (Array.push w.heap o)[w.heap.size]? = _; simp
theorem dk_cells {w : World} {A : Nat} {d : DV} (h : w.heap[A]? = some (.cells (dkC d) 31 (0, 0))) : w.cell? ⟨A, 0, none⟩ = some d.sv ∧ w.cell? ⟨A, 1, none⟩ = some d.lv ∧ w.cell? ⟨A, 2, none⟩ = some (.int .i64 d.m.left) ∧ w.cell? ⟨A, 3, none⟩ = some (.bool d.m.fuse) ∧ w.cell? ⟨A, 4, none⟩ = some (.bool d.m.off) ∧ w.frozen? ⟨A, 0, none⟩ = false ∧ w.frozen? ⟨A, 1, none⟩ = false ∧ w.frozen? ⟨A, 2, none⟩ = false ∧ w.frozen? ⟨A, 3, none⟩ = false ∧ w.frozen? ⟨A, 4, none⟩ = false := by
  refine ⟨?_, ?_, ?_, ?_, ?_, ?_, ?_, ?_, ?_, ?_⟩ <;> simp [World.cell?, World.frozen?, h]
theorem dk_box (w : World) (d : DV) {x : World} (h : Below (dkW w d).heap.size (dkW w d) x) : x.heap[w.heap.size]? = some (.cells (dkC d) 31 (0, 0)) ∧ Below w.heap.size w x := by
  have hb := below_alloc w (.cells (dkC d) 31)
  exact ⟨(h.block w.heap.size (by simp)).trans (alloc_new w _), hb.trans (h.mono hb.size)⟩
set_option maxHeartbeats 1000000 in
theorem ris_any (d : DV) (n : Int) (w : World) (hI : IsD w d) (hl : d.m.safe.length ≤ 1000000) :
    Calls Try.prog 34 #[dkA d, .int .i64 n] w fun e w' => e = .returned (.bool (isD d.m n)) ∧ Below w.heap.size w w' := by
  have BB := hide (below_alloc w (.cells (dkC d) 31))
  obtain ⟨m, sv, lv⟩ := d
  have gs : IsW w sv m.safe := hI.s
  have gl : IsP w lv m.l := hI.l
  obtain ⟨sa, sc, rfl⟩ := gs.form
  obtain ⟨la, lc, rfl⟩ := gl.form
  unfold isD
  simp only [] at *
  have hq : (m.safe.length : Int).tdiv 4 = ((m.safe.length / 4 : Nat) : Int) := by rw [Int.tdiv_eq_ediv_of_nonneg (by omega)]; omega
  have hq2 : (m.safe.length : Int) / 4 = ((m.safe.length / 4 : Nat) : Int) := by omega
  generalize ((m.safe.length / 4 : Nat) : Int) = q at *
  generalize m.safe.length = k at *
  clear gs gl hI
  by_cases h0 : 0 ≤ n
  · rw [decide_eq_true h0, Bool.true_and]
    by_cases h1 : n < q
    · rw [decide_eq_true h1]
      go_enter Try.func34, Try.ntmps34
      go_wp2
      go_ret
      exact ⟨rfl, BB.out⟩
    · rw [decide_eq_false h1]
      go_enter Try.func34, Try.ntmps34
      go_wp2
      go_ret
      exact ⟨rfl, BB.out⟩
  · rw [decide_eq_false h0, Bool.false_and]
    go_enter Try.func34, Try.ntmps34
    go_wp2
    go_ret
    exact ⟨rfl, BB.out⟩
end Go.Proofs.Yteacldkfdhhphaa
