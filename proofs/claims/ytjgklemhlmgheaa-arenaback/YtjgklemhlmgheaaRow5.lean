/- The document's arena: its row of items copied, one of them changed. No function of the program in it. -/
import Derived.Test.YtjgklemhlmgheaaWalkC5
import Derived.Deep.Slices
set_option linter.unusedVariables false
set_option linter.unusedSimpArgs false
namespace Go.Proofs.Ytjgklemhlmgheaa
open Go.RowKit

abbrev IV := IT × Value × Value
def ivC (p : IV) : List Value := itC p.1.1 p.2.1 p.2.2
def rowCells : List IV → List Value
  | [] => []
  | p :: r => ivC p ++ rowCells r
theorem rowCells_len : ∀ ps : List IV, (rowCells ps).length = ps.length * 7
  | [] => rfl
  | p :: r => by
    simp only [rowCells, ivC, itC, List.length_append, List.length_cons, List.length_nil, rowCells_len r]
    omega
theorem rowCells_app : ∀ a b : List IV, rowCells (a ++ b) = rowCells a ++ rowCells b
  | [], b => rfl
  | p :: r, b => by simp only [List.cons_append, rowCells, rowCells_app r b, List.append_assoc]
theorem rowCells_get : ∀ (ps : List IV) (j : Nat) (hj : j < ps.length) (o : Nat) (ho : o < 7), (rowCells ps)[j * 7 + o]? = (ivC ps[j])[o]?
  | p :: r, 0, _, o, ho => by
    simp only [rowCells, Nat.zero_mul, Nat.zero_add, List.getElem_cons_zero]
    rw [List.getElem?_append_left (by simpa [ivC, itC] using ho)]
  | p :: r, j + 1, hj, o, ho => by
    have h := rowCells_get r j (by simpa using hj) o ho
    simp only [rowCells, List.getElem_cons_succ]
    rw [List.getElem?_append_right (by simp [ivC, itC]; omega), show (j + 1) * 7 + o - (ivC p).length = j * 7 + o by simp [ivC, itC]; omega]
    exact h
/-- What each item's lists are. -/
def IvOk (w : World) (p : IV) : Prop := IsA w p.2.1 p.1.1.attrs ∧ IsI w p.2.2 p.1.2
theorem IvOk.below {w W : World} {p : IV} (h : IvOk w p) (hb : Below w.heap.size w W) : IvOk W p := ⟨h.1.below hb, h.2.below hb⟩
theorem slice_one (a : Option Addr) (n c : Nat) : (Value.slice a n c).oneCell' = true := rfl
theorem rowCells_1c {w : World} : ∀ (ps : List IV), (∀ p ∈ ps, IvOk w p) → ∀ u ∈ rowCells ps, u.oneCell' = true
  | [], _, u, hu => by simp [rowCells] at hu
  | p :: r, h, u, hu => by
    rcases List.mem_append.1 hu with hu | hu
    · obtain ⟨h1, h2⟩ := h p (by simp)
      obtain ⟨a1, c1, e1⟩ := isA_form h1
      obtain ⟨a2, c2, e2⟩ := isI_form h2
      simp only [ivC, itC, e1, e2, List.mem_cons, List.not_mem_nil, or_false] at hu
      rcases hu with rfl | rfl | rfl | rfl | rfl | rfl | rfl <;> rfl
    · exact rowCells_1c r (fun q hq => h q (by simp [hq])) u hu
theorem IsT.row {w : World} {v : Value} {T : TR} (h : IsT w v T) : ∃ (b o cap : Nat) (ps : List IV), v = .slice (some ⟨b, o, none⟩) T.length cap ∧ T.length ≤ cap ∧ ps.map (·.1) = T ∧ (∀ p ∈ ps, IvOk w p) ∧ ∀ j u, (rowCells ps)[j]? = some u → w.cell? ⟨b, o + j, none⟩ = some u := by
  obtain ⟨b, o, cap, rfl, hcap, hit⟩ := h
  have each : ∀ i, i < T.length → ∃ q : Value × Value, ∀ hi : i < T.length, IsA w q.1 T[i].1.attrs ∧ IsI w q.2 T[i].2 ∧ ∀ k, k < 7 → w.cell? ⟨b, o + i * 7 + k, none⟩ = (itC T[i].1 q.1 q.2)[k]? := fun i hi => by
    obtain ⟨av, kv, h1, h2, h3⟩ := hit i hi
    exact ⟨(av, kv), fun _ => ⟨h1, h2, h3⟩⟩
  obtain ⟨f, hf⟩ := @Deep.choose_lt (Value × Value) ⟨(.bool false, .bool false)⟩ _ _ each
  have hlen : ((List.range T.length).pmap (fun i (hi : i < T.length) => ((T[i], f i) : IV)) (fun i hi => List.mem_range.1 hi)).length = T.length := by simp
  have hget : ∀ i (hi : i < T.length), ((List.range T.length).pmap (fun i (hi : i < T.length) => ((T[i], f i) : IV)) (fun i hi => List.mem_range.1 hi))[i]'(by rw [hlen]; exact hi) = (T[i], f i) := by
    intro i hi
    rw [List.getElem_pmap]
    simp
  refine ⟨b, o, cap, (List.range T.length).pmap (fun i (hi : i < T.length) => ((T[i], f i) : IV)) (fun i hi => List.mem_range.1 hi), rfl, hcap, ?_, ?_, ?_⟩
  · apply List.ext_getElem
    · simp
    · intro i h1 h2
      rw [List.getElem_map, hget i h2]
  · intro p hp
    obtain ⟨i, hi, rfl⟩ := List.mem_iff_getElem.1 hp
    rw [hlen] at hi
    rw [hget i hi]
    exact ⟨(hf i hi hi).1, (hf i hi hi).2.1⟩
  · intro j u hu
    have hj : j < (rowCells ((List.range T.length).pmap (fun i (hi : i < T.length) => ((T[i], f i) : IV)) (fun i hi => List.mem_range.1 hi))).length := by
      rcases Nat.lt_or_ge j (rowCells ((List.range T.length).pmap (fun i (hi : i < T.length) => ((T[i], f i) : IV)) (fun i hi => List.mem_range.1 hi))).length with h | h
      · exact h
      · rw [List.getElem?_eq_none h] at hu; cases hu
    rw [rowCells_len, hlen] at hj
    have hq : j / 7 < T.length := by omega
    have hg := rowCells_get ((List.range T.length).pmap (fun i (hi : i < T.length) => ((T[i], f i) : IV)) (fun i hi => List.mem_range.1 hi)) (j / 7) (by rw [hlen]; exact hq) (j % 7) (by omega)
    rw [show j / 7 * 7 + j % 7 = j by omega, hget _ hq, hu] at hg
    have hc := (hf (j / 7) hq hq).2.2 (j % 7) (by omega)
    rw [show o + j / 7 * 7 + j % 7 = o + j by omega] at hc
    rw [hc]
    exact hg.symm
theorem owns_isT {w : World} {B : Nat} {v : Value} {ps : List IV} {n : Nat} (h : w.ownsRow B 71 7 v n (rowCells ps)) (hok : ∀ p ∈ ps, IvOk w p) (hn : 0 < ps.length) : IsT w v (ps.map (·.1)) := by
  have hl := h.1
  rw [rowCells_len] at hl
  have hnn : n = ps.length := by omega
  rcases h.2 with ⟨_, h0⟩ | ⟨g, cap, cur, rfl, hbg, hg, hnc, hcm, hcs, htake⟩
  · omega
  · refine ⟨g, 0, cap, by simp [hnn], by simp; omega, fun j hj => ?_⟩
    have hj2 : j < ps.length := by simpa using hj
    have hp := hok ps[j] (List.getElem_mem hj2)
    refine ⟨ps[j].2.1, ps[j].2.2, by simpa using hp.1, by simpa using hp.2, fun i hi => ?_⟩
    have hr := rowCells_get ps j hj2 i hi
    have hlt : i < (ivC ps[j]).length := by simpa [ivC, itC] using hi
    rw [List.getElem?_eq_getElem hlt] at hr
    have hc := h.cells (g := g) rfl _ _ hr
    rw [addr_add] at hc
    simp only [List.getElem_map]
    rw [show 0 + j * 7 + i = j * 7 + i by omega]
    show w.cell? ⟨g, j * 7 + i, none⟩ = (ivC ps[j])[i]?
    rw [List.getElem?_eq_getElem hlt]
    exact hc
/-- The row, copied behind an empty one. -/
theorem copy_row (W : World) (b o cap : Nat) (ps : List IV) (hok : ∀ p ∈ ps, IvOk W p) (hcs : ∀ j u, (rowCells ps)[j]? = some u → W.cell? ⟨b, o + j, none⟩ = some u) (hl : ps.length ≤ 1000000) :
    ∃ v' w', (Builtin.append_ #[25, 25] 25 #[.slice (some ⟨W.heap.size, 0, none⟩) 0 0, .slice (some ⟨b, o, none⟩) ps.length cap]).run Try.prog (W.alloc (.cells #[] 71)) = .ok v' w' ∧ w'.ownsRow W.heap.size 71 7 v' ps.length (rowCells ps) ∧ Below W.heap.size W w' := by
  have b0 := below_alloc W (.cells #[] 71)
  have hown : (W.alloc (.cells #[] 71)).ownsRow W.heap.size 71 7 (.slice (some ⟨W.heap.size, 0, none⟩) 0 0) 0 [] := World.ownsRow_made W #[] 0 (Nat.le_refl _) (by unfold maxLen; omega) (by simp)
  obtain ⟨v', w', hr, ho, hg, _⟩ := run_append_own (P := Try.prog) (W.alloc (.cells #[] 71)) W.heap.size 25 25 71 Try.t71 _ 7 120 Try.underlying25 (by kernel_rfl) rfl (by kernel_rfl) (by kernel_rfl) (by kernel_rfl) (by omega)
    (.slice (some ⟨W.heap.size, 0, none⟩) 0 0) 0 [] hown ⟨b, o, none⟩ ps.length cap (rowCells ps) (rowCells_len ps)
    (by
      intro j u hu
      have h1 := hcs j u hu
      rw [show (⟨b, o, none⟩ : Addr).add j = ⟨b, o + j, none⟩ by unfold Addr.add; split <;> simp_all, b0.cell (cell_lt h1)]
      exact h1)
    (rowCells_1c ps hok) (by unfold maxLen; omega) (by omega) (by simp)
  rw [Nat.zero_add] at ho
  have hblk : ∀ k, (Value.slice (some ⟨W.heap.size, 0, none⟩) 0 0).ownBlock = some k → W.heap.size ≤ k := fun k hk => by
    have : W.heap.size = k := by simpa [Value.ownBlock] using hk
    omega
  exact ⟨v', w', hr, ho, b0.grown hg (by simp) hblk⟩
end Go.Proofs.Ytjgklemhlmgheaa
