/- What the document's own set answers; nothing that was there is written. -/
import Derived.Test.YtjgklemhlmgheaaBlk5
set_option linter.unusedVariables false
set_option linter.unusedSimpArgs false
namespace Go.Proofs.Ytjgklemhlmgheaa
open Go.RowKit

theorem map_setK (ps : List IV) (T : TR) (h : ps.map (·.1) = T) (n : Nat) (ks : List Nat) : (ps.set n (((nodeAt T n, ks) : IT), .bool false, .bool false)).map (·.1) = setK T n ks := by
  rw [List.map_set, h]
  rfl
/-- The place of the kids in a row of one's own. -/
theorem row_at {w' : World} {B g cap n : Nat} {ps : List IV} (hown : w'.ownsRow B 71 7 (.slice (some ⟨g, 0, none⟩) ps.length cap) ps.length (rowCells ps)) :
    (∀ j (hj : j < ps.length) i, i < 7 → w'.cell? ⟨g, j * 7 + i, none⟩ = (ivC ps[j])[i]?) ∧ (∀ i, w'.frozen? ⟨g, i, none⟩ = false) ∧ ps.length ≤ cap ∧ B ≤ g := by
  refine ⟨fun j hj i hi => ?_, fun i => ?_, ?_, (hown.lt g rfl).1⟩
  · have hr := rowCells_get ps j hj i hi
    have hlt : i < (ivC ps[j]).length := by simpa [ivC, itC] using hi
    rw [List.getElem?_eq_getElem hlt] at hr ⊢
    have hc := hown.cells (g := g) rfl _ _ hr
    rw [addr_add] at hc
    exact hc
  · rcases hown.2 with ⟨h, _⟩ | ⟨g', cap', cur, hv, _, hg, _⟩
    · cases h
    · injection hv with e1 e2 e3
      injection e1 with e1
      injection e1 with e1
      subst e1
      simp [World.frozen?, hg]
  · rcases hown.2 with ⟨h, _⟩ | ⟨g', cap', cur, hv, _, hg, hnc, _⟩
    · cases h
    · injection hv with e1 e2 e3
      omega
theorem results_cell_one {fn : Func} {p : Tmp} {ty : TypeId} (h : fn.results = #[.cell p ty]) (tmps : Array Value) (P : Program) (w : World) :
    (results fn tmps).run P w = ((asAddr (tmps.getD p undef)).run P w).andThen fun a w₁ => (loadVar ty a).run P w₁ := by
  simp only [results, h]
  simp
set_option maxHeartbeats 1000000 in
theorem set_any (B : Nat → Prop) (v : Value) (T : TR) (n : Nat) (kv : Value) (ks : List Nat) (hn : n < T.length) (hl : T.length ≤ 1000000) (w : World) (hT : IsTB B w v T) (hK : IsIB B w kv ks) :
    Calls Try.prog 56 #[.agg #[v], .int .i64 (n : Int), kv] w fun e w' => (∃ v', IsTB (andNew B w.heap.size) w' v' (setK T n ks) ∧ (∃ a m c, v' = .slice a m c) ∧ e = .returned (.agg #[v'])) ∧ Below w.heap.size w w' := by
  obtain ⟨b, o, cap, ps, rfl, hcap, hps, hBb, hok, hcs⟩ := hT
  have hlen : ps.length = T.length := by rw [← hps, List.length_map]
  have hn2 : (n : Int) < T.length := by omega
  have bA0 := below_alloc w (.cells #[.slice (some ⟨b, o, none⟩) T.length cap] 27)
  have bA := bA0.alloc bA0.size (.cells #[.slice none 0 0] 27)
  have bA2 := bA
  obtain ⟨v', w', hr, ho, hb⟩ := copy_row ((w.alloc (.cells #[.slice (some ⟨b, o, none⟩) T.length cap] 27)).alloc (.cells #[.slice none 0 0] 27)) b o cap ps (fun p hp => ((hok p hp).below bA2).ok) (fun j u hu => by
    have h1 := hcs j u hu
    rw [bA2.cell (cell_lt h1)]
    exact h1) (by omega)
  obtain ⟨g, cap', rfl⟩ : ∃ g cap', v' = .slice (some ⟨g, 0, none⟩) ps.length cap' := by
    rcases ho.2 with ⟨_, h0⟩ | ⟨g, cap', cur, hv, _⟩
    · omega
    · exact ⟨g, cap', hv⟩
  obtain ⟨hrc, hrf, hcap', hgB⟩ := row_at ho (n := n)
  have hgz : w.heap.size + 1 + 1 ≤ g := by simpa using hgB
  have c6 : w'.cell? ⟨g, n * 7 + 6, none⟩ = some ps[n].2.2 := hrc n (by omega) 6 (by omega)
  have h2 := hrf (n * 7 + 6)
  have hz0 : w'.cell? ⟨w.heap.size + 1, 0, none⟩ = some (.slice none 0 0) := by
    have h0 : ((w.alloc (.cells #[.slice (some ⟨b, o, none⟩) T.length cap] 27)).alloc (.cells #[.slice none 0 0] 27)).cell? ⟨w.heap.size + 1, 0, none⟩ = some (.slice none 0 0) := by
      rw [show w.heap.size + 1 = (w.alloc (.cells #[.slice (some ⟨b, o, none⟩) T.length cap] 27)).heap.size by simp, World.cell?_alloc_mark]
      rfl
    rw [hb.cell (cell_lt h0)]
    exact h0
  have hzf : w'.frozen? ⟨w.heap.size + 1, 0, none⟩ = false := by
    have h0 : ((w.alloc (.cells #[.slice (some ⟨b, o, none⟩) T.length cap] 27)).alloc (.cells #[.slice none 0 0] 27)).frozen? ⟨w.heap.size + 1, 0, none⟩ = false := by simp [go_sem]
    rw [hb.frozen (p := ⟨w.heap.size + 1, 0, none⟩) (by simp)]
    exact h0
  have HBW := hide (bA.trans (hb.mono bA.size))
  rw [hlen, show ((w.alloc (.cells #[.slice (some ⟨b, o, none⟩) T.length cap] 27)).alloc (.cells #[.slice none 0 0] 27)).heap.size = w.heap.size + 1 + 1 by simp] at hr
  have HR := hide hr
  have HFIN : Hid (∀ w2, Below w.heap.size w w2 → w2.cell? ⟨g, n * 7 + 6, none⟩ = some kv → (∀ i, ¬ i = n * 7 + 6 → w2.cell? ⟨g, i, none⟩ = w'.cell? ⟨g, i, none⟩) → IsTB (andNew B w.heap.size) w2 (.slice (some ⟨g, 0, none⟩) T.length cap') (setK T n ks)) := hide fun w2 hb2 h6 hs => set_isTB hps (fun p hp => ((hok p hp).below hb2).mono fun k h => .inl h) ((hK.below hb2).mono fun k h => .inl h) hcap' hn (.inr (by omega)) h6 (fun j hj i hi hne => by rw [hs _ (by intro e; apply hne; omega)]; exact hrc j hj i hi)
  obtain ⟨ka, kc, rfl⟩ := isI_form hK.1
  generalize ps[n].2.2 = u6 at *
  clear hr ho hb hok hcs hK bA bA0 hrc hrf bA2 hBb
  go_enter Try.func56, Try.ntmps56
  go_wp2_with (with_reducible refine wpList_append_run rfl _ _ 25 rfl (.slice (some ⟨w.heap.size + 1 + 1, 0, none⟩) 0 0) (.slice (some ⟨b, o, none⟩) T.length cap) _ w' rfl rfl HR.out ?_)
  have hb2 : Below w.heap.size w ((w'.setCell ⟨g, n * 7 + 6, none⟩ (.slice ka ks.length kc)).setCell ⟨w.heap.size + 1, 0, none⟩ (.slice (some ⟨g, 0, none⟩) T.length cap')) := (HBW.out.setCell (p := ⟨g, n * 7 + 6, none⟩) (by simp only; omega) _).setCell (p := ⟨w.heap.size + 1, 0, none⟩) (by simp only; omega) _
  refine bodyPost_ret (v := .agg #[.slice (some ⟨g, 0, none⟩) T.length cap']) ?_ rfl ⟨⟨_, HFIN.out _ hb2 ?_ ?_, ⟨_, _, _, rfl⟩, rfl⟩, hb2⟩
  · rw [results_cell_one rfl]
    go_simp
  · rw [World.cell?_setCell_other _ _ _ _ (by intro he; injection he with he _ _; omega), World.cell?_setCell_same w' _ _ (by rw [c6])]
  · intro i hi
    rw [World.cell?_setCell_other _ _ _ _ (by intro he; injection he with he _ _; omega), World.cell?_setCell_other _ _ _ _ (by intro he; injection he with _ he _; omega)]
end Go.Proofs.Ytjgklemhlmgheaa
