/- The document's arena by the blocks that it lies in: it stays as long as they stay. No function of the program in it. -/
import Derived.Test.YtjgklemhlmgheaaRow5
set_option linter.unusedVariables false
set_option linter.unusedSimpArgs false
namespace Go.Proofs.Ytjgklemhlmgheaa
open Go.RowKit

def IsAB (B : Nat → Prop) (w : World) (v : Value) (aa : AttrL) : Prop := IsA w v aa ∧ (aa = [] ∨ ∀ k, v.ownBlock = some k → B k)
def IsIB (B : Nat → Prop) (w : World) (v : Value) (l : List Nat) : Prop := IsI w v l ∧ (l = [] ∨ ∀ k, v.ownBlock = some k → B k)
theorem cell_same {w W : World} {b o : Nat} {v : Value} (h : W.heap[b]? = w.heap[b]?) (hc : w.cell? ⟨b, o, none⟩ = some v) : W.cell? ⟨b, o, none⟩ = some v := by
  rw [World.cell?_of_block (a := ⟨b, o, none⟩) h]
  exact hc
theorem own_slice (b o n c : Nat) : (Value.slice (some ⟨b, o, none⟩) n c).ownBlock = some b := rfl
theorem IsAB.keep {B : Nat → Prop} {w W : World} {v : Value} {aa : AttrL} (h : IsAB B w v aa) (hk : ∀ k, B k → W.heap[k]? = w.heap[k]?) : IsAB B W v aa := by
  refine ⟨?_, h.2⟩
  rcases h.1 with h1 | ⟨b, o, cap, rfl, hc, hcs⟩
  · exact .inl h1
  · refine .inr ⟨b, o, cap, rfl, hc, fun j hj => ?_⟩
    rcases h.2 with rfl | hb
    · simp at hj
    · have := hk b (hb b (own_slice b o _ _))
      exact ⟨cell_same this (hcs j hj).1, cell_same this (hcs j hj).2⟩
theorem IsIB.keep {B : Nat → Prop} {w W : World} {v : Value} {l : List Nat} (h : IsIB B w v l) (hk : ∀ k, B k → W.heap[k]? = w.heap[k]?) : IsIB B W v l := by
  refine ⟨?_, h.2⟩
  rcases h.1 with h1 | ⟨b, o, cap, rfl, hc, hcs⟩
  · exact .inl h1
  · refine .inr ⟨b, o, cap, rfl, hc, fun j hj => ?_⟩
    rcases h.2 with rfl | hb
    · simp at hj
    · exact cell_same (hk b (hb b (own_slice b o _ _))) (hcs j hj)
theorem IsAB.below {B : Nat → Prop} {w W : World} {v : Value} {aa : AttrL} (h : IsAB B w v aa) (hb : Below w.heap.size w W) : IsAB B W v aa := ⟨h.1.below hb, h.2⟩
theorem IsIB.below {B : Nat → Prop} {w W : World} {v : Value} {l : List Nat} (h : IsIB B w v l) (hb : Below w.heap.size w W) : IsIB B W v l := ⟨h.1.below hb, h.2⟩
theorem IsAB.mono {B C : Nat → Prop} {w : World} {v : Value} {aa : AttrL} (h : IsAB B w v aa) (hm : ∀ k, B k → C k) : IsAB C w v aa := ⟨h.1, h.2.imp id fun f k hk => hm k (f k hk)⟩
theorem IsIB.mono {B C : Nat → Prop} {w : World} {v : Value} {l : List Nat} (h : IsIB B w v l) (hm : ∀ k, B k → C k) : IsIB C w v l := ⟨h.1, h.2.imp id fun f k hk => hm k (f k hk)⟩
/-- What each item's lists are, and where. -/
def IvB (B : Nat → Prop) (w : World) (p : IV) : Prop := IsAB B w p.2.1 p.1.1.attrs ∧ IsIB B w p.2.2 p.1.2
theorem IvB.ok {B : Nat → Prop} {w : World} {p : IV} (h : IvB B w p) : IvOk w p := ⟨h.1.1, h.2.1⟩
theorem IvB.below {B : Nat → Prop} {w W : World} {p : IV} (h : IvB B w p) (hb : Below w.heap.size w W) : IvB B W p := ⟨h.1.below hb, h.2.below hb⟩
theorem IvB.keep {B : Nat → Prop} {w W : World} {p : IV} (h : IvB B w p) (hk : ∀ k, B k → W.heap[k]? = w.heap[k]?) : IvB B W p := ⟨h.1.keep hk, h.2.keep hk⟩
theorem IvB.mono {B C : Nat → Prop} {w : World} {p : IV} (h : IvB B w p) (hm : ∀ k, B k → C k) : IvB C w p := ⟨h.1.mono hm, h.2.mono hm⟩
/-- The arena lies there, in these blocks. -/
def IsTB (B : Nat → Prop) (w : World) (v : Value) (T : TR) : Prop := ∃ (b o cap : Nat) (ps : List IV), v = .slice (some ⟨b, o, none⟩) T.length cap ∧ T.length ≤ cap ∧ ps.map (·.1) = T ∧ B b ∧ (∀ p ∈ ps, IvB B w p) ∧ ∀ j u, (rowCells ps)[j]? = some u → w.cell? ⟨b, o + j, none⟩ = some u
theorem IsTB.keep {B : Nat → Prop} {w W : World} {v : Value} {T : TR} (h : IsTB B w v T) (hk : ∀ k, B k → W.heap[k]? = w.heap[k]?) : IsTB B W v T := by
  obtain ⟨b, o, cap, ps, h1, h2, h3, h4, h5, h6⟩ := h
  exact ⟨b, o, cap, ps, h1, h2, h3, h4, fun p hp => (h5 p hp).keep hk, fun j u hu => cell_same (hk b h4) (h6 j u hu)⟩
theorem IsTB.below {B : Nat → Prop} {w W : World} {v : Value} {T : TR} (h : IsTB B w v T) (hb : Below w.heap.size w W) : IsTB B W v T := by
  obtain ⟨b, o, cap, ps, h1, h2, h3, h4, h5, h6⟩ := h
  exact ⟨b, o, cap, ps, h1, h2, h3, h4, fun p hp => (h5 p hp).below hb, fun j u hu => by rw [hb.cell (cell_lt (h6 j u hu))]; exact h6 j u hu⟩
theorem IsTB.mono {B C : Nat → Prop} {w : World} {v : Value} {T : TR} (h : IsTB B w v T) (hm : ∀ k, B k → C k) : IsTB C w v T := by
  obtain ⟨b, o, cap, ps, h1, h2, h3, h4, h5, h6⟩ := h
  exact ⟨b, o, cap, ps, h1, h2, h3, hm b h4, fun p hp => (h5 p hp).mono hm, h6⟩
theorem IsTB.isT {B : Nat → Prop} {w : World} {v : Value} {T : TR} (h : IsTB B w v T) : IsT w v T := by
  obtain ⟨b, o, cap, ps, h1, h2, h3, h4, h5, h6⟩ := h
  have hlen : ps.length = T.length := by rw [← h3, List.length_map]
  refine ⟨b, o, cap, h1, h2, fun j hj => ?_⟩
  have hj2 : j < ps.length := by omega
  have hTj : T[j] = ps[j].1 := by simp [← h3]
  have hp := (h5 ps[j] (List.getElem_mem hj2)).ok
  rw [hTj]
  refine ⟨ps[j].2.1, ps[j].2.2, hp.1, hp.2, fun i hi => ?_⟩
  have hr := rowCells_get ps j hj2 i hi
  have hlt : i < (ivC ps[j]).length := by simpa [ivC, itC] using hi
  rw [List.getElem?_eq_getElem hlt] at hr
  have := h6 _ _ hr
  rw [show o + j * 7 + i = o + (j * 7 + i) by omega, this]
  exact (List.getElem?_eq_getElem hlt).symm
/-- Blocks that were named, and new ones. -/
def andNew (B : Nat → Prop) (n : Nat) : Nat → Prop := fun k => B k ∨ n ≤ k
/-- A row with other kids at one place. -/
theorem set_isTB {B : Nat → Prop} {w' : World} {g cap n : Nat} {ps : List IV} {T : TR} {ks : List Nat} {kv : Value} (hT : ps.map (·.1) = T) (hok : ∀ p ∈ ps, IvB B w' p) (hk : IsIB B w' kv ks) (hcap : ps.length ≤ cap) (hn : n < T.length) (hg : B g)
    (h6 : w'.cell? ⟨g, n * 7 + 6, none⟩ = some kv) (hc : ∀ j (hj : j < ps.length) i, i < 7 → ¬ (j = n ∧ i = 6) → w'.cell? ⟨g, j * 7 + i, none⟩ = (ivC ps[j])[i]?) : IsTB B w' (.slice (some ⟨g, 0, none⟩) T.length cap) (setK T n ks) := by
  have hlen : ps.length = T.length := by rw [← hT, List.length_map]
  have hn2 : n < ps.length := by omega
  have hTn : T[n] = ps[n].1 := by simp [← hT]
  have hnd : nodeAt T n = ps[n].1.1 := by unfold nodeAt; rw [List.getElem?_eq_getElem hn, hTn]; rfl
  refine ⟨g, 0, cap, ps.set n ((ps[n].1.1, ks), ps[n].2.1, kv), by rw [setK_len], by rw [setK_len]; omega, ?_, hg, ?_, ?_⟩
  · rw [List.map_set, hT]
    unfold setK
    rw [hnd]
  · intro p hp
    rcases List.mem_or_eq_of_mem_set hp with hp | rfl
    · exact hok p hp
    · exact ⟨(hok ps[n] (List.getElem_mem hn2)).1, hk⟩
  · intro q u hu
    rw [Nat.zero_add]
    have hq : q < (rowCells (ps.set n ((ps[n].1.1, ks), ps[n].2.1, kv))).length := by
      rcases Nat.lt_or_ge q (rowCells (ps.set n ((ps[n].1.1, ks), ps[n].2.1, kv))).length with h | h
      · exact h
      · rw [List.getElem?_eq_none h] at hu; cases hu
    rw [rowCells_len, List.length_set] at hq
    have hq2 : q / 7 < ps.length := by omega
    have hg := rowCells_get (ps.set n ((ps[n].1.1, ks), ps[n].2.1, kv)) (q / 7) (by rw [List.length_set]; exact hq2) (q % 7) (by omega)
    rw [show q / 7 * 7 + q % 7 = q by omega, hu] at hg
    by_cases e : n = q / 7
    · have e1 : (ps.set n ((ps[n].1.1, ks), ps[n].2.1, kv))[q / 7]'(by rw [List.length_set]; exact hq2) = ((ps[n].1.1, ks), ps[n].2.1, kv) := by
        simp [List.getElem_set, e]
      rw [e1] at hg
      by_cases e6 : q % 7 = 6
      · rw [e6] at hg
        have : u = kv := by simpa [ivC, itC] using hg
        rw [this, show q = n * 7 + 6 by omega]
        exact h6
      · have h0 := hc n hn2 (q % 7) (by omega) (fun h => e6 h.2)
        rw [show n * 7 + q % 7 = q by omega] at h0
        rw [h0]
        have hlt : q % 7 < 6 := by omega
        rw [hg]
        generalize q % 7 = i at *
        match i, hlt with
        | 0, _ => rfl
        | 1, _ => rfl
        | 2, _ => rfl
        | 3, _ => rfl
        | 4, _ => rfl
        | 5, _ => rfl
    · have e1 : (ps.set n ((ps[n].1.1, ks), ps[n].2.1, kv))[q / 7]'(by rw [List.length_set]; exact hq2) = ps[q / 7] := by
        simp [List.getElem_set, e]
      rw [e1] at hg
      have h0 := hc (q / 7) hq2 (q % 7) (by omega) (fun h => e h.1.symm)
      rw [show q / 7 * 7 + q % 7 = q by omega] at h0
      rw [h0]
      exact hg.symm
end Go.Proofs.Ytjgklemhlmgheaa
