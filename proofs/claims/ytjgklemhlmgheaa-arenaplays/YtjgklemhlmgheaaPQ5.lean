/- The program's Len and Parent change nothing at all. -/
import Derived.Test.YtjgklemhlmgheaaDoP5
set_option linter.unusedVariables false
set_option linter.unusedSimpArgs false
namespace Go.Proofs.Ytjgklemhlmgheaa
open Go.RowKit

set_option maxHeartbeats 1000000 in
theorem len_q {A : Nat → Prop} {w : World} {pb : Nat} {T : TR} (h : PT A w pb T) :
    Calls Try.prog 13 #[.pointer (some ⟨pb, 0, none⟩)] w fun e w' => e = .returned (.int .i64 (T.length : Int)) ∧ w' = w := by
  obtain ⟨g, cap, rs, hR, hP⟩ := h
  have hl := map_len hR
  have c0 := hP.tree
  rw [hl, raw_len] at c0
  clear hR hl hP
  go_enter Try.func13, Try.ntmps13
  go_wp2
  go_ret
  exact ⟨rfl, rfl⟩
set_option maxHeartbeats 1000000 in
theorem parent_q {A : Nat → Prop} {w : World} {pb : Nat} {T : TR} (hW : WF T) (hz : T.length ≤ 1000000) (z : Int) (h : PT A w pb T) :
    Calls Try.prog 18 #[.pointer (some ⟨pb, 0, none⟩), .int .i64 z] w fun e w' => e = .returned (.int .i64 (parentZ T z)) ∧ w' = w := by
  have hc0 : ∃ g cap, w.cell? ⟨pb, 0, none⟩ = some (.slice (some ⟨g, 0, none⟩) T.length cap) := by
    obtain ⟨g, cap, rs, hR, hP⟩ := h
    have hl := map_len hR
    have c0 := hP.tree
    rw [hl, raw_len] at c0
    exact ⟨g, cap, c0⟩
  by_cases hzz : 0 ≤ z ∧ z < T.length
  · obtain ⟨n, rfl⟩ : ∃ n : Nat, z = (n : Int) := ⟨z.toNat, by omega⟩
    have hn : n < T.length := by omega
    have hni : (n : Int) < T.length := by omega
    rw [show parentZ T (n : Int) = parZ (parentN T n) by unfold parentZ; rw [if_neg (by omega), Int.toNat_natCast]]
    obtain ⟨g, cap, c0, _, c1, _⟩ := h.cells n hn
    generalize parZ (parentN T n) = q at *
    clear hc0 h hW hzz
    go_enter Try.func18, Try.ntmps18
    go_wp2
    go_ret
    exact ⟨rfl, rfl⟩
  · have hpz : parentZ T z = -1 := by
      unfold parentZ
      split
      · rfl
      · rw [no_parent (fun i hm => by have := (hW.inb i _ hm).2; omega)]
        rfl
    rw [hpz]
    obtain ⟨g, cap, c0⟩ := hc0
    clear h hW hpz
    by_cases h0 : 0 ≤ z
    · have h1 : ¬ z < T.length := by omega
      go_enter Try.func18, Try.ntmps18
      go_wp2
      go_ret
      exact ⟨rfl, rfl⟩
    · go_enter Try.func18, Try.ntmps18
      go_wp2
      go_ret
      exact ⟨rfl, rfl⟩
/-- From one arena to both. -/
theorem both_new {n0 : Nat} {w0 w w' : World} {pb : Nat} {rv : Value} {T : TR} (h : Liv n0 w0 w pb T) (hb : Below w.heap.size w w') (ht : IsTB (fun k => w.heap.size ≤ k) w' rv newL) : Both n0 w0 w' pb rv T newL := by
  have hn := h.hn
  have hs := hb.size
  refine ⟨⟨fromN n0 w, fun k => w.heap.size ≤ k ∧ k < w'.heap.size, PT.below h.own hb, ht.tight (by decide), fun k hk => ⟨hk.1, Nat.lt_of_lt_of_le hk.2 hs⟩, fun k hk => ⟨by omega, hk.2, fun ha => by have := ha.2; omega⟩⟩, h.bel.trans (hb.mono hn), by omega⟩
/-- What is known of the acts. -/
theorem act_cells {w W : World} {b o : Nat} {x : AV} {j : Nat} (h : ∀ i, i < 6 → w.cell? ⟨b, o + j * 6 + i, none⟩ = (x.cells)[i]?) (hb : Below w.heap.size w W) : W.cell? ⟨b, o + j * 6, none⟩ = some (.int .i64 x.k) ∧ W.cell? ⟨b, o + j * 6 + 1, none⟩ = some (.int .i64 x.a) ∧ W.cell? ⟨b, o + j * 6 + 2, none⟩ = some (.int .i64 x.b) ∧ W.cell? ⟨b, o + j * 6 + 3, none⟩ = some (.int .i64 x.sp) ∧ W.cell? ⟨b, o + j * 6 + 4, none⟩ = some (.string x.s) ∧ W.cell? ⟨b, o + j * 6 + 5, none⟩ = some x.av := by
  have g : ∀ i v, i < 6 → (x.cells)[i]? = some v → W.cell? ⟨b, o + j * 6 + i, none⟩ = some v := fun i v hi hv => by
    have h1 := h i hi
    rw [hv] at h1
    rw [hb.cell (cell_lt h1)]
    exact h1
  exact ⟨g 0 _ (by omega) rfl, g 1 _ (by omega) rfl, g 2 _ (by omega) rfl, g 3 _ (by omega) rfl, g 4 _ (by omega) rfl, g 5 _ (by omega) rfl⟩
end Go.Proofs.Ytjgklemhlmgheaa
