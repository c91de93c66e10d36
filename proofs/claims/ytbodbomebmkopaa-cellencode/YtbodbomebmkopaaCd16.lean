/- Bytes behind bytes of one's own. -/
import Derived.Test.YtbodbomebmkopaaCm16
set_option linter.unusedVariables false
set_option linter.unusedSimpArgs false
set_option maxRecDepth 4000
namespace Go.Proofs.Ytbodbomebmkopaa
open Go.RowKit

theorem owns_isY {w : World} {B : Nat} {v : Value} {l : Bs} (h : w.ownsRow B 5 1 v l.length (Lib.byteCells l)) : IsY w v l := by
  rcases h.2 with ⟨rfl, h2⟩ | ⟨g, cap, cur, rfl, _, _, hc, _⟩
  · exact .inl ⟨List.eq_nil_of_length_eq_zero h2, _, _, rfl⟩
  · exact .inr ⟨g, 0, cap, rfl, hc, fun j hj => by rw [Nat.zero_add]; exact (h.cellAt j (by omega)).trans (byteCells_get l j hj)⟩
theorem append_nothingY (W : World) (g n cap : Nat) (a : Option Addr) (c : Nat) (h : n ≤ cap) (hm : cap ≤ maxLen) :
    (Builtin.append_ #[23, 23] 23 #[.slice (some ⟨g, 0, none⟩) n cap, .slice a 0 c]).run Try.prog W = .ok (.slice (some ⟨g, 0, none⟩) n cap) W := by
  simp [Builtin.append_, go_sem]
  rw [if_pos h]
  cases a <;> simp [go_sem, storeCells]
theorem owns_blkY {w : World} {B n : Nat} {t : TypeId} {v : Value} {l : List Value} (h : w.ownsRow B t 1 v n l) : ∀ k, v.ownBlock = some k → B ≤ k := by
  intro k hk
  rcases h.2 with ⟨rfl, _⟩ | ⟨g, cap, cur, rfl, h2, _⟩
  · simp [Value.ownBlock] at hk
  · simp [Value.ownBlock] at hk; omega
/-- append(v, u...), v some bytes of one's own. -/
theorem append_isY (W : World) (B : Nat) (v u : Value) (l x : Bs) (hown : W.ownsRow B 5 1 v l.length (Lib.byteCells l)) (hU : IsY W u x) (h0 : 0 < l.length) (h1 : l.length ≤ 1000000) (h2 : x.length ≤ 1000000) (hB : B ≤ W.heap.size) :
    ∃ a c w', (Builtin.append_ #[23, 23] 23 #[v, u]).run Try.prog W = .ok (.slice a (l ++ x).length c) w' ∧ w'.ownsRow B 5 1 (.slice a (l ++ x).length c) (l ++ x).length (Lib.byteCells (l ++ x)) ∧ Below B W w' := by
  rcases hU with ⟨rfl, a, c, rfl⟩ | ⟨b, o, cap, rfl, _, hc⟩
  · have hown0 := hown
    rcases hown.2 with ⟨rfl, h3⟩ | ⟨g, cap, cur, rfl, _, _, h4, h5, _⟩
    · omega
    · rw [List.append_nil]
      exact ⟨_, _, _, append_nothingY _ g _ cap a c h4 h5, hown0, Below.refl _ _⟩
  · obtain ⟨v', w', hr, ho, hg, _, hat⟩ := run_append_own_at (P := Try.prog) W B 23 23 5 Try.t5 (.int .u8 0) 1 1 Try.underlying23 (by kernel_rfl) (by kernel_rfl) (by kernel_rfl) (by kernel_rfl) (by kernel_rfl) (by omega)
      v l.length (Lib.byteCells l) hown ⟨b, o, none⟩ x.length cap (Lib.byteCells x) (by rw [byteCells_len, Nat.mul_one])
      (by
        intro j u hu
        have hj : j < x.length := by rw [← byteCells_len]; exact (List.getElem?_eq_some_iff.1 hu).1
        rw [addr_addo, hc j hj]
        rw [byteCells_get x j hj] at hu
        exact hu) (byteCells_one x) (by unfold maxLen; omega) (by omega) hB
    rw [← Lib.byteCells_append, ← List.length_append] at ho
    obtain ⟨a, c, rfl⟩ := owns_formY ho
    exact ⟨a, c, w', hr, ho, (Below.refl _ _).grown hg hB (owns_blkY hown)⟩
end Go.Proofs.Ytbodbomebmkopaa
