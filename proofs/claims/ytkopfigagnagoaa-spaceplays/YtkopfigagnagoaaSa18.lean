/- What the document's Taken, Free, set, Take and Give answer. -/
import Derived.Test.YtkopfigagnagoaaSp18
set_option linter.unusedVariables false
set_option linter.unusedSimpArgs false
set_option maxRecDepth 40000
namespace Go.Proofs.Ytkopfigagnagoaa
open Go.RowKit

/-- Bools lie there. -/
def IsF (w : World) (v : Value) (l : SL) : Prop := (l = [] ∧ ∃ a c, v = .slice a 0 c) ∨ ∃ b o cap, v = .slice (some ⟨b, o, none⟩) l.length cap ∧ ∀ j (hj : j < l.length), w.cell? ⟨b, o + j, none⟩ = some (.bool l[j])
theorem IsF.form {w : World} {v : Value} {l : SL} (h : IsF w v l) : ∃ a c, v = .slice a l.length c := by
  rcases h with ⟨rfl, a, c, rfl⟩ | ⟨b, o, cap, rfl, _⟩
  · exact ⟨_, _, rfl⟩
  · exact ⟨_, _, rfl⟩
theorem IsF.keep {w W : World} {v : Value} {l : SL} (h : IsF w v l) (hk : ∀ k, v.ownBlock = some k → W.heap[k]? = w.heap[k]?) : IsF W v l := by
  rcases h with h | ⟨b, o, cap, rfl, hc⟩
  · exact .inl h
  · exact .inr ⟨b, o, cap, rfl, fun j hj => by rw [← hc j hj]; simp [World.cell?, hk b rfl]⟩
theorem IsF.below {w W : World} {v : Value} {l : SL} (h : IsF w v l) (hb : Below w.heap.size w W) : IsF W v l := by
  rcases h with h | ⟨b, o, cap, rfl, hc⟩
  · exact .inl h
  · exact .inr ⟨b, o, cap, rfl, fun j hj => (hb.cell (cell_lt (hc j hj))).trans (hc j hj)⟩
theorem IsF.at_ {w : World} {a : Option Addr} {n c : Nat} {l : SL} (h : IsF w (.slice a n c) l) (i : Nat) (x : Bool) (hx : l[i]? = some x) : ∃ b o, a = some ⟨b, o, none⟩ ∧ w.cell? ⟨b, o + i, none⟩ = some (.bool x) := by
  obtain ⟨hi, rfl⟩ := List.getElem?_eq_some_iff.1 hx
  rcases h with ⟨rfl, _⟩ | ⟨b, o, cap, e, hh⟩
  · simp at hi
  · injection e with e1
    exact ⟨b, o, e1, hh i hi⟩
def boolsV (l : SL) : List Value := l.map Value.bool
theorem boolsV_len (l : SL) : (boolsV l).length = l.length := List.length_map ..
theorem boolsV_get (l : SL) (j : Nat) (hj : j < l.length) : (boolsV l)[j]? = some (.bool l[j]) := by unfold boolsV; rw [List.getElem?_map, List.getElem?_eq_getElem hj]; rfl
theorem boolsV_one (l : SL) : ∀ u ∈ boolsV l, u.oneCell' = true := by
  intro u hu
  obtain ⟨b, _, rfl⟩ := List.mem_map.1 hu
  rfl
theorem alloc_newS (w : World) (o : Obj) : (w.alloc o).heap[w.heap.size]? = some o := by show (Array.push w.heap o)[w.heap.size]? = _; simp
theorem owns_isF {w : World} {B : Nat} {v : Value} {l : SL} (h : w.ownsRow B 4 1 v l.length (boolsV l)) : IsF w v l := by
  rcases h.2 with ⟨rfl, h2⟩ | ⟨g, cap, cur, rfl, _⟩
  · exact .inl ⟨List.eq_nil_of_length_eq_zero h2, _, _, rfl⟩
  · exact .inr ⟨g, 0, cap, rfl, fun j hj => by rw [Nat.zero_add]; exact (h.cellAt j (by omega)).trans (boolsV_get l j hj)⟩
theorem nothingS (W : World) (g n cap : Nat) (a : Option Addr) (c : Nat) (h : n ≤ cap) (hm : cap ≤ maxLen) :
    (Builtin.append_ #[28, 28] 28 #[.slice (some ⟨g, 0, none⟩) n cap, .slice a 0 c]).run Try.prog W = .ok (.slice (some ⟨g, 0, none⟩) n cap) W := by
  simp [Builtin.append_, go_sem]
  rw [if_pos h]
  cases a <;> simp [go_sem, storeCells]
/-- append([]bool{}, u...). -/
theorem copyS (w : World) (u : Value) (l : SL) (hU : IsF w u l) (hl : l.length ≤ 1000000) :
    ∃ g c w1, (Builtin.append_ #[28, 28] 28 #[.slice (some ⟨w.heap.size, 0, none⟩) 0 0, u]).run Try.prog (w.alloc (.cells #[] 4)) = .ok (.slice (some ⟨g, 0, none⟩) l.length c) w1 ∧ w1.ownsRow w.heap.size 4 1 (.slice (some ⟨g, 0, none⟩) l.length c) l.length (boolsV l) ∧ Below w.heap.size w w1 := by
  have hb := below_alloc w (.cells #[] 4)
  have h0 : (w.alloc (.cells #[] 4)).ownsRow w.heap.size 4 1 (.slice (some ⟨w.heap.size, 0, none⟩) 0 0) 0 (boolsV []) := ⟨rfl, .inr ⟨w.heap.size, 0, #[], rfl, Nat.le_refl _, alloc_newS w _, Nat.le_refl _, by decide, rfl, rfl⟩⟩
  rcases hU with ⟨rfl, a, c, rfl⟩ | ⟨b, o, cap, rfl, hc⟩
  · exact ⟨_, _, _, nothingS _ w.heap.size 0 0 a c (Nat.le_refl _) (by decide), h0, hb⟩
  · obtain ⟨v', w', hr, ho, hg, hnil, hat⟩ := run_append_own_at (P := Try.prog) (w.alloc (.cells #[] 4)) w.heap.size 28 28 4 Try.t4 (.bool false) 1 1 Try.underlying28 (by kernel_rfl) (by kernel_rfl) (by kernel_rfl) (by kernel_rfl) (by kernel_rfl) (by omega)
      (.slice (some ⟨w.heap.size, 0, none⟩) 0 0) 0 (boolsV []) h0 ⟨b, o, none⟩ l.length cap (boolsV l) (by rw [boolsV_len, Nat.mul_one])
      (by
        intro j u hu
        have hj : j < l.length := by rw [← boolsV_len]; exact (List.getElem?_eq_some_iff.1 hu).1
        rw [addr_addo, (hb.cell (cell_lt (hc j hj))).trans (hc j hj)]
        rw [boolsV_get l j hj] at hu
        exact hu) (boolsV_one l) (by unfold maxLen; omega) (by omega) hb.size
    rw [Nat.zero_add, show boolsV [] = [] from rfl, List.nil_append] at ho
    have hb2 := hb.trans ((Below.refl _ _).grown hg hb.size (fun k hk => (h0.lt k hk).1))
    rcases ho.2 with ⟨e, _⟩ | ⟨g, c', cur, e, _⟩
    · exact absurd (hnil.1 e).1 (by intro e; cases e)
    · subst e
      exact ⟨g, c', w', hr, ho, hb2⟩
/-- A list that is told lies in a new block. -/
def NewF (w w' : World) (v : Value) : Prop := ∀ k, v.ownBlock = some k → w.heap.size ≤ k ∧ k < w'.heap.size
set_option maxHeartbeats 4000000 in
theorem rset_any (v : Value) (l : SL) (i : Nat) (x : Bool) (w : World) (hF : IsF w v l) (hi : i < l.length) (hl : l.length ≤ 1000000) :
    Calls Try.prog 23 #[v, .int .i64 (i : Int), .bool x] w fun e w' => ∃ a c, e = .returned (.slice a l.length c) ∧ IsF w' (.slice a l.length c) (l.set i x) ∧ NewF w w' (.slice a l.length c) ∧ Below w.heap.size w w' := by
  obtain ⟨g, c, w1, hr, ho, hb⟩ := copyS w v l hF hl
  obtain ⟨va, vc, rfl⟩ := hF.form
  have hs := (ho.stored i (.bool x)).1
  have e4 : (boolsV l).set i (.bool x) = boolsV (l.set i x) := by unfold boolsV; rw [List.map_set]
  rw [e4] at hs
  have hls : (l.set i x).length = l.length := List.length_set
  have hcell : w1.cell? ⟨g, i, none⟩ = some (.bool l[i]) := (ho.cellAt i (by omega)).trans (boolsV_get l i hi)
  have hfro : w1.frozen? ⟨g, i, none⟩ = false := ho.frozenAt i
  have hlt := ho.lt g rfl
  have HF : Hid (IsF (w1.setCell ⟨g, i, none⟩ (.bool x)) (.slice (some ⟨g, 0, none⟩) l.length c) (l.set i x) ∧ NewF w (w1.setCell ⟨g, i, none⟩ (.bool x)) (.slice (some ⟨g, 0, none⟩) l.length c) ∧ Below w.heap.size w (w1.setCell ⟨g, i, none⟩ (.bool x))) := hide ⟨by
    have h9 := hs
    rw [← hls] at h9 ⊢
    exact owns_isF h9, fun k hk => by
      cases hk
      exact ⟨hlt.1, by simpa [World.setCell] using hlt.2⟩, hb.setCell (p := ⟨g, i, none⟩) hlt.1 _⟩
  have hi2 : (i : Int) < (l.length : Int) := by omega
  have hi0 : i < l.length := hi
  have HRUN := hide hr
  generalize l[i] = old at *
  clear hs e4 hls hlt ho hb hF hr
  generalize hn : l.length = n at *
  go_enter Try.func23, Try.ntmps23
  go_wp2_with (at_builtin; refine Lib.wpList_append_run _ rfl (.tmp 8) (.tmp 9) _ _ rfl _ _ rfl rfl _ _ HRUN.out ?_)
  go_ret
  obtain ⟨q1, q2, q3⟩ := HF.out
  exact ⟨_, _, rfl, q1, q2, q3⟩
set_option maxHeartbeats 4000000 in
theorem rtaken_any (v : Value) (l : SL) (i : Int) (w : World) (hF : IsF w v l) (hl : l.length ≤ 1000000) : Calls Try.prog 17 #[v, .int .i64 i] w fun e w' => e = .returned (.bool (takenS l i)) ∧ w' = w := by
  obtain ⟨va, vc, rfl⟩ := hF.form
  unfold takenS
  by_cases h0 : 0 ≤ i
  · rw [decide_eq_true h0, Bool.true_and]
    by_cases h1 : i < (l.length : Int)
    · rw [decide_eq_true h1, Bool.true_and]
      obtain ⟨k, rfl⟩ : ∃ k : Nat, i = (k : Int) := ⟨i.toNat, by omega⟩
      have hk : k < l.length := by omega
      rw [Int.toNat_natCast, List.getD_eq_getElem?_getD, List.getElem?_eq_getElem hk, Option.getD_some]
      obtain ⟨b, o, rfl, hc⟩ := hF.at_ k _ (List.getElem?_eq_getElem hk)
      generalize l[k] = x at *
      clear hF
      generalize l.length = n at *
      go_enter Try.func17, Try.ntmps17
      go_wp2
      go_ret
      exact ⟨rfl, rfl⟩
    · rw [decide_eq_false h1, Bool.false_and]
      clear hF
      generalize l.length = n at *
      go_enter Try.func17, Try.ntmps17
      go_wp2
      go_ret
      exact ⟨rfl, rfl⟩
  · rw [decide_eq_false h0, Bool.false_and]
    clear hF
    generalize l.length = n at *
    go_enter Try.func17, Try.ntmps17
    go_wp2
    go_ret
    exact ⟨rfl, rfl⟩
set_option maxHeartbeats 4000000 in
theorem rfree_any (v : Value) (l : SL) (w : World) (hF : IsF w v l) (hl : l.length ≤ 1000000) : Calls Try.prog 15 #[v] w fun e w' => e = .returned (.int .i64 (freeS l : Int)) ∧ w' = w := by
  obtain ⟨va, vc, rfl⟩ := hF.form
  have HA : Hid (∀ i, i < l.length → ∃ x b o, va = some ⟨b, o, none⟩ ∧ w.cell? ⟨b, o + i, none⟩ = some (.bool x) ∧ freeS (l.take (i + 1)) = freeS (l.take i) + if x then 0 else 1) := hide (fun i hi => by
    obtain ⟨b, o, e, hc⟩ := hF.at_ i _ (List.getElem?_eq_getElem hi)
    exact ⟨_, b, o, e, hc, free_take l i hi⟩)
  have HE : Hid (freeS (l.take l.length) = freeS l) := hide (by rw [List.take_length])
  have HLE : Hid (∀ i, freeS (l.take i) ≤ i) := hide (fun i => Nat.le_trans (free_le _) (by rw [List.length_take]; omega))
  clear hF
  generalize l.length = n at *
  go_enter Try.func15, Try.ntmps15
  go_wp2
  go_loop [3, 4] (fun vn vi => ∃ i : Nat, vi = .int .i64 (i : Int) ∧ i ≤ n ∧ vn = .int .i64 (freeS (l.take i) : Int)) (fun _ vi => n - (intOf vi).toNat)
  case atStart => exact ⟨0, rfl, Nat.zero_le _, rfl⟩
  case round =>
    obtain ⟨i, rfl, hi, rfl⟩ := hrel
    by_cases hlt : i < n
    · have hlt2 : (i : Int) < n := by omega
      obtain ⟨x, b, o, rfl, hc, hs⟩ := HA.out i hlt
      have hle := HLE.out i
      have HS := hide hs
      clear hs
      generalize freeS (l.take i) = f at *
      cases x
      · go_wp2
        go_round
        case rel => exact ⟨i + 1, by go_num, by omega, by rw [HS.out]; go_num⟩
        case measure => simp [intOf]; omega
      · go_wp2
        go_round
        case rel => exact ⟨i + 1, by go_num, by omega, by rw [HS.out]; rfl⟩
        case measure => simp [intOf]; omega
    · have hlt2 : ¬ (i : Int) < n := by omega
      obtain rfl : i = n := by omega
      rw [HE.out]
      go_wp2
      go_ret
      exact ⟨rfl, rfl⟩
end Go.Proofs.Ytkopfigagnagoaa
