/- What the document's New, Take, Give and Only answer. -/
import Derived.Test.YtkopfigagnagoaaSa18
set_option linter.unusedVariables false
set_option linter.unusedSimpArgs false
set_option maxRecDepth 40000
namespace Go.Proofs.Ytkopfigagnagoaa
open Go.RowKit

/-- A list of numbers lies there. -/
def IsZ (w : World) (v : Value) (l : List Int) : Prop := (l = [] ∧ ∃ a c, v = .slice a 0 c) ∨ ∃ b o cap, v = .slice (some ⟨b, o, none⟩) l.length cap ∧ ∀ j (hj : j < l.length), w.cell? ⟨b, o + j, none⟩ = some (.int .i64 l[j])
theorem IsZ.form {w : World} {v : Value} {l : List Int} (h : IsZ w v l) : ∃ a c, v = .slice a l.length c := by
  rcases h with ⟨rfl, a, c, rfl⟩ | ⟨b, o, cap, rfl, _⟩
  · exact ⟨_, _, rfl⟩
  · exact ⟨_, _, rfl⟩
theorem IsZ.below {w W : World} {v : Value} {l : List Int} (h : IsZ w v l) (hb : Below w.heap.size w W) : IsZ W v l := by
  rcases h with h | ⟨b, o, cap, rfl, hc⟩
  · exact .inl h
  · exact .inr ⟨b, o, cap, rfl, fun j hj => (hb.cell (cell_lt (hc j hj))).trans (hc j hj)⟩
theorem IsZ.at_ {w : World} {a : Option Addr} {n c : Nat} {l : List Int} (h : IsZ w (.slice a n c) l) (i : Nat) (x : Int) (hx : l[i]? = some x) : ∃ b o, a = some ⟨b, o, none⟩ ∧ ∀ W, Below w.heap.size w W → W.cell? ⟨b, o + i, none⟩ = some (.int .i64 x) := by
  obtain ⟨hi, rfl⟩ := List.getElem?_eq_some_iff.1 hx
  rcases h with ⟨rfl, _⟩ | ⟨b, o, cap, e, hh⟩
  · simp at hi
  · injection e with e1
    exact ⟨b, o, e1, fun W hb => (hb.cell (cell_lt (hh i hi))).trans (hh i hi)⟩
/-- A list that is told: the one that was handed in, or one in a new block. -/
def ToldF (w w' : World) (v u : Value) (l : SL) : Prop := IsF w' u l ∧ (u = v ∨ NewF w w' u) ∧ Below w.heap.size w w'
theorem make_bools (w : World) (n : Nat) (hn : n ≤ 1000000) : ∃ w1, (Instr.makeSlice 28 (.int .i64 (n : Int)) (.int .i64 (n : Int))).run Try.prog w = .ok (.slice (some ⟨w.heap.size, 0, none⟩) n n) w1 ∧ w1.ownsRow w.heap.size 4 1 (.slice (some ⟨w.heap.size, 0, none⟩) n n) n (boolsV (List.replicate n false)) ∧ Below w.heap.size w w1 := by
  obtain ⟨w1, h1, h2, h3⟩ := run_make_full (P := Try.prog) w w.heap.size 28 4 Try.t4 (.bool false) 1 Try.underlying28 (by kernel_rfl) (by kernel_rfl) (by kernel_rfl) .i64 .i64 n (by rw [show Try.t4.bytes = 1 from by kernel_rfl]; omega) (by unfold maxLen; omega) (Nat.le_refl _)
  have e : (madeCells (Value.cells (.bool false)) (n * 1)).toList = boolsV (List.replicate n false) := by
    rw [show Value.cells (.bool false) = #[.bool false] from rfl, toList_madeCells_one, Nat.mul_one]
    unfold boolsV
    rw [List.map_replicate]
  rw [e] at h2
  exact ⟨w1, h1, h2, (Below.refl _ w).grown h3 (Nat.le_refl _) (fun k hk => by cases hk)⟩
theorem owns_newF {w w1 : World} {v : Value} {n : Nat} {xs : List Value} (h : w1.ownsRow w.heap.size 4 1 v n xs) : NewF w w1 v := fun k hk => h.lt k hk
set_option maxHeartbeats 4000000 in
theorem rnew_ok (n : Nat) (w : World) (h : 1 ≤ n ∧ n ≤ 4096) : Calls Try.prog 9 #[.int .i64 (n : Int)] w fun e w' => ∃ a c, e = .returned (.tuple #[.slice a n c, .int .i64 0]) ∧ IsF w' (.slice a n c) (newS n) ∧ NewF w w' (.slice a n c) ∧ Below w.heap.size w w' := by
  obtain ⟨w1, hm, ho, hb⟩ := make_bools w n (by omega)
  have h1 : ¬ (n : Int) < 1 := by omega
  have h2 : ¬ 4096 < (n : Int) := by omega
  have HF : Hid (IsF w1 (.slice (some ⟨w.heap.size, 0, none⟩) n n) (newS n) ∧ NewF w w1 (.slice (some ⟨w.heap.size, 0, none⟩) n n) ∧ Below w.heap.size w w1) := hide ⟨by
    have hl : (List.replicate n false).length = n := List.length_replicate
    have h9 : w1.ownsRow w.heap.size 4 1 (.slice (some ⟨w.heap.size, 0, none⟩) n n) (List.replicate n false).length (boolsV (List.replicate n false)) := by rw [hl]; exact ho
    exact owns_isF h9, owns_newF ho, hb⟩
  clear ho hb h
  go_enter Try.func9, Try.ntmps9
  go_wp2
  go_ret2
  obtain ⟨q1, q2, q3⟩ := HF.out
  exact ⟨_, _, rfl, q1, q2, q3⟩
set_option maxHeartbeats 4000000 in
theorem rtake_any (v : Value) (l : SL) (w : World) (hF : IsF w v l) (hl : l.length ≤ 1000000) : Calls Try.prog 11 #[v] w fun e w' => ∃ u, e = .returned (.tuple #[u, .int .i64 ((takeS l).2.1 : Int), .int .i64 (takeS l).2.2]) ∧ ToldF w w' v u (takeS l).1 := by
  obtain ⟨va, vc, rfl⟩ := hF.form
  have HA : Hid (∀ i, i < l.length → ∃ x b o, va = some ⟨b, o, none⟩ ∧ w.cell? ⟨b, o + i, none⟩ = some (.bool x) ∧ leastS (l.drop i) i = if x then leastS (l.drop (i + 1)) (i + 1) else some i) := hide (fun i hi => by
    obtain ⟨b, o, e, hc⟩ := hF.at_ i _ (List.getElem?_eq_getElem hi)
    exact ⟨_, b, o, e, hc, least_drop l i hi⟩)
  have HL0 : Hid (leastS (l.drop 0) 0 = leastS l 0) := hide rfl
  have HNO : Hid (leastS l 0 = none → takeS l = (l, 0, 3)) := hide (fun h => by unfold takeS; rw [h])
  have HYE : Hid (∀ i, leastS l 0 = some i → takeS l = (l.set i true, i, 0)) := hide (fun i h => by unfold takeS; rw [h])
  have HEN := hide (least_end l)
  have HST := hide (fun i (hi : i < l.length) => rset_any _ l i true w hF hi hl)
  have HSM : Hid (ToldF w w (.slice va l.length vc) (.slice va l.length vc) l) := hide ⟨hF, .inl rfl, Below.refl _ _⟩
  generalize hT : takeS l = T at *
  clear hT hF
  generalize hn : l.length = n at *
  go_enter Try.func11, Try.ntmps11
  go_wp2
  go_loop [5] (fun vi => ∃ i : Nat, vi = .int .i64 (i : Int) ∧ i ≤ n ∧ Hid (leastS (l.drop i) i = leastS l 0)) (fun vi => n - (intOf vi).toNat)
  case atStart => exact ⟨0, rfl, Nat.zero_le _, HL0⟩
  case round =>
    clear HL0
    obtain ⟨i, rfl, hi, HL⟩ := hrel
    by_cases hlt : i < n
    · have hlt2 : (i : Int) < n := by omega
      obtain ⟨x, b, o, rfl, hc, hs⟩ := HA.out i hlt
      rw [HL.out] at hs
      have HS := hide hs
      clear hs HL
      cases x
      · have hT := HYE.out i HS.out
        subst hT
        have HS2 := hide (HST.out i hlt)
        clear HST HS HYE HNO HEN HA HSM
        go_wp2_with fail
        refine HS2.out.mono ?_
        rintro e w1 ⟨ua, uc, rfl, q1, q2, q3⟩
        have HF := hide (show ToldF w w1 (.slice (some ⟨b, o, none⟩) n vc) (.slice ua n uc) (l.set i true) from ⟨q1, .inr q2, q3⟩)
        clear q1 q2 q3 HS2
        go_wp2
        go_ret3
        exact ⟨_, rfl, HF.out⟩
      · have HL2 : Hid (leastS (l.drop (i + 1)) (i + 1) = leastS l 0) := hide (by have h9 := HS.out; rw [if_pos rfl] at h9; exact h9.symm)
        clear HS
        go_wp2
        go_round
        case rel => exact ⟨i + 1, by go_num, by omega, HL2⟩
        case measure => simp [intOf]; omega
    · have hlt2 : ¬ (i : Int) < n := by omega
      have hN := HEN.out i (by omega)
      rw [HL.out] at hN
      have hT := HNO.out hN
      subst hT
      clear HL hN HST HYE HNO HEN HA
      go_wp2
      go_ret3
      exact ⟨_, rfl, HSM.out⟩
set_option maxHeartbeats 4000000 in
theorem rgive_any (v : Value) (l : SL) (i : Int) (w : World) (hF : IsF w v l) (hl : l.length ≤ 1000000) : Calls Try.prog 12 #[v, .int .i64 i] w fun e w' => ∃ u, e = .returned (.tuple #[u, .int .i64 (giveS l i).2]) ∧ ToldF w w' v u (giveS l i).1 := by
  have HT := hide (rtaken_any v l i w hF hl)
  have HSM : Hid (ToldF w w v v l) := hide ⟨hF, .inl rfl, Below.refl _ _⟩
  unfold giveS
  cases ht : takenS l i
  · rw [ht] at HT
    obtain ⟨va, vc, rfl⟩ := hF.form
    clear hF ht
    simp only [Bool.false_eq_true, if_false]
    generalize l.length = n at *
    go_enter Try.func12, Try.ntmps12
    go_wp2_with fail
    refine HT.out.mono ?_
    rintro e w1 ⟨rfl, rfl⟩
    clear HT
    go_wp2
    go_ret2
    exact ⟨_, rfl, HSM.out⟩
  · rw [ht] at HT
    have hin : 0 ≤ i ∧ i < (l.length : Int) := by
      unfold takenS at ht
      simp only [Bool.and_eq_true, decide_eq_true_eq] at ht
      exact ⟨ht.1, ht.2.1⟩
    obtain ⟨k, rfl⟩ : ∃ k : Nat, i = (k : Int) := ⟨i.toNat, by omega⟩
    have HST := hide (rset_any v l k false w hF (by omega) hl)
    rw [Int.toNat_natCast]
    obtain ⟨va, vc, rfl⟩ := hF.form
    clear hF ht hin
    simp only [if_true]
    generalize l.length = n at *
    go_enter Try.func12, Try.ntmps12
    go_wp2_with fail
    refine HT.out.mono ?_
    rintro e w1 ⟨rfl, rfl⟩
    clear HT
    go_wp2_with fail
    refine HST.out.mono ?_
    rintro e w2 ⟨ua, uc, rfl, q1, q2, q3⟩
    have HF := hide (show ToldF w1 w2 (.slice va n vc) (.slice ua n uc) (l.set k false) from ⟨q1, .inr q2, q3⟩)
    clear q1 q2 q3 HST
    go_wp2
    go_ret2
    exact ⟨_, rfl, HF.out⟩
end Go.Proofs.Ytkopfigagnagoaa
