/- DiskWhole's parts over lists. No program in it. -/
import Derived.Test.YteacldkfdhhphaaFt14
set_option linter.unusedVariables false
set_option linter.unusedSimpArgs false
set_option maxRecDepth 4000
namespace Go.Proofs.Yteacldkfdhhphaa

/-- Three blocks, and what was written. -/
def dmW (ws : List (Nat × Bs)) : DM := { newD 3 with l := flatP ws }
def dumpW (ws : List (Nat × Bs)) : Bs := (nowL (newD 3).safe (flatP ws)).flatten
def crashW (ws : List (Nat × Bs)) (keep : List Bool) : Bs := (crashL (newD 3).safe (flatP ws) keep).flatten
def secB (b : Bs) (j : Nat) : Bs := (b.drop (j * 64)).take 64
structure OkW (ws : List (Nat × Bs)) : Prop where
  n : ∀ p ∈ ws, p.1 < 3
  b : ∀ p ∈ ws, p.2.length = 256
theorem dmW_nil : dmW [] = newD 3 := rfl
theorem dumpW_is (ws : List (Nat × Bs)) : dumpD (dmW ws) = dumpW ws := rfl
theorem crashW_is (ws : List (Nat × Bs)) (keep : List Bool) : dumpD (crashD (dmW ws) keep) = crashW ws keep := rfl
theorem flatP_app (a b : List (Nat × Bs)) : flatP (a ++ b) = flatP a ++ flatP b := by unfold flatP; rw [List.flatMap_append]
theorem flatP_len : ∀ ws : List (Nat × Bs), (flatP ws).length = 4 * ws.length
  | [] => rfl
  | p :: r => by
    show (piecesL p.1 p.2 ++ flatP r).length = _
    rw [List.length_append, pieces_len, flatP_len r, List.length_cons]
    omega
theorem OkW.add {ws : List (Nat × Bs)} (h : OkW ws) {n : Nat} {b : Bs} (hn : n < 3) (hb : b.length = 256) : OkW (ws ++ [(n, b)]) :=
  ⟨fun p hp => by rcases List.mem_append.1 hp with h1 | h1; exact h.n p h1; obtain rfl := List.mem_singleton.1 h1; exact hn, fun p hp => by rcases List.mem_append.1 hp with h1 | h1; exact h.b p h1; obtain rfl := List.mem_singleton.1 h1; exact hb⟩
theorem safe3 : (newD 3).safe.length = 12 := by kernel_rfl
theorem write_w (ws : List (Nat × Bs)) (n : Nat) (hn : n < 3) (b : Bs) (hb : b.length = 256) : writeD (dmW ws) (n : Int) b = (dmW (ws ++ [(n, b)]), 0) := by
  have his : isD (dmW ws) (n : Int) = true := by
    rw [isD_iff]
    show 0 ≤ (n : Int) ∧ (n : Int) < (((newD 3).safe.length / 4 : Nat) : Int)
    rw [safe3]
    omega
  unfold writeD
  rw [his, decide_eq_true hb, Bool.and_true, if_pos rfl]
  have hsp : spendD (dmW ws) = (dmW ws, true) := rfl
  rw [hsp, if_pos rfl]
  have : flatP (ws ++ [(n, b)]) = flatP ws ++ piecesL n b := by
    rw [flatP_app]
    show flatP ws ++ (piecesL n b ++ []) = _
    rw [List.append_nil]
  unfold dmW
  rw [this, Int.toNat_natCast]
theorem ok_w {ws : List (Nat × Bs)} (h : OkW ws) : OkD (dmW ws) := by
  have h0 := (Fit.new (n := 3) (by decide))
  refine ⟨fun p hp => ?_, h0.ok.safe, fun p hp => ?_, h0.ok.four⟩
  · obtain ⟨q, hq, hp2⟩ := List.mem_flatMap.1 hp
    obtain ⟨i, hi, rfl⟩ := mem_pieces hp2
    have := h.n q hq
    show q.1 * 4 + i < (newD 3).safe.length
    rw [safe3]
    omega
  · obtain ⟨q, hq, hp2⟩ := List.mem_flatMap.1 hp
    obtain ⟨i, hi, rfl⟩ := mem_pieces hp2
    exact cutB_len _ (h.b q hq) i hi
theorem fit_w {ws : List (Nat × Bs)} (h : OkW ws) (hl : ws.length ≤ 1000) : Fit (dmW ws) := by
  have h0 := (Fit.new (n := 3) (by decide))
  exact ⟨ok_w h, h0.s, by show (flatP ws).length ≤ _; rw [flatP_len]; omega, h0.left⟩
theorem now64 {ws : List (Nat × Bs)} (h : OkW ws) : ∀ x ∈ nowL (newD 3).safe (flatP ws), x.length = 64 := now_64 _ (ok_w h).safe (ok_w h).len
theorem dumpW_len {ws : List (Nat × Bs)} (h : OkW ws) : (dumpW ws).length = 768 := by
  unfold dumpW
  rw [flat_len _ (now64 h), nowL_len, safe3]
theorem crash64 {ws : List (Nat × Bs)} (h : OkW ws) (k : List Bool) : ∀ x ∈ crashL (newD 3).safe (flatP ws) k, x.length = 64 := by
  intro x hx
  have hf := ok_w h
  rcases crashL_mem _ _ _ _ hx with h1 | ⟨p, hp, rfl⟩
  · exact hf.safe x h1
  · exact hf.len p hp
theorem crashW_len {ws : List (Nat × Bs)} (h : OkW ws) (k : List Bool) : (crashW ws k).length = 768 := by
  unfold crashW
  rw [flat_len _ (crash64 h k), crashL_len, safe3]
theorem sec_flat : ∀ (l : List Bs) (j : Nat), (∀ x ∈ l, x.length = 64) → (hj : j < l.length) → secB l.flatten j = l[j]
  | [], j, _, hj => by simp at hj
  | x :: r, 0, h, _ => by
    unfold secB
    have hx := h x (List.mem_cons_self ..)
    rw [List.flatten_cons, Nat.zero_mul, List.drop_zero, List.take_append_of_le_length (by omega), List.take_of_length_le (by omega)]
    rfl
  | x :: r, j + 1, h, hj => by
    have hx := h x (List.mem_cons_self ..)
    have ih := sec_flat r j (fun y hy => h y (List.mem_cons_of_mem _ hy)) (by simpa using hj)
    unfold secB at ih ⊢
    rw [List.flatten_cons, show (j + 1) * 64 = x.length + j * 64 by omega, List.drop_append, List.drop_of_length_le (by omega), List.nil_append, show x.length + j * 64 - x.length = j * 64 by omega, ih]
    rfl
theorem okW_take {ws : List (Nat × Bs)} (h : OkW ws) (k : Nat) : OkW (ws.take k) := ⟨fun p hp => h.n p (List.mem_of_mem_take hp), fun p hp => h.b p (List.mem_of_mem_take hp)⟩
theorem okW_nil : OkW [] := ⟨fun p hp => (by cases hp), fun p hp => (by cases hp)⟩
theorem sec_dump {ws : List (Nat × Bs)} (h : OkW ws) (j : Nat) (hj : j < 12) : (nowL (newD 3).safe (flatP ws))[j]? = some (secB (dumpW ws) j) := by
  have hl : j < (nowL (newD 3).safe (flatP ws)).length := by rw [nowL_len, safe3]; exact hj
  unfold dumpW
  rw [sec_flat _ j (now64 h) hl, List.getElem?_eq_getElem hl]
theorem sec_crash {ws : List (Nat × Bs)} (h : OkW ws) (k : List Bool) (j : Nat) (hj : j < 12) : (crashL (newD 3).safe (flatP ws) k)[j]? = some (secB (crashW ws k) j) := by
  have hl : j < (crashL (newD 3).safe (flatP ws) k).length := by rw [crashL_len, safe3]; exact hj
  unfold crashW
  rw [sec_flat _ j (crash64 h k) hl, List.getElem?_eq_getElem hl]
/-- Each sector is as it was, or as one of the writes laid it. -/
theorem whole_sec {ws : List (Nat × Bs)} (h : OkW ws) (k : List Bool) (j : Nat) (hj : j < 12) : secB (crashW ws k) j = secB (dumpW []) j ∨ ∃ i, i < ws.length ∧ secB (crashW ws k) j = secB (dumpW (ws.take (i + 1))) j := by
  have hw := whole_or_not (newD 3).safe ws (fun p hp => by have := h.n p hp; rw [safe3]; omega) k j (by rw [safe3]; exact hj)
  rw [sec_crash h k j hj] at hw
  rcases hw with h1 | ⟨i, hi, h1⟩
  · left
    have h2 := sec_dump okW_nil j hj
    exact Option.some.inj (h1.trans h2)
  · right
    rw [sec_dump (okW_take h (i + 1)) j hj] at h1
    exact ⟨i, hi, Option.some.inj h1⟩
theorem whole_all {ws : List (Nat × Bs)} (k : List Bool) (hk : 4 * ws.length ≤ k.length) (ha : ∀ i, i < 4 * ws.length → k[i]? = some true) : crashW ws k = dumpW ws := by
  unfold crashW dumpW
  rw [crash_all _ _ _ (by rw [flatP_len]; exact hk) (by rw [flatP_len]; exact ha)]
/-- The loop that asks whether all is kept. -/
def keptB (n : Nat) (k : List Bool) : Nat → Bool
  | 0 => decide (n ≤ k.length)
  | i + 1 => keptB n k i && (k.getD i false || decide (n ≤ i))
theorem kept_all (n : Nat) (k : List Bool) : ∀ i, keptB n k i = true → n ≤ k.length ∧ ∀ j, j < i → j < n → k.getD j false = true
  | 0, h => ⟨of_decide_eq_true h, fun j hj => by omega⟩
  | i + 1, h => by
    unfold keptB at h
    simp only [Bool.and_eq_true, Bool.or_eq_true, decide_eq_true_eq] at h
    obtain ⟨h1, h2⟩ := kept_all n k i h.1
    refine ⟨h1, fun j hj hjn => ?_⟩
    by_cases hji : j = i
    · subst hji
      exact h.2.resolve_right (by omega)
    · exact h2 j (by omega) hjn
theorem kept_end {n : Nat} {k : List Bool} (h : keptB n k k.length = true) : n ≤ k.length ∧ ∀ j, j < n → k[j]? = some true := by
  obtain ⟨h1, h2⟩ := kept_all n k k.length h
  refine ⟨h1, fun j hj => ?_⟩
  have h3 := h2 j (by omega) hj
  rw [List.getD_eq_getElem?_getD] at h3
  rw [List.getElem?_eq_getElem (show j < k.length by omega)] at h3 ⊢
  simpa using h3
end Go.Proofs.Yteacldkfdhhphaa
