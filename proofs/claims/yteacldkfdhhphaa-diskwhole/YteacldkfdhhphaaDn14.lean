/- Disks over lists: whole or not; the power. No program in it. -/
import Derived.Test.YteacldkfdhhphaaDl14
set_option linter.unusedVariables false
set_option linter.unusedSimpArgs false
namespace Go.Proofs.Yteacldkfdhhphaa

/-! Whole or not: behind a crash each sector is as it was safe, or as a piece laid it. -/
theorem crash_each : ∀ (l : List (Nat × Bs)) (k : List Bool) (s : List Bs) (j : Nat) (hj : j < s.length), (crashL s l k)[j]? = s[j]? ∨ ∃ p ∈ l, p.1 = j ∧ (crashL s l k)[j]? = some p.2
  | [], _, s, j, hj => by cases ‹List Bool› <;> exact .inl rfl
  | p :: r, [], s, j, hj => .inl rfl
  | p :: r, b :: k, s, j, hj => by
    have hlen : (if b then putS s p else s).length = s.length := by cases b <;> simp [putS]
    rcases crash_each r k (if b then putS s p else s) j (by omega) with h | ⟨q, hq, h1, h2⟩
    · show (crashL (if b then putS s p else s) r k)[j]? = _ ∨ _
      cases b
      · exact .inl h
      · by_cases hp : p.1 = j
        · refine .inr ⟨p, List.mem_cons_self .., hp, ?_⟩
          show (crashL (putS s p) r k)[j]? = _
          rw [show (crashL (putS s p) r k)[j]? = (putS s p)[j]? from h]
          unfold putS
          rw [List.getElem?_set, if_pos hp, if_pos (by omega)]
        · refine .inl ?_
          show (crashL (putS s p) r k)[j]? = _
          rw [show (crashL (putS s p) r k)[j]? = (putS s p)[j]? from h, put_other hp]
    · exact .inr ⟨q, List.mem_cons_of_mem _ hq, h1, h2⟩
/-- All kept: as it is. -/
theorem crash_all : ∀ (l : List (Nat × Bs)) (k : List Bool) (s : List Bs), l.length ≤ k.length → (∀ i, i < l.length → k[i]? = some true) → crashL s l k = nowL s l
  | [], _, s, _, _ => by cases ‹List Bool› <;> rfl
  | p :: r, [], s, h, _ => by simp at h
  | p :: r, b :: k, s, h, hk => by
    have hb : b = true := by
      have := hk 0 (by simp)
      simpa using this
    subst hb
    show crashL (putS s p) r k = nowL (putS s p) r
    exact crash_all r k _ (by simpa using h) fun i hi => by
      have := hk (i + 1) (by simp; omega)
      simpa using this
/-- A write lays its own pieces: behind it each of them is there. -/
theorem now_last (s : List Bs) (l : List (Nat × Bs)) (n : Nat) (b : Bs) (i : Nat) (hi : i < 4) (hn : n * 4 + 4 ≤ s.length) : (nowL s (l ++ piecesL n b))[n * 4 + i]? = some (cutB b i) := by
  have e : nowL s (l ++ piecesL n b) = nowL (nowL s l) (piecesL n b) := by
    unfold nowL
    rw [List.foldl_append]
  have hl : (nowL s l).length = s.length := nowL_len l s
  rw [e]
  have key : nowL (nowL s l) (piecesL n b) = ((((nowL s l).set (n * 4 + 0) (cutB b 0)).set (n * 4 + 1) (cutB b 1)).set (n * 4 + 2) (cutB b 2)).set (n * 4 + 3) (cutB b 3) := rfl
  rw [key]
  rcases (by omega : i = 0 ∨ i = 1 ∨ i = 2 ∨ i = 3) with rfl | rfl | rfl | rfl <;> simp [List.getElem?_set] <;> omega
/-- Writes, one behind the other. -/
def writesL (d : DM) : List (Nat × Bs) → DM
  | [] => d
  | p :: r => writesL { d with l := d.l ++ piecesL p.1 p.2 } r
def flatP (ws : List (Nat × Bs)) : List (Nat × Bs) := ws.flatMap fun p => piecesL p.1 p.2
theorem writes_is : ∀ (ws : List (Nat × Bs)) (d : DM), writesL d ws = { d with l := d.l ++ flatP ws }
  | [], d => by
    show d = _
    unfold flatP
    simp
  | p :: r, d => by
    show writesL _ r = _
    rw [writes_is r]
    unfold flatP
    simp
/-- Behind a crash each sector is as it was, or as one of the writes laid it. -/
theorem whole_or_not (s : List Bs) (ws : List (Nat × Bs)) (hw : ∀ p ∈ ws, p.1 * 4 + 4 ≤ s.length) (k : List Bool) (j : Nat) (hj : j < s.length) : (crashL s (flatP ws) k)[j]? = s[j]? ∨ ∃ i, i < ws.length ∧ (crashL s (flatP ws) k)[j]? = (nowL s (flatP (ws.take (i + 1))))[j]? := by
  rcases crash_each (flatP ws) k s j hj with h | ⟨p, hp, h1, h2⟩
  · exact .inl h
  · right
    unfold flatP at hp
    obtain ⟨q, hq, hpq⟩ := List.mem_flatMap.1 hp
    obtain ⟨i, hi, rfl⟩ := List.getElem_of_mem hq
    obtain ⟨c, hc, rfl⟩ := mem_pieces hpq
    refine ⟨i, hi, ?_⟩
    rw [h2]
    have e : flatP (ws.take (i + 1)) = flatP (ws.take i) ++ piecesL ws[i].1 ws[i].2 := by
      unfold flatP
      rw [List.take_succ_eq_append_getElem hi, List.flatMap_append]
      simp
    rw [e, ← h1]
    exact (now_last s (flatP (ws.take i)) ws[i].1 ws[i].2 c hc (hw _ (List.getElem_mem hi))).symm
/-! The power. -/
theorem spend_fuse {d : DM} (hf : d.fuse = true) (ho : d.off = false) (hl : 0 < d.left) : spendD d = ({ d with left := d.left - 1 }, true) := by
  unfold spendD
  rw [ho, hf, Bool.false_or, Bool.true_and, decide_eq_false (by omega), if_neg (by simp), if_pos rfl]
theorem spend_out {d : DM} (hf : d.fuse = true) (hl : d.left = 0) : spendD d = ({ d with off := true, fuse := false }, false) := by
  unfold spendD
  rw [hf, hl]
  simp
theorem spend_off {d : DM} (ho : d.off = true) : spendD d = ({ d with off := true, fuse := false }, false) := by
  unfold spendD
  rw [ho]
  simp
end Go.Proofs.Yteacldkfdhhphaa
