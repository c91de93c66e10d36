/- Disks over lists: what stays as it should be; what is safe. No program in it. -/
import Derived.Test.YteacldkfdhhphaaDm14
set_option linter.unusedVariables false
set_option linter.unusedSimpArgs false
namespace Go.Proofs.Yteacldkfdhhphaa

theorem cutB_len (b : Bs) (hb : b.length = 256) (i : Nat) (hi : i < 4) : (cutB b i).length = 64 := by
  unfold cutB
  rw [List.length_take, List.length_drop]
  omega
theorem mem_pieces {n : Nat} {b : Bs} {p : Nat × Bs} (h : p ∈ piecesL n b) : ∃ i, i < 4 ∧ p = (n * 4 + i, cutB b i) := by
  unfold piecesL at h
  obtain ⟨i, hi, rfl⟩ := List.mem_map.1 h
  exact ⟨i, List.mem_range.1 hi, rfl⟩
theorem isD_iff {d : DM} {n : Int} : isD d n = true ↔ 0 ≤ n ∧ n < ((d.safe.length / 4 : Nat) : Int) := by
  unfold isD
  simp only [Bool.and_eq_true, decide_eq_true_eq]
theorem sp_lists (d : DM) : (spendD d).1.safe = d.safe ∧ (spendD d).1.l = d.l := by
  unfold spendD
  split
  · exact ⟨rfl, rfl⟩
  · simp only []
    split <;> exact ⟨rfl, rfl⟩
theorem ok_new (n : Nat) : OkD (newD n) := by
  refine ⟨fun p hp => (by cases hp), fun x hx => ?_, fun p hp => (by cases hp), ?_⟩
  · rw [(List.mem_replicate.1 hx).2]
    rfl
  · show (List.replicate (n * 4) noughtB).length % 4 = 0
    rw [List.length_replicate]
    omega
theorem ok_spend {d : DM} (h : OkD d) : OkD (spendD d).1 := by
  obtain ⟨e1, e2⟩ := sp_lists d
  exact ⟨by rw [e1, e2]; exact h.at_, by rw [e1]; exact h.safe, by rw [e2]; exact h.len, by rw [e1]; exact h.four⟩
theorem ok_write {d : DM} (h : OkD d) (n : Int) (b : Bs) : OkD (writeD d n b).1 := by
  unfold writeD
  split
  · next hw =>
    simp only [Bool.and_eq_true, decide_eq_true_eq] at hw
    obtain ⟨hi, hb⟩ := hw
    obtain ⟨h0, h1⟩ := isD_iff.1 hi
    split
    · have hs := ok_spend h
      obtain ⟨e1, e2⟩ := sp_lists d
      refine ⟨fun p hp => ?_, hs.safe, fun p hp => ?_, hs.four⟩
      · rcases List.mem_append.1 hp with hp | hp
        · exact hs.at_ p hp
        · obtain ⟨i, hi4, rfl⟩ := mem_pieces hp
          show n.toNat * 4 + i < (spendD d).1.safe.length
          rw [e1]
          omega
      · rcases List.mem_append.1 hp with hp | hp
        · exact hs.len p hp
        · obtain ⟨i, hi4, rfl⟩ := mem_pieces hp
          exact cutB_len b hb i hi4
    · exact ok_spend h
  · exact h
theorem put_mem {s : List Bs} {p : Nat × Bs} {x : Bs} (h : x ∈ putS s p) : x ∈ s ∨ x = p.2 := List.mem_or_eq_of_mem_set h
theorem nowL_mem : ∀ (l : List (Nat × Bs)) (s : List Bs) (x : Bs), x ∈ nowL s l → x ∈ s ∨ ∃ p ∈ l, x = p.2
  | [], s, x, h => .inl h
  | p :: r, s, x, h => by
    rcases nowL_mem r (putS s p) x h with h | ⟨q, hq, rfl⟩
    · rcases put_mem h with h | rfl
      · exact .inl h
      · exact .inr ⟨p, List.mem_cons_self .., rfl⟩
    · exact .inr ⟨q, List.mem_cons_of_mem _ hq, rfl⟩
theorem crashL_mem : ∀ (l : List (Nat × Bs)) (k : List Bool) (s : List Bs) (x : Bs), x ∈ crashL s l k → x ∈ s ∨ ∃ p ∈ l, x = p.2
  | [], _, s, x, h => by cases ‹List Bool› <;> exact .inl h
  | p :: r, [], s, x, h => .inl h
  | p :: r, b :: k, s, x, h => by
    rcases crashL_mem r k (if b then putS s p else s) x h with h | ⟨q, hq, rfl⟩
    · cases b
      · exact .inl h
      · rcases put_mem h with h | rfl
        · exact .inl h
        · exact .inr ⟨p, List.mem_cons_self .., rfl⟩
    · exact .inr ⟨q, List.mem_cons_of_mem _ hq, rfl⟩
theorem ok_flush {d : DM} (h : OkD d) : OkD (flushD d).1 := by
  unfold flushD
  have hs := ok_spend h
  split
  · refine ⟨fun p hp => (by cases hp), fun x hx => ?_, fun p hp => (by cases hp), ?_⟩
    · rcases nowL_mem _ _ _ hx with hx | ⟨p, hp, rfl⟩
      · exact hs.safe x hx
      · exact hs.len p hp
    · show (nowD (spendD d).1).length % 4 = 0
      unfold nowD
      rw [nowL_len]
      exact hs.four
  · exact hs
theorem ok_arm {d : DM} (h : OkD d) (k : Int) : OkD (armD d k) := by
  unfold armD
  split
  · exact h
  · exact ⟨h.at_, h.safe, h.len, h.four⟩
theorem ok_crash {d : DM} (h : OkD d) (k : List Bool) : OkD (crashD d k) := by
  refine ⟨fun p hp => (by cases hp), fun x hx => ?_, fun p hp => (by cases hp), ?_⟩
  · rcases crashL_mem _ _ _ _ hx with hx | ⟨p, hp, rfl⟩
    · exact h.safe x hx
    · exact h.len p hp
  · show (crashL d.safe d.l k).length % 4 = 0
    rw [crashL_len]
    exact h.four
/-! Safe: a block that was flushed, and not written since. -/
/-- The sectors of block n are those of b, and none of them is pending. -/
structure KeepB (n : Nat) (b : Bs) (d : DM) : Prop where
  s : ∀ i, i < 4 → d.safe[n * 4 + i]? = some (cutB b i)
  l : ∀ p ∈ d.l, p.1 / 4 ≠ n
theorem put_other {s : List Bs} {p : Nat × Bs} {j : Nat} (h : p.1 ≠ j) : (putS s p)[j]? = s[j]? := by
  unfold putS
  rw [List.getElem?_set]
  rw [if_neg h]
theorem now_other : ∀ (l : List (Nat × Bs)) (s : List Bs) (j : Nat), (∀ p ∈ l, p.1 ≠ j) → (nowL s l)[j]? = s[j]?
  | [], s, j, _ => rfl
  | p :: r, s, j, h => by
    show (nowL (putS s p) r)[j]? = _
    rw [now_other r _ j fun q hq => h q (List.mem_cons_of_mem _ hq), put_other (h p (List.mem_cons_self ..))]
theorem crash_other : ∀ (l : List (Nat × Bs)) (k : List Bool) (s : List Bs) (j : Nat), (∀ p ∈ l, p.1 ≠ j) → (crashL s l k)[j]? = s[j]?
  | [], _, s, j, _ => by cases ‹List Bool› <;> rfl
  | p :: r, [], s, j, _ => rfl
  | p :: r, b :: k, s, j, h => by
    show (crashL (if b then putS s p else s) r k)[j]? = _
    rw [crash_other r k _ j fun q hq => h q (List.mem_cons_of_mem _ hq)]
    cases b
    · rfl
    · exact put_other (h p (List.mem_cons_self ..))
theorem keep_spend {n : Nat} {b : Bs} {d : DM} (h : KeepB n b d) : KeepB n b (spendD d).1 := by
  obtain ⟨e1, e2⟩ := sp_lists d
  exact ⟨by rw [e1]; exact h.s, by rw [e2]; exact h.l⟩
theorem keep_now {n : Nat} {b : Bs} {d : DM} (h : KeepB n b d) (i : Nat) (hi : i < 4) : (nowD d)[n * 4 + i]? = some (cutB b i) := by
  unfold nowD
  rw [now_other d.l d.safe _ fun p hp e => h.l p hp (by omega)]
  exact h.s i hi
theorem keep_write {n : Nat} {b : Bs} {d : DM} (h : KeepB n b d) (m : Int) (hm : m ≠ n) (c : Bs) : KeepB n b (writeD d m c).1 := by
  unfold writeD
  split
  · next hw =>
    simp only [Bool.and_eq_true, decide_eq_true_eq] at hw
    obtain ⟨h0, h1⟩ := isD_iff.1 hw.1
    have hs := keep_spend h
    split
    · refine ⟨hs.s, fun p hp => ?_⟩
      rcases List.mem_append.1 hp with hp | hp
      · exact hs.l p hp
      · obtain ⟨i, hi, rfl⟩ := mem_pieces hp
        show (m.toNat * 4 + i) / 4 ≠ n
        omega
    · exact hs
  · exact h
theorem keep_flush {n : Nat} {b : Bs} {d : DM} (h : KeepB n b d) : KeepB n b (flushD d).1 := by
  unfold flushD
  have hs := keep_spend h
  split
  · exact ⟨fun i hi => keep_now hs i hi, fun p hp => by cases hp⟩
  · exact hs
theorem keep_arm {n : Nat} {b : Bs} {d : DM} (h : KeepB n b d) (k : Int) : KeepB n b (armD d k) := by
  unfold armD
  split
  · exact h
  · exact ⟨h.s, h.l⟩
theorem keep_crash {n : Nat} {b : Bs} {d : DM} (h : KeepB n b d) (k : List Bool) : KeepB n b (crashD d k) := by
  refine ⟨fun i hi => ?_, fun p hp => by cases hp⟩
  show (crashL d.safe d.l k)[n * 4 + i]? = _
  rw [crash_other d.l k d.safe _ fun p hp e => h.l p hp (by omega)]
  exact h.s i hi
theorem cuts_all (b : Bs) (hb : b.length = 256) : cutB b 0 ++ (cutB b 1 ++ (cutB b 2 ++ cutB b 3)) = b := by
  unfold cutB
  have h3 : (b.drop (3 * 64)).take 64 = b.drop 192 := List.take_of_length_le (by rw [List.length_drop]; omega)
  rw [h3]
  have e2 : (b.drop (2 * 64)).take 64 ++ b.drop 192 = b.drop 128 := by
    have := List.take_append_drop 64 (b.drop 128)
    rw [List.drop_drop] at this
    exact this
  rw [e2]
  have e1 : (b.drop (1 * 64)).take 64 ++ b.drop 128 = b.drop 64 := by
    have := List.take_append_drop 64 (b.drop 64)
    rw [List.drop_drop] at this
    exact this
  rw [e1]
  simp
/-- What is kept is read. -/
theorem keep_read {n : Nat} {b : Bs} {d : DM} (h : KeepB n b d) (hb : b.length = 256) (ho : d.off = false) (hn : n * 4 + 4 ≤ d.safe.length) : readD d (n : Int) = (b, 0) := by
  have hi : isD d (n : Int) = true := isD_iff.2 ⟨by omega, by omega⟩
  unfold readD
  rw [hi, if_pos rfl, ho, if_neg (by simp), Int.toNat_natCast]
  have hl : (nowD d).length = d.safe.length := nowL_len _ _
  have hg : ∀ i (hi : i < 4), (nowD d)[n * 4 + i]'(by omega) = cutB b i := fun i hi => by
    have := keep_now h i hi
    rw [List.getElem?_eq_getElem (by omega)] at this
    exact Option.some.inj this
  have e : ((nowD d).drop (n * 4)).take 4 = [cutB b 0, cutB b 1, cutB b 2, cutB b 3] := by
    rw [List.drop_eq_getElem_cons (by omega), List.drop_eq_getElem_cons (by omega), List.drop_eq_getElem_cons (by omega), List.drop_eq_getElem_cons (by omega)]
    simp only [List.take_succ_cons, List.take_zero]
    rw [← hg 0 (by omega), ← hg 1 (by omega), ← hg 2 (by omega), ← hg 3 (by omega)]
    rfl
  rw [e]
  simp only [List.flatten_cons, List.flatten_nil, List.append_nil]
  rw [cuts_all b hb]
/-- Written and flushed. -/
theorem keep_made {d : DM} (h : OkD d) (hf : d.fuse = false) (ho : d.off = false) (hl : d.l = []) (n : Nat) (hn : n * 4 + 4 ≤ d.safe.length) (b : Bs) (hb : b.length = 256) : (writeD d (n : Int) b).2 = 0 ∧ (flushD (writeD d (n : Int) b).1).2 = 0 ∧ KeepB n b (flushD (writeD d (n : Int) b).1).1 := by
  have hi : isD d (n : Int) = true := isD_iff.2 ⟨by omega, by omega⟩
  have hs : spendD d = (d, true) := by unfold spendD; rw [ho, hf]; rfl
  have hw : writeD d (n : Int) b = ({ d with l := d.l ++ piecesL n b }, 0) := by
    unfold writeD
    rw [hi, decide_eq_true hb, Bool.and_true, if_pos rfl, hs, if_pos rfl, Int.toNat_natCast]
  rw [hw]
  have hs2 : spendD { d with l := d.l ++ piecesL n b } = ({ d with l := d.l ++ piecesL n b }, true) := by
    unfold spendD
    simp only []
    rw [ho, hf]
    rfl
  have hfl : flushD { d with l := d.l ++ piecesL n b } = ({ d with safe := nowD { d with l := d.l ++ piecesL n b }, l := [] }, 0) := by
    unfold flushD
    rw [hs2, if_pos rfl]
  rw [hfl]
  refine ⟨rfl, rfl, ⟨fun i hi4 => ?_, fun p hp => by cases hp⟩⟩
  show (nowL d.safe (d.l ++ piecesL n b))[n * 4 + i]? = _
  rw [hl, List.nil_append]
  have key : nowL d.safe (piecesL n b) = (((d.safe.set (n * 4 + 0) (cutB b 0)).set (n * 4 + 1) (cutB b 1)).set (n * 4 + 2) (cutB b 2)).set (n * 4 + 3) (cutB b 3) := rfl
  rw [key]
  rcases (by omega : i = 0 ∨ i = 1 ∨ i = 2 ∨ i = 3) with rfl | rfl | rfl | rfl <;> simp [List.getElem?_set] <;> omega
end Go.Proofs.Yteacldkfdhhphaa
