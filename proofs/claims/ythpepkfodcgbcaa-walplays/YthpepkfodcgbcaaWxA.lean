import Derived.Test.YthpepkfodcgbcaaWq05
import Derived.Test.YthpepkfodcgbcaaWq03
import Derived.Test.YthpepkfodcgbcaaWq10
import Derived.Test.YthpepkfodcgbcaaWq16
import Derived.Test.YthpepkfodcgbcaaWq02
import Derived.Test.YthpepkfodcgbcaaWq35
/- Logs and disks that are not too great, and stay so; a calm disk. No program in it. -/
set_option linter.unusedVariables false
set_option linter.unusedSimpArgs false
namespace Go.Proofs.Ythpepkfodcgbcaa

theorem rec_pos {ep : Nat} {l : List Bs} {b : Bs} {li n : Nat} (h : recL ep l = some (b, li, n)) : 0 < n := by
  unfold recL at h
  split at h
  · cases h
  · next s r =>
    split at h
    · cases h
    · next c hc =>
      split at h
      · next g =>
        split at h
        · cases h
        · split at h
          · cases h
          · injection h with h
            injection h with h1 h2
            injection h2 with h2 h3
            have hm := (dec_li' hc)
            omega
      · cases h
where
  dec_li' {s : Bs} {c : CL} (hc : decC s = some c) : c.part < c.of ∧ 0 ≤ c.part := by
    have h := (enc_dec hc).2.1
    exact ⟨h.2.1, h.1⟩
theorem read_few (ep : Nat) : ∀ (k : Nat) (l : List Bs) (least : Nat), (readL ep k l least).length ≤ sumP (readL ep k l least)
  | 0, l, least => Nat.zero_le _
  | k + 1, l, least => by
    unfold readL
    split
    · exact Nat.zero_le _
    · next b li n hr =>
      split
      · have h1 := read_few ep k (l.drop n) li
        have h2 := rec_pos hr
        show (readL ep k (l.drop n) li).length + 1 ≤ n + sumP (readL ep k (l.drop n) li)
        omega
      · exact Nat.zero_le _
theorem read_sum {ep : Nat} {l : List Bs} : sumP (readL ep l.length l 0) ≤ l.length := by
  obtain ⟨h1, _⟩ := read_path (ep := ep) (l := l) (least := 0) (Nat.le_refl l.length)
  exact path_le h1
theorem writes_fit (s : List Bs) : ∀ (k n : Nat) (d : DM), Fit d → d.l.length + 4 * k ≤ 100000 → Fit (writesW s d k n).1 ∧ (writesW s d k n).1.safe = d.safe ∧ (writesW s d k n).1.l.length ≤ d.l.length + 4 * k
  | 0, n, d, h, _ => ⟨h, rfl, Nat.le_refl _⟩
  | k + 1, n, d, h, hl => by
    have h1 := h.write (by omega) (n : Int) (blkW s n)
    have h2 := write_size d (n : Int) (blkW s n)
    unfold writesW
    split
    · obtain ⟨q1, q2, q3⟩ := writes_fit s k (n + 1) _ h1 (by omega)
      exact ⟨q1, q2.trans h2.1, by omega⟩
    · exact ⟨h1, h2.1, by omega⟩
/-- A log on its disk, so many acts on. -/
structure FitW (i : Nat) (d : DM) (m : LM) : Prop where
  fit : Fit d
  l : d.l.length ≤ 200 * i
  ok : OkG m
  room : (m.first + m.size) * 4 ≤ d.safe.length
  recs : m.recs.length ≤ m.end_
theorem FitW.mono {i j : Nat} {d : DM} {m : LM} (h : FitW i d m) (hj : i ≤ j) : FitW j d m := ⟨h.fit, by have := h.l; omega, h.ok, h.room, h.recs⟩
theorem why_zero {m : LM} {b : Bs} (h : whyW m b = 0) : 0 < b.length ∧ b.length ≤ 6000 ∧ m.broken = false ∧ b.length ≤ roomW m := by
  unfold whyW at h
  split at h
  · cases h
  · split at h
    · cases h
    · split at h
      · cases h
      · next q =>
        split at h
        · cases h
        · exact ⟨by omega, by omega, by simpa using q, by omega⟩
theorem FitW.append {i : Nat} {d : DM} {m : LM} (h : FitW i d m) (hi : i ≤ 400) (b : Bs) : FitW (i + 1) (appendW m d b).2.1 (appendW m d b).1 ∧ (appendW m d b).2.1.safe = d.safe ∧ (appendW m d b).1.first = m.first ∧ (appendW m d b).1.size = m.size ∧ (appendW m d b).1.ep = m.ep ∧ (appendW m d b).1.li = m.li := by
  unfold appendW
  by_cases hw : whyW m b = 0
  · rw [if_pos hw]
    obtain ⟨w1, w2, w3, w4⟩ := why_zero hw
    obtain ⟨r1, r2, r3⟩ := room_fits w3 w4 w1 h.ok.le
    have hn : nW m = m.size * 4 := rfl
    have hsl := secs_len (b := b) m.ep m.li (by omega)
    obtain ⟨q1, q2, q3⟩ := writes_fit (laidW (nowD d) (fromW m) (secsC b m.ep m.li)) ((fromW m + (secsC b m.ep m.li).length - 1) / 4 + 1 - fromW m / 4) (fromW m / 4) d h.fit (by have := h.l; omega)
    have hl := h.l
    have hpw : putW m d b = writesW (laidW (nowD d) (fromW m) (secsC b m.ep m.li)) d ((fromW m + (secsC b m.ep m.li).length - 1) / 4 + 1 - fromW m / 4) (fromW m / 4) := rfl
    rw [← hpw] at q1 q2 q3
    have ho := h.ok
    have hr := h.recs
    have hro := h.room
    by_cases he : (putW m d b).2 = 0
    · rw [if_pos he]
      refine ⟨⟨q1, by show (putW m d b).1.l.length ≤ _; omega, ⟨ho.first, ho.size, by show m.end_ + (secsC b m.ep m.li).length ≤ m.size * 4; omega, ho.ep, ho.li⟩, by show (m.first + m.size) * 4 ≤ (putW m d b).1.safe.length; rw [q2]; exact hro, ?_⟩, q2, rfl, rfl, rfl, rfl⟩
      show (m.recs ++ [b]).length ≤ m.end_ + (secsC b m.ep m.li).length
      rw [List.length_append, List.length_singleton]
      omega
    · rw [if_neg he]
      exact ⟨⟨q1, by show (putW m d b).1.l.length ≤ _; omega, ⟨ho.first, ho.size, ho.le, ho.ep, ho.li⟩, by show (m.first + m.size) * 4 ≤ (putW m d b).1.safe.length; rw [q2]; exact hro, hr⟩, q2, rfl, rfl, rfl, rfl⟩
  · rw [if_neg hw]
    exact ⟨h.mono (Nat.le_succ i), rfl, rfl, rfl, rfl, rfl⟩
theorem FitW.sync {i : Nat} {d : DM} {m : LM} (h : FitW i d m) : FitW i (syncW m d).2.1 (syncW m d).1 ∧ (syncW m d).2.1.safe.length = d.safe.length ∧ (syncW m d).1.first = m.first ∧ (syncW m d).1.size = m.size ∧ (syncW m d).1.ep = m.ep ∧ (syncW m d).1.li = m.li := by
  unfold syncW
  split
  · exact ⟨h, rfl, rfl, rfl, rfl, rfl⟩
  · have h1 := h.fit.flush
    have h2 := flush_size d
    have hl := h.l
    have hro := h.room
    have ho := h.ok
    split
    · exact ⟨⟨h1, by show (flushD d).1.l.length ≤ _; omega, ho, by show (m.first + m.size) * 4 ≤ (flushD d).1.safe.length; omega, h.recs⟩, h2.1, rfl, rfl, rfl, rfl⟩
    · exact ⟨⟨h1, by show (flushD d).1.l.length ≤ _; omega, ⟨ho.first, ho.size, ho.le, ho.ep, ho.li⟩, by show (m.first + m.size) * 4 ≤ (flushD d).1.safe.length; omega, h.recs⟩, h2.1, rfl, rfl, rfl, rfl⟩
theorem FitW.reset {i : Nat} {d : DM} {m : LM} (h : FitW i d m) (ep : Nat) (he : ep < 18446744073709551616) : FitW i d (resetW m ep).1 ∧ (resetW m ep).1.first = m.first ∧ (resetW m ep).1.size = m.size ∧ (resetW m ep).1.li = m.li := by
  unfold resetW
  have ho := h.ok
  split
  · exact ⟨h, rfl, rfl, rfl⟩
  · split
    · exact ⟨h, rfl, rfl, rfl⟩
    · exact ⟨⟨h.fit, h.l, ⟨ho.first, ho.size, Nat.zero_le _, he, ho.li⟩, h.room, Nat.zero_le _⟩, rfl, rfl, rfl⟩
theorem FitW.arm {i : Nat} {d : DM} {m : LM} (h : FitW i d m) (n : Int) (hn : n ≤ 9223372036854775807) : FitW i (armD d n) m := by
  obtain ⟨e1, e2⟩ := armW_lists d n
  exact ⟨h.fit.arm n hn, by rw [e2]; exact h.l, h.ok, by rw [e1]; exact h.room, h.recs⟩
/-- A log that was opened. -/
theorem open_fit {d : DM} {first size ep : Nat} {m : LM} (h : Fit d) (h1 : first ≤ 10000) (h2 : size ≤ 10000) (hr : (first + size) * 4 ≤ d.safe.length) (he : ep < 18446744073709551616) (hm : openW d (first : Int) (size : Int) ep = (some m, 0)) (i : Nat) (hl : d.l.length ≤ 200 * i) : FitW i d m ∧ m.first = first ∧ m.size = size ∧ m.ep = ep ∧ m.broken = false := by
  unfold openW at hm
  split at hm
  · split at hm
    · cases hm
    · split at hm
      · cases hm
      · next q =>
        rw [Int.toNat_natCast, Int.toNat_natCast] at hm q
        injection hm with hm
        injection hm with hm
        subst hm
        have hlen : (regW (nowD d) first size).length = size * 4 := reg_len _ _ _ (by rw [now_len]; exact hr)
        have h3 : lifeW (regW (nowD d) first size) ≤ 18446744073709551615 := life_le fun x _ c hc => by
          have := (enc_dec hc).2.2.2
          have h9 : c.li < 18446744073709551616 := by
            rw [this]
            exact Nat.lt_of_lt_of_le (num_lt _) (by
              have hx : (List.take 8 (List.drop 8 x)).length ≤ 8 := by rw [List.length_take]; omega
              exact Nat.le_trans (Nat.pow_le_pow_right (by decide) hx) (by decide))
          omega
        have h4 := read_sum (ep := ep) (l := regW (nowD d) first size)
        have h5 := read_few ep (regW (nowD d) first size).length (regW (nowD d) first size) 0
        refine ⟨⟨h, hl, ⟨h1, h2, ?_, he, ?_⟩, hr, ?_⟩, rfl, rfl, rfl, rfl⟩
        · show sumP (readL ep (regW (nowD d) first size).length (regW (nowD d) first size) 0) ≤ size * 4
          omega
        · show lifeW (regW (nowD d) first size) + 1 < 18446744073709551616
          omega
        · show (told (readL ep (regW (nowD d) first size).length (regW (nowD d) first size) 0)).length ≤ sumP (readL ep (regW (nowD d) first size).length (regW (nowD d) first size) 0)
          rw [told_len]
          exact h5
  · cases hm
/-- A disk whose power does not go. -/
def Calm (d : DM) : Prop := d.fuse = false ∧ d.off = false
theorem spend_calm {d : DM} (h : Calm d) : spendD d = (d, true) := by
  unfold spendD
  rw [h.1, h.2]
  rfl
theorem writes_calm (s : List Bs) (h64 : ∀ x ∈ s, x.length = 64) : ∀ (k n : Nat) (d : DM), (n + k) * 4 ≤ s.length → s.length = d.safe.length → Calm d → (writesW s d k n).2 = 0 ∧ Calm (writesW s d k n).1
  | 0, n, d, _, _, hc => ⟨rfl, hc⟩
  | k + 1, n, d, hn, hs, hc => by
    have hb := blkW_len (n := n) h64 (by omega)
    have hw := write_in (d := d) (n := n) (b := blkW s n) (by omega) hb
    rw [spend_calm hc] at hw
    simp only [if_true] at hw
    unfold writesW
    rw [hw, if_pos rfl]
    exact writes_calm s h64 k (n + 1) _ (by omega) hs hc
theorem calm_append {i : Nat} {d : DM} {m : LM} (h : FitW i d m) (hc : Calm d) (hw : ∀ b : Bs, True) (b : Bs) (hy : whyW m b = 0) : (appendW m d b).2.2 = 0 ∧ Calm (appendW m d b).2.1 ∧ (appendW m d b).1 = { m with recs := m.recs ++ [b], end_ := m.end_ + (b.length + 38) / 39 } := by
  obtain ⟨w1, w2, w3, w4⟩ := why_zero hy
  obtain ⟨r1, r2, r3⟩ := room_fits w3 w4 w1 h.ok.le
  have hn : nW m = m.size * 4 := rfl
  have hsl := secs_len (b := b) m.ep m.li (by omega)
  have hro := h.room
  have hfrom : fromW m = m.first * 4 + m.end_ := rfl
  have hin : fromW m + (secsC b m.ep m.li).length ≤ (nowD d).length := by rw [now_len, hfrom]; omega
  have h64 : ∀ x ∈ laidW (nowD d) (fromW m) (secsC b m.ep m.li), x.length = 64 := by
    have hn64 : ∀ y ∈ nowD d, y.length = 64 := fun y hy => by
      obtain ⟨j, hj, rfl⟩ := List.mem_iff_getElem.1 hy
      exact poss_64 h.fit.ok (now_poss (List.getElem?_eq_getElem hj))
    intro x hx
    unfold laidW at hx
    rcases List.mem_append.1 hx with hx | hx
    · exact hn64 x (List.mem_of_mem_take hx)
    · rcases List.mem_append.1 hx with hx | hx
      · obtain ⟨_, _, _, _, e⟩ := secs_mem (b := b) h.ok.ep h.ok.li hx
        exact e
      · exact hn64 x (List.mem_of_mem_drop hx)
  have hll := laidW_len (nowD d) (fromW m) (secsC b m.ep m.li) hin
  have h4 := h.fit.ok.four
  have hw := writes_calm (laidW (nowD d) (fromW m) (secsC b m.ep m.li)) h64 ((fromW m + (secsC b m.ep m.li).length - 1) / 4 + 1 - fromW m / 4) (fromW m / 4) d (by rw [hll, now_len]; rw [now_len] at hin; omega) (by rw [hll, now_len]) hc
  have hpw : putW m d b = writesW (laidW (nowD d) (fromW m) (secsC b m.ep m.li)) d ((fromW m + (secsC b m.ep m.li).length - 1) / 4 + 1 - fromW m / 4) (fromW m / 4) := rfl
  rw [← hpw] at hw
  unfold appendW
  rw [if_pos hy, if_pos hw.1, hsl]
  exact ⟨hw.1, hw.2, rfl⟩
end Go.Proofs.Ythpepkfodcgbcaa
/- What the statements' own small, pick and begins answer. -/
set_option linter.unusedVariables false
set_option linter.unusedSimpArgs false
set_option maxRecDepth 40000
namespace Go.Proofs.Ythpepkfodcgbcaa
open Go.RowKit

/-- What is there of one act of a script, in every later world. -/
theorem IsA.at_ {w : World} {a : Option Addr} {n c : Nat} {l : List AW} (h : IsA w (.slice a n c) l) (i : Nat) (hi : i < l.length) :
    ∃ b o, a = some ⟨b, o, none⟩ ∧ n = l.length ∧ (∀ x, Below w.heap.size w x → x.cell? ⟨b, o + i * 4, none⟩ = some (.int .i64 l[i].kind) ∧ x.cell? ⟨b, o + i * 4 + 1, none⟩ = some (.int .i64 l[i].n) ∧ x.cell? ⟨b, o + i * 4 + 2, none⟩ = some l[i].bv ∧ x.cell? ⟨b, o + i * 4 + 3, none⟩ = some l[i].kv) ∧ IsY w l[i].bv l[i].b ∧ IsF w l[i].kv l[i].keep := by
  obtain ⟨h1, h2⟩ := h
  have hm := h2 _ (List.getElem_mem hi)
  rcases h1 with ⟨rfl, _⟩ | ⟨b, o, cap, e, hc⟩
  · simp at hi
  · injection e with e1 e2 e3
    subst e1 e2 e3
    obtain ⟨c0, c1, c2, c3⟩ := hc i hi
    exact ⟨b, o, rfl, rfl, fun x hb => ⟨(hb.cell (cell_lt c0)).trans c0, (hb.cell (cell_lt c1)).trans c1, (hb.cell (cell_lt c2)).trans c2, (hb.cell (cell_lt c3)).trans c3⟩, hm⟩
theorem IsA.form {w : World} {v : Value} {l : List AW} (h : IsA w v l) : ∃ a c, v = .slice a l.length c := by
  rcases h.1 with ⟨rfl, a, c, rfl⟩ | ⟨b, o, cap, rfl, _⟩
  · exact ⟨_, _, rfl⟩
  · exact ⟨_, _, rfl⟩
abbrev awC (a : AW) : Array Value := #[.int .i64 a.kind, .int .i64 a.n, a.bv, a.kv]
abbrev awA (a : AW) : Value := .agg (awC a)
def smallW (a : AW) : Bool := decide (a.b.length ≤ 600) && decide (a.keep.length ≤ 400)
set_option maxHeartbeats 1000000 in
theorem small17_any (a : AW) (w : World) (hY : IsY w a.bv a.b) (hF : IsF w a.kv a.keep) :
    Calls Try.prog 13 #[awA a] w fun e w' => e = .returned (.bool (smallW a)) ∧ Below w.heap.size w w' := by
  have BB := hide (below_alloc w (.cells (awC a) 46))
  obtain ⟨kind, n, b, keep, bv, kv⟩ := a
  simp only [] at *
  obtain ⟨ba, bc, rfl⟩ := hY.form
  obtain ⟨ka, kc, rfl⟩ := hF.form
  unfold smallW
  simp only []
  clear hY hF
  generalize b.length = bl at *
  generalize keep.length = kl at *
  by_cases h1 : bl ≤ 600
  · have h1i : (bl : Int) ≤ 600 := by omega
    rw [decide_eq_true h1, Bool.true_and]
    by_cases h2 : kl ≤ 400
    · have h2i : (kl : Int) ≤ 400 := by omega
      rw [decide_eq_true h2]
      clear h1 h2
      go_enter Try.func13, Try.ntmps13
      go_wp2
      go_ret
      exact ⟨rfl, BB.out⟩
    · have h2i : ¬ (kl : Int) ≤ 400 := by omega
      rw [decide_eq_false h2]
      clear h1 h2
      go_enter Try.func13, Try.ntmps13
      go_wp2
      go_ret
      exact ⟨rfl, BB.out⟩
  · have h1i : ¬ (bl : Int) ≤ 600 := by omega
    rw [decide_eq_false h1, Bool.false_and]
    clear h1
    go_enter Try.func13, Try.ntmps13
    go_wp2
    go_ret
    exact ⟨rfl, BB.out⟩
set_option maxHeartbeats 1000000 in
theorem pick17_any (n k : Int) (hk : 0 < k) (hk2 : k ≤ 1000000) (w : World) :
    Calls Try.prog 8 #[.int .i64 n, .int .i64 k] w fun e w' => e = .returned (.int .i64 (pickN n k)) ∧ w' = w := by
  have hb : -1000000 ≤ n.tmod k ∧ n.tmod k ≤ 1000000 := by
    have h1 : -k < n.tmod k ∧ n.tmod k < k := by
      rcases Int.le_total 0 n with h | h
      · have := Int.tmod_lt_of_pos n hk
        have := Int.tmod_nonneg k h
        omega
      · have := Int.tmod_lt_of_pos n hk
        have h3 := Int.tmod_nonneg k (show 0 ≤ -n by omega)
        have h4 := Int.tmod_lt_of_pos (-n) hk
        rw [Int.neg_tmod] at h3 h4
        omega
    omega
  have hk0 : (k == 0) = false := by rw [beq_eq_false_iff_ne]; omega
  have hk1 : (k == -1) = false := by rw [beq_eq_false_iff_ne]; omega
  have hk00 : ¬ k = 0 := by omega
  have hk11 : ¬ k = -1 := by omega
  unfold pickN
  generalize hm : n.tmod k = m at *
  have hw : wrap64 (m + k) = m + k := by unfold wrap64; omega
  go_enter Try.func8, Try.ntmps8
  go_wp2
  go_ret
  exact ⟨by first | rfl | simp_all, rfl⟩
end Go.Proofs.Ythpepkfodcgbcaa
/- WalFull's walk. -/
set_option linter.unusedVariables false
set_option linter.unusedSimpArgs false
set_option maxRecDepth 40000
namespace Go.Proofs.Ythpepkfodcgbcaa
open Go.RowKit

theorem open_new8 (q : Nat) (h : q < 8) : openW (newD (q + 1)) ((0 : Nat) : Int) ((q + 1 : Nat) : Int) 1 = (some ⟨0, q + 1, 1, 1, 0, [], false⟩, 0) := by
  rcases (by omega : q = 0 ∨ q = 1 ∨ q = 2 ∨ q = 3 ∨ q = 4 ∨ q = 5 ∨ q = 6 ∨ q = 7) with rfl | rfl | rfl | rfl | rfl | rfl | rfl | rfl <;> kernel_rfl
theorem calm_new (n : Nat) : Calm (newD n) := ⟨rfl, rfl⟩
/-- A log of a few blocks on a disk whose power does not go. -/
structure FullS (w : World) (dv lv : Value) (q i : Nat) (d : DM) (m : LM) (x : World) : Prop where
  l : LW w dv lv d m x
  f : FitW i d m
  c : Calm d
  s : d.safe.length = 4 * (q + 1)
  m : m.broken = false ∧ m.first = 0 ∧ m.size = q + 1
theorem FullS.below {w x y : World} {dv lv : Value} {q i : Nat} {d : DM} {m : LM} (h : FullS w dv lv q i d m x) (hb : Below x.heap.size x y) : FullS w dv lv q i d m y := ⟨h.l.below hb, h.f, h.c, h.s, h.m⟩
theorem FullS.room {w x : World} {dv lv : Value} {q i : Nat} {d : DM} {m : LM} (h : FullS w dv lv q i d m x) (hq : q < 8) : roomW m = (4 * (q + 1) - m.end_) * 39 ∧ roomW m ≤ 1248 := by
  obtain ⟨h1, h2, h3⟩ := h.m
  unfold roomW
  rw [h1, if_neg Bool.false_ne_true, h3, Nat.min_eq_left (by omega)]
  omega
/-- What an append of a few bytes does. -/
theorem full_append {w x x1 : World} {dv lv : Value} {q i : Nat} {d : DM} {m : LM} {bv : Value} {b : Bs} (h : FullS w dv lv q i d m x) (hq : q < 8) (hi : i ≤ 400) (hb : Below x.heap.size x x1) (hY : IsY x1 bv b) (ho : b ≠ [] → ∀ k, bv.ownBlock = some k → k < w.heap.size ∨ x.heap.size ≤ k) (hl : b.length ≤ 6000) (h0 : 0 < b.length) :
    Calls Try.prog 14 #[lv, bv] x1 fun e y => (b.length ≤ roomW m ∧ e = .returned (.int .i64 0) ∧ ∃ d' m', Hid (FullS w dv lv q (i + 1) d' m' y) ∧ roomW m' < roomW m) ∨ (roomW m < b.length ∧ e = .returned (.int .i64 3) ∧ Hid (FullS w dv lv q (i + 1) d m y)) := by
  obtain ⟨m1, m2, m3⟩ := h.m
  have hs := h.s
  have hA := h.f.append hi b
  refine (lw_append h.l hb h.f.fit (by have := h.f.l; omega) (by omega) (by rw [m2, m3, h.s]; omega) h.f.ok (by have := h.f.recs; have := h.f.ok.le; omega) hY ho (by omega)).mono ?_
  rintro e y ⟨rfl, L⟩
  have hr := h.room hq
  by_cases hle : b.length ≤ roomW m
  · have hy : whyW m b = 0 := by
      unfold whyW
      rw [if_neg (by omega), if_neg (by omega), if_neg (by rw [m1]; exact Bool.false_ne_true), if_neg (by omega)]
    obtain ⟨a1, a2, a3⟩ := calm_append h.f h.c (fun _ => trivial) b hy
    refine .inl ⟨hle, by rw [a1], _, _, hide ⟨L.out, hA.1, a2, by rw [hA.2.1]; exact h.s, ?_⟩, ?_⟩
    · rw [a3]; exact ⟨m1, m2, m3⟩
    · have h2 : FullS w dv lv q (i + 1) (appendW m d b).2.1 (appendW m d b).1 y := ⟨L.out, hA.1, a2, by rw [hA.2.1]; exact h.s, by rw [a3]; exact ⟨m1, m2, m3⟩⟩
      have hr2 := h2.room hq
      rw [hr2.1, hr.1, a3]
      show (4 * (q + 1) - (m.end_ + (b.length + 38) / 39)) * 39 < (4 * (q + 1) - m.end_) * 39
      omega
  · have hy : whyW m b = 3 := by
      unfold whyW
      rw [if_neg (by omega), if_neg (by omega), if_neg (by rw [m1]; exact Bool.false_ne_true), if_pos (by omega)]
    have ha : appendW m d b = (m, d, 3) := by
      unfold appendW
      rw [if_neg (by rw [hy]; decide), hy]
    rw [ha] at L ⊢
    exact .inr ⟨by omega, rfl, hide ⟨L.out, h.f.mono (Nat.le_succ i), h.c, h.s, h.m⟩⟩
theorem full_none {w x : World} {dv lv : Value} {q i : Nat} {d : DM} {m : LM} (h : FullS w dv lv q i d m x) (hq : q < 8) (hi : i ≤ 400) :
    Calls Try.prog 14 #[lv, .slice none 0 0] x fun e y => e = .returned (.int .i64 1) ∧ Hid (Below w.heap.size w y) := by
  obtain ⟨m1, m2, m3⟩ := h.m
  have hs := h.s
  refine (lw_append (bv := .slice none 0 0) (b := []) h.l (Below.refl _ _) h.f.fit (by have := h.f.l; omega) (by omega) (by rw [m2, m3, h.s]; omega) h.f.ok (by have := h.f.recs; have := h.f.ok.le; omega) (.inl ⟨rfl, _, _, rfl⟩) (fun h => absurd rfl h) (by decide)).mono ?_
  rintro e y ⟨rfl, L⟩
  exact ⟨rfl, hide L.out.b⟩
theorem full_make {n : Nat} (w : World) (hn : n ≤ 100000) : ∃ w1, (Instr.makeSlice 43 (.int .i64 (n : Int)) (.int .i64 (n : Int))).run Try.prog w = .ok (.slice (some ⟨w.heap.size, 0, none⟩) n n) w1 ∧ IsY w1 (.slice (some ⟨w.heap.size, 0, none⟩) n n) (List.replicate n 0) ∧ Below w.heap.size w w1 := by
  obtain ⟨w1, h1, h2, h3⟩ := make_great w n (by omega)
  exact ⟨w1, h1, (row_newY (B := w.heap.size) h2 (Nat.le_refl _) (by rw [List.length_replicate])).isY, h3⟩
end Go.Proofs.Ythpepkfodcgbcaa
