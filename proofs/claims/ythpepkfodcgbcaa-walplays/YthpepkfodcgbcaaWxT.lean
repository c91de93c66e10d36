import Derived.Test.YthpepkfodcgbcaaWxA
/- WalKeeps over lists, act by act. No program in it. -/
set_option linter.unusedVariables false
set_option linter.unusedSimpArgs false
namespace Go.Proofs.Ythpepkfodcgbcaa

structure KT (i sure e : Nat) (d : DM) (m : LM) : Prop where
  k : KeepW d m sure
  f : FitW i d m
  s : d.safe.length = 40
  g : m.first = 2 ∧ m.size = 8 ∧ m.ep = e
  b : e ≤ 1 + i ∧ m.li ≤ 1 + i ∧ sure ≤ m.recs.length
theorem KT.few {i sure e : Nat} {d : DM} {m : LM} (h : KT i sure e d m) : m.recs.length ≤ 32 := by
  have := h.f.recs
  have := h.f.ok.le
  have := h.g.2.1
  omega
theorem KT.next {i sure e : Nat} {d : DM} {m : LM} (h : KT i sure e d m) : KT (i + 1) sure e d m := ⟨h.k, h.f.mono (Nat.le_succ i), h.s, h.g, ⟨by have := h.b.1; omega, by have := h.b.2.1; omega, h.b.2.2⟩⟩
theorem kt_new : ∃ m, openW (newD 10) 2 8 1 = (some m, 0) ∧ m.recs = [] ∧ KT 0 0 1 (newD 10) m := by
  have h0 : openW (newD 10) 2 8 1 = (some ⟨2, 8, 1, 1, 0, [], false⟩, 0) := by kernel_rfl
  have hf := open_fit (first := 2) (size := 8) (Fit.new (n := 10) (by decide)) (by decide) (by decide) (by decide) (by decide) h0 0 (Nat.zero_le _)
  have hl : logW (regW (nowD (newD 10)) 2 8) 2 8 1 = ⟨2, 8, 1, 1, 0, [], false⟩ := by kernel_rfl
  have hall : regW (nowD (newD 10)) 2 8 = List.replicate 32 noughtB := by kernel_rfl
  have hk := keep_open (d := newD 10) (first := 2) (size := 8) (ep := 1) (ok_new 10) rfl (by decide) (by decide) (by rw [show lifeW (regW (nowD (newD 10)) 2 8) = 0 by kernel_rfl]; decide) (fun x hx c hc => by
    rw [hall] at hx
    rw [List.eq_of_mem_replicate hx, show decC noughtB = none by kernel_rfl] at hc
    cases hc)
  rw [hl] at hk
  exact ⟨_, h0, rfl, ⟨hk, hf.1, by kernel_rfl, ⟨rfl, rfl, rfl⟩, ⟨by decide, by decide, Nat.le_refl _⟩⟩⟩
theorem kt_append {i sure e : Nat} {d : DM} {m : LM} (h : KT i sure e d m) (hi : i ≤ 400) (b : Bs) : KT (i + 1) sure e (appendW m d b).2.1 (appendW m d b).1 ∧ ((appendW m d b).2.2 = 0 → (appendW m d b).1.recs = m.recs ++ [b]) ∧ ((appendW m d b).2.2 ≠ 0 → (appendW m d b).1.recs = m.recs) := by
  obtain ⟨f1, f2, f3, f4, f5, f6⟩ := h.f.append hi b
  have hk := keep_append h.k b
  obtain ⟨m1, m2, m3⟩ := h.g
  obtain ⟨b1, b2, b3⟩ := h.b
  have hr : ((appendW m d b).2.2 = 0 → (appendW m d b).1.recs = m.recs ++ [b]) ∧ ((appendW m d b).2.2 ≠ 0 → (appendW m d b).1.recs = m.recs) := by
    unfold appendW
    by_cases hw : whyW m b = 0
    · rw [if_pos hw]
      by_cases hp : (putW m d b).2 = 0
      · rw [if_pos hp]
        exact ⟨fun _ => rfl, fun hn => absurd hp hn⟩
      · rw [if_neg hp]
        exact ⟨fun hn => absurd hn hp, fun _ => rfl⟩
    · rw [if_neg hw]
      exact ⟨fun hn => absurd hn hw, fun _ => rfl⟩
  refine ⟨⟨hk, f1, by rw [f2]; exact h.s, ⟨f3.trans m1, f4.trans m2, f5.trans m3⟩, ⟨by omega, by rw [f6]; omega, ?_⟩⟩, hr⟩
  by_cases hE : (appendW m d b).2.2 = 0
  · rw [hr.1 hE, List.length_append]; omega
  · rw [hr.2 hE]; exact b3
theorem kt_sync {i sure e : Nat} {d : DM} {m : LM} (h : KT i sure e d m) : (syncW m d).1.recs = m.recs ∧ ((syncW m d).2.2 = 0 → KT (i + 1) m.recs.length e (syncW m d).2.1 (syncW m d).1) ∧ ((syncW m d).2.2 ≠ 0 → KT (i + 1) sure e (syncW m d).2.1 (syncW m d).1) := by
  obtain ⟨f1, f2, f3, f4, f5, f6⟩ := h.f.sync
  obtain ⟨m1, m2, m3⟩ := h.g
  obtain ⟨b1, b2, b3⟩ := h.b
  have base : ∀ s, KeepW (syncW m d).2.1 (syncW m d).1 s → (syncW m d).1.recs = m.recs → s ≤ m.recs.length → KT (i + 1) s e (syncW m d).2.1 (syncW m d).1 := fun s hk hr hs => ⟨hk, f1.mono (Nat.le_succ i), by rw [f2]; exact h.s, ⟨f3.trans m1, f4.trans m2, f5.trans m3⟩, ⟨by omega, by rw [f6]; omega, by rw [hr]; exact hs⟩⟩
  cases hb : m.broken
  · obtain ⟨k1, k2⟩ := keep_sync h.k hb
    have hs : syncW m d = ((if (flushD d).2 = 0 then m else { m with broken := true }), (flushD d).1, (flushD d).2) := by unfold syncW; rw [hb]; rfl
    have hr : (syncW m d).1.recs = m.recs := by rw [hs]; show (if (flushD d).2 = 0 then m else { m with broken := true }).recs = _; split <;> rfl
    refine ⟨hr, fun hE => base _ ?_ hr (Nat.le_refl _), fun hE => base _ ?_ hr b3⟩
    · rw [hs] at hE ⊢
      show KeepW (flushD d).1 (if (flushD d).2 = 0 then m else { m with broken := true }) _
      rw [if_pos (show (flushD d).2 = 0 from hE)]
      exact k1 hE
    · rw [hs] at hE ⊢
      show KeepW (flushD d).1 (if (flushD d).2 = 0 then m else { m with broken := true }) _
      rw [if_neg (show ¬ (flushD d).2 = 0 from hE)]
      exact k2 hE
  · have hs : syncW m d = (m, d, 9) := by unfold syncW; rw [hb]; rfl
    have hr : (syncW m d).1.recs = m.recs := by rw [hs]
    refine ⟨hr, fun hE => ?_, fun hE => base _ ?_ hr b3⟩
    · rw [hs] at hE; exact absurd hE (show ¬ (9 : Int) = 0 by decide)
    · rw [hs]; exact h.k
theorem kt_reset {i sure e : Nat} {d : DM} {m : LM} (h : KT i sure e d m) (hi : i ≤ 400) : ((resetW m (e + 1)).2 = 0 → (resetW m (e + 1)).1.recs = [] ∧ KT (i + 1) 0 (e + 1) d (resetW m (e + 1)).1) ∧ ((resetW m (e + 1)).2 ≠ 0 → (resetW m (e + 1)).1 = m ∧ KT (i + 1) sure e d (resetW m (e + 1)).1) := by
  obtain ⟨m1, m2, m3⟩ := h.g
  obtain ⟨b1, b2, b3⟩ := h.b
  cases hb : m.broken
  · have hs : resetW m (e + 1) = ({ m with ep := e + 1, recs := [], end_ := 0 }, 0) := by
      unfold resetW
      rw [hb, if_neg Bool.false_ne_true, if_neg (by omega)]
    have hf := (h.f.reset (e + 1) (by omega)).1
    rw [hs] at hf ⊢
    exact ⟨fun _ => ⟨rfl, ⟨keep_reset h.k (e + 1) (by omega) (by omega), hf.mono (Nat.le_succ i), h.s, ⟨m1, m2, rfl⟩, ⟨by omega, by show m.li ≤ _; omega, Nat.zero_le _⟩⟩⟩, fun hn => absurd rfl hn⟩
  · have hs : resetW m (e + 1) = (m, 9) := by
      unfold resetW
      rw [hb, if_pos rfl]
    rw [hs]
    exact ⟨fun hn => absurd hn (show ¬ (9 : Int) = 0 by decide), fun _ => ⟨rfl, h.next⟩⟩
theorem kt_crash {i sure e : Nat} {d : DM} {m : LM} (h : KT i sure e d m) (hi : i ≤ 400) (keep : List Bool) : ∃ m' j, openW (crashD d keep) 2 8 e = (some m', 0) ∧ KT (i + 1) m'.recs.length e (crashD d keep) m' ∧ sure ≤ j ∧ j ≤ m.recs.length ∧ m'.recs = m.recs.take j := by
  obtain ⟨m1, m2, m3⟩ := h.g
  obtain ⟨b1, b2, b3⟩ := h.b
  obtain ⟨m', hh⟩ := keep_crash_open h.k keep (by omega)
  rcases hh with ⟨h1, h2, h3, h4, h5, h6, _, j, h7, h8, h9⟩ | h0
  · rw [m1, m2, m3] at h1
    have hlen : (crashD d keep).safe.length = d.safe.length := crashL_len _ _ _
    have hfit := open_fit (first := 2) (size := 8) (h.f.fit.crash keep) (by decide) (by decide) (by rw [hlen, h.s]; decide) (by omega) h1 (i + 1) (Nat.zero_le _)
    exact ⟨m', j, h1, ⟨h2, hfit.1, by rw [hlen]; exact h.s, ⟨h5.trans m1, h6.trans m2, h4.trans m3⟩, ⟨by omega, by omega, Nat.le_refl _⟩⟩, h7, h8, h9⟩
  · omega
theorem kt_fuse {i sure e : Nat} {d : DM} {m : LM} (h : KT i sure e d m) (n : Int) (hn : n ≤ 9223372036854775807) : KT (i + 1) sure e (armD d n) m := by
  obtain ⟨e1, e2⟩ := armW_lists d n
  exact KT.next ⟨keep_same h.k e1 e2, h.f.arm n hn, by rw [e1]; exact h.s, h.g, h.b⟩
end Go.Proofs.Ythpepkfodcgbcaa
