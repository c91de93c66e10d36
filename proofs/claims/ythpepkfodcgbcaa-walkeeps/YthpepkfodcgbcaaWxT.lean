import Derived.Test.YthpepkfodcgbcaaWxA
import Derived.Test.YthpepkfodcgbcaaWxK
/- WalKeeps over lists, act by act. No program in it. -/
set_option linter.unusedVariables false
set_option linter.unusedSimpArgs false
namespace Go.Proofs.Ythpepkfodcgbcaa

structure KT (i sure e : Nat) (d : DM) (m : LM) : Prop where
  k : KeepW d m sure
  f : FitW i d m
  s : d.safe.length = 40
  g : m.first = 2 ∧ m.size = 8 ∧ m.ep = e
  b : e ≤ 1 + i ∧ m.li ≤ 1 + i ∧ sure ≤ m.recs.length
theorem KT.few {i sure e : Nat} {d : DM} {m : LM} (h : KT i sure e d m) : m.recs.length ≤ 32 := by
  have := h.f.recs
  have := h.f.ok.le
  have := h.g.2.1
  omega
theorem KT.next {i sure e : Nat} {d : DM} {m : LM} (h : KT i sure e d m) : KT (i + 1) sure e d m := ⟨h.k, h.f.mono (Nat.le_succ i), h.s, h.g, ⟨by have := h.b.1; omega, by have := h.b.2.1; omega, h.b.2.2⟩⟩
theorem kt_new : ∃ m, openW (newD 10) 2 8 1 = (some m, 0) ∧ m.recs = [] ∧ KT 0 0 1 (newD 10) m := by
  have h0 : openW (newD 10) 2 8 1 = (some ⟨2, 8, 1, 1, 0, [], false⟩, 0) := by kernel_rfl
  have hf := open_fit (first := 2) (size := 8) (Fit.new (n := 10) (by decide)) (by decide) (by decide) (by decide) (by decide) h0 0 (Nat.zero_le _)
  have hl : logW (regW (nowD (newD 10)) 2 8) 2 8 1 = ⟨2, 8, 1, 1, 0, [], false⟩ := by kernel_rfl
  have hall : regW (nowD (newD 10)) 2 8 = List.replicate 32 noughtB := by kernel_rfl
  have hk := keep_open (d := newD 10) (first := 2) (size := 8) (ep := 1) (ok_new 10) rfl (by decide) (by decide) (by rw [show lifeW (regW (nowD (newD 10)) 2 8) = 0 by kernel_rfl]; decide) (fun x hx c hc => by
    rw [hall] at hx
    rw [List.eq_of_mem_replicate hx, show decC noughtB = none by kernel_rfl] at hc
    cases hc)
  rw [hl] at hk
  exact ⟨_, h0, rfl, ⟨hk, hf.1, by kernel_rfl, ⟨rfl, rfl, rfl⟩, ⟨by decide, by decide, Nat.le_refl _⟩⟩⟩
theorem kt_append {i sure e : Nat} {d : DM} {m : LM} (h : KT i sure e d m) (hi : i ≤ 400) (b : Bs) : KT (i + 1) sure e (appendW m d b).2.1 (appendW m d b).1 ∧ ((appendW m d b).2.2 = 0 → (appendW m d b).1.recs = m.recs ++ [b]) ∧ ((appendW m d b).2.2 ≠ 0 → (appendW m d b).1.recs = m.recs) := by
  obtain ⟨f1, f2, f3, f4, f5, f6⟩ := h.f.append hi b
  have hk := keep_append h.k b
  obtain ⟨m1, m2, m3⟩ := h.g
  obtain ⟨b1, b2, b3⟩ := h.b
  have hr : ((appendW m d b).2.2 = 0 → (appendW m d b).1.recs = m.recs ++ [b]) ∧ ((appendW m d b).2.2 ≠ 0 → (appendW m d b).1.recs = m.recs) := by
    unfold appendW
    by_cases hw : whyW m b = 0
    · rw [if_pos hw]
      by_cases hp : (putW m d b).2 = 0
      · rw [if_pos hp]
        exact ⟨fun _ => rfl, fun hn => absurd hp hn⟩
      · rw [if_neg hp]
        exact ⟨fun hn => absurd hn hp, fun _ => rfl⟩
    · rw [if_neg hw]
      exact ⟨fun hn => absurd hn hw, fun _ => rfl⟩
  refine ⟨⟨hk, f1, by rw [f2]; exact h.s, ⟨f3.trans m1, f4.trans m2, f5.trans m3⟩, ⟨by omega, by rw [f6]; omega, ?_⟩⟩, hr⟩
  by_cases hE : (appendW m d b).2.2 = 0
  · rw [hr.1 hE, List.length_append]; omega
  · rw [hr.2 hE]; exact b3
theorem kt_sync {i sure e : Nat} {d : DM} {m : LM} (h : KT i sure e d m) : (syncW m d).1.recs = m.recs ∧ ((syncW m d).2.2 = 0 → KT (i + 1) m.recs.length e (syncW m d).2.1 (syncW m d).1) ∧ ((syncW m d).2.2 ≠ 0 → KT (i + 1) sure e (syncW m d).2.1 (syncW m d).1) := by
  obtain ⟨f1, f2, f3, f4, f5, f6⟩ := h.f.sync
  obtain ⟨m1, m2, m3⟩ := h.g
  obtain ⟨b1, b2, b3⟩ := h.b
  have base : ∀ s, KeepW (syncW m d).2.1 (syncW m d).1 s → (syncW m d).1.recs = m.recs → s ≤ m.recs.length → KT (i + 1) s e (syncW m d).2.1 (syncW m d).1 := fun s hk hr hs => ⟨hk, f1.mono (Nat.le_succ i), by rw [f2]; exact h.s, ⟨f3.trans m1, f4.trans m2, f5.trans m3⟩, ⟨by omega, by rw [f6]; omega, by rw [hr]; exact hs⟩⟩
  cases hb : m.broken
  · obtain ⟨k1, k2⟩ := keep_sync h.k hb
    have hs : syncW m d = ((if (flushD d).2 = 0 then m else { m with broken := true }), (flushD d).1, (flushD d).2) := by unfold syncW; rw [hb]; rfl
    have hr : (syncW m d).1.recs = m.recs := by rw [hs]; show (if (flushD d).2 = 0 then m else { m with broken := true }).recs = _; split <;> rfl
    refine ⟨hr, fun hE => base _ ?_ hr (Nat.le_refl _), fun hE => base _ ?_ hr b3⟩
    · rw [hs] at hE ⊢
      show KeepW (flushD d).1 (if (flushD d).2 = 0 then m else { m with broken := true }) _
      rw [if_pos (show (flushD d).2 = 0 from hE)]
      exact k1 hE
    · rw [hs] at hE ⊢
      show KeepW (flushD d).1 (if (flushD d).2 = 0 then m else { m with broken := true }) _
      rw [if_neg (show ¬ (flushD d).2 = 0 from hE)]
      exact k2 hE
  · have hs : syncW m d = (m, d, 9) := by unfold syncW; rw [hb]; rfl
    have hr : (syncW m d).1.recs = m.recs := by rw [hs]
    refine ⟨hr, fun hE => ?_, fun hE => base _ ?_ hr b3⟩
    · rw [hs] at hE; exact absurd hE (show ¬ (9 : Int) = 0 by decide)
    · rw [hs]; exact h.k
theorem kt_reset {i sure e : Nat} {d : DM} {m : LM} (h : KT i sure e d m) (hi : i ≤ 400) : ((resetW m (e + 1)).2 = 0 → (resetW m (e + 1)).1.recs = [] ∧ KT (i + 1) 0 (e + 1) d (resetW m (e + 1)).1) ∧ ((resetW m (e + 1)).2 ≠ 0 → (resetW m (e + 1)).1 = m ∧ KT (i + 1) sure e d (resetW m (e + 1)).1) := by
  obtain ⟨m1, m2, m3⟩ := h.g
  obtain ⟨b1, b2, b3⟩ := h.b
  cases hb : m.broken
  · have hs : resetW m (e + 1) = ({ m with ep := e + 1, recs := [], end_ := 0 }, 0) := by
      unfold resetW
      rw [hb, if_neg Bool.false_ne_true, if_neg (by omega)]
    have hf := (h.f.reset (e + 1) (by omega)).1
    rw [hs] at hf ⊢
    exact ⟨fun _ => ⟨rfl, ⟨keep_reset h.k (e + 1) (by omega) (by omega), hf.mono (Nat.le_succ i), h.s, ⟨m1, m2, rfl⟩, ⟨by omega, by show m.li ≤ _; omega, Nat.zero_le _⟩⟩⟩, fun hn => absurd rfl hn⟩
  · have hs : resetW m (e + 1) = (m, 9) := by
      unfold resetW
      rw [hb, if_pos rfl]
    rw [hs]
    exact ⟨fun hn => absurd hn (show ¬ (9 : Int) = 0 by decide), fun _ => ⟨rfl, h.next⟩⟩
theorem kt_crash {i sure e : Nat} {d : DM} {m : LM} (h : KT i sure e d m) (hi : i ≤ 400) (keep : List Bool) : ∃ m' j, openW (crashD d keep) 2 8 e = (some m', 0) ∧ KT (i + 1) m'.recs.length e (crashD d keep) m' ∧ sure ≤ j ∧ j ≤ m.recs.length ∧ m'.recs = m.recs.take j := by
  obtain ⟨m1, m2, m3⟩ := h.g
  obtain ⟨b1, b2, b3⟩ := h.b
  obtain ⟨m', hh⟩ := keep_crash_open h.k keep (by omega)
  rcases hh with ⟨h1, h2, h3, h4, h5, h6, _, j, h7, h8, h9⟩ | h0
  · rw [m1, m2, m3] at h1
    have hlen : (crashD d keep).safe.length = d.safe.length := crashL_len _ _ _
    have hfit := open_fit (first := 2) (size := 8) (h.f.fit.crash keep) (by decide) (by decide) (by rw [hlen, h.s]; decide) (by omega) h1 (i + 1) (Nat.zero_le _)
    exact ⟨m', j, h1, ⟨h2, hfit.1, by rw [hlen]; exact h.s, ⟨h5.trans m1, h6.trans m2, h4.trans m3⟩, ⟨by omega, by omega, Nat.le_refl _⟩⟩, h7, h8, h9⟩
  · omega
theorem kt_fuse {i sure e : Nat} {d : DM} {m : LM} (h : KT i sure e d m) (n : Int) (hn : n ≤ 9223372036854775807) : KT (i + 1) sure e (armD d n) m := by
  obtain ⟨e1, e2⟩ := armW_lists d n
  exact KT.next ⟨keep_same h.k e1 e2, h.f.arm n hn, by rw [e1]; exact h.s, h.g, h.b⟩
end Go.Proofs.Ythpepkfodcgbcaa
/- WalKeeps: append beside a box; begins; the two together. -/
set_option linter.unusedVariables false
set_option linter.unusedSimpArgs false
set_option maxRecDepth 40000
namespace Go.Proofs.Ythpepkfodcgbcaa
open Go.RowKit

theorem ks_append2 {w x x1 : World} {dv lv v : Value} {d : DM} {m : LM} {l : List (Bs × Value)} {i : Nat} {bv : Value} {b : Bs} (h : KS w dv lv v d m l x) (hb1 : Below x.heap.size x x1) (hf : FitW i d m) (hi : i ≤ 400) (hs : d.safe.length ≤ 800) (hY : IsY w bv b) (hb : b.length ≤ 1000000) :
    Calls Try.prog 14 #[lv, bv] x1 fun e y => e = .returned (.int .i64 (appendW m d b).2.2) ∧ Hid (KS w dv lv v (appendW m d b).2.1 (appendW m d b).1 l y) ∧ Hid (∀ k, x.heap.size ≤ k → k < x1.heap.size → y.heap[k]? = x1.heap[k]?) := by
  obtain ⟨A, h1, h2, h3⟩ := h.k
  have hx1 := h.below hb1
  refine (pappend_any A dv lv d m bv b x1 (h1.below hb1) hf.fit (by have := hf.l; omega) hs hf.room hf.ok (by have := hf.recs; have := hf.ok.le; have := hf.ok.size; omega) (hY.below hx1.b) (fun hne k hk ha => by have := h2 k ha; have := (isY_old hY).2 hne k hk; omega) hb).mono ?_
  rintro e y ⟨rfl, A', k1, k2, k3⟩
  have hlt := h.r.lt
  have hsz := hb1.size
  exact ⟨rfl, hide ⟨⟨A', k1, fun k hk => (k2 k hk).elim (h2 k) (fun q => Nat.le_trans hx1.b.size q), fun k hk ha => (k2 k ha).elim (h3 k hk) (fun q => by have := (hlt k hk).2; omega)⟩, hx1.r.keep fun k hk => k3.block k (by have := (hlt k hk).2; omega) (h3 k hk), h.e, hx1.b.trans (k3.below h2 hx1.b.size)⟩, hide fun k hk hk2 => k3.block k hk2 (fun ha => by have := h1.lt k ha; omega)⟩
/-- A beginning. -/
theorem begins_true {x : World} {ua : Option Addr} {uc : Nat} {va : Option Addr} {vn vc : Nat} {a R : List Bs} (hA : IsRs (fun _ => True) x (.slice ua a.length uc) a) (hrun : ∀ W, (Instr.slice 38 (.slice va vn vc) none (some (.int .i64 (a.length : Int))) none).run Try.prog W = .ok (.slice va a.length vc) W) (hB : IsRs (fun _ => True) x (.slice va a.length vc) (R.take a.length)) (hle : a.length ≤ vn) (he : a = R.take a.length) (hl : a.length ≤ 1000) :
    Calls Try.prog 36 #[.slice ua a.length uc, .slice va vn vc] x fun e y => e = .returned (.bool true) ∧ Below x.heap.size x y := by
  have hS : sameW a (R.take a.length) = true := by unfold sameW; rw [← he]; exact decide_eq_true rfl
  have HS := hide (rsame17_any (P := fun _ => True) (Q := fun _ => True) _ _ a (R.take a.length) x hA hB (by omega) (by rw [← he]; omega))
  rw [hS] at HS
  have hle2 : (a.length : Int) ≤ (vn : Int) := by omega
  clear hA hB he hS hl hle
  generalize a.length = k at *
  go_enter Try.func36, Try.ntmps36
  go_wp2_with fail
  refine HS.out.mono ?_
  rintro e y ⟨rfl, hb⟩
  clear HS
  go_wp2
  go_ret
  exact ⟨rfl, hb⟩
structure KW (w : World) (p lp : Addr) (v : Value) (i sure e : Nat) (d : DM) (m : LM) (l : List (Bs × Value)) (x : World) : Prop where
  t : KT i sure e d m
  s : KS w (.pointer (some p)) (.pointer (some lp)) v d m l x
  r : l.map Prod.fst = m.recs
theorem KW.len {w x : World} {p lp : Addr} {v : Value} {i sure e : Nat} {d : DM} {m : LM} {l : List (Bs × Value)} (h : KW w p lp v i sure e d m l x) : l.length = m.recs.length ∧ l.length ≤ 32 := by
  have h1 := congrArg List.length h.r
  rw [List.length_map] at h1
  exact ⟨h1, by have := h.t.few; omega⟩
theorem KW.next {w x : World} {p lp : Addr} {v : Value} {i sure e : Nat} {d : DM} {m : LM} {l : List (Bs × Value)} (h : KW w p lp v i sure e d m l x) : KW w p lp v (i + 1) sure e d m l x := ⟨h.t.next, h.s, h.r⟩
theorem KW.below {w x y : World} {p lp : Addr} {v : Value} {i sure e : Nat} {d : DM} {m : LM} {l : List (Bs × Value)} (h : KW w p lp v i sure e d m l x) (hb : Below x.heap.size x y) : KW w p lp v i sure e d m l y := ⟨h.t, h.s.below hb, h.r⟩
/-- An append, and what is pushed behind it if it told OK. -/
theorem kw_append {w x x1 : World} {p lp : Addr} {va : Option Addr} {vn vc : Nat} {i sure e : Nat} {d : DM} {m : LM} {l : List (Bs × Value)} (h : KW w p lp (.slice va vn vc) i sure e d m l x) (hi : i ≤ 400) (hb1 : Below x.heap.size x x1) {b : Bs} {a : Option Addr} {c : Nat} (hY : IsY w (.slice a b.length c) b) (hb : b.length ≤ 600) :
    Calls Try.prog 14 #[.pointer (some lp), .slice a b.length c] x1 fun E y => ∃ z : Int, E = .returned (.int .i64 z) ∧ Hid (∀ k, x.heap.size ≤ k → k < x1.heap.size → y.heap[k]? = x1.heap[k]?) ∧ ((z ≠ 0 ∧ ∃ d' m', Hid (KW w p lp (.slice va vn vc) (i + 1) sure e d' m' l y)) ∨ (z = 0 ∧ ∃ d' m' a' c' y' , ∃ l' : List (Bs × Value), Hid ((Builtin.append_ #[38, 38] 38 #[.slice va vn vc, .slice (some ⟨y.heap.size, 0, none⟩) 1 1]).run Try.prog (y.alloc (.cells #[.slice a b.length c] 43)) = .ok (.slice a' (l.length + 1) c') y') ∧ l'.length = l.length + 1 ∧ Hid (KW w p lp (.slice a' (l.length + 1) c') (i + 1) sure e d' m' l' y'))) := by
  obtain ⟨t1, t2, t3⟩ := kt_append h.t hi b
  refine (ks_append2 h.s hb1 h.t.f hi (by have := h.t.s; omega) hY (by omega)).mono ?_
  rintro E y ⟨rfl, HS, HK⟩
  refine ⟨_, rfl, HK, ?_⟩
  by_cases hz : (appendW m d b).2.2 = 0
  · obtain ⟨a', c', y', hr, hs⟩ := ks_push HS.out (by have := h.len; omega) hY
    refine .inr ⟨hz, _, _, a', c', y', l ++ [(b, .slice a b.length c)], hide hr, by rw [List.length_append]; rfl, hide ⟨t1, hs, ?_⟩⟩
    rw [List.map_append, h.r, t2 hz]
    rfl
  · exact .inl ⟨hz, _, _, hide ⟨t1, HS.out, by rw [h.r, t3 hz]⟩⟩
theorem kw_sync {w x : World} {p lp : Addr} {v : Value} {i sure e : Nat} {d : DM} {m : LM} {l : List (Bs × Value)} (h : KW w p lp v i sure e d m l x) :
    Calls Try.prog 16 #[.pointer (some lp)] x fun E y => ∃ z : Int, E = .returned (.int .i64 z) ∧ ((z ≠ 0 ∧ ∃ d' m', Hid (KW w p lp v (i + 1) sure e d' m' l y)) ∨ (z = 0 ∧ ∃ d' m', Hid (KW w p lp v (i + 1) l.length e d' m' l y))) := by
  obtain ⟨t1, t2, t3⟩ := kt_sync h.t
  refine (ks_sync h.s h.t.f).mono ?_
  rintro E y ⟨rfl, HS⟩
  refine ⟨_, rfl, ?_⟩
  by_cases hz : (syncW m d).2.2 = 0
  · exact .inr ⟨hz, _, _, hide ⟨by rw [h.len.1]; exact t2 hz, HS.out, by rw [h.r, t1]⟩⟩
  · exact .inl ⟨hz, _, _, hide ⟨t3 hz, HS.out, by rw [h.r, t1]⟩⟩
theorem kw_reset {w x : World} {p lp : Addr} {v : Value} {i sure e : Nat} {d : DM} {m : LM} {l : List (Bs × Value)} (h : KW w p lp v i sure e d m l x) (hi : i ≤ 400) :
    Calls Try.prog 18 #[.pointer (some lp), .int .u64 ((e + 1 : Nat) : Int)] x fun E y => ∃ z : Int, E = .returned (.int .i64 z) ∧ ((z ≠ 0 ∧ ∃ d' m', Hid (KW w p lp v (i + 1) sure e d' m' l y)) ∨ (z = 0 ∧ ∃ d' m', Hid (KW w p lp (.slice none 0 0) (i + 1) 0 (e + 1) d' m' [] y))) := by
  obtain ⟨t1, t2⟩ := kt_reset h.t hi
  refine (ks_reset h.s h.t.f (by have := h.t.b.1; omega)).mono ?_
  rintro E y ⟨rfl, HS⟩
  refine ⟨_, rfl, ?_⟩
  by_cases hz : (resetW m (e + 1)).2 = 0
  · exact .inr ⟨hz, _, _, hide ⟨(t1 hz).2, ks_clear HS.out, by rw [(t1 hz).1]; rfl⟩⟩
  · exact .inl ⟨hz, _, _, hide ⟨(t2 hz).2, HS.out, by rw [(t2 hz).1]; exact h.r⟩⟩
theorem kw_fuse {w x : World} {p lp : Addr} {v : Value} {i sure e : Nat} {d : DM} {m : LM} {l : List (Bs × Value)} {n : Int} (h : KW w p lp v i sure e d m l x) (hn : -9223372036854775808 ≤ n ∧ n ≤ 9223372036854775807) :
    Calls Try.prog 22 #[.pointer (some p), .int .i64 n] x fun E y => E = .returned (.tuple #[]) ∧ ∃ d', Hid (KW w p lp v (i + 1) sure e d' m l y) :=
  (ks_fuse h.s h.t.f.fit hn).mono fun E y hh => ⟨hh.1, _, hide ⟨kt_fuse h.t n hn.2, hh.2.out, h.r⟩⟩
/-- A crash, and the log opened again: what stands till its records are held against the others. -/
structure KC (w : World) (p lp : Addr) (v : Value) (i e j : Nat) (d : DM) (m : LM) (l : List (Bs × Value)) (x : World) : Prop where
  t : KT (i + 1) m.recs.length e d m
  s : KS w (.pointer (some p)) (.pointer (some lp)) v d m l x
  le : j ≤ l.length
  r : m.recs = (l.map Prod.fst).take j
  n : m.recs.length = j
theorem kw_crash {w x : World} {p lp : Addr} {v : Value} {i sure e : Nat} {d : DM} {m : LM} {l : List (Bs × Value)} {kv : Value} {keep : List Bool} (h : KW w p lp v i sure e d m l x) (hi : i ≤ 400) (hk : IsF w kv keep) (hl : keep.length ≤ 9223372036854775807) :
    Calls Try.prog 20 #[.pointer (some p), kv] x fun E y => E = .returned (.tuple #[]) ∧ ∃ j, sure ≤ j ∧ ∃ m', ∀ z, Below y.heap.size y z → Calls Try.prog 11 #[.pointer (some p), .int .i64 2, .int .i64 8, .int .u64 (e : Int)] z fun E u => ∃ a, E = .returned (.tuple #[.pointer (some a), .int .i64 0]) ∧ Hid (KC w p a v i e j (crashD d keep) m' l u) ∧ Hid (Below z.heap.size z u) := by
  obtain ⟨m', j, t1, t2, t3, t4, t5⟩ := kt_crash h.t hi keep
  refine (ks_crash h.s h.t.f.fit hk hl).mono ?_
  rintro E y ⟨rfl, HS⟩
  refine ⟨rfl, j, t3, m', fun z hz => ?_⟩
  refine (ks_open (m' := m') (HS.out.below hz) t2.f.fit (by have := t2.s; omega) (by have := t2.b.1; omega) t1).mono ?_
  rintro E u ⟨a, rfl, HS2, hb⟩
  refine ⟨a, rfl, hide ⟨t2, HS2.out, by rw [h.len.1]; exact t4, by rw [h.r]; exact t5, by rw [t5, List.length_take]; omega⟩, hb⟩
theorem KC.below {w x y : World} {p lp : Addr} {v : Value} {i e j : Nat} {d : DM} {m : LM} {l : List (Bs × Value)} (h : KC w p lp v i e j d m l x) (hb : Below x.heap.size x y) : KC w p lp v i e j d m l y := ⟨h.t, h.s.below hb, h.le, h.r, h.n⟩
theorem KC.kw {w x : World} {p lp : Addr} {va : Option Addr} {vn vc : Nat} {i e j : Nat} {d : DM} {m : LM} {l : List (Bs × Value)} (h : KC w p lp (.slice va vn vc) i e j d m l x) : KW w p lp (.slice va j j) (i + 1) j e d m (l.take j) x := by
  have h1 := h.t
  rw [h.n] at h1
  exact ⟨h1, ks_cut h.s j h.le, by rw [List.map_take, h.r]⟩
theorem meas40 (i : Nat) (h : i + 1 ≤ 40) : 40 - (intOf (Value.int .i64 ((i : Int) + 1))).toNat < 40 - (intOf (Value.int .i64 (i : Int))).toNat := by
  simp [intOf]
  omega
end Go.Proofs.Ythpepkfodcgbcaa
