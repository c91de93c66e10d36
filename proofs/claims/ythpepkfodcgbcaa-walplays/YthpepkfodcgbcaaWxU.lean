import Derived.Test.YthpepkfodcgbcaaWxP
/- WalPlays: the calls of either side, one by one. -/
set_option linter.unusedVariables false
set_option linter.unusedSimpArgs false
set_option maxRecDepth 40000
namespace Go.Proofs.Ythpepkfodcgbcaa
open Go.RowKit

section
variable {w x y : World} {p lp : Addr} {N : Nat → Prop} {R S : Nat} {d : DM} {m : LM} {r : DV} {g : LgV}
theorem WQ.actA {d' : DM} {m' : LM} {lp' : Addr} {A A' : Nat → Prop} (h : WQ w p lp N R S d m r g x) (k1 : DL A x (.pointer (some p)) (.pointer (some lp)) d m) (k2 : ∀ k, A k → w.heap.size ≤ k) (k3 : ∀ k, N k → ¬ A k) (k4 : IsRs (fun k => ¬ A k ∧ ¬ N k) x g.rv g.m.recs) (a1 : DL A' y (.pointer (some p)) (.pointer (some lp')) d' m') (a2 : Grew A A' x.heap.size) (a3 : ButA A x y) : WQ w p lp' N R S d' m' r g y ∧ ∀ k, N k → y.heap[k]? = x.heap[k]? := by
  have hk : ∀ k, N k → y.heap[k]? = x.heap[k]? := fun k hn => a3.block k (h.nl k hn).2 (k3 k hn)
  refine ⟨⟨⟨A', a1, fun k hk => (a2 k hk).elim (k2 k) (fun q => Nat.le_trans h.b.size q), fun k hn ha => (a2 k ha).elim (k3 k hn) (fun q => by have := (h.nl k hn).2; omega), ?_⟩, h.nr, h.ns, h.ne, fun k hn => ⟨(h.nl k hn).1, Nat.lt_of_lt_of_le (h.nl k hn).2 a3.size⟩, (hk R h.nr).trans h.c8, (hk S h.ns).trans h.c12, h.i.butA (fun k hk => k1.ns k hk) a3, h.b.trans (a3.below k2 h.b.size)⟩, hk⟩
  have e1 : IsRs (fun k => ¬ A k ∧ ¬ A' k ∧ ¬ N k) x g.rv g.m.recs := k4.mono fun k hk hl => ⟨hk.1, fun ha => (a2 k ha).elim hk.1 (fun q => by omega), hk.2⟩
  exact (e1.keep a3.size fun k hk hl => a3.block k hl hk.1).mono fun k hk _ => hk.2
theorem wq_call {F : Nat} {args : Array Value} {E : Int} {d' : DM} {m' : LM} (h : WQ w p lp N R S d m r g x) (hc : ∀ A, DL A x (.pointer (some p)) (.pointer (some lp)) d m → (∀ k, A k → w.heap.size ≤ k) → (∀ k, N k → ¬ A k) → Calls Try.prog F args x (PActR A x (.pointer (some p)) (.pointer (some lp)) m' d' E)) :
    Calls Try.prog F args x fun e y => e = .returned (.int .i64 E) ∧ Hid (WQ w p lp N R S d' m' r g y ∧ ∀ k, N k → y.heap[k]? = x.heap[k]?) := by
  obtain ⟨A, k1, k2, k3, k4⟩ := h.k
  refine (hc A k1 k2 k3).mono ?_
  rintro e y ⟨rfl, A', a1, a2, a3⟩
  exact ⟨rfl, hide (h.actA k1 k2 k3 k4 a1 a2 a3)⟩
theorem wq_append {q i : Nat} (h : WQ w p lp N R S d m r g x) (hp : PT q i d m) (hq : q < 8) (hi : i ≤ 400) {ov : Value} {b : Bs} (hY : IsY x ov b) (ho : b ≠ [] → ∀ k, ov.ownBlock = some k → N k) (hb : b.length ≤ 600) :
    Calls Try.prog 14 #[.pointer (some lp), ov] x fun e y => e = .returned (.int .i64 (appendW m d b).2.2) ∧ Hid (WQ w p lp N R S (appendW m d b).2.1 (appendW m d b).1 r g y ∧ ∀ k, N k → y.heap[k]? = x.heap[k]?) :=
  wq_call h fun A k1 _ k3 => pappend_any A _ _ d m ov b x k1 hp.f.fit (by have := hp.f.l; omega) (by have := hp.s; omega) hp.f.room hp.f.ok (by have := hp.f.recs; have := hp.f.ok.le; have := hp.f.ok.size; omega) hY (fun hne k hk => k3 k (ho hne k hk)) (by omega)
theorem wq_sync {q i : Nat} (h : WQ w p lp N R S d m r g x) (hp : PT q i d m) :
    Calls Try.prog 16 #[.pointer (some lp)] x fun e y => e = .returned (.int .i64 (syncW m d).2.2) ∧ Hid (WQ w p lp N R S (syncW m d).2.1 (syncW m d).1 r g y ∧ ∀ k, N k → y.heap[k]? = x.heap[k]?) :=
  wq_call h fun A k1 _ k3 => psync_any A _ _ d m x k1 hp.f.fit
theorem wq_reset {q i ep : Nat} (h : WQ w p lp N R S d m r g x) (hp : PT q i d m) (he : ep < 18446744073709551616) :
    Calls Try.prog 18 #[.pointer (some lp), .int .u64 (ep : Int)] x fun e y => e = .returned (.int .i64 (resetW m ep).2) ∧ Hid (WQ w p lp N R S d (resetW m ep).1 r g y ∧ ∀ k, N k → y.heap[k]? = x.heap[k]?) :=
  wq_call h fun A k1 _ k3 => preset_any A _ _ d m ep x k1 hp.f.ok he
/-- The disk alone is acted on. -/
theorem wq_disk {F : Nat} {args : Array Value} {d' : DM} (h : WQ w p lp N R S d m r g x) (hc : ∀ B, IsK B x (.pointer (some p)) d → (∀ k, B k → w.heap.size ≤ k) → Calls Try.prog F args x fun e y => e = .returned (.tuple #[]) ∧ KR IsK B x (.pointer (some p)) d' y) :
    Calls Try.prog F args x fun e y => e = .returned (.tuple #[]) ∧ Hid (WQ w p lp N R S d' m r g y ∧ ∀ k, N k → y.heap[k]? = x.heap[k]?) := by
  obtain ⟨A, k1, k2, k3, k4⟩ := h.k
  have hk1 := k1
  obtain ⟨B, C, h1, h2, h3, h4⟩ := k1
  have hBA : ∀ k, B k → A k := fun k hk => (h4 k).2 (.inl hk)
  refine (hc B h1 fun k hk => k2 k (hBA k hk)).mono ?_
  rintro e y ⟨rfl, B', a1, a2, a3⟩
  exact ⟨rfl, hide (h.actA hk1 k2 k3 k4 (A' := fun k => B' k ∨ C k) ⟨B', C, a1, h2.keep fun k hk => a3.block k (h2.lt k hk) (h3 k hk), fun k hk hb => (a2 k hb).elim (h3 k hk) (fun q => by have := h2.lt k hk; omega), fun k => Iff.rfl⟩ (fun k hk => hk.elim (fun q => (a2 k q).imp (hBA k) id) (fun q => .inl ((h4 k).2 (.inr q)))) (a3.mono hBA))⟩
theorem wq_crash {q i : Nat} (h : WQ w p lp N R S d m r g x) (hp : PT q i d m) {kv : Value} {keep : List Bool} (hk : IsF w kv keep) (hl : keep.length ≤ 400) :
    Calls Try.prog 20 #[.pointer (some p), kv] x fun e y => e = .returned (.tuple #[]) ∧ Hid (WQ w p lp N R S (crashD d keep) m r g y ∧ ∀ k, N k → y.heap[k]? = x.heap[k]?) :=
  wq_disk h fun B hB hlo => pcrash_any B _ d kv keep x hB hp.f.fit (hk.below h.b) (fun hne k hk2 ha => by
    have q := hlo k ha
    rcases hk with ⟨e, _⟩ | ⟨g, o, cap, rfl, hc⟩
    · exact hne e
    · cases hk2
      have q2 : g < w.heap.size := cell_lt (hc 0 (List.length_pos_iff.2 hne))
      have q3 : w.heap.size ≤ g := q
      omega) (by omega)
theorem wq_fuse {q i : Nat} (h : WQ w p lp N R S d m r g x) (hp : PT q i d m) {n : Int} (hn : -9223372036854775808 ≤ n ∧ n ≤ 9223372036854775807) :
    Calls Try.prog 22 #[.pointer (some p), .int .i64 n] x fun e y => e = .returned (.tuple #[]) ∧ Hid (WQ w p lp N R S (armD d n) m r g y ∧ ∀ k, N k → y.heap[k]? = x.heap[k]?) :=
  wq_disk h fun B hB _ => pfuse_any B _ d n x hB hp.f.fit hn
theorem wq_open {q ep : Nat} {m' : LM} (h : WQ w p lp N R S d m r g x) (hF : Fit d) (hq : q < 8) (hs : d.safe.length = 4 * (3 + q)) (he : ep < 18446744073709551616) (hm : openW d 2 ((1 : Int) + q) ep = (some m', 0)) :
    Calls Try.prog 11 #[.pointer (some p), .int .i64 2, .int .i64 ((1 : Int) + q), .int .u64 (ep : Int)] x fun e y => ∃ a, e = .returned (.tuple #[.pointer (some a), .int .i64 0]) ∧ Hid (WQ w p a N R S d m' r g y ∧ ∀ k, N k → y.heap[k]? = x.heap[k]?) := by
  obtain ⟨A, k1, k2, k3, k4⟩ := h.k
  have hk1 := k1
  obtain ⟨B, C, h1, h2, h3, h4⟩ := k1
  have hBA : ∀ k, B k → A k := fun k hk => (h4 k).2 (.inl hk)
  refine (popen_any B _ d 2 ((1 : Int) + q) ep x h1 hF (by omega) (by decide) (by omega) he).mono ?_
  rintro e y ⟨hb, ⟨E, e1, _⟩ | ⟨m2, a, C2, e1, rfl, hl, hc⟩⟩
  · rw [hm] at e1; cases e1
  · rw [hm] at e1
    cases e1
    exact ⟨a, rfl, hide (h.actA hk1 k2 k3 k4 (A' := fun k => B k ∨ C2 k) ⟨B, C2, h1.below hb, hl, fun k q1 q2 => by have q3 := hc k q1; have q4 := h1.lt k q2; omega, fun k => Iff.rfl⟩ (fun k hk => hk.elim (fun q => .inl (hBA k q)) (fun q => .inr (hc k q))) (ButA.of hb))⟩

/-! The document's. -/
theorem WQ.putSA {g' : LgV} {A : Nat → Prop} (h : WQ w p lp N R S d m r g y) (k1 : DL A y (.pointer (some p)) (.pointer (some lp)) d m) (k2 : ∀ k, A k → w.heap.size ≤ k) (k3 : ∀ k, N k → ¬ A k) (hGG : IsRs (fun k => ¬ A k ∧ ¬ N k) y g'.rv g'.m.recs) : WQ w p lp N R S d m r g' (putSW y S g') ∧ ButA (fun k => k = S) y (putSW y S g') ∧ NoStr y S := by
  have ho := set7_other y S (.int .i64 (g'.m.first : Int)) (.int .i64 (g'.m.size : Int)) (.int .u64 (g'.m.ep : Int)) (.int .u64 (g'.m.li : Int)) (.int .i64 (g'.m.end_ : Int)) g'.rv (.bool g'.m.broken)
  have hs := set7_size y S (.int .i64 (g'.m.first : Int)) (.int .i64 (g'.m.size : Int)) (.int .u64 (g'.m.ep : Int)) (.int .u64 (g'.m.li : Int)) (.int .i64 (g'.m.end_ : Int)) g'.rv (.bool g'.m.broken)
  have hbut := butA_set7 y S (.int .i64 (g'.m.first : Int)) (.int .i64 (g'.m.size : Int)) (.int .u64 (g'.m.ep : Int)) (.int .u64 (g'.m.li : Int)) (.int .i64 (g'.m.end_ : Int)) g'.rv (.bool g'.m.broken)
  have hrv : ∃ a n c, g.rv = .slice a n c := by obtain ⟨_, _, _, _, k4⟩ := h.k; obtain ⟨a, c, e⟩ := k4.form; exact ⟨_, _, _, e⟩
  exact ⟨⟨⟨A, k1.keep fun k ha => ho k (fun e => k3 S h.ns (e ▸ ha)), k2, k3, hGG.keep (Nat.le_of_eq hs.symm) fun k hk _ => ho k (fun e => hk.2 (e ▸ h.ns))⟩, h.nr, h.ns, h.ne, fun k hk => by rw [hs]; exact h.nl k hk, (ho R h.ne).trans h.c8, lg_laid h.c12, h.i.butA (fun k hk => by cases hk; exact noStr_lg hrv h.c12) hbut, h.b.trans (hbut.below (fun k hk => by cases hk; exact (h.nl S h.ns).1) h.b.size)⟩, hbut, noStr_lg hrv h.c12⟩
theorem wq_rdr {F : Nat} {args : Array Value} {E : Int} {d' : DM} {m' : LM} (h : WQ w p lp N R S d m r g x) (hc : ∀ P : Nat → Prop, (∀ k, x.heap.size ≤ k → P k) → IsG P x g → Calls Try.prog F args x (LogDR P x m' d' E)) :
    Calls Try.prog F args x fun e y => ∃ (g' : LgV) (r' : DV), e = .returned (.tuple #[lgA g', dkA r', .int .i64 E]) ∧ Hid (g'.m = m' ∧ r'.m = d') ∧ Hid (WQ w p lp N R S d m r g y) ∧ Hid (Below x.heap.size x y) ∧ Hid (WQ w p lp N R S d m r' g' (putRW (putSW y S g') R r') ∧ ∀ k, k ≠ R → k ≠ S → (putRW (putSW y S g') R r').heap[k]? = y.heap[k]?) := by
  obtain ⟨A, k1, k2, k3, k4⟩ := h.k
  refine (hc (fun k => ¬ A k ∧ ¬ N k) (fun k hk => ⟨fun ha => by have := k1.lt k ha; omega, fun hn => by have := (h.nl k hn).2; omega⟩) k4).mono ?_
  rintro e y ⟨g', r', rfl, e1, e2, hG, hI, hb⟩
  have hy := h.below hb
  obtain ⟨q1, q2, q3⟩ := hy.putSA (k1.below hb) k2 k3 hG
  obtain ⟨q4, q5⟩ := q1.putR (hI.butA (fun k hk => by cases hk; exact q3) q2)
  exact ⟨g', r', rfl, hide ⟨e1, e2⟩, hide hy, hide hb, hide ⟨q4, fun k h1 h2 => (q5 k h1).trans (set7_other y S _ _ _ _ _ _ _ k h2)⟩⟩
theorem wq_rlog {F : Nat} {args : Array Value} {E : Int} {m' : LM} (h : WQ w p lp N R S d m r g x) (hc : ∀ P : Nat → Prop, (∀ k, x.heap.size ≤ k → P k) → IsG P x g → Calls Try.prog F args x fun e y => ∃ g' : LgV, e = .returned (.tuple #[lgA g', .int .i64 E]) ∧ g'.m = m' ∧ IsG P y g' ∧ Below x.heap.size x y) :
    Calls Try.prog F args x fun e y => ∃ (g' : LgV), e = .returned (.tuple #[lgA g', .int .i64 E]) ∧ Hid (g'.m = m') ∧ Hid (WQ w p lp N R S d m r g y) ∧ Hid (Below x.heap.size x y) ∧ Hid (WQ w p lp N R S d m r g' (putSW y S g') ∧ ∀ k, k ≠ S → (putSW y S g').heap[k]? = y.heap[k]?) := by
  obtain ⟨A, k1, k2, k3, k4⟩ := h.k
  refine (hc (fun k => ¬ A k ∧ ¬ N k) (fun k hk => ⟨fun ha => by have := k1.lt k ha; omega, fun hn => by have := (h.nl k hn).2; omega⟩) k4).mono ?_
  rintro e y ⟨g', rfl, e1, hG, hb⟩
  have hy := h.below hb
  obtain ⟨q1, q2, q3⟩ := hy.putSA (k1.below hb) k2 k3 hG
  exact ⟨g', rfl, hide e1, hide hy, hide hb, hide ⟨q1, fun k h2 => set7_other y S _ _ _ _ _ _ _ k h2⟩⟩
theorem wq_rdisk {F : Nat} {args : Array Value} {d' : DM} (h : WQ w p lp N R S d m r g x) (hc : Calls Try.prog F args x fun e y => ∃ r' : DV, e = .returned (dkA r') ∧ r'.m = d' ∧ IsD y r' ∧ Below x.heap.size x y) :
    Calls Try.prog F args x fun e y => ∃ (r' : DV), e = .returned (dkA r') ∧ Hid (r'.m = d') ∧ Hid (WQ w p lp N R S d m r g y) ∧ Hid (Below x.heap.size x y) ∧ Hid (WQ w p lp N R S d m r' g (putRW y R r') ∧ ∀ k, k ≠ R → (putRW y R r').heap[k]? = y.heap[k]?) := by
  refine hc.mono ?_
  rintro e y ⟨r', rfl, e1, hI, hb⟩
  have hy := h.below hb
  obtain ⟨q4, q5⟩ := hy.putR hI
  exact ⟨r', rfl, hide e1, hide hy, hide hb, hide ⟨q4, q5⟩⟩
theorem wq_rappend {q i : Nat} (h : WQ w p lp N R S d m r g x) (hp : PT q i r.m g.m) (hq : q < 8) (hi : i ≤ 400) {bv : Value} {b : Bs} (hY : IsY x bv b) (hb : b.length ≤ 600) : Calls Try.prog 15 #[lgA g, dkA r, bv] x fun e y => ∃ (g' : LgV) (r' : DV), e = .returned (.tuple #[lgA g', dkA r', .int .i64 (appendW g.m r.m b).2.2]) ∧ Hid (g'.m = (appendW g.m r.m b).1 ∧ r'.m = (appendW g.m r.m b).2.1) ∧ Hid (WQ w p lp N R S d m r g y) ∧ Hid (Below x.heap.size x y) ∧ Hid (WQ w p lp N R S d m r' g' (putRW (putSW y S g') R r') ∧ ∀ k, k ≠ R → k ≠ S → (putRW (putSW y S g') R r').heap[k]? = y.heap[k]?) := by
  have hs := hp.s
  have hfl := hp.f.l
  have hre := hp.f.recs
  have hle := hp.f.ok.le
  have hsz := hp.f.ok.size
  refine wq_rdr h fun P hP hG => ?_
  by_cases hw : whyW g.m b = 0
  · exact rappend_go g r bv b x P hP hG h.i hY hp.f.ok hp.f.fit.ok (by omega) (by omega) hp.f.fit.left hp.f.room (by omega) hw
  · exact rappend_no g r bv b x P hP hG h.i hY hp.f.ok (by omega) hw
theorem wq_rsync {q i : Nat} (h : WQ w p lp N R S d m r g x) (hp : PT q i r.m g.m) : Calls Try.prog 17 #[lgA g, dkA r] x fun e y => ∃ (g' : LgV) (r' : DV), e = .returned (.tuple #[lgA g', dkA r', .int .i64 (syncW g.m r.m).2.2]) ∧ Hid (g'.m = (syncW g.m r.m).1 ∧ r'.m = (syncW g.m r.m).2.1) ∧ Hid (WQ w p lp N R S d m r g y) ∧ Hid (Below x.heap.size x y) ∧ Hid (WQ w p lp N R S d m r' g' (putRW (putSW y S g') R r') ∧ ∀ k, k ≠ R → k ≠ S → (putRW (putSW y S g') R r').heap[k]? = y.heap[k]?) := by
  have hlf := hp.f.fit.left
  exact wq_rdr h fun P hP hG => rsync_any g r x P hP hG h.i hp.f.fit.ok hp.f.fit.s hp.f.fit.l ⟨by omega, hlf.2⟩
theorem wq_rreset {q i ep : Nat} (h : WQ w p lp N R S d m r g x) (hp : PT q i r.m g.m) (he : ep < 18446744073709551616) : Calls Try.prog 19 #[lgA g, .int .u64 (ep : Int)] x fun e y => ∃ (g' : LgV), e = .returned (.tuple #[lgA g', .int .i64 (resetW g.m ep).2]) ∧ Hid (g'.m = (resetW g.m ep).1) ∧ Hid (WQ w p lp N R S d m r g y) ∧ Hid (Below x.heap.size x y) ∧ Hid (WQ w p lp N R S d m r g' (putSW y S g') ∧ ∀ k, k ≠ S → (putSW y S g').heap[k]? = y.heap[k]?) :=
  wq_rlog h fun P hP hG => rreset_any g ep x P hG hp.f.ok he
theorem wq_ropen {q ep : Nat} {m' : LM} (h : WQ w p lp N R S d m r g x) (hF : Fit r.m) (hq : q < 8) (hs : r.m.safe.length = 4 * (3 + q)) (he : ep < 18446744073709551616) (hm : openW r.m 2 ((1 : Int) + q) ep = (some m', 0)) : Calls Try.prog 12 #[dkA r, .int .i64 2, .int .i64 ((1 : Int) + q), .int .u64 (ep : Int)] x fun e y => ∃ (g' : LgV), e = .returned (.tuple #[lgA g', .int .i64 0]) ∧ Hid (g'.m = m') ∧ Hid (WQ w p lp N R S d m r g y) ∧ Hid (Below x.heap.size x y) ∧ Hid (WQ w p lp N R S d m r g' (putSW y S g') ∧ ∀ k, k ≠ S → (putSW y S g').heap[k]? = y.heap[k]?) :=
  wq_rlog h fun P hP hG => (ropen_any P r 2 ((1 : Int) + q) ep x h.i hF.ok (by omega) hF.l (by decide) (by omega) hP he).mono fun e y hh => by
    obtain ⟨g', e1, e2, e3, e4⟩ := hh
    rw [hm] at e1 e2
    exact ⟨g', e1, e2, e3, e4⟩
theorem wq_rcrash {q i : Nat} (h : WQ w p lp N R S d m r g x) (hp : PT q i r.m g.m) {kv : Value} {keep : List Bool} (hk : IsF w kv keep) (hl : keep.length ≤ 400) : Calls Try.prog 21 #[dkA r, kv] x fun e y => ∃ (r' : DV), e = .returned (dkA r') ∧ Hid (r'.m = crashD r.m keep) ∧ Hid (WQ w p lp N R S d m r g y) ∧ Hid (Below x.heap.size x y) ∧ Hid (WQ w p lp N R S d m r' g (putRW y R r') ∧ ∀ k, k ≠ R → (putRW y R r').heap[k]? = y.heap[k]?) :=
  wq_rdisk h ((rcrash_any r kv keep x h.i (hk.below h.b) hp.f.fit.ok hp.f.fit.s hp.f.fit.l (by omega)).mono fun e y hh => by
    obtain ⟨v, rfl, h1, h2⟩ := hh
    exact ⟨_, rfl, rfl, h1, h2⟩)
theorem wq_rarm {n : Int} (h : WQ w p lp N R S d m r g x) : Calls Try.prog 23 #[dkA r, .int .i64 n] x fun e y => ∃ (r' : DV), e = .returned (dkA r') ∧ Hid (r'.m = armD r.m n) ∧ Hid (WQ w p lp N R S d m r g y) ∧ Hid (Below x.heap.size x y) ∧ Hid (WQ w p lp N R S d m r' g (putRW y R r') ∧ ∀ k, k ≠ R → (putRW y R r').heap[k]? = y.heap[k]?) :=
  wq_rdisk h ((rarm_any r n x h.i).mono fun e y hh => by
    obtain ⟨rfl, hb⟩ := hh
    have hi := h.i.below hb
    obtain ⟨e1, e2⟩ := armW_lists r.m n
    exact ⟨_, rfl, rfl, ⟨by show IsW y r.sv (armD r.m n).safe; rw [e1]; exact hi.s, by show IsP y r.lv (armD r.m n).l; rw [e2]; exact hi.l⟩, hb⟩)
/-- Blocks more are kept out. -/
theorem WQ.moreM (h : WQ w p lp N R S d m r g x) (hb : Below x.heap.size x y) (M : Nat → Prop) (hM : ∀ k, M k → x.heap.size ≤ k ∧ k < y.heap.size) : WQ w p lp (fun k => N k ∨ M k) R S d m r g y := by
  obtain ⟨A, k1, k2, k3, k4⟩ := h.k
  have hb2 := h.below hb
  refine ⟨⟨A, k1.below hb, k2, fun k hk ha => ?_, ?_⟩, .inl h.nr, .inl h.ns, h.ne, fun k hk => ?_, hb2.c8, hb2.c12, hb2.i, hb2.b⟩
  · rcases hk with hk | hk
    · exact k3 k hk ha
    · have := k1.lt k ha
      have := (hM k hk).1
      omega
  · exact (k4.mono (Q := fun k => ¬ A k ∧ ¬ (N k ∨ M k)) fun k hk hl => ⟨hk.1, fun hn => hn.elim hk.2 (fun e => by have := (hM k e).1; omega)⟩).below hb
  · rcases hk with hk | hk
    · exact hb2.nl k hk
    · exact ⟨Nat.le_trans h.b.size (hM k hk).1, (hM k hk).2⟩
/-- A byte of a row that is kept out is written over. -/
theorem WQ.write (h : WQ w p lp N R S d m r g x) {G o : Nat} (hG : N G) (hr : G ≠ R) (hs : G ≠ S) (hn : NoStr x G) {u : Value} (hu : IntV u) : WQ w p lp N R S d m r g (x.setCell ⟨G, o, none⟩ u) ∧ NoStr (x.setCell ⟨G, o, none⟩ u) G := by
  obtain ⟨A, k1, k2, k3, k4⟩ := h.k
  have ho : ∀ k, k ≠ G → (x.setCell ⟨G, o, none⟩ u).heap[k]? = x.heap[k]? := fun k hk => Below.heap_setCell _ _ _ _ hk
  have hsz : (x.setCell ⟨G, o, none⟩ u).heap.size = x.heap.size := by simp [World.setCell]
  have hbut : ButA (fun k => k = G) x (x.setCell ⟨G, o, none⟩ u) := (ButA.refl (fun k => k = G) x).setCell (a := ⟨G, o, none⟩) (.inl rfl) u
  refine ⟨⟨⟨A, k1.keep fun k ha => ho k (fun e => k3 G hG (e ▸ ha)), k2, k3, k4.keep (Nat.le_of_eq hsz.symm) fun k hk _ => ho k (fun e => hk.2 (e ▸ hG))⟩, h.nr, h.ns, h.ne, fun k hk => by rw [hsz]; exact h.nl k hk, (ho R (fun e => hr e.symm)).trans h.c8, (ho S (fun e => hs e.symm)).trans h.c12, h.i.butA (fun k hk => by cases hk; exact hn) hbut, h.b.trans (hbut.below (fun k hk => by cases hk; exact (h.nl G hG).1) h.b.size)⟩, fun j s e => ?_⟩
  by_cases hj : j = o
  · subst hj
    have h1 : (x.setCell ⟨G, j, none⟩ u).cell? ⟨G, j, none⟩ = some (.string s) := e
    cases hx : x.cell? ⟨G, j, none⟩ with
    | none =>
      have h2 : (x.setCell ⟨G, j, none⟩ u).cell? ⟨G, j, none⟩ = none := by
        unfold World.cell? World.setCell at *
        simp only [Array.getElem?_modify] at *
        cases hh : x.heap[G]? with
        | none => simp [hh]
        | some ob =>
          cases ob <;> simp_all
      rw [h2] at h1
      cases h1
    | some v =>
      rw [World.cell?_setCell_same _ _ _ hx] at h1
      obtain ⟨k, z, rfl⟩ := hu
      cases h1
  · rw [World.cell?_setCell_other _ _ _ _ (by intro e; injection e; omega)] at e
    exact hn j s e
end
end Go.Proofs.Ythpepkfodcgbcaa
/- WalPlays: how the two sides begin; the bytes of one's own; what is told is written over. -/
set_option linter.unusedVariables false
set_option linter.unusedSimpArgs false
set_option maxRecDepth 40000
namespace Go.Proofs.Ythpepkfodcgbcaa
open Go.RowKit

theorem wq_open0 {w x : World} {p : Addr} {d : DM} {m : LM} {r : DV} {q : Nat} (h : Liv w (.pointer (some p)) d x) (hI : IsD x r) (er : r.m = d) (hF : Fit d) (hq : q < 8) (hs : d.safe.length = 4 * (3 + q)) (hm : openW d 2 ((1 : Int) + q) 1 = (some m, 0)) :
    Calls Try.prog 11 #[.pointer (some p), .int .i64 2, .int .i64 ((1 : Int) + q), .int .u64 1] (x.alloc (.cells (dkC r) 31)) fun e y => ∃ a, e = .returned (.tuple #[.pointer (some a), .int .i64 0]) ∧ Hid (y.heap[x.heap.size]? = some (.cells (dkC r) 31 (0, 0))) ∧
      Hid (Calls Try.prog 12 #[dkA r, .int .i64 2, .int .i64 ((1 : Int) + q), .int .u64 1] y fun e z => ∃ g : LgV, e = .returned (.tuple #[lgA g, .int .i64 0]) ∧ Hid (g.m = m) ∧ Hid (WQ w p a (fun k => k = x.heap.size ∨ k = z.heap.size) x.heap.size z.heap.size d m r g (z.alloc (.cells (lgC g) 40)))) := by
  obtain ⟨B, h1, h2⟩ := h.k
  have hal := below_alloc x (.cells (dkC r) 31)
  have hbx := alloc_new x (.cells (dkC r) 31)
  have hsz : (x.alloc (.cells (dkC r) 31)).heap.size = x.heap.size + 1 := by simp
  have hI1 := hI.below hal
  have hB1 := h1.below hal
  have hb1 := h.b.trans (hal.mono h.b.size)
  have hne : ∀ k, B k → k < x.heap.size := h1.lt
  generalize x.alloc (.cells (dkC r) 31) = x1 at *
  refine (popen_any B _ d 2 ((1 : Int) + q) 1 x1 hB1 hF (by omega) (by decide) (by omega) (by decide)).mono ?_
  rintro e y ⟨hb, ⟨E, e1, _⟩ | ⟨m2, a, C, e1, rfl, hl, hc⟩⟩
  · rw [hm] at e1; cases e1
  · rw [hm] at e1
    cases e1
    have hby := hb1.trans (hb.mono hb1.size)
    have hbs := hb.size
    have hcy : y.heap[x.heap.size]? = some (.cells (dkC r) 31 (0, 0)) := (hb.block _ (by omega)).trans hbx
    have hIy := hI1.below hb
    have hDL : DL (fun k => B k ∨ C k) y (.pointer (some p)) (.pointer (some a)) d m := ⟨B, C, hB1.below hb, hl, fun k q1 q2 => by have := hc k q1; have := hne k q2; omega, fun k => Iff.rfl⟩
    have hlo : ∀ k, (B k ∨ C k) → w.heap.size ≤ k := fun k hk => hk.elim (h2 k) (fun q => Nat.le_trans hb1.size (hc k q))
    have hR : ¬ (B x.heap.size ∨ C x.heap.size) := fun hk => hk.elim (fun q => by have := hne _ q; omega) (fun q => by have := hc _ q; omega)
    refine ⟨a, rfl, hide hcy, hide ?_⟩
    subst er
    refine (ropen_any (fun k => ¬ (B k ∨ C k) ∧ k ≠ x.heap.size) r 2 ((1 : Int) + q) 1 y hIy hF.ok (by omega) hF.l (by decide) (by omega) (fun k hk => ⟨fun ha => by have := hDL.lt k ha; omega, by omega⟩) (by decide)).mono ?_
    rintro e z ⟨g, e1, e2, e3, e4⟩
    rw [hm] at e1 e2
    have hzl := below_alloc z (.cells (lgC g) 40)
    have hzn := alloc_new z (.cells (lgC g) 40)
    have hzs : (z.alloc (.cells (lgC g) 40)).heap.size = z.heap.size + 1 := by simp
    have hes := e4.size
    have hws := h.b.size
    refine ⟨g, e1, hide e2, hide ⟨⟨_, (hDL.below e4).below hzl, hlo, fun k hk ha => ?_, ?_⟩, .inl rfl, .inr rfl, by omega, fun k hk => ?_, ?_, hzn, (hIy.below e4).below hzl, (hby.trans (e4.mono hby.size)).trans (hzl.mono (Nat.le_trans hby.size e4.size))⟩⟩
    · rcases hk with rfl | rfl
      · exact hR ha
      · have := hDL.lt _ ha
        omega
    · exact (IsRs.mono (Q := fun k => ¬ (B k ∨ C k) ∧ ¬ (k = x.heap.size ∨ k = z.heap.size)) e3 fun k hk hkl => ⟨hk.1, fun hh => hh.elim hk.2 (fun e => by omega)⟩).below hzl
    · rcases hk with rfl | rfl
      · omega
      · omega
    · exact (hzl.block _ (by omega)).trans ((e4.block _ (by omega)).trans hcy)
/-- A copy of one's own. -/
theorem own_any (x : World) (bv : Value) (b : Bs) (hY : IsY x bv b) (hl : b.length ≤ 600) : ∃ a1 c1 w1, (Builtin.append_ #[43, 43] 43 #[.slice (some ⟨x.heap.size, 0, none⟩) 0 0, bv]).run Try.prog (x.alloc (.cells #[] 5)) = .ok (.slice a1 b.length c1) w1 ∧ Below x.heap.size x w1 ∧ NewY x.heap.size w1 (.slice a1 b.length c1) b ∧ (b ≠ [] → ∀ j, (Value.slice a1 b.length c1).ownBlock = some j → NoStr w1 j) := by
  obtain ⟨a1, c1, w1, r1, o1, b1⟩ := copyC x bv b hY (by omega)
  have o2 : w1.ownsRow x.heap.size 5 1 (.slice a1 b.length c1) b.length (bytesV b) := o1
  refine ⟨a1, c1, w1, r1, b1, owns_newY o2, fun hb => ?_⟩
  have hal := below_alloc x (.cells #[] 5)
  have hR0 : RowI (x.alloc (.cells #[] 5)) 5 (.slice (some ⟨x.heap.size, 0, none⟩) 0 0) ([] : Bs).length (bytesV []) := ⟨⟨rfl, .inr ⟨x.heap.size, 0, #[], rfl, Nat.zero_le _, alloc_newC x _, Nat.le_refl _, by decide, rfl, rfl⟩⟩, fun j hj => by
    cases hj
    exact intB_cells (alloc_newC x _) (fun v hv => by simp at hv)⟩
  obtain ⟨a2, c2, w2, r2, R2, _, _⟩ := append_b17 (x.alloc (.cells #[] 5)) _ bv [] b hR0 (hY.below hal) hb (Nat.zero_le _) (by omega)
  rw [List.nil_append] at r2 R2
  obtain ⟨e1, rfl⟩ := run_ok_inj r1 r2
  rw [e1]
  exact fun j hj => (R2.i j hj).ns
/-- A byte of a row is written over: rows of bytes stay rows of as many bytes. -/
theorem newY_set {B : Nat} {x : World} {v : Value} {l : Bs} (h : NewY B x v l) (G o : Nat) (z : UInt8) (hc : (x.cell? ⟨G, o, none⟩).isSome) : ∃ l' : Bs, l'.length = l.length ∧ NewY B (x.setCell ⟨G, o, none⟩ (.int .u8 (z.toNat : Int))) v l' := by
  rcases h with ⟨e, rfl⟩ | ⟨b, ob, cap, rfl, h1, h2, h3, h4, h5⟩
  · exact ⟨l, rfl, .inl ⟨e, rfl⟩⟩
  · have hsz : (x.setCell ⟨G, o, none⟩ (.int .u8 (z.toNat : Int))).heap.size = x.heap.size := by simp [World.setCell]
    by_cases hin : G = b ∧ ob ≤ o ∧ o < ob + l.length
    · obtain ⟨rfl, q1, q2⟩ := hin
      obtain ⟨i, rfl⟩ : ∃ i, o = ob + i := ⟨o - ob, by omega⟩
      have hn : NewY B x (.slice (some ⟨G, ob, none⟩) l.length cap) l := .inr ⟨G, ob, cap, rfl, h1, h2, h3, h4, h5⟩
      obtain ⟨g', o', e, _, _, _, _, _, hset⟩ := hn.at_ i (by omega) z
      injection e with e
      injection e with e1 e2
      subst e1 e2
      exact ⟨l.set i z, by simp, hset⟩
    · refine ⟨l, rfl, .inr ⟨b, ob, cap, rfl, h1, by rw [hsz]; exact h2, h3, fun j hj => ?_, fun j hj => by rw [World.frozen?_setCell]; exact h5 j hj⟩⟩
      rw [World.cell?_setCell_other _ _ _ _ (by intro e; injection e with e1 e2; exact hin ⟨e1.symm ▸ rfl, by omega⟩)]
      exact h4 j hj
/-- What was told may be written over. -/
structure Told (x0 : World) (v : Value) (ns : List Nat) (x : World) : Prop where
  r : ∃ l : List (Bs × Value), l.map (fun y => y.1.length) = ns ∧ ((l = [] ∧ ∃ a c, v = .slice a 0 c) ∨ ∃ b o cap, v = .slice (some ⟨b, o, none⟩) l.length cap ∧ (∀ j (hj : j < l.length), x.cell? ⟨b, o + j, none⟩ = some l[j].2) ∧ ∀ y ∈ l, y.2.ownBlock ≠ some b) ∧ ∀ y ∈ l, NewY x0.heap.size x y.2 y.1
  b : Below x0.heap.size x0 x
theorem Told.below {x0 x y : World} {v : Value} {ns : List Nat} (h : Told x0 v ns x) (hb : Below x.heap.size x y) : Told x0 v ns y := by
  obtain ⟨l, h1, h2, h3⟩ := h.r
  refine ⟨⟨l, h1, ?_, fun y hy => (h3 y hy).below hb⟩, h.b.trans (hb.mono h.b.size)⟩
  rcases h2 with h2 | ⟨b, o, cap, e, hc, hn⟩
  · exact .inl h2
  · exact .inr ⟨b, o, cap, e, fun j hj => (hb.cell (cell_lt (hc j hj))).trans (hc j hj), hn⟩
theorem told_start {x0 x : World} {v : Value} {recs : List Bs} (h : NewRs x0.heap.size x v recs) (hb : Below x0.heap.size x0 x) : Told x0 v (recs.map List.length) x := by
  obtain ⟨l, rfl, h2, h3⟩ := h
  refine ⟨⟨l, by rw [List.map_map]; rfl, ?_, h3⟩, hb⟩
  rcases h2 with ⟨e, rfl⟩ | ⟨b, o, cap, e, _, _, hc, hn⟩
  · exact .inl ⟨e, _, _, rfl⟩
  · exact .inr ⟨b, o, cap, e, hc, hn⟩
theorem Told.at_ {x0 x : World} {a : Option Addr} {n c : Nat} {ns : List Nat} (h : Told x0 (.slice a n c) ns x) (i k : Nat) (hi : ns[i]? = some k) : ∃ b o va vc, a = some ⟨b, o, none⟩ ∧ x.cell? ⟨b, o + i, none⟩ = some (.slice va k vc) ∧ ∀ j, j < k → ∃ G og u, va = some ⟨G, og, none⟩ ∧ x.cell? ⟨G, og + j, none⟩ = some u ∧ x.frozen? ⟨G, og + j, none⟩ = false ∧ Told x0 (.slice a n c) ns (x.setCell ⟨G, og + j, none⟩ (.int .u8 76)) := by
  obtain ⟨l, rfl, h2, h3⟩ := h.r
  rw [List.getElem?_map] at hi
  cases hli : l[i]? with
  | none => rw [hli] at hi; cases hi
  | some y =>
    rw [hli] at hi
    obtain ⟨hil, rfl⟩ := List.getElem?_eq_some_iff.1 hli
    have hk : l[i].1.length = k := Option.some.inj hi
    rcases h2 with ⟨e, _⟩ | ⟨b, o, cap, e, hc, hn⟩
    · rw [e] at hil; simp at hil
    · injection e with e1 e2 e3
      subst e1 e2 e3
      have hN := h3 _ (List.getElem_mem hil)
      obtain ⟨va, vc, hv⟩ := hN.form
      rw [hk] at hv
      refine ⟨b, o, va, vc, rfl, by rw [hc i hil, hv], fun j hj => ?_⟩
      rcases hN with ⟨e, _⟩ | ⟨G, og, cap2, e, g1, g2, g3, g4, g5⟩
      · rw [e] at hk; simp at hk; omega
      · rw [hv] at e
        injection e with e1
        have hcj := g4 j (by omega)
        refine ⟨G, og, _, e1, hcj, g5 j (by omega), ?_⟩
        have hGb : G ≠ b := fun e => hn _ (List.getElem_mem hil) (by rw [hv, e1, e]; rfl)
        have hst : ∀ y ∈ l, ∃ l' : Bs, l'.length = y.1.length ∧ NewY x0.heap.size (x.setCell ⟨G, og + j, none⟩ (.int .u8 76)) y.2 l' := fun y hy => newY_set (h3 y hy) G (og + j) 76 (by rw [hcj]; rfl)
        have key : ∀ L : List (Bs × Value), (∀ y ∈ L, ∃ l' : Bs, l'.length = y.1.length ∧ NewY x0.heap.size (x.setCell ⟨G, og + j, none⟩ (.int .u8 76)) y.2 l') → ∃ L' : List (Bs × Value), L'.map (fun y => y.1.length) = L.map (fun y => y.1.length) ∧ L'.map Prod.snd = L.map Prod.snd ∧ ∀ y ∈ L', NewY x0.heap.size (x.setCell ⟨G, og + j, none⟩ (.int .u8 76)) y.2 y.1 := by
          intro L
          induction L with
          | nil => intro _; exact ⟨[], rfl, rfl, fun y hy => by cases hy⟩
          | cons y L ih =>
            intro hL
            obtain ⟨l', q1, q2⟩ := hL y (List.mem_cons_self ..)
            obtain ⟨L', k1, k2, k3⟩ := ih fun z hz => hL z (List.mem_cons_of_mem _ hz)
            refine ⟨(l', y.2) :: L', by simp [k1, q1], by simp [k2], fun z hz => ?_⟩
            rcases List.mem_cons.1 hz with rfl | hz
            · exact q2
            · exact k3 z hz
        obtain ⟨L', k1, k2, k3⟩ := key l hst
        have hlen : L'.length = l.length := by have := congrArg List.length k1; simpa using this
        have hsnd : ∀ j (h1 : j < L'.length) (h2 : j < l.length), L'[j].2 = l[j].2 := fun j h1 h2 => by
          have := congrArg (fun z : List Value => z[j]?) k2
          simp [h1, h2] at this
          exact this
        refine ⟨⟨L', k1, .inr ⟨b, o, c, by rw [hlen], fun j2 hj2 => ?_, fun z hz => ?_⟩, k3⟩, h.b.setCell (p := ⟨G, og + j, none⟩) g1 _⟩
        · rw [World.cell?_setCell_other _ _ _ _ (by intro e; injection e with e1; exact hGb e1), hsnd j2 hj2 (by omega)]
          exact hc j2 (by omega)
        · obtain ⟨t, ht, rfl⟩ := List.getElem_of_mem hz
          rw [hsnd t ht (by omega)]
          exact hn _ (List.getElem_mem (by omega))
end Go.Proofs.Ythpepkfodcgbcaa
