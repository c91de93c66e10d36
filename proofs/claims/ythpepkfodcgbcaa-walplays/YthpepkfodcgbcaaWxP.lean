import Derived.Test.YthpepkfodcgbcaaWq35
import Derived.Test.YthpepkfodcgbcaaWxT
import Derived.Test.YthpepkfodcgbcaaWxA
import Derived.Test.YthpepkfodcgbcaaWxM
import Derived.Test.YthpepkfodcgbcaaWxK
import Derived.Test.YthpepkfodcgbcaaWxS
/- WalPlays: the program's disk and log beside the document's in their boxes; what each act does to them. -/
set_option linter.unusedVariables false
set_option linter.unusedSimpArgs false
set_option maxRecDepth 40000
namespace Go.Proofs.Ythpepkfodcgbcaa
open Go.RowKit

theorem told_le {ep : Nat} : ∀ (k : Nat) (l : List Bs) (least : Nat), ∀ b ∈ told (readL ep k l least), b.length ≤ 3000000
  | 0, _, _ => fun b hb => by cases hb
  | k + 1, l, least => fun b hb => by
    unfold readL at hb
    cases h : recL ep l with
    | none => rw [h] at hb; cases hb
    | some y =>
      obtain ⟨b', li, n⟩ := y
      rw [h] at hb
      simp only at hb
      split at hb
      · unfold told at hb
        rw [List.map_cons] at hb
        rcases List.mem_cons.1 hb with e | hb
        · have h1 := (rec_some h).1.le
          rw [e]
          show b'.length ≤ _
          omega
        · exact told_le k _ _ b hb
      · cases hb
theorem open_le_r {d : DM} {first size : Int} {ep : Nat} {m' : LM} (h : openW d first size ep = (some m', 0)) : ∀ b ∈ m'.recs, b.length ≤ 3000000 := by
  unfold openW at h
  split at h
  · split at h
    · cases h
    · split at h
      · cases h
      · injection h with h _
        injection h with h
        subst h
        exact told_le _ _ _
  · cases h
theorem append_le_r {d : DM} {m : LM} (h : ∀ x ∈ m.recs, x.length ≤ 3000000) (b : Bs) : ∀ x ∈ (appendW m d b).1.recs, x.length ≤ 3000000 := by
  unfold appendW
  by_cases hw : whyW m b = 0
  · rw [if_pos hw]
    by_cases hp : (putW m d b).2 = 0
    · intro x hx
      simp only [if_pos hp] at hx
      rcases List.mem_append.1 hx with hx | hx
      · exact h x hx
      · cases List.mem_singleton.1 hx
        have := (why_zero hw).2.1
        omega
    · intro x hx
      simp only [if_neg hp] at hx
      exact h x hx
  · rw [if_neg hw]
    exact h
theorem sync_le_r {d : DM} {m : LM} (h : ∀ x ∈ m.recs, x.length ≤ 3000000) : ∀ x ∈ (syncW m d).1.recs, x.length ≤ 3000000 := by
  unfold syncW
  cases hb : m.broken
  · by_cases hE : (flushD d).2 = 0
    · intro x hx
      simp only [if_pos hE, Bool.false_eq_true, if_false] at hx
      exact h x hx
    · intro x hx
      simp only [if_neg hE, Bool.false_eq_true, if_false] at hx
      exact h x hx
  · exact h
/-- Act by act, over lists. -/
structure PT (q i : Nat) (d : DM) (m : LM) : Prop where
  k : ∃ sure, KeepW d m sure
  f : FitW i d m
  s : d.safe.length = 4 * (3 + q)
  g : m.first = 2 ∧ m.size = q + 1
  b : m.ep ≤ 1 + 3 * i ∧ m.li ≤ 1 + i
  r : ∀ x ∈ m.recs, x.length ≤ 3000000
theorem PT.next {q i : Nat} {d : DM} {m : LM} (h : PT q i d m) : PT q (i + 1) d m := ⟨h.k, h.f.mono (Nat.le_succ i), h.s, h.g, ⟨by have := h.b.1; omega, by have := h.b.2; omega⟩, h.r⟩
theorem pt_new {q : Nat} (hq : q < 8) : ∃ m, openW (newD (3 + q)) 2 ((1 : Int) + q) 1 = (some m, 0) ∧ PT q 0 (newD (3 + q)) m := by
  have hok := ok_new (3 + q)
  have hsl : (newD (3 + q)).safe.length = 4 * (3 + q) := by show (List.replicate ((3 + q) * 4) noughtB).length = _; rw [List.length_replicate]; omega
  have hno : decC noughtB = none := by kernel_rfl
  have hall : ∀ x ∈ regW (nowD (newD (3 + q))) 2 (q + 1), x = noughtB := fun x hx => by
    unfold regW at hx
    exact List.eq_of_mem_replicate (List.mem_of_mem_drop (List.mem_of_mem_take hx))
  have hlf : lifeW (regW (nowD (newD (3 + q))) 2 (q + 1)) = 0 := Nat.le_zero.1 (life_le fun x hx c hc => by
    rw [hall x hx, hno] at hc
    cases hc)
  have hreg : isReg (newD (3 + q)) 2 ((1 : Int) + q) = true := by
    unfold isReg
    simp only [Bool.and_eq_true, decide_eq_true_eq]
    omega
  have hop : openW (newD (3 + q)) 2 ((1 : Int) + q) 1 = (some (logW (regW (nowD (newD (3 + q))) 2 (q + 1)) 2 (q + 1) 1), 0) := by
    unfold openW
    rw [if_pos hreg, show (newD (3 + q)).off = false from rfl, if_neg Bool.false_ne_true, show ((1 : Int) + q).toNat = q + 1 by omega, show (2 : Int).toNat = 2 from rfl, hlf, if_neg (by decide)]
  have hop2 : openW (newD (3 + q)) ((2 : Nat) : Int) ((q + 1 : Nat) : Int) 1 = (some (logW (regW (nowD (newD (3 + q))) 2 (q + 1)) 2 (q + 1) 1), 0) := by rw [show ((q + 1 : Nat) : Int) = (1 : Int) + q by omega]; exact hop
  have hf := open_fit (first := 2) (size := q + 1) (Fit.new (n := 3 + q) (by omega)) (by decide) (by omega) (by omega) (by decide) hop2 0 (Nat.zero_le _)
  have hk := keep_open (d := newD (3 + q)) (first := 2) (size := q + 1) (ep := 1) hok rfl (by omega) (by decide) (by rw [hlf]; decide) (fun x hx c hc => by
    rw [hall x hx, hno] at hc
    cases hc)
  refine ⟨_, hop, ⟨⟨_, hk⟩, hf.1, hsl, ⟨rfl, rfl⟩, ⟨Nat.le_refl _, ?_⟩, open_le_r hop⟩⟩
  show lifeW (regW (nowD (newD (3 + q))) 2 (q + 1)) + 1 ≤ _
  omega
theorem pt_append {q i : Nat} {d : DM} {m : LM} (h : PT q i d m) (hi : i ≤ 400) (b : Bs) : PT q (i + 1) (appendW m d b).2.1 (appendW m d b).1 := by
  obtain ⟨f1, f2, f3, f4, f5, f6⟩ := h.f.append hi b
  obtain ⟨sure, hk⟩ := h.k
  have hk2 := keep_append hk b
  obtain ⟨m1, m2⟩ := h.g
  obtain ⟨b1, b2⟩ := h.b
  exact ⟨⟨_, hk2⟩, f1, by rw [f2]; exact h.s, ⟨f3.trans m1, f4.trans m2⟩, ⟨by rw [f5]; omega, by rw [f6]; omega⟩, append_le_r h.r b⟩
theorem pt_sync {q i : Nat} {d : DM} {m : LM} (h : PT q i d m) : PT q (i + 1) (syncW m d).2.1 (syncW m d).1 := by
  obtain ⟨f1, f2, f3, f4, f5, f6⟩ := h.f.sync
  obtain ⟨sure, hk⟩ := h.k
  obtain ⟨m1, m2⟩ := h.g
  obtain ⟨b1, b2⟩ := h.b
  refine ⟨?_, f1.mono (Nat.le_succ i), by rw [f2]; exact h.s, ⟨f3.trans m1, f4.trans m2⟩, ⟨by rw [f5]; omega, by rw [f6]; omega⟩, sync_le_r h.r⟩
  cases hb : m.broken
  · obtain ⟨k1, k2⟩ := keep_sync hk hb
    have hs : syncW m d = ((if (flushD d).2 = 0 then m else { m with broken := true }), (flushD d).1, (flushD d).2) := by unfold syncW; rw [hb]; rfl
    rw [hs]
    show ∃ s, KeepW (flushD d).1 (if (flushD d).2 = 0 then m else { m with broken := true }) s
    by_cases hE : (flushD d).2 = 0
    · rw [if_pos hE]; exact ⟨_, k1 hE⟩
    · rw [if_neg hE]; exact ⟨_, k2 hE⟩
  · have hs : syncW m d = (m, d, 9) := by unfold syncW; rw [hb]; rfl
    rw [hs]
    exact ⟨_, hk⟩
theorem pt_reset {q i : Nat} {d : DM} {m : LM} (h : PT q i d m) (hi : i ≤ 400) (t : Nat) (ht : t ≤ 3) : PT q (i + 1) d (resetW m (m.ep + t)).1 := by
  obtain ⟨sure, hk⟩ := h.k
  obtain ⟨m1, m2⟩ := h.g
  obtain ⟨b1, b2⟩ := h.b
  cases hb : m.broken
  · by_cases h0 : m.ep + t ≤ m.ep
    · have hs : resetW m (m.ep + t) = (m, 1) := by
        unfold resetW
        rw [hb, if_neg Bool.false_ne_true, if_pos h0]
      rw [hs]
      exact h.next
    · have hs : resetW m (m.ep + t) = ({ m with ep := m.ep + t, recs := [], end_ := 0 }, 0) := by
        unfold resetW
        rw [hb, if_neg Bool.false_ne_true, if_neg h0]
      have hf := (h.f.reset (m.ep + t) (by omega)).1
      rw [hs] at hf ⊢
      exact ⟨⟨0, keep_reset hk (m.ep + t) (by omega) (by omega)⟩, hf.mono (Nat.le_succ i), h.s, ⟨m1, m2⟩, ⟨by show m.ep + t ≤ _; omega, by show m.li ≤ _; omega⟩, fun x hx => by cases hx⟩
  · have hs : resetW m (m.ep + t) = (m, 9) := by
      unfold resetW
      rw [hb, if_pos rfl]
    rw [hs]
    exact h.next
theorem pt_crash {q i : Nat} {d : DM} {m : LM} (h : PT q i d m) (hq : q < 8) (hi : i ≤ 400) (keep : List Bool) : ∃ m', openW (crashD d keep) 2 ((1 : Int) + q) m.ep = (some m', 0) ∧ PT q (i + 1) (crashD d keep) m' := by
  obtain ⟨sure, hk⟩ := h.k
  obtain ⟨m1, m2⟩ := h.g
  obtain ⟨b1, b2⟩ := h.b
  obtain ⟨m', hh⟩ := keep_crash_open hk keep (by omega)
  rcases hh with ⟨h1, h2, h3, h4, h5, h6, _, _⟩ | h0
  · rw [m1, m2] at h1
    have hlen : (crashD d keep).safe.length = d.safe.length := crashL_len _ _ _
    have hs := h.s
    have hfit := open_fit (first := 2) (size := q + 1) (h.f.fit.crash keep) (by decide) (by omega) (by rw [hlen]; omega) (by omega) h1 (i + 1) (Nat.zero_le _)
    refine ⟨m', by rw [show ((1 : Int) + q) = ((q + 1 : Nat) : Int) by omega]; exact h1, ⟨⟨_, h2⟩, hfit.1, by rw [hlen]; exact h.s, ⟨h5.trans m1, h6.trans m2⟩, ⟨by omega, by omega⟩, open_le_r h1⟩⟩
  · omega
theorem pt_fuse {q i : Nat} {d : DM} {m : LM} (h : PT q i d m) (n : Int) (hn : n ≤ 9223372036854775807) : PT q (i + 1) (armD d n) m := by
  obtain ⟨e1, e2⟩ := armW_lists d n
  obtain ⟨sure, hk⟩ := h.k
  exact PT.next ⟨⟨_, keep_same hk e1 e2⟩, h.f.arm n hn, by rw [e1]; exact h.s, h.g, h.b, h.r⟩

/-- The two sides in memory; N: blocks that neither the program nor the document's rows have. -/
structure WQ (w : World) (p lp : Addr) (N : Nat → Prop) (R S : Nat) (d : DM) (m : LM) (r : DV) (g : LgV) (x : World) : Prop where
  k : ∃ A, DL A x (.pointer (some p)) (.pointer (some lp)) d m ∧ (∀ k, A k → w.heap.size ≤ k) ∧ (∀ k, N k → ¬ A k) ∧ IsRs (fun k => ¬ A k ∧ ¬ N k) x g.rv g.m.recs
  nr : N R
  ns : N S
  ne : R ≠ S
  nl : ∀ k, N k → w.heap.size ≤ k ∧ k < x.heap.size
  c8 : x.heap[R]? = some (.cells (dkC r) 31 (0, 0))
  c12 : x.heap[S]? = some (.cells (lgC g) 40 (0, 0))
  i : IsD x r
  b : Below w.heap.size w x
section
variable {w x y : World} {p lp : Addr} {N : Nat → Prop} {R S : Nat} {d : DM} {m : LM} {r : DV} {g : LgV}
theorem WQ.below (h : WQ w p lp N R S d m r g x) (hb : Below x.heap.size x y) : WQ w p lp N R S d m r g y := by
  obtain ⟨A, h1, h2, h3, h4⟩ := h.k
  exact ⟨⟨A, h1.below hb, h2, h3, h4.below hb⟩, h.nr, h.ns, h.ne, fun k hk => ⟨(h.nl k hk).1, Nat.lt_of_lt_of_le (h.nl k hk).2 hb.size⟩, (hb.block R (h.nl R h.nr).2).trans h.c8, (hb.block S (h.nl S h.ns).2).trans h.c12, h.i.below hb, h.b.trans (hb.mono h.b.size)⟩
/-- A block more is kept out. -/
theorem WQ.more (h : WQ w p lp N R S d m r g x) (hb : Below x.heap.size x y) (Q : Nat) (h1 : x.heap.size ≤ Q) (h2 : Q < y.heap.size) : WQ w p lp (fun k => N k ∨ k = Q) R S d m r g y := by
  obtain ⟨A, k1, k2, k3, k4⟩ := h.k
  have hb2 := h.below hb
  refine ⟨⟨A, k1.below hb, k2, fun k hk ha => ?_, ?_⟩, .inl h.nr, .inl h.ns, h.ne, fun k hk => ?_, hb2.c8, hb2.c12, hb2.i, hb2.b⟩
  · rcases hk with hk | rfl
    · exact k3 k hk ha
    · have := k1.lt k ha
      omega
  · exact (k4.mono (Q := fun k => ¬ A k ∧ ¬ (N k ∨ k = Q)) fun k hk hl => ⟨hk.1, fun hn => hn.elim hk.2 (fun e => by omega)⟩).below hb
  · rcases hk with hk | rfl
    · exact hb2.nl k hk
    · exact ⟨Nat.le_trans h.b.size h1, h2⟩
/-- Fewer blocks are kept out. -/
theorem WQ.less (h : WQ w p lp N R S d m r g x) (M : Nat → Prop) (hM : ∀ k, M k → N k) (h1 : M R) (h2 : M S) : WQ w p lp M R S d m r g x := by
  obtain ⟨A, k1, k2, k3, k4⟩ := h.k
  exact ⟨⟨A, k1, k2, fun k hk => k3 k (hM k hk), k4.mono fun k hk _ => ⟨hk.1, fun hn => hk.2 (hM k hn)⟩⟩, h1, h2, h.ne, fun k hk => h.nl k (hM k hk), h.c8, h.c12, h.i, h.b⟩
/-- The program's act. -/
theorem WQ.act {d' : DM} {m' : LM} {lp' : Addr} (h : WQ w p lp N R S d m r g x) (hc : ∀ A, DL A x (.pointer (some p)) (.pointer (some lp)) d m → (∀ k, A k → w.heap.size ≤ k) → ∃ A', DL A' y (.pointer (some p)) (.pointer (some lp')) d' m' ∧ Grew A A' x.heap.size ∧ ButA A x y) : WQ w p lp' N R S d' m' r g y ∧ ∀ k, N k → y.heap[k]? = x.heap[k]? := by
  obtain ⟨A, k1, k2, k3, k4⟩ := h.k
  obtain ⟨A', a1, a2, a3⟩ := hc A k1 k2
  have hk : ∀ k, N k → y.heap[k]? = x.heap[k]? := fun k hn => a3.block k (h.nl k hn).2 (k3 k hn)
  refine ⟨⟨⟨A', a1, fun k hk => (a2 k hk).elim (k2 k) (fun q => Nat.le_trans h.b.size q), fun k hn ha => (a2 k ha).elim (k3 k hn) (fun q => by have := (h.nl k hn).2; omega), ?_⟩, h.nr, h.ns, h.ne, fun k hn => ⟨(h.nl k hn).1, Nat.lt_of_lt_of_le (h.nl k hn).2 a3.size⟩, (hk R h.nr).trans h.c8, (hk S h.ns).trans h.c12, h.i.butA (fun k hk => k1.ns k hk) a3, h.b.trans (a3.below k2 h.b.size)⟩, hk⟩
  have e1 : IsRs (fun k => ¬ A k ∧ ¬ A' k ∧ ¬ N k) x g.rv g.m.recs := k4.mono fun k hk hl => ⟨hk.1, fun ha => (a2 k ha).elim hk.1 (fun q => by omega), hk.2⟩
  exact (e1.keep a3.size fun k hk hl => a3.block k hl hk.1).mono fun k hk _ => hk.2
theorem lg_laid {z : World} {g g' : LgV} {b : Nat} (h : z.heap[b]? = some (.cells (lgC g) 40 (0, 0))) : (set7 z b (.int .i64 (g'.m.first : Int)) (.int .i64 (g'.m.size : Int)) (.int .u64 (g'.m.ep : Int)) (.int .u64 (g'.m.li : Int)) (.int .i64 (g'.m.end_ : Int)) g'.rv (.bool g'.m.broken)).heap[b]? = some (.cells (lgC g') 40 (0, 0)) := by
  unfold set7
  rw [setCell_box (setCell_box (setCell_box (setCell_box (setCell_box (setCell_box (setCell_box h 0 _) 1 _) 2 _) 3 _) 4 _) 5 _) 6 _]
  rfl
theorem butA_set7 (x : World) (b : Nat) (v0 v1 v2 v3 v4 v5 v6 : Value) : ButA (fun k => k = b) x (set7 x b v0 v1 v2 v3 v4 v5 v6) :=
  ⟨by simp [set7, World.setCell], by simp [set7, World.setCell], by simp [set7, World.setCell], Nat.le_of_eq (set7_size x b v0 v1 v2 v3 v4 v5 v6).symm, fun k hk hn => set7_other x b v0 v1 v2 v3 v4 v5 v6 k hn⟩
abbrev putSW (y : World) (S : Nat) (g' : LgV) : World := set7 y S (.int .i64 (g'.m.first : Int)) (.int .i64 (g'.m.size : Int)) (.int .u64 (g'.m.ep : Int)) (.int .u64 (g'.m.li : Int)) (.int .i64 (g'.m.end_ : Int)) g'.rv (.bool g'.m.broken)
abbrev putRW (y : World) (R : Nat) (r' : DV) : World := set5 y R r'.sv r'.lv (.int .i64 r'.m.left) (.bool r'.m.fuse) (.bool r'.m.off)
/-- The document's answers are put into their boxes. -/
theorem WQ.putS {g' : LgV} (h : WQ w p lp N R S d m r g y) (hG : ∀ A, DL A y (.pointer (some p)) (.pointer (some lp)) d m → (∀ k, N k → ¬ A k) → IsRs (fun k => ¬ A k ∧ ¬ N k) y g.rv g.m.recs → IsRs (fun k => ¬ A k ∧ ¬ N k) y g'.rv g'.m.recs) : WQ w p lp N R S d m r g' (putSW y S g') ∧ ∀ k, k ≠ S → (putSW y S g').heap[k]? = y.heap[k]? := by
  obtain ⟨A, k1, k2, k3, k4⟩ := h.k
  have ho := set7_other y S (.int .i64 (g'.m.first : Int)) (.int .i64 (g'.m.size : Int)) (.int .u64 (g'.m.ep : Int)) (.int .u64 (g'.m.li : Int)) (.int .i64 (g'.m.end_ : Int)) g'.rv (.bool g'.m.broken)
  have hs := set7_size y S (.int .i64 (g'.m.first : Int)) (.int .i64 (g'.m.size : Int)) (.int .u64 (g'.m.ep : Int)) (.int .u64 (g'.m.li : Int)) (.int .i64 (g'.m.end_ : Int)) g'.rv (.bool g'.m.broken)
  have hbut := butA_set7 y S (.int .i64 (g'.m.first : Int)) (.int .i64 (g'.m.size : Int)) (.int .u64 (g'.m.ep : Int)) (.int .u64 (g'.m.li : Int)) (.int .i64 (g'.m.end_ : Int)) g'.rv (.bool g'.m.broken)
  have hGG := hG A k1 k3 k4
  have hrv : ∃ a n c, g.rv = .slice a n c := by obtain ⟨a, c, e⟩ := k4.form; exact ⟨_, _, _, e⟩
  refine ⟨⟨⟨A, k1.keep fun k ha => ho k (fun e => k3 S h.ns (e ▸ ha)), k2, k3, hGG.keep (Nat.le_of_eq hs.symm) fun k hk _ => ho k (fun e => hk.2 (e ▸ h.ns))⟩, h.nr, h.ns, h.ne, fun k hk => by rw [hs]; exact h.nl k hk, (ho R h.ne).trans h.c8, lg_laid h.c12, h.i.butA (fun k hk => by cases hk; exact noStr_lg hrv h.c12) hbut, h.b.trans (hbut.below (fun k hk => by cases hk; exact (h.nl S h.ns).1) h.b.size)⟩, ho⟩
theorem WQ.putR {r' : DV} (h : WQ w p lp N R S d m r g y) (hI : IsD y r') : WQ w p lp N R S d m r' g (putRW y R r') ∧ ∀ k, k ≠ R → (putRW y R r').heap[k]? = y.heap[k]? := by
  obtain ⟨A, k1, k2, k3, k4⟩ := h.k
  have ho := set5_other y R r'.sv r'.lv (.int .i64 r'.m.left) (.bool r'.m.fuse) (.bool r'.m.off)
  have hs := set5_size y R r'.sv r'.lv (.int .i64 r'.m.left) (.bool r'.m.fuse) (.bool r'.m.off)
  have hbut := butA_set5 y R r'.sv r'.lv (.int .i64 r'.m.left) (.bool r'.m.fuse) (.bool r'.m.off)
  refine ⟨⟨⟨A, k1.keep fun k ha => ho k (fun e => k3 R h.nr (e ▸ ha)), k2, k3, k4.keep (Nat.le_of_eq hs.symm) fun k hk _ => ho k (fun e => hk.2 (e ▸ h.nr))⟩, h.nr, h.ns, h.ne, fun k hk => by rw [hs]; exact h.nl k hk, set5_dk h.c8, (ho S (fun e => h.ne e.symm)).trans h.c12, hI.butA (fun k hk => by cases hk; exact noStr_dk h.i h.c8) hbut, h.b.trans (hbut.below (fun k hk => by cases hk; exact (h.nl R h.nr).1) h.b.size)⟩, ho⟩
end
end Go.Proofs.Ythpepkfodcgbcaa
