/- DiskPlays's walk. -/
import Derived.Test.YteacldkfdhhphaaSc14
import Derived.Deep.RegionHeld2
set_option linter.unusedVariables false
set_option linter.unusedSimpArgs false
set_option maxRecDepth 40000
namespace Go.Proofs.Yteacldkfdhhphaa
open Go.RowKit

/-- The program's disk, the document's in its box, and an act in its box. -/
structure PQ (w : World) (v : Value) (m : DM) (R : Nat) (r : DV) (Q : Nat) (a : AV) (x : World) : Prop where
  k : ∃ A, IsK A x v m ∧ (∀ k, A k → w.heap.size ≤ k) ∧ ¬ A R ∧ ¬ A Q
  c : x.heap[R]? = some (.cells (dkC r) 31 (0, 0))
  q : x.heap[Q]? = some (.cells (acC a) 37 (0, 0))
  i : IsD x r
  b : Below w.heap.size w x
  r0 : w.heap.size ≤ R
  q0 : w.heap.size ≤ Q
  ne : R ≠ Q
/-- The same without an act. -/
structure PR (w : World) (v : Value) (m : DM) (R : Nat) (r : DV) (x : World) : Prop where
  k : ∃ A, IsK A x v m ∧ (∀ k, A k → w.heap.size ≤ k) ∧ ¬ A R
  c : x.heap[R]? = some (.cells (dkC r) 31 (0, 0))
  i : IsD x r
  b : Below w.heap.size w x
  r0 : w.heap.size ≤ R
theorem blk_lt {x : World} {R : Nat} {o : Obj} (h : x.heap[R]? = some o) : R < x.heap.size := (Array.getElem?_eq_some_iff.1 h).1
theorem PQ.pr {w x : World} {v : Value} {m : DM} {R Q : Nat} {r : DV} {a : AV} (h : PQ w v m R r Q a x) : PR w v m R r x := by
  obtain ⟨A, h1, h2, h3, _⟩ := h.k
  exact ⟨⟨A, h1, h2, h3⟩, h.c, h.i, h.b, h.r0⟩
theorem PR.below {w x y : World} {v : Value} {m : DM} {R : Nat} {r : DV} (h : PR w v m R r x) (hb : Below x.heap.size x y) : PR w v m R r y := by
  obtain ⟨A, h1, h2, h3⟩ := h.k
  exact ⟨⟨A, h1.below hb, h2, h3⟩, (hb.block R (blk_lt h.c)).trans h.c, h.i.below hb, h.b.trans (hb.mono h.b.size), h.r0⟩
theorem PQ.below {w x y : World} {v : Value} {m : DM} {R Q : Nat} {r : DV} {a : AV} (h : PQ w v m R r Q a x) (hb : Below x.heap.size x y) : PQ w v m R r Q a y := by
  obtain ⟨A, h1, h2, h3, h4⟩ := h.k
  exact ⟨⟨A, h1.below hb, h2, h3, h4⟩, (hb.block R (blk_lt h.c)).trans h.c, (hb.block Q (blk_lt h.q)).trans h.q, h.i.below hb, h.b.trans (hb.mono h.b.size), h.r0, h.q0, h.ne⟩
theorem PR.liv {w x : World} {v : Value} {m : DM} {R : Nat} {r : DV} (h : PR w v m R r x) : Liv w v m x := by
  obtain ⟨A, h1, h2, _⟩ := h.k
  exact ⟨⟨A, h1, h2⟩, h.b⟩
/-- An act's box is laid. -/
theorem PR.act {w x y : World} {v : Value} {m : DM} {R : Nat} {r : DV} (h : PR w v m R r x) (a : AV) (hb : Below x.heap.size x y) (hy : y.heap[x.heap.size]? = some (.cells (acC a) 37 (0, 0))) : PQ w v m R r x.heap.size a y := by
  obtain ⟨A, h1, h2, h3⟩ := (h.below hb).k
  obtain ⟨A, k1, k2, k3⟩ := h.k
  have hR := blk_lt h.c
  exact ⟨⟨A, k1.below hb, k2, k3, fun ha => by have := k1.lt _ ha; omega⟩, (h.below hb).c, hy, (h.below hb).i, (h.below hb).b, h.r0, h.b.size, by omega⟩
theorem pq_play {w x : World} {v : Value} {m : DM} {R Q : Nat} {r : DV} {a : AV} (hF : Fit m) (h : PQ w v m R r Q a x) (hY : IsY w a.bv a.b) (hK : IsF w a.kv a.keep) (ho : OkA a) (hs : smallA a = true) :
    Calls Try.prog 13 #[v, acA a] x fun e y => e = .returned (.int .i64 (modelD m a).2) ∧ Hid (PQ w v (modelD m a).1 R r Q a y) := by
  obtain ⟨A, h1, h2, h3, h4⟩ := h.k
  unfold smallA at hs
  simp only [Bool.and_eq_true, decide_eq_true_eq] at hs
  refine (play_any A v m a x h1 hF ⟨hY.below h.b, hK.below h.b, fun hne k hk ha => by have := isF_blk hK hne k hk; have := h2 k ha; omega, ho.n, hs.1, hs.2⟩).mono fun e y hh => ⟨hh.1, hide ?_⟩
  obtain ⟨A', k1, k2, k3⟩ := hh.2
  have hR := blk_lt h.c
  have hQ := blk_lt h.q
  exact ⟨⟨A', k1, fun k hk => (k2 k hk).elim (h2 k) (fun hh => Nat.le_trans h.b.size hh), fun ha => (k2 R ha).elim h3 (fun hh => by omega), fun ha => (k2 Q ha).elim h4 (fun hh => by omega)⟩,
    (k3.block R hR h3).trans h.c, (k3.block Q hQ h4).trans h.q, h.i.butA (fun k hk => h1.ns k hk) k3, h.b.trans (k3.below h2 h.b.size), h.r0, h.q0, h.ne⟩
theorem pq_model {w x : World} {v : Value} {m : DM} {R Q : Nat} {r : DV} {a : AV} (hF : Fit r.m) (h : PQ w v m R r Q a x) (hY : IsY w a.bv a.b) (hK : IsF w a.kv a.keep) (ho : OkA a) (hs : smallA a = true) :
    Calls Try.prog 14 #[dkA r, acA a] x fun e y => ∃ r', e = .returned (.tuple #[dkA r', .int .i64 (modelD r.m a).2]) ∧ Hid (r'.m = (modelD r.m a).1) ∧ Hid (IsD y r') ∧ Hid (PQ w v m R r Q a y) := by
  unfold smallA at hs
  simp only [Bool.and_eq_true, decide_eq_true_eq] at hs
  refine (model_any r a x h.i hF.ok (hY.below h.b) (hK.below h.b) hF.s hF.l hs.1 hs.2 ⟨by have := hF.left.1; omega, hF.left.2⟩).mono fun e y hh => ?_
  obtain ⟨r', e1, e2, e3, e4⟩ := hh
  exact ⟨r', e1, hide e2, hide e3, hide (h.below e4)⟩
/-- The document's disk is put into its box. -/
theorem PQ.put {w x y : World} {v : Value} {m : DM} {R Q : Nat} {r r' : DV} {a : AV} (h : PQ w v m R r Q a x) (hi : IsD x r') (hb : ∀ k, k ≠ R → k < x.heap.size → y.heap[k]? = x.heap[k]?) (hs : x.heap.size ≤ y.heap.size) (ho : y.os = x.os) (ht : y.tape = x.tape) (hp : y.output = x.output) (hc : y.heap[R]? = some (.cells (dkC r') 31 (0, 0))) : PQ w v m R r' Q a y := by
  obtain ⟨A, h1, h2, h3, h4⟩ := h.k
  have hk : ∀ k, A k → y.heap[k]? = x.heap[k]? := fun k ha => hb k (fun e => h3 (e ▸ ha)) (h1.lt k ha)
  have hbut : ButA (fun k => k = R) x y := ⟨ho, ht, hp, hs, fun k hk hn => hb k hn hk⟩
  exact ⟨⟨A, h1.keep hk, h2, h3, h4⟩, hc, (hb Q (fun e => h.ne e.symm) (blk_lt h.q)).trans h.q, hi.butA (fun k hk => by subst hk; exact noStr_dk h.i h.c) hbut, h.b.trans (hbut.below (fun k hk => by subst hk; exact h.r0) h.b.size), h.r0, h.q0, h.ne⟩
set_option maxHeartbeats 8000000 in
theorem diskPlays_walk (n : Int) (hn : (Lit.int .i64 n).wf = true) (v0 : Value) (l0 : List AV) (w : World) (hS0 : IsS w v0 l0) (hO0 : ∀ a ∈ l0, OkA a) (hL0 : l0.length ≤ 9223372036854775807) :
    Calls Try.prog 3 #[.int .i64 n, v0] w fun e w' => e = .returned (.bool true) ∧ Below w.heap.size w w' := by
  obtain ⟨q, hq⟩ : ∃ q : Nat, pickN n 24 = q := ⟨(pickN n 24).toNat, by have := (pick_bound n 24 (by omega)).1; unfold pickN; omega⟩
  have hq2 : q < 24 := by have := (pick_bound n 24 (by omega)).2; unfold pickN at hq; omega
  have HPK : Hid (∀ x, Calls Try.prog 9 #[.int .i64 n, .int .i64 24] x fun e w' => e = .returned (.int .i64 (q : Int)) ∧ w' = x) := hide (fun x => (pick_any n 24 (by omega) (by omega) x).mono fun e w' h => by rw [hq] at h; exact h)
  have HN : Hid (∀ x, Below w.heap.size w x → Calls Try.prog 10 #[.int .i64 (1 + q : Int)] x fun e y => ∃ a, e = .returned (.tuple #[.pointer (some a), .int .i64 0]) ∧ Hid (Liv w (.pointer (some a)) (newD (1 + q)) y)) := hide (fun x hb => (live_new (1 + q : Int) w x hb (by omega)).mono fun e y hh => by
    rw [show ((1 : Int) + q).toNat = 1 + q by omega] at hh
    exact hh)
  have HRN : Hid (∀ v x, Liv w v (newD (1 + q)) x → Calls Try.prog 11 #[.int .i64 (1 + q : Int)] x fun e y => ∃ r : DV, e = .returned (.tuple #[dkA r, .int .i64 0]) ∧ Hid (r.m = newD (1 + q)) ∧ Hid (IsD y r) ∧ Hid (Liv w v (newD (1 + q)) y)) := hide (fun v x hl => (rnew_any (1 + q : Int) x).mono fun e y hh => by
    obtain ⟨r, e1, e2, e3, e4⟩ := hh
    rw [show newR ((1 : Int) + q) = (newD (1 + q), 0) by unfold newR; rw [if_pos (by omega), show ((1 : Int) + q).toNat = 1 + q by omega]] at e1 e2
    exact ⟨r, e1, hide e2, hide e3, hide (hl.below e4)⟩)
  obtain ⟨a0, c0, rfl⟩ := hS0.form
  have hw1 : wrap64 (1 + (q : Int)) = 1 + (q : Int) := by unfold wrap64; omega
  clear hn hq
  go_enter Try.func3, Try.ntmps3
  go_wp2_with fail
  refine (HPK.out _).mono ?_
  rintro e x1 ⟨rfl, rfl⟩
  have H1 := hide (HN.out x1 (Below.refl _ _))
  clear HPK HN
  go_wp2_with fail
  refine H1.out.mono ?_
  rintro e x2 ⟨ap, rfl, L2⟩
  have H2 := hide (HRN.out _ x2 L2.out)
  clear H1 HRN L2
  go_wp2_with fail
  refine H2.out.mono ?_
  rintro e x3 ⟨r, rfl, m3, i3, L3⟩
  obtain ⟨sa, sc, es⟩ := i3.out.s.form
  obtain ⟨la, lc, el⟩ := i3.out.l.form
  obtain ⟨⟨safe, l, left, fuse, off⟩, sv, lv⟩ := r
  simp only [] at es el
  subst es el
  simp only [] at *
  have P0 : Hid (PR x1 (.pointer (some ap)) (newD (1 + q)) x3.heap.size ⟨⟨safe, l, left, fuse, off⟩, .slice sa safe.length sc, .slice la l.length lc⟩ (x3.alloc (.cells #[.slice sa safe.length sc, .slice la l.length lc, .int .i64 left, .bool fuse, .bool off] 31))) := hide (by
    obtain ⟨A, h1, h2⟩ := L3.out.k
    have hb := below_alloc x3 (.cells #[.slice sa safe.length sc, .slice la l.length lc, .int .i64 left, .bool fuse, .bool off] 31)
    exact ⟨⟨A, h1.below hb, h2, fun ha => by have := h1.lt _ ha; omega⟩, alloc_new x3 _, i3.out.below hb, (L3.out.below hb).b, L3.out.b.size⟩)
  have HR0 : Hid (Run (4 * (1 + q)) 0 (newD (1 + q))) := hide ⟨Fit.new (by omega), by show (List.replicate ((1 + q) * 4) noughtB).length = _; rw [List.length_replicate]; omega, Nat.zero_le _⟩
  have HAC : Hid (∀ i (hi : i < l0.length), ∃ g o, a0 = some ⟨g, o, none⟩ ∧ (∀ x, Below x1.heap.size x1 x → x.cell? ⟨g, o + i * 5, none⟩ = some (.int .i64 l0[i].kind) ∧ x.cell? ⟨g, o + i * 5 + 1, none⟩ = some (.int .i64 l0[i].n) ∧ x.cell? ⟨g, o + i * 5 + 2, none⟩ = some l0[i].bv ∧ x.cell? ⟨g, o + i * 5 + 3, none⟩ = some (.bool l0[i].short) ∧ x.cell? ⟨g, o + i * 5 + 4, none⟩ = some l0[i].kv) ∧ IsY x1 l0[i].bv l0[i].b ∧ IsF x1 l0[i].kv l0[i].keep ∧ OkA l0[i]) := hide (fun i hi => by
    obtain ⟨g, o, e, _, h1, h2, h3⟩ := hS0.at_ i hi
    exact ⟨g, o, e, h1, h2, h3, hO0 _ (List.getElem_mem hi)⟩)
  have HSM : Hid (∀ x (a : AV), Below x1.heap.size x1 x → IsY x1 a.bv a.b → IsF x1 a.kv a.keep → Calls Try.prog 12 #[acA a] x fun e y => e = .returned (.bool (smallA a)) ∧ Hid (Below x.heap.size x y)) := hide (fun x a hb hy hf => live_small hb hy hf)
  have HAL := hide alive_any
  clear H2 hS0 hO0 L3 i3
  go_wp2
  generalize x3.alloc (.cells #[.slice sa safe.length sc, .slice la l.length lc, .int .i64 left, .bool fuse, .bool off] 31) = x4 at *
  generalize x3.heap.size = R at *
  go_loopw [10] (fun vi wr => ∃ (i : Nat), vi = .int .i64 (i : Int) ∧ i ≤ 40 ∧ i ≤ l0.length ∧ ∃ r, Hid (Run (4 * (1 + q)) i r.m) ∧ Hid (PR x1 (.pointer (some ap)) r.m R r wr)) (fun vi _ => 40 - (intOf vi).toNat)
  case atStart =>
    rw [← m3.out] at P0 HR0
    exact ⟨0, rfl, Nat.zero_le _, Nat.zero_le _, ⟨⟨safe, l, left, fuse, off⟩, .slice sa safe.length sc, .slice la l.length lc⟩, HR0, P0⟩
  case round =>
    clear P0 HR0 m3
    obtain ⟨i, rfl, hi, hi2, r, RN, P⟩ := hrel
    by_cases hlt : i < l0.length ∧ i < 40
    · obtain ⟨hl1, hl3⟩ := hlt
      have hl1' : (i : Int) < l0.length := by omega
      have hl3' : (i : Int) < 40 := by omega
      obtain ⟨g, o, rfl, hc, hy, hf, hok⟩ := HAC.out i hl1
      obtain ⟨z0, z1, z2, z3, z4⟩ := hc wr P.out.b
      have hba := below_alloc wr (.cells (acC l0[i]) 37)
      have PQ0 := P.out.act l0[i] hba (alloc_new wr _)
      have HS1 := hide (HSM.out _ l0[i] PQ0.b hy hf)
      have HNX := hide RN.out.next
      have HQ0 := hide (fun x (hb : Below (wr.alloc (.cells (acC l0[i]) 37)).heap.size (wr.alloc (.cells (acC l0[i]) 37)) x) => PQ0.below hb)
      have HPL := hide (fun (hs : smallA (l0[i]'hl1) = true) x (h : PQ x1 (.pointer (some ap)) r.m R r wr.heap.size (l0[i]'hl1) x) => pq_play RN.out.fit h hy hf hok hs)
      have HMO := hide (fun (hs : smallA (l0[i]'hl1) = true) x m (h : PQ x1 (.pointer (some ap)) m R r wr.heap.size (l0[i]'hl1) x) => pq_model RN.out.fit h hy hf hok hs)
      have HRN := hide (RN.out.act (by omega) (l0[i]'hl1) hok)
      obtain ⟨ba, bc, eb⟩ := hy.form
      obtain ⟨ka, kc, ek⟩ := hf.form
      clear hc hy hf hok hba PQ0 HAC HSM RN HAL P
      generalize l0[i] = ac at *
      obtain ⟨kind, n', ab, short, keep, bv, kv⟩ := ac
      simp only [] at eb ek z0 z1 z2 z3 z4
      subst eb ek
      generalize ab.length = abl at *
      generalize keep.length = kl at *
      generalize hsm : smallA ⟨kind, n', ab, short, keep, .slice ba abl bc, .slice ka kl kc⟩ = sm at *
      cases sm
      · clear HPL HMO HRN
        go_wp2_with fail
        refine HS1.out.mono ?_
        rintro e y1 ⟨rfl, b1⟩
        have L1 := hide (HQ0.out y1 b1.out).pr
        clear HS1 HQ0 b1 z0 z1 z2 z3 z4 hsm
        go_wp2
        go_roundw
        case rel => exact ⟨i + 1, by go_num, by omega, by omega, r, HNX, L1⟩
        case measure => simp [intOf]; omega
      · have HP1 := hide (HPL.out rfl)
        have HM1 := hide (HMO.out rfl)
        clear HPL HMO HNX
        go_wp2_with fail
        refine HS1.out.mono ?_
        rintro e y1 ⟨rfl, b1⟩
        have Q1 := hide (HQ0.out y1 b1.out)
        have H1 := hide (HP1.out y1 Q1.out)
        obtain ⟨z0, z1, z2, z3, z4⟩ := ac_cells Q1.out.q
        simp only [] at z0 z1 z2 z3 z4
        clear HS1 HQ0 b1 hsm HP1 Q1
        go_wp2_with fail
        refine H1.out.mono ?_
        rintro e y2 ⟨rfl, Q2⟩
        obtain ⟨z0, z1, z2, z3, z4⟩ := ac_cells Q2.out.q
        obtain ⟨s0, s1, s2, s3, s4, f0, f1, f2, f3, f4⟩ := dk_cells Q2.out.c
        simp only [] at z0 z1 z2 z3 z4
        have H2 := hide (HM1.out y2 _ Q2.out)
        obtain ⟨sa1, sc1, es⟩ := Q2.out.i.s.form
        obtain ⟨la1, lc1, el⟩ := Q2.out.i.l.form
        obtain ⟨⟨rs, rl, rleft, rfu, rof⟩, rsv, rlv⟩ := r
        simp only [] at es el s0 s1 s2 s3 s4
        subst es el
        simp only [] at *
        generalize hmd : modelD ⟨rs, rl, rleft, rfu, rof⟩ ⟨kind, n', ab, short, keep, .slice ba abl bc, .slice ka kl kc⟩ = MD at *
        clear hmd H1 HM1 Q2
        generalize rs.length = rsl at *
        generalize rl.length = rll at *
        go_wp2_with fail
        refine H2.out.mono ?_
        rintro e y3 ⟨r', rfl, m3, i3, Q3⟩
        obtain ⟨sa2, sc2, es⟩ := i3.out.s.form
        obtain ⟨la2, lc2, el⟩ := i3.out.l.form
        obtain ⟨⟨ts, tl, tleft, tfu, tof⟩, tsv, tlv⟩ := r'
        simp only [] at es el
        subst es el
        simp only [] at *
        obtain ⟨z0, z1, z2, z3, z4⟩ := ac_cells Q3.out.q
        obtain ⟨s0, s1, s2, s3, s4, f0, f1, f2, f3, f4⟩ := dk_cells Q3.out.c
        simp only [] at z0 z1 z2 z3 z4 s0 s1 s2 s3 s4
        have hRl := blk_lt Q3.out.c
        have hal : ∀ (o : Obj) (j : Nat), (y3.alloc o).cell? ⟨R, j, none⟩ = y3.cell? ⟨R, j, none⟩ := fun o j => cell_blk ((below_alloc y3 o).block R hRl) j
        have hfa : ∀ (o : Obj) (j : Nat), (y3.alloc o).frozen? ⟨R, j, none⟩ = y3.frozen? ⟨R, j, none⟩ := fun o j => frozen_blk ((below_alloc y3 o).block R hRl) j
        have t0 : ∀ o, (y3.alloc o).cell? ⟨R, 0, none⟩ = some _ := fun o => (hal o 0).trans s0
        have t1 : ∀ o, (y3.alloc o).cell? ⟨R, 1, none⟩ = some _ := fun o => (hal o 1).trans s1
        have t2 : ∀ o, (y3.alloc o).cell? ⟨R, 2, none⟩ = some _ := fun o => (hal o 2).trans s2
        have t3 : ∀ o, (y3.alloc o).cell? ⟨R, 3, none⟩ = some _ := fun o => (hal o 3).trans s3
        have t4 : ∀ o, (y3.alloc o).cell? ⟨R, 4, none⟩ = some _ := fun o => (hal o 4).trans s4
        have g0 : ∀ o, (y3.alloc o).frozen? ⟨R, 0, none⟩ = false := fun o => (hfa o 0).trans f0
        have g1 : ∀ o, (y3.alloc o).frozen? ⟨R, 1, none⟩ = false := fun o => (hfa o 1).trans f1
        have g2 : ∀ o, (y3.alloc o).frozen? ⟨R, 2, none⟩ = false := fun o => (hfa o 2).trans f2
        have g3 : ∀ o, (y3.alloc o).frozen? ⟨R, 3, none⟩ = false := fun o => (hfa o 3).trans f3
        have g4 : ∀ o, (y3.alloc o).frozen? ⟨R, 4, none⟩ = false := fun o => (hfa o 4).trans f4
        have hQl := blk_lt Q3.out.q
        have hne := Q3.out.ne
        have u1 : ∀ o v0 v1 v2 v3 v4, (set5 (y3.alloc o) R v0 v1 v2 v3 v4).cell? ⟨wr.heap.size, 1, none⟩ = some (.int .i64 n') := fun o v0 v1 v2 v3 v4 => (cell_blk (set5_other _ _ _ _ _ _ _ _ (fun e => hne e.symm)) 1).trans ((cell_blk ((below_alloc y3 o).block _ hQl) 1).trans z1)
        have u2 : ∀ o v0 v1 v2 v3 v4, ((set5 y3 R v0 v1 v2 v3 v4).alloc o).cell? ⟨wr.heap.size, 1, none⟩ = some (.int .i64 n') := fun o v0 v1 v2 v3 v4 => (cell_blk ((below_alloc (set5 y3 R v0 v1 v2 v3 v4) o).block _ (by rw [set5_size]; exact hQl)) 1).trans ((cell_blk (set5_other _ _ _ _ _ _ _ _ (fun e => hne e.symm)) 1).trans z1)
        clear H2 hal hfa hRl z0 z1 z2 z3 z4 hQl hne s0 s1 s2 s3 s4 f0 f1 f2 f3 f4
        have Q4 : PQ x1 (.pointer (some ap)) MD.1 R ⟨⟨ts, tl, tleft, tfu, tof⟩, .slice sa2 ts.length sc2, .slice la2 tl.length lc2⟩ wr.heap.size ⟨kind, n', ab, short, keep, .slice ba abl bc, .slice ka kl kc⟩ (set5 (y3.alloc (.cells #[.slice sa2 ts.length sc2, .slice la2 tl.length lc2, .int .i64 tleft, .bool tfu, .bool tof] 31)) R (.slice sa2 ts.length sc2) (.slice la2 tl.length lc2) (.int .i64 tleft) (.bool tfu) (.bool tof)) :=
          Q3.out.put i3.out (fun k hk hks => (set5_other _ _ _ _ _ _ _ _ hk).trans ((below_alloc y3 _).block k hks)) (by rw [set5_size]; simp) rfl rfl rfl
            (set5_dk (e := ⟨⟨ts, tl, tleft, tfu, tof⟩, .slice sa2 ts.length sc2, .slice la2 tl.length lc2⟩) (((below_alloc y3 _).block R (blk_lt Q3.out.c)).trans Q3.out.c))
        have hm' : MD.1 = ⟨ts, tl, tleft, tfu, tof⟩ := m3.out.symm
        rw [hm'] at Q4 HRN
        have hFit := HRN.out.fit
        have HRD : Hid (∀ x, PQ x1 (.pointer (some ap)) ⟨ts, tl, tleft, tfu, tof⟩ R ⟨⟨ts, tl, tleft, tfu, tof⟩, .slice sa2 ts.length sc2, .slice la2 tl.length lc2⟩ wr.heap.size ⟨kind, n', ab, short, keep, .slice ba abl bc, .slice ka kl kc⟩ x → Calls Try.prog 15 #[.pointer (some ap), .int .i64 n'] x fun e y => ∃ p c, e = .returned (.tuple #[.slice p (readD ⟨ts, tl, tleft, tfu, tof⟩ n').1.length c, .int .i64 (readD ⟨ts, tl, tleft, tfu, tof⟩ n').2]) ∧ Hid (NewY x.heap.size y (.slice p (readD ⟨ts, tl, tleft, tfu, tof⟩ n').1.length c) (readD ⟨ts, tl, tleft, tfu, tof⟩ n').1) ∧ Hid (PQ x1 (.pointer (some ap)) ⟨ts, tl, tleft, tfu, tof⟩ R ⟨⟨ts, tl, tleft, tfu, tof⟩, .slice sa2 ts.length sc2, .slice la2 tl.length lc2⟩ wr.heap.size ⟨kind, n', ab, short, keep, .slice ba abl bc, .slice ka kl kc⟩ y)) := hide (fun x h => (live_read hFit h.pr.liv).mono fun e y hh => by
          obtain ⟨p, c, e1, e2, e3⟩ := hh
          exact ⟨p, c, e1, e2, hide (h.below e3.out)⟩)
        have HRR : Hid (∀ x, PQ x1 (.pointer (some ap)) ⟨ts, tl, tleft, tfu, tof⟩ R ⟨⟨ts, tl, tleft, tfu, tof⟩, .slice sa2 ts.length sc2, .slice la2 tl.length lc2⟩ wr.heap.size ⟨kind, n', ab, short, keep, .slice ba abl bc, .slice ka kl kc⟩ x → Calls Try.prog 16 #[.agg #[.slice sa2 ts.length sc2, .slice la2 tl.length lc2, .int .i64 tleft, .bool tfu, .bool tof], .int .i64 n'] x fun e y => ∃ p c, e = .returned (.tuple #[.slice p (readD ⟨ts, tl, tleft, tfu, tof⟩ n').1.length c, .int .i64 (readD ⟨ts, tl, tleft, tfu, tof⟩ n').2]) ∧ Hid (NewY x.heap.size y (.slice p (readD ⟨ts, tl, tleft, tfu, tof⟩ n').1.length c) (readD ⟨ts, tl, tleft, tfu, tof⟩ n').1) ∧ Hid (Below x.heap.size x y)) := hide (fun x h => (rread_any ⟨⟨ts, tl, tleft, tfu, tof⟩, .slice sa2 ts.length sc2, .slice la2 tl.length lc2⟩ n' x h.i hFit.ok hFit.s hFit.l).mono fun e y hh => by
          obtain ⟨v, e1, e2, e3⟩ := hh
          obtain ⟨p, c, rfl⟩ := owns_formG e2
          exact ⟨p, c, e1, hide (owns_newY e2), hide e3⟩)
        have HPE : Hid (∀ x, PQ x1 (.pointer (some ap)) ⟨ts, tl, tleft, tfu, tof⟩ R ⟨⟨ts, tl, tleft, tfu, tof⟩, .slice sa2 ts.length sc2, .slice la2 tl.length lc2⟩ wr.heap.size ⟨kind, n', ab, short, keep, .slice ba abl bc, .slice ka kl kc⟩ x → Calls Try.prog 17 #[.pointer (some ap)] x fun e y => e = .returned (.int .i64 (tl.length : Int)) ∧ Hid (Below x.heap.size x y)) := hide (fun x h => live_pending hFit h.pr.liv)
        have HDP : Hid (∀ x, PQ x1 (.pointer (some ap)) ⟨ts, tl, tleft, tfu, tof⟩ R ⟨⟨ts, tl, tleft, tfu, tof⟩, .slice sa2 ts.length sc2, .slice la2 tl.length lc2⟩ wr.heap.size ⟨kind, n', ab, short, keep, .slice ba abl bc, .slice ka kl kc⟩ x → Calls Try.prog 18 #[.pointer (some ap)] x fun e y => ∃ p c, e = .returned (.slice p (dumpD ⟨ts, tl, tleft, tfu, tof⟩).length c) ∧ Hid (NewY x.heap.size y (.slice p (dumpD ⟨ts, tl, tleft, tfu, tof⟩).length c) (dumpD ⟨ts, tl, tleft, tfu, tof⟩)) ∧ Hid (Below x.heap.size x y)) := hide (fun x h => live_dump hFit h.pr.liv)
        have HDR : Hid (∀ x, PQ x1 (.pointer (some ap)) ⟨ts, tl, tleft, tfu, tof⟩ R ⟨⟨ts, tl, tleft, tfu, tof⟩, .slice sa2 ts.length sc2, .slice la2 tl.length lc2⟩ wr.heap.size ⟨kind, n', ab, short, keep, .slice ba abl bc, .slice ka kl kc⟩ x → Calls Try.prog 19 #[.agg #[.slice sa2 ts.length sc2, .slice la2 tl.length lc2, .int .i64 tleft, .bool tfu, .bool tof]] x fun e y => ∃ p c, e = .returned (.slice p (dumpD ⟨ts, tl, tleft, tfu, tof⟩).length c) ∧ Hid (NewY x.heap.size y (.slice p (dumpD ⟨ts, tl, tleft, tfu, tof⟩).length c) (dumpD ⟨ts, tl, tleft, tfu, tof⟩)) ∧ Hid (Below x.heap.size x y)) := hide (fun x h => (rdump_any ⟨⟨ts, tl, tleft, tfu, tof⟩, .slice sa2 ts.length sc2, .slice la2 tl.length lc2⟩ x h.i hFit.ok hFit.s hFit.l).mono fun e y hh => by
          obtain ⟨v, e1, e2, e3⟩ := hh
          obtain ⟨p, c, rfl⟩ := owns_formG e2
          exact ⟨p, c, e1, hide (owns_newY e2), hide e3⟩)
        have HNX := hide HRN.out
        have hMD2 : MD.2 = MD.2 := rfl
        clear HRN hm' hFit Q3 i3 m3
        generalize hRD : readD ⟨ts, tl, tleft, tfu, tof⟩ n' = RD at *
        generalize hDD : dumpD ⟨ts, tl, tleft, tfu, tof⟩ = DD at *
        clear hRD hDD
        have H3 := hide (HRD.out _ Q4)
        generalize hPQ : (fun x => PQ x1 (.pointer (some ap)) ⟨ts, tl, tleft, tfu, tof⟩ R ⟨⟨ts, tl, tleft, tfu, tof⟩, .slice sa2 ts.length sc2, .slice la2 tl.length lc2⟩ wr.heap.size ⟨kind, n', ab, short, keep, .slice ba abl bc, .slice ka kl kc⟩ x) = PP
        clear hPQ PP HRD Q4
        go_wp2_with fail
        refine H3.out.mono ?_
        clear H3 t0 t1 t2 t3 t4 g0 g1 g2 g3 g4 u1 u2
        rintro e y4 ⟨p4, c4, rfl, n4, Q5⟩
        obtain ⟨z0, z1, z2, z3, z4⟩ := ac_cells Q5.out.q
        obtain ⟨s0, s1, s2, s3, s4, f0, f1, f2, f3, f4⟩ := dk_cells Q5.out.c
        simp only [] at z0 z1 z2 z3 z4 s0 s1 s2 s3 s4
        have H4 := hide (HRR.out y4 Q5.out)
        clear HRR z0 z2 z3 z4 f0 f1 f2 f3 f4
        go_wp2_with fail
        refine H4.out.mono ?_
        rintro e x9 ⟨p9, c9, rfl, n9, b9⟩
        have Q6 := hide (fun W (hb : Below x9.heap.size x9 W) => (Q5.out.below b9.out).below hb)
        have HCV : Hid (∀ W, Below x9.heap.size x9 W → (convert 34 9 (.slice p4 RD.1.length c4)).run Try.prog W = .ok (.string ⟨RD.1.toArray⟩) W) := hide (fun W hb => conv_newY ((n4.out.below b9.out).below hb))
        have HCW : Hid (∀ W, Below x9.heap.size x9 W → (convert 34 9 (.slice p9 RD.1.length c9)).run Try.prog W = .ok (.string ⟨RD.1.toArray⟩) W) := hide (fun W hb => conv_newY (n9.out.below hb))
        clear H4 Q5 n4 n9 b9 s0 s1 s2 s3 s4 z1
        obtain ⟨RB, RE⟩ := RD
        obtain ⟨MM, ME⟩ := MD
        simp only [] at *
        generalize hRS : (⟨RB.toArray⟩ : ByteArray) = RS at *
        clear hRS
        generalize RB.length = rbl at *
        generalize hdl : DD.length = dl at *
        clear hdl
        go_wp2_with fail
        refine wp_region_held_drew (S := fun W' => Below x9.heap.size x9 W') (by kernel_rfl) (Below.refl _ x9).drew (fun hHeld => ?_)
        refine wpAnyH_take (i := 0) (v := ?_) rfl (by kernel_rfl) (by kernel_rfl) (by kernel_rfl) (fun _ _ _ h => h) (Or.inl ⟨by kernel_rfl, ?_⟩) hHeld ?_
        rotate_left
        · intro W hSw
          clear hSw
          go_simp <;> with_reducible rfl
        simp only [Act.put, List.getElem_toArray, List.getElem_cons_zero, List.getElem_cons_succ, List.setIfInBounds_toArray, List.set_cons_zero, List.set_cons_succ]
        refine wpAnyH_take (i := 1) (v := ?_) rfl (by kernel_rfl) (by kernel_rfl) (by kernel_rfl) (fun _ _ _ h => h) (Or.inl ⟨by kernel_rfl, ?_⟩) hHeld ?_
        rotate_left
        · intro W hSw
          clear hSw
          go_simp <;> with_reducible rfl
        simp only [Act.put, List.getElem_toArray, List.getElem_cons_zero, List.getElem_cons_succ, List.setIfInBounds_toArray, List.set_cons_zero, List.set_cons_succ]
        refine wpAnyH_take (i := 2) (v := .bool false) rfl (by kernel_rfl) (by kernel_rfl) (by kernel_rfl) (fun _ _ _ h => h) (Or.inl ⟨by kernel_rfl, fun _ _ => by go_simp⟩) hHeld ?_
        simp only [Act.put, List.getElem_toArray, List.getElem_cons_zero, List.getElem_cons_succ, List.setIfInBounds_toArray, List.set_cons_zero, List.set_cons_succ]
        refine wpAnyH_take (i := 3) (v := .bool false) rfl (by kernel_rfl) (by kernel_rfl) (by kernel_rfl) (fun _ _ _ h => h) (Or.inl ⟨by kernel_rfl, fun _ _ => by go_simp⟩) hHeld ?_
        simp only [Act.put, List.getElem_toArray, List.getElem_cons_zero, List.getElem_cons_succ, List.setIfInBounds_toArray, List.set_cons_zero, List.set_cons_succ]
        refine wpAnyH_take (i := 4) (v := ?_) rfl (by kernel_rfl) (by kernel_rfl) (by kernel_rfl) (fun _ _ _ h => h) (Or.inl ⟨by kernel_rfl, ?_⟩) hHeld ?_
        rotate_left
        · intro W hSw
          clear hSw
          go_simp <;> with_reducible rfl
        simp only [Act.put, List.getElem_toArray, List.getElem_cons_zero, List.getElem_cons_succ, List.setIfInBounds_toArray, List.set_cons_zero, List.set_cons_succ]
        refine wpAnyH_take (i := 5) (v := ?_) rfl (by kernel_rfl) (by kernel_rfl) (by kernel_rfl) (fun _ _ _ h => h) (Or.inl ⟨by kernel_rfl, ?_⟩) hHeld ?_
        rotate_left
        · intro W hSw
          clear hSw
          go_simp <;> with_reducible rfl
        simp only [Act.put, List.getElem_toArray, List.getElem_cons_zero, List.getElem_cons_succ, List.setIfInBounds_toArray, List.set_cons_zero, List.set_cons_succ]
        refine wpAnyH_take (i := 6) (v := .bool false) rfl (by kernel_rfl) (by kernel_rfl) (by kernel_rfl) (fun _ _ _ h => h) (Or.inl ⟨by kernel_rfl, fun _ _ => by go_simp⟩) hHeld ?_
        simp only [Act.put, List.getElem_toArray, List.getElem_cons_zero, List.getElem_cons_succ, List.setIfInBounds_toArray, List.set_cons_zero, List.set_cons_succ]
        refine wpAnyH_take (i := 7) (v := .bool false) rfl (by kernel_rfl) (by kernel_rfl) (by kernel_rfl) (fun _ _ _ h => h) (Or.inl ⟨by kernel_rfl, fun _ _ => by go_simp⟩) hHeld ?_
        simp only [Act.put, List.getElem_toArray, List.getElem_cons_zero, List.getElem_cons_succ, List.setIfInBounds_toArray, List.set_cons_zero, List.set_cons_succ]
        refine wpAnyH_take (i := 8) (v := .bool false) rfl (by kernel_rfl) (by kernel_rfl) (by kernel_rfl) (fun _ _ _ h => h) (Or.inl ⟨by kernel_rfl, fun _ _ => by go_simp⟩) hHeld ?_
        simp only [Act.put, List.getElem_toArray, List.getElem_cons_zero, List.getElem_cons_succ, List.setIfInBounds_toArray, List.set_cons_zero, List.set_cons_succ]
        refine wpAnyH_take (i := 9) (v := ?_) rfl (by kernel_rfl) (by kernel_rfl) (by kernel_rfl) (fun _ _ _ h => h) (Or.inl ⟨by kernel_rfl, ?_⟩) hHeld ?_
        rotate_left
        · intro W hSw
          clear hSw
          go_simp <;> with_reducible rfl
        simp only [Act.put, List.getElem_toArray, List.getElem_cons_zero, List.getElem_cons_succ, List.setIfInBounds_toArray, List.set_cons_zero, List.set_cons_succ]
        refine wpAnyH_take (i := 10) (v := ?_) rfl (by kernel_rfl) (by kernel_rfl) (by kernel_rfl) (fun _ _ _ h => h) (Or.inl ⟨by kernel_rfl, ?_⟩) hHeld ?_
        rotate_left
        · intro W hSw
          have hcv := HCV.out _ hSw
          clear hSw
          go_simp <;> with_reducible rfl
        simp only [Act.put, List.getElem_toArray, List.getElem_cons_zero, List.getElem_cons_succ, List.setIfInBounds_toArray, List.set_cons_zero, List.set_cons_succ]
        refine wpAnyH_take (i := 11) (v := ?_) rfl (by kernel_rfl) (by kernel_rfl) (by kernel_rfl) (fun _ _ _ h => h) (Or.inl ⟨by kernel_rfl, ?_⟩) hHeld ?_
        rotate_left
        · intro W hSw
          clear hSw
          go_simp <;> with_reducible rfl
        simp only [Act.put, List.getElem_toArray, List.getElem_cons_zero, List.getElem_cons_succ, List.setIfInBounds_toArray, List.set_cons_zero, List.set_cons_succ]
        refine wpAnyH_take (i := 12) (v := ?_) rfl (by kernel_rfl) (by kernel_rfl) (by kernel_rfl) (fun _ _ _ h => h) (Or.inl ⟨by kernel_rfl, ?_⟩) hHeld ?_
        rotate_left
        · intro W hSw
          have hcv := HCW.out _ hSw
          clear hSw
          go_simp <;> with_reducible rfl
        simp only [Act.put, List.getElem_toArray, List.getElem_cons_zero, List.getElem_cons_succ, List.setIfInBounds_toArray, List.set_cons_zero, List.set_cons_succ]
        refine wpAnyH_take (i := 13) (v := .bool false) rfl (by kernel_rfl) (by kernel_rfl) (by kernel_rfl) (fun _ _ _ h => h) (Or.inl ⟨by kernel_rfl, fun _ _ => by go_simp⟩) hHeld ?_
        simp only [Act.put, List.getElem_toArray, List.getElem_cons_zero, List.getElem_cons_succ, List.setIfInBounds_toArray, List.set_cons_zero, List.set_cons_succ]
        refine wpAnyH_take (i := 14) (v := .bool false) rfl (by kernel_rfl) (by kernel_rfl) (by kernel_rfl) (fun _ _ _ h => h) (Or.inl ⟨by kernel_rfl, fun _ _ => by go_simp⟩) hHeld ?_
        simp only [Act.put, List.getElem_toArray, List.getElem_cons_zero, List.getElem_cons_succ, List.setIfInBounds_toArray, List.set_cons_zero, List.set_cons_succ]
        refine wpAnyH_take (i := 15) (v := .bool false) rfl (by kernel_rfl) (by kernel_rfl) (by kernel_rfl) (fun _ _ _ h => h) (Or.inl ⟨by kernel_rfl, fun _ _ => by go_simp⟩) hHeld ?_
        simp only [Act.put, List.getElem_toArray, List.getElem_cons_zero, List.getElem_cons_succ, List.setIfInBounds_toArray, List.set_cons_zero, List.set_cons_succ]
        refine wpAnyH_take (i := 16) (v := ?_) rfl (by kernel_rfl) (by kernel_rfl) (by kernel_rfl) (fun _ _ _ h => h) (Or.inl ⟨by kernel_rfl, ?_⟩) hHeld ?_
        rotate_left
        · intro W hSw
          clear hSw
          go_simp <;> with_reducible rfl
        simp only [Act.put, List.getElem_toArray, List.getElem_cons_zero, List.getElem_cons_succ, List.setIfInBounds_toArray, List.set_cons_zero, List.set_cons_succ]
        refine wpAnyH_take (i := 18) (v := ?_) rfl (by kernel_rfl) (by kernel_rfl) (by kernel_rfl) (fun _ _ _ h => h) (Or.inl ⟨by kernel_rfl, ?_⟩) hHeld ?_
        rotate_left
        · intro W hSw
          clear hSw
          go_simp <;> with_reducible rfl
        simp only [Act.put, List.getElem_toArray, List.getElem_cons_zero, List.getElem_cons_succ, List.setIfInBounds_toArray, List.set_cons_zero, List.set_cons_succ]
        refine wpAnyH_take (i := 19) (v := ?_) rfl (by kernel_rfl) (by kernel_rfl) (by kernel_rfl) (fun _ _ _ h => h) (Or.inl ⟨by kernel_rfl, ?_⟩) hHeld ?_
        rotate_left
        · intro W hSw
          obtain ⟨s0, s1, s2, s3, s4, _⟩ := dk_cells (Q6.out _ hSw).c
          simp only [] at s0 s1 s2 s3 s4
          clear hSw
          go_simp <;> with_reducible rfl
        simp only [Act.put, List.getElem_toArray, List.getElem_cons_zero, List.getElem_cons_succ, List.setIfInBounds_toArray, List.set_cons_zero, List.set_cons_succ]
        refine wpAnyH_take (i := 20) (v := ?_) rfl (by kernel_rfl) (by kernel_rfl) (by kernel_rfl) (fun _ _ _ h => h) (Or.inl ⟨by kernel_rfl, ?_⟩) hHeld ?_
        rotate_left
        · intro W hSw
          clear hSw
          go_simp <;> with_reducible rfl
        simp only [Act.put, List.getElem_toArray, List.getElem_cons_zero, List.getElem_cons_succ, List.setIfInBounds_toArray, List.set_cons_zero, List.set_cons_succ]
        have HB5 := hide (HPE.out _ (Q6.out _ hHeld))
        refine wpAnyH_ready (rs := [17]) (by kernel_rfl) (by simp) ?_
        refine AllReadyH.cons rfl (fun K hK => ?_) AllReadyH.nil
        go_simp
        go_wp2_with (first | (go_at_call 17; refine HB5.out.mono ?_; rintro e y5 ⟨rfl, b5⟩))
        refine hK.out _ _ ?_ (fun hHeld => ?_)
        · exact Below.trans hHeld (b5.out.mono hHeld.size)
        clear hK K
        try simp only [Act.put, List.getElem_toArray, List.getElem_cons_zero, List.getElem_cons_succ, List.setIfInBounds_toArray, List.set_cons_zero, List.set_cons_succ]
        clear b5 HB5
        refine wpAnyH_take (i := 21) (v := .bool false) rfl (by kernel_rfl) (by kernel_rfl) (by kernel_rfl) (fun _ _ _ h => h) (Or.inl ⟨by kernel_rfl, fun _ _ => by go_simp⟩) hHeld ?_
        simp only [Act.put, List.getElem_toArray, List.getElem_cons_zero, List.getElem_cons_succ, List.setIfInBounds_toArray, List.set_cons_zero, List.set_cons_succ]
        refine wpAnyH_take (i := 22) (v := .bool false) rfl (by kernel_rfl) (by kernel_rfl) (by kernel_rfl) (fun _ _ _ h => h) (Or.inl ⟨by kernel_rfl, fun _ _ => by go_simp⟩) hHeld ?_
        simp only [Act.put, List.getElem_toArray, List.getElem_cons_zero, List.getElem_cons_succ, List.setIfInBounds_toArray, List.set_cons_zero, List.set_cons_succ]
        refine wpAnyH_take (i := 23) (v := .bool false) rfl (by kernel_rfl) (by kernel_rfl) (by kernel_rfl) (fun _ _ _ h => h) (Or.inl ⟨by kernel_rfl, fun _ _ => by go_simp⟩) hHeld ?_
        simp only [Act.put, List.getElem_toArray, List.getElem_cons_zero, List.getElem_cons_succ, List.setIfInBounds_toArray, List.set_cons_zero, List.set_cons_succ]
        refine wpAnyH_take (i := 24) (v := ?_) rfl (by kernel_rfl) (by kernel_rfl) (by kernel_rfl) (fun _ _ _ h => h) (Or.inl ⟨by kernel_rfl, ?_⟩) hHeld ?_
        rotate_left
        · intro W hSw
          clear hSw
          go_simp <;> with_reducible rfl
        simp only [Act.put, List.getElem_toArray, List.getElem_cons_zero, List.getElem_cons_succ, List.setIfInBounds_toArray, List.set_cons_zero, List.set_cons_succ]
        refine wpAnyH_take (i := 27) (v := ?_) rfl (by kernel_rfl) (by kernel_rfl) (by kernel_rfl) (fun _ _ _ h => h) (Or.inl ⟨by kernel_rfl, ?_⟩) hHeld ?_
        rotate_left
        · intro W hSw
          obtain ⟨s0, s1, s2, s3, s4, _⟩ := dk_cells (Q6.out _ hSw).c
          simp only [] at s0 s1 s2 s3 s4
          clear hSw
          go_simp <;> with_reducible rfl
        simp only [Act.put, List.getElem_toArray, List.getElem_cons_zero, List.getElem_cons_succ, List.setIfInBounds_toArray, List.set_cons_zero, List.set_cons_succ]
        refine wpAnyH_ready (rs := [25]) (by kernel_rfl) (by simp) ?_
        refine (AllReadyH.cons rfl (fun K hK => ?_) AllReadyH.nil)
        have HB5 := hide (HDP.out _ (Q6.out _ hHeld))
        go_simp
        go_wp2_with (first | (go_at_call 18; refine HB5.out.mono ?_; rintro e y25 ⟨p25, c25, rfl, n25, b25⟩))
        refine hK.out _ _ ?_ (fun hHeld => ?_)
        · exact Below.trans hHeld (b25.out.mono hHeld.size)
        clear hK K HB5
        try simp only [Act.put, List.getElem_toArray, List.getElem_cons_zero, List.getElem_cons_succ, List.setIfInBounds_toArray, List.set_cons_zero, List.set_cons_succ]
        refine wpAnyH_ready (rs := [26, 28]) (by kernel_rfl) (by simp) ?_
        refine (AllReadyH.cons rfl (fun K hK => ?_) (AllReadyH.cons rfl (fun K hK => ?_) AllReadyH.nil))
        · have hcv2 := conv_newY n25.out
          go_simp
          refine hK.out _ _ ?_ (fun hHeld => ?_)
          · exact hHeld
          clear hK K hcv2
          try simp only [Act.put, List.getElem_toArray, List.getElem_cons_zero, List.getElem_cons_succ, List.setIfInBounds_toArray, List.set_cons_zero, List.set_cons_succ]
          refine wpAnyH_ready (rs := [28]) (by kernel_rfl) (by simp) ?_
          refine (AllReadyH.cons rfl (fun K hK => ?_) AllReadyH.nil)
          have HB5 := hide (HDR.out _ (Q6.out _ hHeld))
          go_simp
          go_wp2_with (first | (go_at_call 19; refine HB5.out.mono ?_; rintro e y28 ⟨p28, c28, rfl, n28, b28⟩))
          refine hK.out _ _ ?_ (fun hHeld => ?_)
          · exact Below.trans hHeld (b28.out.mono hHeld.size)
          clear hK K HB5
          try simp only [Act.put, List.getElem_toArray, List.getElem_cons_zero, List.getElem_cons_succ, List.setIfInBounds_toArray, List.set_cons_zero, List.set_cons_succ]
          refine wpAnyH_ready (rs := [29]) (by kernel_rfl) (by simp) ?_
          refine (AllReadyH.cons rfl (fun K hK => ?_) AllReadyH.nil)
          have hcv2 := conv_newY n28.out
          go_simp
          refine hK.out _ _ ?_ (fun hHeld => ?_)
          · exact hHeld
          clear hK K hcv2
          try simp only [Act.put, List.getElem_toArray, List.getElem_cons_zero, List.getElem_cons_succ, List.setIfInBounds_toArray, List.set_cons_zero, List.set_cons_succ]
          refine wpAnyH_take (i := 30) (v := .bool false) rfl (by kernel_rfl) (by kernel_rfl) (by kernel_rfl) (fun _ _ _ h => h) (Or.inl ⟨by kernel_rfl, fun _ _ => by go_simp⟩) hHeld ?_
          simp only [Act.put, List.getElem_toArray, List.getElem_cons_zero, List.getElem_cons_succ, List.setIfInBounds_toArray, List.set_cons_zero, List.set_cons_succ]
          refine wpAnyH_take (i := 31) (v := .bool false) rfl (by kernel_rfl) (by kernel_rfl) (by kernel_rfl) (fun _ _ _ h => h) (Or.inl ⟨by kernel_rfl, fun _ _ => by go_simp⟩) hHeld ?_
          simp only [Act.put, List.getElem_toArray, List.getElem_cons_zero, List.getElem_cons_succ, List.setIfInBounds_toArray, List.set_cons_zero, List.set_cons_succ]
          refine wpAnyH_done (by kernel_rfl) ?_ _
          have PZ := hide (Q6.out _ hHeld).pr
          clear hHeld
          go_wp2
          go_roundw
          case rel => exact ⟨i + 1, by go_num, by omega, by omega, ⟨⟨ts, tl, tleft, tfu, tof⟩, .slice sa2 ts.length sc2, .slice la2 tl.length lc2⟩, HNX, PZ⟩
          case measure => simp [intOf]; omega
        · have HB5 := hide (HDR.out _ (Q6.out _ hHeld))
          go_simp
          go_wp2_with (first | (go_at_call 19; refine HB5.out.mono ?_; rintro e y28 ⟨p28, c28, rfl, n28, b28⟩))
          refine hK.out _ _ ?_ (fun hHeld => ?_)
          · exact Below.trans hHeld (b28.out.mono hHeld.size)
          clear hK K HB5
          have n25 := hide (n25.out.below b28.out)
          try simp only [Act.put, List.getElem_toArray, List.getElem_cons_zero, List.getElem_cons_succ, List.setIfInBounds_toArray, List.set_cons_zero, List.set_cons_succ]
          refine wpAnyH_ready (rs := [26, 29]) (by kernel_rfl) (by simp) ?_
          refine (AllReadyH.cons rfl (fun K hK => ?_) (AllReadyH.cons rfl (fun K hK => ?_) AllReadyH.nil))
          · have hcv2 := conv_newY n25.out
            go_simp
            refine hK.out _ _ ?_ (fun hHeld => ?_)
            · exact hHeld
            clear hK K hcv2
            try simp only [Act.put, List.getElem_toArray, List.getElem_cons_zero, List.getElem_cons_succ, List.setIfInBounds_toArray, List.set_cons_zero, List.set_cons_succ]
            refine wpAnyH_ready (rs := [29]) (by kernel_rfl) (by simp) ?_
            refine (AllReadyH.cons rfl (fun K hK => ?_) AllReadyH.nil)
            have hcv2 := conv_newY n28.out
            go_simp
            refine hK.out _ _ ?_ (fun hHeld => ?_)
            · exact hHeld
            clear hK K hcv2
            try simp only [Act.put, List.getElem_toArray, List.getElem_cons_zero, List.getElem_cons_succ, List.setIfInBounds_toArray, List.set_cons_zero, List.set_cons_succ]
            refine wpAnyH_take (i := 30) (v := .bool false) rfl (by kernel_rfl) (by kernel_rfl) (by kernel_rfl) (fun _ _ _ h => h) (Or.inl ⟨by kernel_rfl, fun _ _ => by go_simp⟩) hHeld ?_
            simp only [Act.put, List.getElem_toArray, List.getElem_cons_zero, List.getElem_cons_succ, List.setIfInBounds_toArray, List.set_cons_zero, List.set_cons_succ]
            refine wpAnyH_take (i := 31) (v := .bool false) rfl (by kernel_rfl) (by kernel_rfl) (by kernel_rfl) (fun _ _ _ h => h) (Or.inl ⟨by kernel_rfl, fun _ _ => by go_simp⟩) hHeld ?_
            simp only [Act.put, List.getElem_toArray, List.getElem_cons_zero, List.getElem_cons_succ, List.setIfInBounds_toArray, List.set_cons_zero, List.set_cons_succ]
            refine wpAnyH_done (by kernel_rfl) ?_ _
            have PZ := hide (Q6.out _ hHeld).pr
            clear hHeld
            go_wp2
            go_roundw
            case rel => exact ⟨i + 1, by go_num, by omega, by omega, ⟨⟨ts, tl, tleft, tfu, tof⟩, .slice sa2 ts.length sc2, .slice la2 tl.length lc2⟩, HNX, PZ⟩
            case measure => simp [intOf]; omega
          · have hcv2 := conv_newY n28.out
            go_simp
            refine hK.out _ _ ?_ (fun hHeld => ?_)
            · exact hHeld
            clear hK K hcv2
            try simp only [Act.put, List.getElem_toArray, List.getElem_cons_zero, List.getElem_cons_succ, List.setIfInBounds_toArray, List.set_cons_zero, List.set_cons_succ]
            refine wpAnyH_ready (rs := [26]) (by kernel_rfl) (by simp) ?_
            refine (AllReadyH.cons rfl (fun K hK => ?_) AllReadyH.nil)
            have hcv2 := conv_newY n25.out
            go_simp
            refine hK.out _ _ ?_ (fun hHeld => ?_)
            · exact hHeld
            clear hK K hcv2
            try simp only [Act.put, List.getElem_toArray, List.getElem_cons_zero, List.getElem_cons_succ, List.setIfInBounds_toArray, List.set_cons_zero, List.set_cons_succ]
            refine wpAnyH_take (i := 30) (v := .bool false) rfl (by kernel_rfl) (by kernel_rfl) (by kernel_rfl) (fun _ _ _ h => h) (Or.inl ⟨by kernel_rfl, fun _ _ => by go_simp⟩) hHeld ?_
            simp only [Act.put, List.getElem_toArray, List.getElem_cons_zero, List.getElem_cons_succ, List.setIfInBounds_toArray, List.set_cons_zero, List.set_cons_succ]
            refine wpAnyH_take (i := 31) (v := .bool false) rfl (by kernel_rfl) (by kernel_rfl) (by kernel_rfl) (fun _ _ _ h => h) (Or.inl ⟨by kernel_rfl, fun _ _ => by go_simp⟩) hHeld ?_
            simp only [Act.put, List.getElem_toArray, List.getElem_cons_zero, List.getElem_cons_succ, List.setIfInBounds_toArray, List.set_cons_zero, List.set_cons_succ]
            refine wpAnyH_done (by kernel_rfl) ?_ _
            have PZ := hide (Q6.out _ hHeld).pr
            clear hHeld
            go_wp2
            go_roundw
            case rel => exact ⟨i + 1, by go_num, by omega, by omega, ⟨⟨ts, tl, tleft, tfu, tof⟩, .slice sa2 ts.length sc2, .slice la2 tl.length lc2⟩, HNX, PZ⟩
            case measure => simp [intOf]; omega
    · have HBL : Hid (∀ x, Below wr.heap.size wr x → Calls Try.prog 21 #[.pointer (some ap)] x fun e y => e = .returned (.int .i64 (1 + (q : Int))) ∧ Hid (Below x1.heap.size x1 y)) := hide (fun x hb => (live_blocks RN.out.fit (P.out.below hb).liv).mono fun e y hh => ⟨by rw [hh.1, RN.out.s, show 4 * (1 + q) / 4 = 1 + q by omega]; rfl, hide (bel_on (P.out.below hb).b hh.2.out)⟩)
      clear HAC HSM RN P
      rcases (by omega : ¬ ((i : Int) < l0.length) ∨ ((i : Int) < l0.length ∧ ¬ (i : Int) < 40)) with hq | ⟨hq, hq3⟩
      all_goals
        go_wp2_with fail
        refine (HAL.out _).mono ?_
        rintro e y1 ⟨rfl, b1⟩
        have H1 := hide (HBL.out _ b1)
        clear HAL HBL b1
        go_wp2_with fail
        refine H1.out.mono ?_
        rintro e y2 ⟨rfl, b2⟩
        clear H1
        go_wp2
        go_ret
        exact ⟨rfl, b2.out⟩
end Go.Proofs.Yteacldkfdhhphaa
