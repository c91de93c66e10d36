import Derived.Test.YthpepkfodcgbcaaWq20
/- What the program's Write does: with it all of the program's disk is told. -/
set_option linter.unusedVariables false
set_option linter.unusedSimpArgs false
set_option maxRecDepth 4000
namespace Go.Proofs.Ythpepkfodcgbcaa
open Go.RowKit

theorem wp_load_run {P : Program} {op : Oper} {a : Act} {w : World} {K : Act → World → Prop} {Q : Exit → Act → World → Prop} (ty : TypeId) (x : Operand) (ho : op.op = .load ty x) (vx v' : Value) (hx : a.eval x = vx) (hr : (Instr.loadAt ty vx).run P w = .ok v' w) (h : K (a.put op.dst v') w) : op.wp P a w K Q := by
  unfold Oper.wp execOp
  simp only [ho, hx, Sem.run_bind, Sem.run_pure, Result.andThen_ok, hr]
  exact h
theorem wp_build_run {P : Program} {op : Oper} {a : Act} {w : World} {K : Act → World → Prop} {Q : Exit → Act → World → Prop} (ty : TypeId) (ps : Array (Nat × Operand)) (ho : op.op = .build ty ps) (vs : Array (Nat × Value)) (v' : Value) (hvs : ps.map (fun p => (p.1, a.eval p.2)) = vs) (hr : (Instr.build ty vs).run P w = .ok v' w) (h : K (a.put op.dst v') w) : op.wp P a w K Q := by
  unfold Oper.wp execOp
  subst hvs
  simp only [ho, Sem.run_bind, Sem.run_pure, Result.andThen_ok, hr]
  exact h
theorem wp_alloc_run {P : Program} {op : Oper} {a : Act} {w w' : World} {K : Act → World → Prop} {Q : Exit → Act → World → Prop} (ty : TypeId) (ho : op.op = .alloc ty) (v' : Value) (hr : (Instr.alloc ty true (.tuple #[])).run P w = .ok v' w') (h : K (a.put op.dst v') w') : op.wp P a w K Q := by
  unfold Oper.wp execOp
  simp only [ho, Sem.run_bind, Sem.run_pure, Result.andThen_ok, hr]
  exact h
theorem wp_store_run {P : Program} {op : Oper} {a : Act} {w w' : World} {K : Act → World → Prop} {Q : Exit → Act → World → Prop} (ty : TypeId) (x y : Operand) (ho : op.op = .store ty x y) (vx vy : Value) (hx : a.eval x = vx) (hy : a.eval y = vy) (hr : (Instr.storeAt ty vx vy).run P w = .ok () w') (h : K (a.put op.dst undef) w') : op.wp P a w K Q := by
  unfold Oper.wp execOp
  simp only [ho, hx, hy, Sem.run_bind, Sem.run_pure, Result.andThen_ok, hr]
  exact h
theorem wp_slice_run {P : Program} {op : Oper} {a : Act} {w w' : World} {K : Act → World → Prop} {Q : Exit → Act → World → Prop} (ty : TypeId) (len : Nat) (ps : Array (Nat × Operand)) (ho : op.op = .buildSlice ty len ps) (vs : Array (Nat × Value)) (v' : Value) (hvs : ps.map (fun p => (p.1, a.eval p.2)) = vs) (hr : (Instr.buildSlice ty len vs).run P w = .ok v' w') (h : K (a.put op.dst v') w') : op.wp P a w K Q := by
  unfold Oper.wp execOp
  subst hvs
  simp only [ho, Sem.run_bind, Sem.run_pure, Result.andThen_ok, hr]
  exact h
def wr3 (w : World) (m : Nat) (was : Bs) : World := w.alloc (.cells (wV0 m was).toArray 112)
def wr4 (w : World) (m : Nat) (was b : Bs) : World := (wr3 w m was).setCells w.heap.size 257 (bytesV b)
def wr5 (w : World) (m : Nat) (was b : Bs) (g : Nat) : World := (wr4 w m was b).drew.setCells g (m * 256) (bytesV b)
theorem wr3_heap (w : World) (m : Nat) (was : Bs) : (wr3 w m was).heap[w.heap.size]? = some (.cells (wV0 m was).toArray 112 (0, 0)) := alloc_new w _
theorem wr4_heap (w : World) (m : Nat) (was b : Bs) (h : was.length = 256) (hb : b.length = 256) : (wr4 w m was b).heap[w.heap.size]? = some (.cells (wV ⟨m, was, b⟩).toArray 112 (0, 0)) := by
  have h1 := heap_cells_any w.heap.size _ (bytesV b) _ 257 _ (wr3_heap w m was)
  rw [laid_in m was b h hb] at h1
  exact h1
theorem wr4_below (w : World) (m : Nat) (was b : Bs) : Below w.heap.size w (wr4 w m was b) := by
  have h1 : Below w.heap.size w (wr3 w m was) := below_alloc w _
  exact h1.trans ((butA_cells (fun j => j = w.heap.size) w.heap.size rfl (bytesV b) 257 _).below (fun k e => by rw [e]; exact Nat.le_refl _) h1.size)
theorem wr5_but (w : World) (m : Nat) (was b : Bs) (g : Nat) : ButA (fun j => j = g) w (wr5 w m was b g) := ButA.cells (A := fun j => j = g) (ButA.of (wr4_below w m was b).drew) g rfl _ _
structure WriteM (w : World) (k : KD) (m : Nat) (b : Bs) : Prop where
  k5 : IsKD (wr5 w m (wasB k.F m) b k.g) { k with F := setB k.F (256 * m) b }
  n5 : (wr5 w m (wasB k.F m) b k.g).heap[w.heap.size]? = some (.cells (wV ⟨m, wasB k.F m, b⟩).toArray 112 (0, 0))
theorem write_mem {w : World} {k : KD} {d : DM} (h : IsKD w k) (hR : KRel k d) (m : Nat) (hm : m < k.n) (b : Bs) (hb : b.length = 256) : WriteM w k m b := by
  have hwl : (wasB k.F m).length = 256 := was_len k.F k.n m hR.len hm
  have hlt := h.lt k.g (.inr (.inl rfl))
  refine ⟨h.blkset _ (wr5_but _ _ _ _ _) ?_, ?_⟩
  · have h1 : (wr4 w m (wasB k.F m) b).drew.heap[k.g]? = some (.cells (bytesV k.F).toArray 106 (0, 0)) := ((wr4_below w m (wasB k.F m) b).block k.g hlt).trans h.blk
    rw [Nat.mul_comm 256 m]
    exact heap_cells_bytes k.g _ b _ _ _ h1
  · exact (heap_cells_other k.g _ _ _ _ (by omega)).trans (wr4_heap w m _ b hwl hb)
/-- The end: the write is pending. -/
theorem write_end {w w1 : World} {k k1 : KD} {d d1 : DM} {m : Nat} {b : Bs} (hk : IsKD w k) (ha : k1.a = k.a) (hg : k1.g = k.g) (hpv : k1.pv = k.pv) (hb1 : ButA (fun j => j = k.a) w w1) (h : IsKD w1 k1) (hR : KRel k1 d1) (hok : OkD d1) (hm : m < k1.n) (hb : b.length = 256) (hl : k1.ws.length ≤ 100000) :
    ∃ v' w', (Builtin.append_ #[77, 77] 77 #[k1.pv, .slice (some ⟨(wr5 w1 m (wasB k1.F m) b k1.g).heap.size, 0, none⟩) 1 1]).run Try.prog ((wr5 w1 m (wasB k1.F m) b k1.g).drew.alloc (.cells (wV ⟨m, wasB k1.F m, b⟩).toArray 112)) = .ok v' w' ∧
      (∃ old, w'.cell? ⟨k.a, 1, none⟩ = some old) ∧ w'.frozen? ⟨k.a, 1, none⟩ = false ∧ (∃ va vn vc, v' = .slice va vn vc) ∧ KR IsK (kdA k) w (.pointer (some ⟨k.a, 0, none⟩)) { d1 with l := d1.l ++ piecesL m b } (w'.setCell ⟨k.a, 1, none⟩ v') := by
  have hwl : (wasB k1.F m).length = 256 := was_len k1.F k1.n m hR.len hm
  have M := write_mem h hR m hm b hb
  obtain ⟨v', w', hr, hp, hgr, hat⟩ := append_write (wr5 w1 m (wasB k1.F m) b k1.g).drew k1.pv k1.ws ⟨m, wasB k1.F m, b⟩ M.k5.pend ⟨hwl, hb⟩ hl
  have hsz : (wr5 w1 m (wasB k1.F m) b k1.g).drew.heap.size = (wr5 w1 m (wasB k1.F m) b k1.g).heap.size := rfl
  have hlt5 := M.k5.lt
  have hs5 := (wr5_but w1 m (wasB k1.F m) b k1.g).size
  have hbox : w'.heap[k1.a]? = some (.cells (kdC { k1 with F := setB k1.F (256 * m) b }) 79 (0, 0)) := (hgr.block k1.a (hlt5 _ (.inl rfl)) (fun e => (h.ap _ e.symm).1 rfl)).trans M.k5.box
  have hblk : w'.heap[k1.g]? = some (.cells (bytesV (setB k1.F (256 * m) b)).toArray 106 (0, 0)) := (hgr.block k1.g (hlt5 _ (.inr (.inl rfl))) (fun e => (h.ap _ e.symm).2 rfl)).trans M.k5.blk
  have hne : ∀ j, v'.ownBlock = some j → j ≠ k1.a ∧ j ≠ k1.g := fun j hj => by
    rcases hat j hj with h1 | h1
    · exact h.ap j h1
    · have p1 := hlt5 k1.a (.inl rfl)
      have p2 := hlt5 k1.g (.inr (.inl rfl))
      constructor <;> omega
  refine ⟨v', w', hr, ⟨k1.pv, ?_⟩, ?_, ?_, ?_⟩
  · rw [← ha, cell_of_row w' k1.a 1 _ _ _ hbox]
    rfl
  · rw [← ha]
    simp [World.frozen?, hbox]
  · obtain ⟨va, vc, e⟩ := hp.form
    exact ⟨va, _, vc, e⟩
  · rw [← ha]
    have hset := heap_box_set hbox 1 v'
    have hw0 : w.heap.size ≤ w1.heap.size := hb1.size
    refine ⟨kdA { k1 with F := setB k1.F (256 * m) b, pv := v', ws := k1.ws ++ [⟨m, wasB k1.F m, b⟩] }, ⟨{ k1 with F := setB k1.F (256 * m) b, pv := v', ws := k1.ws ++ [⟨m, wasB k1.F m, b⟩] }, rfl, rfl, ⟨hset, (Below.heap_setCell _ _ _ _ (fun e => h.ag e.symm)).trans hblk, hp.keep fun j hj => Below.heap_setCell _ _ _ _ (hne j hj).1, h.ag, hne⟩, hR.write hok m hm b hb⟩, ?_, ?_⟩
    · intro j hj
      rcases hj with hj | hj | hj
      · exact .inl (.inl (hj.trans ha))
      · exact .inl (.inr (.inl (hj.trans hg)))
      · rcases hat j hj with h1 | h1
        · exact .inl (.inr (.inr (by rw [← hpv]; exact h1)))
        · exact .inr (by omega)
    · refine ButA.setCell ?_ (.inl (.inl ha)) _
      have q1 : ButA (kdA k) w1 (wr5 w1 m (wasB k1.F m) b k1.g) := (wr5_but w1 m (wasB k1.F m) b k1.g).mono fun j hj => .inr (.inl (hj.trans hg))
      have q2 : ButA (kdA k) (wr5 w1 m (wasB k1.F m) b k1.g) w' := ⟨hgr.os, hgr.tape, hgr.output, hgr.size, fun j hj hn => hgr.block j hj (fun e => hn (.inr (.inr (by rw [← hpv]; exact e.symm))))⟩
      exact (hb1.box.trans q1 fun j _ h => h).trans q2 fun j _ h => h
theorem write_no {d : DM} {n : Int} {b : Bs} (h : isD d n = false ∨ b.length ≠ 256) : writeD d n b = (d, 1) := by
  unfold writeD
  rw [if_neg]
  rcases h with h | h
  · rw [h]; simp
  · simp [h]
theorem write_on {d : DM} {n : Int} {b : Bs} (h : isD d n = true) (hb : b.length = 256) : writeD d n b = if (spendD d).2 then ({ (spendD d).1 with l := (spendD d).1.l ++ piecesL n.toNat b }, 0) else ((spendD d).1, 9) := by
  unfold writeD
  rw [if_pos (by rw [h, hb]; rfl)]
set_option maxHeartbeats 8000000 in
theorem pwrite_any (A : Nat → Prop) (v : Value) (d : DM) (n : Int) (bv : Value) (b : Bs) (w : World) (hK : IsK A w v d) (hF : Fit d) (hY : IsY w bv b) (hO : b ≠ [] → Off A bv) (hb : b.length ≤ 1000000) : Calls Try.prog 35 #[v, .int .i64 n, bv] w fun e w' => e = .returned (.int .i64 (writeD d n b).2) ∧ KR IsK A w v (writeD d n b).1 w' := by
  obtain ⟨k, rfl, rfl, h1, h2⟩ := hK
  have HH := hide (khas k n w h1)
  rw [← h2.is_ n] at HH
  have HSAME : Hid (KR IsK (kdA k) w (.pointer (some ⟨k.a, 0, none⟩)) d w) := hide ⟨kdA k, ⟨k, rfl, rfl, h1, h2⟩, Grew.refl _ _, ButA.refl _ _⟩
  obtain ⟨ba, bc, rfl⟩ := hY.form
  cases hi : isD d n
  · rw [write_no (.inl hi)]
    rw [hi] at HH
    clear hi h1 h2 hY hO
    generalize b.length = bl at *
    go_enter Try.func35, Try.ntmps35
    go_wp2_with fail
    refine HH.out.mono ?_
    rintro e w1 ⟨rfl, rfl⟩
    clear HH
    go_wp2
    go_ret
    exact ⟨rfl, HSAME.out⟩
  · by_cases hbl : b.length = 256
    · have hwo := write_on (b := b) hi hbl
      have hn : 0 ≤ n ∧ n < (k.n : Int) := by
        rw [h2.is_ n] at hi
        simpa using hi
      obtain ⟨m, rfl⟩ : ∃ m : Nat, n = (m : Int) := ⟨n.toNat, by omega⟩
      have hm : m < k.n := by omega
      rw [hi] at HH
      have HP := hide (kpowered k d w h1 h2 hF.left)
      rw [Int.toNat_natCast] at hwo
      cases hs : (spendD d).2
      · rw [hs] at hwo
        rw [hwo]
        have HF9 : Hid (∀ x left off, IsKD x { k with left := left, off := off } → KRel { k with left := left, off := off } (spendD d).1 → ButA (fun j => j = k.a) w x → KR IsK (kdA k) w (.pointer (some ⟨k.a, 0, none⟩)) (spendD d).1 x) := hide (fun x left off a b c => ⟨kdA k, ⟨{ k with left := left, off := off }, rfl, rfl, a, b⟩, Grew.refl _ _, c.box⟩)
        clear hwo h1 h2 hY hO hi hn hm
        rw [hbl] at *
        go_enter Try.func35, Try.ntmps35
        go_wp2_with fail
        refine HH.out.mono ?_
        rintro e w1 ⟨rfl, rfl⟩
        clear HH
        go_wp2_with fail
        refine HP.out.mono ?_
        rintro e w2 ⟨rfl, left, off, a, b, c⟩
        rw [hs]
        have HG := hide (HF9.out w2 left off a b c)
        clear HF9 HP hs a b c
        go_wp2
        go_ret
        exact ⟨rfl, HG.out⟩
      · rw [hs] at hwo
        rw [hwo]
        simp only [if_true]
        have hok := ok_spend hF.ok
        have hll : k.ws.length ≤ 100000 := (h2.undoP h1 hF).l
        have hnn : k.n ≤ 25000 := (h2.undoP h1 hF).n
        have HEND : Hid (∀ w1 left off, IsKD w1 { k with left := left, off := off } → KRel { k with left := left, off := off } (spendD d).1 → ButA (fun j => j = k.a) w w1 → ∃ v' w', (Builtin.append_ #[77, 77] 77 #[k.pv, .slice (some ⟨(wr5 w1 m (wasB k.F m) b k.g).heap.size, 0, none⟩) 1 1]).run Try.prog ((wr5 w1 m (wasB k.F m) b k.g).drew.alloc (.cells (wV ⟨m, wasB k.F m, b⟩).toArray 112)) = .ok v' w' ∧
      (∃ old, w'.cell? ⟨k.a, 1, none⟩ = some old) ∧ w'.frozen? ⟨k.a, 1, none⟩ = false ∧ (∃ va vn vc, v' = .slice va vn vc) ∧ KR IsK (kdA k) w (.pointer (some ⟨k.a, 0, none⟩)) { (spendD d).1 with l := (spendD d).1.l ++ piecesL m b } (w'.setCell ⟨k.a, 1, none⟩ v')) := hide (fun w1 left off q1 q2 q3 => write_end (k1 := { k with left := left, off := off }) (d := d) h1 rfl rfl rfl q3 q1 q2 hok hm hbl hll)
        have hwl : (wasB k.F m).length = 256 := was_len k.F k.n m h2.len hm
        have HBY : Hid (∃ bb bo, ba = some ⟨bb, bo, none⟩ ∧ bb < w.heap.size ∧ bb ≠ k.a ∧ w.rangeAt bb bo (bytesV b)) := hide (by
          rcases hY with ⟨e, _⟩ | ⟨bb, bo, cap, e, hcap, hh⟩
          · rw [e] at hbl; cases hbl
          · injection e with e1
            subst e1
            have hc0 := hh 0 (by omega)
            refine ⟨bb, bo, rfl, cell_lt hc0, ?_, fun j v hv => ?_⟩
            · intro e
              exact hO (fun e0 => by rw [e0] at hbl; cases hbl) bb rfl (.inl e)
            · have hj : j < b.length := by have := (List.getElem?_eq_some_iff.1 hv).1; rwa [bytesV_len] at this
              rw [bytesV_get b j hj] at hv
              injection hv with hv
              rw [← hv]
              exact hh j hj)
        obtain ⟨bb, bo, rfl, hbb1, hbb2, hbb3⟩ := HBY.out
        have HBB := hide (show bb < w.heap.size ∧ bb ≠ k.a ∧ w.rangeAt bb bo (bytesV b) from ⟨hbb1, hbb2, hbb3⟩)
        have hm2 : (m : Int) < (k.n : Int) := by omega
        clear HBY hbb1 hbb2 hbb3 hwo hY hO hi hn hok HSAME
        rw [hbl]
        have HPOST : Hid (KR IsK (kdA k) w (.pointer (some ⟨k.a, 0, none⟩)) { (spendD d).1 with l := (spendD d).1.l ++ piecesL m b } = KR IsK (kdA k) w (.pointer (some ⟨k.a, 0, none⟩)) { (spendD d).1 with l := (spendD d).1.l ++ piecesL m b }) := hide rfl
        generalize hDM : ({ (spendD d).1 with l := (spendD d).1.l ++ piecesL m b } : DM) = dm at *
        clear HPOST
        go_enter Try.func35, Try.ntmps35
        go_wp2_with fail
        refine HH.out.mono ?_
        rintro e w0 ⟨rfl, rfl⟩
        clear HH
        go_wp2_with fail
        refine HP.out.mono ?_
        rintro e w1 ⟨rfl, left, off, q1, q2, q3⟩
        rw [hs]
        obtain ⟨v', w', hap, ⟨old, hold⟩, hfro, ⟨va, vn, vc, rfl⟩, hend⟩ := HEND.out w1 left off q1 q2 q3
        obtain ⟨hb1, hb2, hb3⟩ := HBB.out
        obtain ⟨x0, x1, x2, x3, x4, xf⟩ := kd_cells q1.box
        obtain ⟨pa, pc, hp⟩ := q1.pend.form
        have hM := write_mem q1 q2 m hm b hbl
        have hlg := q1.lt k.g (.inr (.inl rfl))
        have hla := q1.lt k.a (.inl rfl)
        have hag : k.a ≠ k.g := q1.ag
        have hq1blk := q1.blk
        have hq1len : k.F.length = 256 * k.n := q2.len
        simp only [] at x0 x1 x2 x3 x4 xf hp hM hq1blk
        rw [hp] at x1 hap
        have hld := run_loadAt_mid (P := Try.prog) w1 k.g (m * 256) 106 (bytesV (wasB k.F m)) (.array 256 5) (by
          have := range_sub hq1blk (m * 256) 256
          unfold wasB
          rw [Nat.mul_comm 256 m]
          exact this) block_und rfl (by rw [bytesV_len, hwl]; exact block_size)
        have hbd := run_build_write w1 m (wasB k.F m) hwl
        have hal := run_alloc_write w1
        have hst := run_store_write w1 m (wasB k.F m) hwl
        have hcp := copy_bytes_run (wr3 w1 m (wasB k.F m)) w1.heap.size 257 256 256 bb bo 256 bc b (by rw [hbl]; rfl) (by
          intro j v hv
          have h0 := hb3 j v hv
          have h3 := (q3.block bb hb1 hb2)
          have h4 := (below_alloc w1 (.cells (wV0 m (wasB k.F m)).toArray 112)).block bb (Nat.lt_of_lt_of_le hb1 q3.size)
          exact (cell_blk (h4.trans h3) _).trans h0) (there_sub (wr3_heap w1 m (wasB k.F m)) 257 _ (by rw [hbl, List.size_toArray, wV0_len m _ hwl]; omega))
        rw [hbl] at hcp
        change (Builtin.copy_ #[43, 43] 3 #[.slice (some ⟨w1.heap.size, 257, none⟩) 256 256, .slice (some ⟨bb, bo, none⟩) 256 bc]).run Try.prog (w1.alloc (.cells (wV0 m (wasB k.F m)).toArray 112)) = Result.ok _ (wr4 w1 m (wasB k.F m) b) at hcp
        have hB4 := wr4_below w1 m (wasB k.F m) b
        have hH4 := wr4_heap w1 m (wasB k.F m) b hwl hbl
        have H0 : Hid (∀ W, ButA (fun j => j = k.g) (wr4 w1 m (wasB k.F m) b) W → W.cell? ⟨k.a, 0, none⟩ = some (.slice (some ⟨k.g, 0, none⟩) k.n k.n)) := hide (fun W hb => cell_but ((hB4.cell (cell_lt x0)).trans x0) hb hag)
        have HR4 : Hid (∀ W, ButA (fun j => j = k.g) (wr4 w1 m (wasB k.F m) b) W → W.rangeAt w1.heap.size 257 (bytesV b)) := hide (fun W hb => rangeAt_but (by
          intro j v hv
          rw [cell_of_row _ _ _ _ _ _ hH4, List.getElem?_toArray]
          unfold wV
          rw [show 257 + j = (256 + j) + 1 by omega, List.getElem?_cons_succ, List.getElem?_append_right (by rw [bytesV_len, hwl]; omega), bytesV_len, hwl, show 256 + j - 256 = j by omega]
          exact hv) hb (by omega))
        have HTI : Hid ((Try.prog.info? 106).map (·.size) = some (bytesV b).length) := hide (by rw [bytesV_len, hbl]; exact block_size)
        have HTI2 : Hid ((Try.prog.info? 106).map (·.size) = some (bytesV b).toArray.size) := hide (by rw [List.size_toArray]; exact HTI.out)
        have HTH : Hid ((wr4 w1 m (wasB k.F m) b).drew.there k.g (m * 256) (bytesV b).toArray.size) := hide (there_sub (w := (wr4 w1 m (wasB k.F m) b).drew) ((hB4.block k.g hlg).trans hq1blk) (m * 256) _ (by
          simp only [List.size_toArray, bytesV_len, hbl]
          omega))
        have HON : Hid ((bytesV b).toArray.all (·.oneCell') = true) := hide (all_oneCell_toArray (bytesV_one b))
        have HB1 : Hid (ButA (fun j => j = k.g) (wr4 w1 m (wasB k.F m) b) (wr4 w1 m (wasB k.F m) b).drew) := hide (ButA.refl _ _).drew'
        have HB2 : Hid (ButA (fun j => j = k.g) (wr4 w1 m (wasB k.F m) b) ((wr4 w1 m (wasB k.F m) b).drew.setCells k.g (m * 256) (bytesV b))) := hide (HB1.out.cells k.g rfl _ _)
        have HC5 : Hid ((wr5 w1 m (wasB k.F m) b k.g).drew.cell? ⟨k.a, 1, none⟩ = some (.slice pa k.ws.length pc)) := hide (by
          have := (kd_cells hM.k5.box).2.1
          simp only [] at this
          rw [hp] at this
          exact this)
        have HC6 : Hid (∀ o, ((wr5 w1 m (wasB k.F m) b k.g).drew.alloc o).cell? ⟨k.a, 1, none⟩ = some (.slice pa k.ws.length pc)) := hide (fun o => (cell_blk ((below_alloc (wr5 w1 m (wasB k.F m) b k.g).drew o).block k.a (hM.k5.lt k.a (.inl rfl))) 1).trans HC5.out)
        have HL5 : Hid ((wr5 w1 m (wasB k.F m) b k.g).drew.rangeAt w1.heap.size 0 (wV ⟨m, wasB k.F m, b⟩)) := hide (fun j v hv => by
          rw [cell_of_row (wr5 w1 m (wasB k.F m) b k.g).drew _ _ _ _ _ hM.n5, Nat.zero_add]
          simpa using hv)
        have HWS : Hid ((Try.prog.info? 112).map (·.size) = some (wV ⟨m, wasB k.F m, b⟩).length) := hide (by rw [wV_len (x := ⟨m, wasB k.F m, b⟩) ⟨hwl, hbl⟩]; exact write_size_is)
        have HBS := hide (run_one_write (wr5 w1 m (wasB k.F m) b k.g).drew ⟨m, wasB k.F m, b⟩ ⟨hwl, hbl⟩)
        have HAP := hide hap
        have HCP := hide hcp
        have HENDF := hide hend
        clear hap hcp hend hM hB4 hH4 q1 q2 q3 HBB hb1 hb2 hb3 HEND HP hs hp hq1blk hq1len h1 h2 hDM xf x1 x2 x3 x4 hF hll hag hlg hla hm hb
        have HLD := hide hld
        have HBD := hide hbd
        have HAL := hide hal
        have HST := hide hst
        clear hld hbd hal hst
        go_wp2_with fail
        rename_i K9 hK9
        refine wp_load_run 106 (.tmp 26) rfl _ _ rfl HLD.out ?_
        refine hK9 _ _ ?_
        clear hK9 K9
        try simp only [Act.put, List.getElem_toArray, List.getElem_cons_zero, List.getElem_cons_succ, List.setIfInBounds_toArray, List.set_cons_zero, List.set_cons_succ]
        refine wpList_plain rfl (fun K9 hK9 => ?_)
        refine wp_build_run 112 #[(0, .tmp 20), (1, .tmp 27)] rfl #[(0, .int .i64 (m : Int)), (1, .agg (bytesV (wasB k.F m)).toArray)] _ ?_ HBD.out ?_
        · simp only [List.map_toArray, List.map_cons, List.map_nil]
          rfl
        refine hK9 _ _ ?_
        clear hK9 K9
        try simp only [Act.put, List.getElem_toArray, List.getElem_cons_zero, List.getElem_cons_succ, List.setIfInBounds_toArray, List.set_cons_zero, List.set_cons_succ]
        refine wpList_plain rfl (fun K9 hK9 => ?_)
        refine wp_alloc_run 112 rfl _ HAL.out ?_
        refine hK9 _ _ ?_
        clear hK9 K9
        try simp only [Act.put, List.getElem_toArray, List.getElem_cons_zero, List.getElem_cons_succ, List.setIfInBounds_toArray, List.set_cons_zero, List.set_cons_succ]
        refine wpList_plain rfl (fun K9 hK9 => ?_)
        refine wp_store_run 112 (.tmp 7) (.tmp 28) rfl _ _ rfl rfl HST.out ?_
        refine hK9 _ _ ?_
        clear hK9 K9
        try simp only [Act.put, List.getElem_toArray, List.getElem_cons_zero, List.getElem_cons_succ, List.setIfInBounds_toArray, List.set_cons_zero, List.set_cons_succ]
        have hcp := HCP.out
        go_wp2_with fail
        clear hcp
        refine wp_region_held_drew (S := fun W' => ButA (fun j => j = k.g) (wr4 w1 m (wasB k.F m) b) W') (by kernel_rfl) HB1.out (fun hHeld => ?_)
        refine wpAnyH_take (i := 0) (v := ?_) rfl (by kernel_rfl) (by kernel_rfl) (by kernel_rfl) (fun _ _ _ h => h) (Or.inl ⟨by kernel_rfl, ?_⟩) hHeld ?_
        rotate_left
        · intro W hSw
          clear hSw
          go_simp <;> with_reducible rfl
        simp only [Act.put, List.getElem_toArray, List.getElem_cons_zero, List.getElem_cons_succ, List.setIfInBounds_toArray, List.set_cons_zero, List.set_cons_succ]
        refine wpAnyH_take (i := 1) (v := ?_) rfl (by kernel_rfl) (by kernel_rfl) (by kernel_rfl) (fun _ _ _ h => h) (Or.inl ⟨by kernel_rfl, ?_⟩) hHeld ?_
        rotate_left
        · intro W hSw
          clear hSw
          go_simp <;> with_reducible rfl
        simp only [Act.put, List.getElem_toArray, List.getElem_cons_zero, List.getElem_cons_succ, List.setIfInBounds_toArray, List.set_cons_zero, List.set_cons_succ]
        refine wpAnyH_take (i := 2) (v := ?_) rfl (by kernel_rfl) (by kernel_rfl) (by kernel_rfl) (fun _ _ _ h => h) (Or.inl ⟨by kernel_rfl, ?_⟩) hHeld ?_
        rotate_left
        · intro W hSw
          clear hSw
          go_simp <;> with_reducible rfl
        simp only [Act.put, List.getElem_toArray, List.getElem_cons_zero, List.getElem_cons_succ, List.setIfInBounds_toArray, List.set_cons_zero, List.set_cons_succ]
        refine wpAnyH_take (i := 3) (v := ?_) rfl (by kernel_rfl) (by kernel_rfl) (by kernel_rfl) (fun _ _ _ h => h) (Or.inl ⟨by kernel_rfl, ?_⟩) hHeld ?_
        rotate_left
        · intro W hSw
          have hc := H0.out W hSw
          clear hSw
          go_simp <;> with_reducible rfl
        simp only [Act.put, List.getElem_toArray, List.getElem_cons_zero, List.getElem_cons_succ, List.setIfInBounds_toArray, List.set_cons_zero, List.set_cons_succ]
        refine wpAnyH_take (i := 4) (v := ?_) rfl (by kernel_rfl) (by kernel_rfl) (by kernel_rfl) (fun _ _ _ h => h) (Or.inl ⟨by kernel_rfl, ?_⟩) hHeld ?_
        rotate_left
        · intro W hSw
          clear hSw
          go_simp <;> with_reducible rfl
        simp only [Act.put, List.getElem_toArray, List.getElem_cons_zero, List.getElem_cons_succ, List.setIfInBounds_toArray, List.set_cons_zero, List.set_cons_succ]
        refine wpAnyH_take (i := 5) (v := ?_) rfl (by kernel_rfl) (by kernel_rfl) (by kernel_rfl) (fun _ _ _ h => h) (Or.inl ⟨by kernel_rfl, ?_⟩) hHeld ?_
        rotate_left
        · intro W hSw
          clear hSw
          go_simp <;> with_reducible rfl
        simp only [Act.put, List.getElem_toArray, List.getElem_cons_zero, List.getElem_cons_succ, List.setIfInBounds_toArray, List.set_cons_zero, List.set_cons_succ]
        refine wpAnyH_take (i := 6) (v := .agg (bytesV b).toArray) rfl (by kernel_rfl) (by kernel_rfl) (by kernel_rfl) (fun _ _ _ h => h) (yieldsIf_load_mid (by kernel_rfl) 106 (.tmp 38) rfl w1.heap.size 257 rfl (bytesV b) _ HR4.out block_und rfl HTI.out) hHeld ?_
        simp only [Act.put, List.getElem_toArray, List.getElem_cons_zero, List.getElem_cons_succ, List.setIfInBounds_toArray, List.set_cons_zero, List.set_cons_succ]
        refine wpAnyH_take (i := 7) (v := ?_) rfl (by kernel_rfl) (by kernel_rfl) (by kernel_rfl) (fun _ _ _ h => h) (Or.inl ⟨by kernel_rfl, ?_⟩) hHeld ?_
        rotate_left
        · intro W hSw
          clear hSw
          go_simp <;> with_reducible rfl
        simp only [Act.put, List.getElem_toArray, List.getElem_cons_zero, List.getElem_cons_succ, List.setIfInBounds_toArray, List.set_cons_zero, List.set_cons_succ]
        refine wpAnyH_ready (rs := [8]) (by kernel_rfl) (by simp) ?_
        refine AllReadyH.cons rfl (fun K hK => ?_) AllReadyH.nil
        refine step_wp rfl (wp_store_mid 106 (.tmp 40) (.tmp 39) rfl k.g (m * 256) (bytesV b).toArray rfl rfl HTH.out HTI2.out HON.out ?_)
        refine hK.out _ _ ?_ (fun hHeld => ?_)
        · exact HB2.out
        clear hK K
        try simp only [Act.put, List.getElem_toArray, List.getElem_cons_zero, List.getElem_cons_succ, List.setIfInBounds_toArray, List.set_cons_zero, List.set_cons_succ]
        refine wpAnyH_done (by kernel_rfl) ?_ _
        clear hHeld
        change Exit.then _ _ Exit.normal _ (wr5 w1 m (wasB k.F m) b k.g)
        clear H0 HR4 HTI HTI2 HTH HON HB1 HB2 HLD HBD HAL HST HCP
        generalize wr5 w1 m (wasB k.F m) b k.g = w5 at *
        generalize wV ⟨m, wasB k.F m, b⟩ = X at *
        generalize k.ws.length = WL at *
        go_wp2_with fail
        refine wp_region_held_drew (S := fun W' => (fun _ => True) W') (by kernel_rfl) trivial (fun hHeld => ?_)
        refine wpAnyH_take (i := 0) (v := ?_) rfl (by kernel_rfl) (by kernel_rfl) (by kernel_rfl) (fun _ _ _ h => h) (Or.inl ⟨by kernel_rfl, ?_⟩) hHeld ?_
        rotate_left
        · intro W hSw
          clear hSw
          go_simp <;> with_reducible rfl
        simp only [Act.put, List.getElem_toArray, List.getElem_cons_zero, List.getElem_cons_succ, List.setIfInBounds_toArray, List.set_cons_zero, List.set_cons_succ]
        refine wpAnyH_take (i := 1) (v := ?_) rfl (by kernel_rfl) (by kernel_rfl) (by kernel_rfl) (fun _ _ _ h => h) (Or.inl ⟨by kernel_rfl, ?_⟩) hHeld ?_
        rotate_left
        · intro W hSw
          clear hSw
          go_simp <;> with_reducible rfl
        simp only [Act.put, List.getElem_toArray, List.getElem_cons_zero, List.getElem_cons_succ, List.setIfInBounds_toArray, List.set_cons_zero, List.set_cons_succ]
        refine wpAnyH_take (i := 2) (v := ?_) rfl (by kernel_rfl) (by kernel_rfl) (by kernel_rfl) (fun _ _ _ h => h) (Or.inl ⟨by kernel_rfl, ?_⟩) hHeld ?_
        rotate_left
        · intro W hSw
          clear hSw
          go_simp <;> with_reducible rfl
        simp only [Act.put, List.getElem_toArray, List.getElem_cons_zero, List.getElem_cons_succ, List.setIfInBounds_toArray, List.set_cons_zero, List.set_cons_succ]
        refine wpAnyH_take (i := 3) (v := ?_) rfl (by kernel_rfl) (by kernel_rfl) (by kernel_rfl) (fun _ _ _ h => h) (Or.inl ⟨by kernel_rfl, ?_⟩) hHeld ?_
        rotate_left
        · intro W hSw
          clear hSw
          go_simp <;> with_reducible rfl
        simp only [Act.put, List.getElem_toArray, List.getElem_cons_zero, List.getElem_cons_succ, List.setIfInBounds_toArray, List.set_cons_zero, List.set_cons_succ]
        refine wpAnyH_ready (rs := [4, 5]) (by kernel_rfl) (by simp) ?_
        refine AllReadyH.cons rfl (fun K hK => ?_) (AllReadyH.cons rfl (fun K hK => ?_) AllReadyH.nil)
        · have hc := HC5.out
          go_simp
          refine hK.out _ _ ?_ (fun hHeld => ?_)
          · trivial
          clear hK K
          try simp only [Act.put, List.getElem_toArray, List.getElem_cons_zero, List.getElem_cons_succ, List.setIfInBounds_toArray, List.set_cons_zero, List.set_cons_succ]
          refine wpAnyH_ready (rs := [5]) (by kernel_rfl) (by simp) ?_
          refine AllReadyH.cons rfl (fun K hK => ?_) AllReadyH.nil
          refine step_wp rfl (wp_load_mid 112 (.tmp 7) rfl w1.heap.size 0 rfl X _ HL5.out Try.underlying112 rfl HWS.out ?_)
          refine hK.out _ _ ?_ (fun hHeld => ?_)
          · trivial
          clear hK K
          try simp only [Act.put, List.getElem_toArray, List.getElem_cons_zero, List.getElem_cons_succ, List.setIfInBounds_toArray, List.set_cons_zero, List.set_cons_succ]
          refine wpAnyH_ready (rs := [6]) (by kernel_rfl) (by simp) ?_
          refine AllReadyH.cons rfl (fun K hK => ?_) AllReadyH.nil
          refine step_wp rfl (wp_slice_run 77 1 #[(0, .tmp 46)] rfl #[(0, .agg X.toArray)] _ ?_ HBS.out ?_)
          · simp only [List.map_toArray, List.map_cons, List.map_nil]
            rfl
          refine hK.out _ _ ?_ (fun hHeld => ?_)
          · trivial
          clear hK K
          try simp only [Act.put, List.getElem_toArray, List.getElem_cons_zero, List.getElem_cons_succ, List.setIfInBounds_toArray, List.set_cons_zero, List.set_cons_succ]
          refine wpAnyH_ready (rs := [7]) (by kernel_rfl) (by simp) ?_
          refine AllReadyH.cons rfl (fun K hK => ?_) AllReadyH.nil
          refine step_wp rfl (Lib.wp_append_run _ (.tmp 45) (.tmp 47) 77 77 rfl (.slice pa WL pc) (.slice (some ⟨w5.heap.size, 0, none⟩) 1 1) rfl rfl _ _ HAP.out ?_)
          refine hK.out _ _ ?_ (fun hHeld => ?_)
          · trivial
          clear hK K
          try simp only [Act.put, List.getElem_toArray, List.getElem_cons_zero, List.getElem_cons_succ, List.setIfInBounds_toArray, List.set_cons_zero, List.set_cons_succ]
          refine wpAnyH_take (i := 8) (v := ?_) rfl (by kernel_rfl) (by kernel_rfl) (by kernel_rfl) (fun _ _ _ h => h) (Or.inl ⟨by kernel_rfl, ?_⟩) hHeld ?_
          rotate_left
          · intro W hSw
            clear hSw
            go_simp <;> with_reducible rfl
          simp only [Act.put, List.getElem_toArray, List.getElem_cons_zero, List.getElem_cons_succ, List.setIfInBounds_toArray, List.set_cons_zero, List.set_cons_succ]
          refine wpAnyH_take (i := 9) (v := ?_) rfl (by kernel_rfl) (by kernel_rfl) (by kernel_rfl) (fun _ _ _ h => h) (Or.inl ⟨by kernel_rfl, ?_⟩) hHeld ?_
          rotate_left
          · intro W hSw
            clear hSw
            go_simp <;> with_reducible rfl
          simp only [Act.put, List.getElem_toArray, List.getElem_cons_zero, List.getElem_cons_succ, List.setIfInBounds_toArray, List.set_cons_zero, List.set_cons_succ]
          refine wpAnyH_ready (rs := [10]) (by kernel_rfl) (by simp) ?_
          refine AllReadyH.cons rfl (fun K hK => ?_) AllReadyH.nil
          have hc := hold
          have hf := hfro
          go_simp
          refine hK.out _ _ ?_ (fun hHeld => ?_)
          · trivial
          clear hK K
          try simp only [Act.put, List.getElem_toArray, List.getElem_cons_zero, List.getElem_cons_succ, List.setIfInBounds_toArray, List.set_cons_zero, List.set_cons_succ]
          refine wpAnyH_done (by kernel_rfl) ?_ _
          clear hHeld
          go_wp2
          go_ret
          exact ⟨rfl, HENDF.out⟩
        · refine step_wp rfl (wp_load_mid 112 (.tmp 7) rfl w1.heap.size 0 rfl X _ HL5.out Try.underlying112 rfl HWS.out ?_)
          refine hK.out _ _ ?_ (fun hHeld => ?_)
          · trivial
          clear hK K
          try simp only [Act.put, List.getElem_toArray, List.getElem_cons_zero, List.getElem_cons_succ, List.setIfInBounds_toArray, List.set_cons_zero, List.set_cons_succ]
          refine wpAnyH_ready (rs := [4, 6]) (by kernel_rfl) (by simp) ?_
          refine AllReadyH.cons rfl (fun K hK => ?_) (AllReadyH.cons rfl (fun K hK => ?_) AllReadyH.nil)
          · have hc := HC5.out
            go_simp
            refine hK.out _ _ ?_ (fun hHeld => ?_)
            · trivial
            clear hK K
            try simp only [Act.put, List.getElem_toArray, List.getElem_cons_zero, List.getElem_cons_succ, List.setIfInBounds_toArray, List.set_cons_zero, List.set_cons_succ]
            refine wpAnyH_ready (rs := [6]) (by kernel_rfl) (by simp) ?_
            refine AllReadyH.cons rfl (fun K hK => ?_) AllReadyH.nil
            refine step_wp rfl (wp_slice_run 77 1 #[(0, .tmp 46)] rfl #[(0, .agg X.toArray)] _ ?_ HBS.out ?_)
            · simp only [List.map_toArray, List.map_cons, List.map_nil]
              rfl
            refine hK.out _ _ ?_ (fun hHeld => ?_)
            · trivial
            clear hK K
            try simp only [Act.put, List.getElem_toArray, List.getElem_cons_zero, List.getElem_cons_succ, List.setIfInBounds_toArray, List.set_cons_zero, List.set_cons_succ]
            refine wpAnyH_ready (rs := [7]) (by kernel_rfl) (by simp) ?_
            refine AllReadyH.cons rfl (fun K hK => ?_) AllReadyH.nil
            refine step_wp rfl (Lib.wp_append_run _ (.tmp 45) (.tmp 47) 77 77 rfl (.slice pa WL pc) (.slice (some ⟨w5.heap.size, 0, none⟩) 1 1) rfl rfl _ _ HAP.out ?_)
            refine hK.out _ _ ?_ (fun hHeld => ?_)
            · trivial
            clear hK K
            try simp only [Act.put, List.getElem_toArray, List.getElem_cons_zero, List.getElem_cons_succ, List.setIfInBounds_toArray, List.set_cons_zero, List.set_cons_succ]
            refine wpAnyH_take (i := 8) (v := ?_) rfl (by kernel_rfl) (by kernel_rfl) (by kernel_rfl) (fun _ _ _ h => h) (Or.inl ⟨by kernel_rfl, ?_⟩) hHeld ?_
            rotate_left
            · intro W hSw
              clear hSw
              go_simp <;> with_reducible rfl
            simp only [Act.put, List.getElem_toArray, List.getElem_cons_zero, List.getElem_cons_succ, List.setIfInBounds_toArray, List.set_cons_zero, List.set_cons_succ]
            refine wpAnyH_take (i := 9) (v := ?_) rfl (by kernel_rfl) (by kernel_rfl) (by kernel_rfl) (fun _ _ _ h => h) (Or.inl ⟨by kernel_rfl, ?_⟩) hHeld ?_
            rotate_left
            · intro W hSw
              clear hSw
              go_simp <;> with_reducible rfl
            simp only [Act.put, List.getElem_toArray, List.getElem_cons_zero, List.getElem_cons_succ, List.setIfInBounds_toArray, List.set_cons_zero, List.set_cons_succ]
            refine wpAnyH_ready (rs := [10]) (by kernel_rfl) (by simp) ?_
            refine AllReadyH.cons rfl (fun K hK => ?_) AllReadyH.nil
            have hc := hold
            have hf := hfro
            go_simp
            refine hK.out _ _ ?_ (fun hHeld => ?_)
            · trivial
            clear hK K
            try simp only [Act.put, List.getElem_toArray, List.getElem_cons_zero, List.getElem_cons_succ, List.setIfInBounds_toArray, List.set_cons_zero, List.set_cons_succ]
            refine wpAnyH_done (by kernel_rfl) ?_ _
            clear hHeld
            go_wp2
            go_ret
            exact ⟨rfl, HENDF.out⟩
          · refine step_wp rfl (wp_slice_run 77 1 #[(0, .tmp 46)] rfl #[(0, .agg X.toArray)] _ ?_ HBS.out ?_)
            · simp only [List.map_toArray, List.map_cons, List.map_nil]
              rfl
            refine hK.out _ _ ?_ (fun hHeld => ?_)
            · trivial
            clear hK K
            try simp only [Act.put, List.getElem_toArray, List.getElem_cons_zero, List.getElem_cons_succ, List.setIfInBounds_toArray, List.set_cons_zero, List.set_cons_succ]
            refine wpAnyH_ready (rs := [4]) (by kernel_rfl) (by simp) ?_
            refine AllReadyH.cons rfl (fun K hK => ?_) AllReadyH.nil
            have hc : (w5.alloc (.cells X.toArray 112)).cell? ⟨k.a, 1, none⟩ = some (.slice pa WL pc) := HC6.out (.cells X.toArray 112)
            go_simp
            refine hK.out _ _ ?_ (fun hHeld => ?_)
            · trivial
            clear hK K
            try simp only [Act.put, List.getElem_toArray, List.getElem_cons_zero, List.getElem_cons_succ, List.setIfInBounds_toArray, List.set_cons_zero, List.set_cons_succ]
            refine wpAnyH_ready (rs := [7]) (by kernel_rfl) (by simp) ?_
            refine AllReadyH.cons rfl (fun K hK => ?_) AllReadyH.nil
            refine step_wp rfl (Lib.wp_append_run _ (.tmp 45) (.tmp 47) 77 77 rfl (.slice pa WL pc) (.slice (some ⟨w5.heap.size, 0, none⟩) 1 1) rfl rfl _ _ HAP.out ?_)
            refine hK.out _ _ ?_ (fun hHeld => ?_)
            · trivial
            clear hK K
            try simp only [Act.put, List.getElem_toArray, List.getElem_cons_zero, List.getElem_cons_succ, List.setIfInBounds_toArray, List.set_cons_zero, List.set_cons_succ]
            refine wpAnyH_take (i := 8) (v := ?_) rfl (by kernel_rfl) (by kernel_rfl) (by kernel_rfl) (fun _ _ _ h => h) (Or.inl ⟨by kernel_rfl, ?_⟩) hHeld ?_
            rotate_left
            · intro W hSw
              clear hSw
              go_simp <;> with_reducible rfl
            simp only [Act.put, List.getElem_toArray, List.getElem_cons_zero, List.getElem_cons_succ, List.setIfInBounds_toArray, List.set_cons_zero, List.set_cons_succ]
            refine wpAnyH_take (i := 9) (v := ?_) rfl (by kernel_rfl) (by kernel_rfl) (by kernel_rfl) (fun _ _ _ h => h) (Or.inl ⟨by kernel_rfl, ?_⟩) hHeld ?_
            rotate_left
            · intro W hSw
              clear hSw
              go_simp <;> with_reducible rfl
            simp only [Act.put, List.getElem_toArray, List.getElem_cons_zero, List.getElem_cons_succ, List.setIfInBounds_toArray, List.set_cons_zero, List.set_cons_succ]
            refine wpAnyH_ready (rs := [10]) (by kernel_rfl) (by simp) ?_
            refine AllReadyH.cons rfl (fun K hK => ?_) AllReadyH.nil
            have hc := hold
            have hf := hfro
            go_simp
            refine hK.out _ _ ?_ (fun hHeld => ?_)
            · trivial
            clear hK K
            try simp only [Act.put, List.getElem_toArray, List.getElem_cons_zero, List.getElem_cons_succ, List.setIfInBounds_toArray, List.set_cons_zero, List.set_cons_succ]
            refine wpAnyH_done (by kernel_rfl) ?_ _
            clear hHeld
            go_wp2
            go_ret
            exact ⟨rfl, HENDF.out⟩
    · rw [write_no (.inr hbl)]
      rw [hi] at HH
      have hbl2 : ¬ (b.length : Int) = 256 := by omega
      clear hi h1 h2 hY hO
      generalize b.length = bl at *
      go_enter Try.func35, Try.ntmps35
      go_wp2_with fail
      refine HH.out.mono ?_
      rintro e w1 ⟨rfl, rfl⟩
      clear HH
      go_wp2
      go_ret
      exact ⟨rfl, HSAME.out⟩
end Go.Proofs.Ythpepkfodcgbcaa
