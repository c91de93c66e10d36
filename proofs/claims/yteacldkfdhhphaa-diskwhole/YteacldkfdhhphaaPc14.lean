/- What the program's Pending, Blocks, has, powered, Flush and Fuse answer, and all calls on no disk. -/
import Derived.Test.YteacldkfdhhphaaPb14
set_option linter.unusedVariables false
set_option linter.unusedSimpArgs false
set_option maxRecDepth 4000
namespace Go.Proofs.Yteacldkfdhhphaa
open Go.RowKit

set_option maxHeartbeats 1000000 in
theorem nil_has (n : Int) (w : World) : Calls Try.prog 33 #[.pointer none, .int .i64 n] w fun e w' => e = .returned (.bool false) ∧ w' = w := by
  go_enter Try.func33, Try.ntmps33
  go_wp2
  go_ret
  exact ⟨rfl, rfl⟩
set_option maxHeartbeats 1000000 in
theorem nil_read (n : Int) (w : World) : Calls Try.prog 15 #[.pointer none, .int .i64 n] w fun e w' => (∃ a c, e = .returned (.tuple #[.slice a 0 c, .int .i64 1])) ∧ Below w.heap.size w w' := by
  have H := hide (nil_has n w)
  go_enter Try.func15, Try.ntmps15
  go_wp2_with fail
  refine H.out.mono ?_
  rintro e w1 ⟨rfl, rfl⟩
  clear H
  go_wp2
  go_ret2
  exact ⟨⟨_, _, rfl⟩, Below.refl _ _⟩
set_option maxHeartbeats 1000000 in
theorem nil_write (n : Int) (a : Option Addr) (k c : Nat) (w : World) : Calls Try.prog 23 #[.pointer none, .int .i64 n, .slice a k c] w fun e w' => e = .returned (.int .i64 1) ∧ Below w.heap.size w w' := by
  have H := hide (nil_has n w)
  go_enter Try.func23, Try.ntmps23
  go_wp2_with fail
  refine H.out.mono ?_
  rintro e w1 ⟨rfl, rfl⟩
  clear H
  go_wp2
  go_ret
  exact ⟨rfl, Below.refl _ _⟩
set_option maxHeartbeats 1000000 in
theorem nil_flush (w : World) : Calls Try.prog 25 #[.pointer none] w fun e w' => e = .returned (.int .i64 1) ∧ Below w.heap.size w w' := by
  go_enter Try.func25, Try.ntmps25
  go_wp2
  go_ret
  exact ⟨rfl, Below.refl _ _⟩
set_option maxHeartbeats 1000000 in
theorem nil_fuse (n : Int) (w : World) : Calls Try.prog 26 #[.pointer none, .int .i64 n] w fun e w' => e = .returned (.tuple #[]) ∧ Below w.heap.size w w' := by
  go_enter Try.func26, Try.ntmps26
  go_wp2
  refine bodyPost_ret (results_none rfl _ _ _) rfl ?_
  exact ⟨rfl, Below.refl _ _⟩
set_option maxHeartbeats 1000000 in
theorem nil_crash (w : World) : Calls Try.prog 22 #[.pointer none, .slice none 0 0] w fun e w' => e = .returned (.tuple #[]) ∧ Below w.heap.size w w' := by
  go_enter Try.func22, Try.ntmps22
  go_wp2
  refine bodyPost_ret (results_none rfl _ _ _) rfl ?_
  exact ⟨rfl, Below.refl _ _⟩
set_option maxHeartbeats 1000000 in
theorem nil_pending (w : World) : Calls Try.prog 17 #[.pointer none] w fun e w' => e = .returned (.int .i64 0) ∧ Below w.heap.size w w' := by
  go_enter Try.func17, Try.ntmps17
  go_wp2
  go_ret
  exact ⟨rfl, Below.refl _ _⟩
set_option maxHeartbeats 1000000 in
theorem nil_blocks (w : World) : Calls Try.prog 21 #[.pointer none] w fun e w' => e = .returned (.int .i64 0) ∧ Below w.heap.size w w' := by
  go_enter Try.func21, Try.ntmps21
  go_wp2
  go_ret
  exact ⟨rfl, Below.refl _ _⟩
set_option maxHeartbeats 1000000 in
theorem nil_dump (w : World) : Calls Try.prog 18 #[.pointer none] w fun e w' => (∃ a c, e = .returned (.slice a 0 c)) ∧ Below w.heap.size w w' := by
  go_enter Try.func18, Try.ntmps18
  go_wp2
  go_ret
  exact ⟨⟨_, _, rfl⟩, Below.refl _ _⟩
set_option maxHeartbeats 1000000 in
theorem kpending (k : KD) (w : World) (h : IsKD w k) (hl : k.ws.length ≤ 100000) : Calls Try.prog 17 #[.pointer (some ⟨k.a, 0, none⟩)] w fun e w' => e = .returned (.int .i64 (4 * (k.ws.length : Int))) ∧ w' = w := by
  obtain ⟨x0, x1, x2, x3, x4, xf⟩ := kd_cells h.box
  obtain ⟨pa, pc, hp⟩ := h.pend.form
  rw [hp] at x1
  clear h hp
  generalize k.ws.length = n at *
  generalize k.a = a at *
  go_enter Try.func17, Try.ntmps17
  go_wp2
  go_ret
  exact ⟨by go_num, rfl⟩
theorem ppending_any (A : Nat → Prop) (v : Value) (d : DM) (w : World) (hK : IsK A w v d) (hF : Fit d) : Calls Try.prog 17 #[v] w fun e w' => e = .returned (.int .i64 (d.l.length : Int)) ∧ Below w.heap.size w w' := by
  obtain ⟨k, rfl, rfl, h1, h2⟩ := hK
  have hl := hF.l
  have e : d.l.length = 4 * k.ws.length := by rw [h2.l, pcs_len]
  refine (kpending k w h1 (by omega)).mono ?_
  rintro e1 w1 ⟨rfl, rfl⟩
  exact ⟨by rw [e]; simp, Below.refl _ _⟩
set_option maxHeartbeats 1000000 in
theorem kblocks (k : KD) (w : World) (h : IsKD w k) : Calls Try.prog 21 #[.pointer (some ⟨k.a, 0, none⟩)] w fun e w' => e = .returned (.int .i64 (k.n : Int)) ∧ w' = w := by
  obtain ⟨x0, x1, x2, x3, x4, xf⟩ := kd_cells h.box
  clear h
  generalize k.n = n at *
  generalize k.a = a at *
  go_enter Try.func21, Try.ntmps21
  go_wp2
  go_ret
  exact ⟨rfl, rfl⟩
theorem pblocks_any (A : Nat → Prop) (v : Value) (d : DM) (w : World) (hK : IsK A w v d) (hF : Fit d) : Calls Try.prog 21 #[v] w fun e w' => e = .returned (.int .i64 ((d.safe.length / 4 : Nat) : Int)) ∧ Below w.heap.size w w' := by
  obtain ⟨k, rfl, rfl, h1, h2⟩ := hK
  refine (kblocks k w h1).mono ?_
  rintro e1 w1 ⟨rfl, rfl⟩
  exact ⟨by rw [h2.n4, show 4 * k.n / 4 = k.n by omega], Below.refl _ _⟩
set_option maxHeartbeats 1000000 in
theorem khas (k : KD) (n : Int) (w : World) (h : IsKD w k) : Calls Try.prog 33 #[.pointer (some ⟨k.a, 0, none⟩), .int .i64 n] w fun e w' => e = .returned (.bool (decide (0 ≤ n) && decide (n < (k.n : Int)))) ∧ w' = w := by
  obtain ⟨x0, x1, x2, x3, x4, xf⟩ := kd_cells h.box
  clear h
  generalize k.n = m at *
  generalize k.a = a at *
  by_cases h0 : 0 ≤ n
  · rw [decide_eq_true h0, Bool.true_and]
    by_cases h1 : n < (m : Int)
    · rw [decide_eq_true h1]
      go_enter Try.func33, Try.ntmps33
      go_wp2
      go_ret
      exact ⟨rfl, rfl⟩
    · rw [decide_eq_false h1]
      go_enter Try.func33, Try.ntmps33
      go_wp2
      go_ret
      exact ⟨rfl, rfl⟩
  · rw [decide_eq_false h0, Bool.false_and]
    go_enter Try.func33, Try.ntmps33
    go_wp2
    go_ret
    exact ⟨rfl, rfl⟩
/-- What powered leaves. -/
def PowR (k : KD) (d : DM) (w : World) (e : Ending) (w' : World) : Prop := e = .returned (.bool (spendD d).2) ∧ ∃ left off, IsKD w' { k with left := left, off := off } ∧ KRel { k with left := left, off := off } (spendD d).1 ∧ ButA (fun j => j = k.a) w w'
theorem powR_same {k : KD} {d : DM} {w : World} {b : Bool} (h : IsKD w k) (hb : (spendD d).2 = b) (hR : KRel k (spendD d).1) : PowR k d w (.returned (.bool b)) w := ⟨by rw [hb], k.left, k.off, h, hR, ButA.refl _ _⟩
theorem powR_set {k : KD} {d : DM} {w : World} {b : Bool} (left : Int) (off : Bool) (h : IsKD w k) (hb : (spendD d).2 = b) (hR : KRel { k with left := left, off := off } (spendD d).1) (o : Nat) (v : Value) (hv : (kdC k).setIfInBounds o v = kdC { k with left := left, off := off }) : PowR k d w (.returned (.bool b)) (w.setCell ⟨k.a, o, none⟩ v) := by
  have hb1 : ButA (fun j => j = k.a) w (w.setCell ⟨k.a, o, none⟩ v) := ButA.setCell (A := fun j => j = k.a) (ButA.refl _ w) (a := ⟨k.a, o, none⟩) (.inl rfl) v
  refine ⟨by rw [hb], left, off, ?_, hR, hb1⟩
  refine h.fields k.fu left off hb1 ?_
  have h1 := heap_box_set h.box o v
  rw [hv] at h1
  exact h1
set_option maxHeartbeats 4000000 in
theorem kpowered (k : KD) (d : DM) (w : World) (h : IsKD w k) (hR : KRel k d) (hl : 0 ≤ d.left ∧ d.left ≤ 9223372036854775807) : Calls Try.prog 38 #[.pointer (some ⟨k.a, 0, none⟩)] w (PowR k d w) := by
  obtain ⟨x0, x1, x2, x3, x4, xf⟩ := kd_cells h.box
  obtain ⟨a, g, n, F, pv, ws, fu, left, off⟩ := k
  have hoff : off = d.off := hR.off_
  have hon : d.off = false → fu = d.fuse ∧ left = d.left := hR.on
  simp only [] at x0 x1 x2 x3 x4 xf
  have HS := hide (fun b hb hR => powR_same (d := d) (b := b) h hb hR)
  have HT := hide (fun left off b hb hR o v hv => powR_set (d := d) (b := b) left off h hb hR o v hv)
  have HR := hide hR
  clear hR h
  cases off
  · have ho : d.off = false := hoff.symm
    obtain ⟨rfl, rfl⟩ := hon ho
    cases hf : d.fuse
    · have hs : spendD d = (d, true) := by simp [spendD, ho, hf]
      have HG := hide (HS.out true (by rw [hs]) (by rw [hs]; exact HR.out))
      rw [hf] at x2 HG
      clear HS HT HR hs hoff hon ho hf hl
      generalize d.left = left at *
      go_enter Try.func38, Try.ntmps38
      go_wp2
      go_ret
      exact HG.out
    · by_cases h0 : d.left = 0
      · have hs : spendD d = ({ d with off := true, fuse := false }, false) := by simp [spendD, ho, hf, h0]
        have HG := hide (HT.out d.left true false (by rw [hs]) (by rw [hs]; exact HR.out.spend rfl rfl rfl (fun e => by cases e)) 4 (.bool true) rfl)
        rw [hf, h0] at HG
        rw [hf] at x2
        rw [h0] at x3
        have y4 : (w.setCell ⟨a, 4, none⟩ (.bool true)).cell? ⟨a, 4, none⟩ = some (.bool true) := World.cell?_setCell_same _ _ _ x4
        clear HS HT HR hs hl h0 hoff hon ho hf
        go_enter Try.func38, Try.ntmps38
        go_wp2
        go_ret
        exact HG.out
      · have hs : spendD d = ({ d with left := d.left - 1 }, true) := by simp [spendD, ho, hf, h0]
        have HG := hide (HT.out (d.left - 1) false true (by rw [hs]) (by rw [hs]; exact HR.out.spend rfl rfl ho.symm (fun _ => ⟨rfl, rfl⟩)) 3 (.int .i64 (d.left - 1)) rfl)
        rw [hf] at x2 HG
        have h0b : (d.left == 0) = false := by simp [h0]
        have hw : wrap64 (d.left - 1) = d.left - 1 := by unfold wrap64; omega
        clear HS HT HR hs hoff hon ho hf
        generalize d.left = left at *
        clear h0
        go_enter Try.func38, Try.ntmps38
        go_wp2
        go_ret
        exact HG.out
  · have ho : d.off = true := hoff.symm
    have hs : spendD d = ({ d with off := true, fuse := false }, false) := by simp [spendD, ho]
    have HG := hide (HS.out false (by rw [hs]) (by rw [hs]; exact HR.out.spend rfl rfl rfl (fun e => by cases e)))
    have HG2 := hide (HT.out left true false (by rw [hs]) (by rw [hs]; exact HR.out.spend rfl rfl rfl (fun e => by cases e)) 4 (.bool true) rfl)
    have y4 : (w.setCell ⟨a, 4, none⟩ (.bool true)).cell? ⟨a, 4, none⟩ = some (.bool true) := World.cell?_setCell_same _ _ _ x4
    clear HS HT HR hs hoff hon ho hl
    cases fu
    · go_enter Try.func38, Try.ntmps38
      go_wp2
      go_ret
      exact HG.out
    · by_cases h0 : left = 0
      · subst h0
        go_enter Try.func38, Try.ntmps38
        go_wp2
        go_ret
        exact HG2.out
      · have h0b : (left == 0) = false := by simp [h0]
        clear h0
        go_enter Try.func38, Try.ntmps38
        go_wp2
        go_ret
        exact HG.out
theorem ButA.box {k : KD} {w w' : World} (h : ButA (fun j => j = k.a) w w') : ButA (kdA k) w w' := h.mono fun j hj => .inl hj
set_option maxHeartbeats 4000000 in
theorem pflush_any (A : Nat → Prop) (v : Value) (d : DM) (w : World) (hK : IsK A w v d) (hF : Fit d) : Calls Try.prog 25 #[v] w fun e w' => e = .returned (.int .i64 (flushD d).2) ∧ KR IsK A w v (flushD d).1 w' := by
  obtain ⟨k, rfl, rfl, h1, h2⟩ := hK
  have HP := hide (kpowered k d w h1 h2 hF.left)
  cases hs : (spendD d).2
  · have HF : Hid (∀ x left off, IsKD x { k with left := left, off := off } → KRel { k with left := left, off := off } (spendD d).1 → ButA (fun j => j = k.a) w x → KR IsK (kdA k) w (.pointer (some ⟨k.a, 0, none⟩)) (flushD d).1 x) := hide (fun x left off a b c => by
      have e : flushD d = ((spendD d).1, 9) := by unfold flushD; rw [hs]; rfl
      rw [e]
      exact ⟨kdA k, ⟨{ k with left := left, off := off }, rfl, rfl, a, b⟩, Grew.refl _ _, c.box⟩)
    have e2 : (flushD d).2 = 9 := by unfold flushD; rw [hs]; rfl
    rw [e2]
    clear h1 h2 e2
    go_enter Try.func25, Try.ntmps25
    go_wp2_with fail
    refine HP.out.mono ?_
    rintro e w1 ⟨rfl, left, off, a, b, c⟩
    rw [hs]
    have HG := hide (HF.out w1 left off a b c)
    clear HF HP hs a b c
    go_wp2
    go_ret
    exact ⟨rfl, HG.out⟩
  · have HF : Hid (∀ x left off, IsKD x { k with left := left, off := off } → KRel { k with left := left, off := off } (spendD d).1 → ButA (fun j => j = k.a) w x → KR IsK (kdA k) w (.pointer (some ⟨k.a, 0, none⟩)) (flushD d).1 (x.setCell ⟨k.a, 1, none⟩ (.slice none 0 0))) := hide (fun x left off a b c => by
      have e : flushD d = ({ (spendD d).1 with safe := nowD (spendD d).1, l := [] }, 0) := by unfold flushD; rw [hs]; rfl
      rw [e]
      have hb := heap_box_set a.box 1 (.slice none 0 0)
      have ho : ∀ j, j ≠ k.a → (x.setCell ⟨k.a, 1, none⟩ (.slice none 0 0)).heap[j]? = x.heap[j]? := fun j hj => Below.heap_setCell _ _ _ _ hj
      refine ⟨kdA { k with left := left, off := off, pv := .slice none 0 0, ws := [] }, ⟨{ k with left := left, off := off, pv := .slice none 0 0, ws := [] }, rfl, rfl, ⟨hb, (ho _ (fun e => a.ag e.symm)).trans a.blk, PendAt.nil _, a.ag, fun j hj => by cases hj⟩, b.flush⟩, fun j hj => ?_, ButA.setCell c.box (.inl (.inl rfl)) _⟩
      rcases hj with hj | hj | hj
      · exact .inl (.inl hj)
      · exact .inl (.inr (.inl hj))
      · cases hj)
    have e2 : (flushD d).2 = 0 := by unfold flushD; rw [hs]; rfl
    rw [e2]
    clear h1 h2 e2
    go_enter Try.func25, Try.ntmps25
    go_wp2_with fail
    refine HP.out.mono ?_
    rintro e w1 ⟨rfl, left, off, a, b, c⟩
    rw [hs]
    have HG := hide (HF.out w1 left off a b c)
    obtain ⟨x0, x1, x2, x3, x4, xf⟩ := kd_cells a.box
    obtain ⟨pa, pc, hp⟩ := a.pend.form
    simp only [] at x0 x1 x2 x3 x4 xf hp
    rw [hp] at x1
    clear HF HP hs a b c hp
    generalize k.ws.length = n at *
    go_wp2
    go_ret
    exact ⟨rfl, HG.out⟩
set_option maxHeartbeats 4000000 in
theorem pfuse_any (A : Nat → Prop) (v : Value) (d : DM) (n : Int) (w : World) (hK : IsK A w v d) (hF : Fit d) (hn : -9223372036854775808 ≤ n ∧ n ≤ 9223372036854775807) : Calls Try.prog 26 #[v, .int .i64 n] w fun e w' => e = .returned (.tuple #[]) ∧ KR IsK A w v (armD d n) w' := by
  obtain ⟨k, rfl, rfl, h1, h2⟩ := hK
  obtain ⟨x0, x1, x2, x3, x4, xf⟩ := kd_cells h1.box
  have hoff : k.off = d.off := h2.off_
  cases ho : d.off
  · rw [ho] at hoff
    rw [hoff] at x4
    have e : armD d n = { d with fuse := true, left := if n < 0 then 0 else n } := by unfold armD; rw [ho]; rfl
    have em : max n 0 = if n < 0 then 0 else n := by split <;> omega
    have HF := hide (show KR IsK (kdA k) w (.pointer (some ⟨k.a, 0, none⟩)) (armD d n) ((w.setCell ⟨k.a, 2, none⟩ (.bool true)).setCell ⟨k.a, 3, none⟩ (.int .i64 (max n 0))) from by
      rw [e]
      have hb1 : ButA (fun j => j = k.a) w ((w.setCell ⟨k.a, 2, none⟩ (.bool true)).setCell ⟨k.a, 3, none⟩ (.int .i64 (max n 0))) := ButA.setCell (ButA.setCell (A := fun j => j = k.a) (ButA.refl _ w) (a := ⟨k.a, 2, none⟩) (.inl rfl) _) (a := ⟨k.a, 3, none⟩) (.inl rfl) _
      have hb := heap_box_set (heap_box_set h1.box 2 (.bool true)) 3 (.int .i64 (max n 0))
      exact ⟨kdA k, ⟨{ k with fu := true, left := max n 0 }, rfl, rfl, h1.fields true (max n 0) k.off hb1 hb, h2.spend rfl rfl (by rw [hoff]; exact ho.symm) (fun _ => ⟨rfl, em⟩)⟩, Grew.refl _ _, hb1.box⟩)
    have y3 : (w.setCell ⟨k.a, 2, none⟩ (.bool true)).cell? ⟨k.a, 3, none⟩ = some (.int .i64 k.left) := (World.cell?_setCell_other _ _ _ _ (by intro e; injection e; omega)).trans x3
    have y4 : (w.setCell ⟨k.a, 2, none⟩ (.bool true)).frozen? ⟨k.a, 3, none⟩ = false := by rw [World.frozen?_setCell]; exact xf 3
    clear h1 h2 e em hoff ho
    generalize k.left = left at *
    generalize k.a = a at *
    go_enter Try.func26, Try.ntmps26
    go_wp2
    · go_end0
      have hh := HF.out
      rw [show max n 0 = 0 by omega] at hh
      exact ⟨rfl, hh⟩
    · go_end0
      have hh := HF.out
      rw [show max n 0 = n by omega] at hh
      exact ⟨rfl, hh⟩
  · rw [ho] at hoff
    rw [hoff] at x4
    have e : armD d n = d := by unfold armD; rw [ho]; rfl
    have HF := hide (show KR IsK (kdA k) w (.pointer (some ⟨k.a, 0, none⟩)) (armD d n) w from by
      rw [e]
      exact ⟨kdA k, ⟨k, rfl, rfl, h1, h2⟩, Grew.refl _ _, ButA.refl _ _⟩)
    clear h1 h2 e hoff ho
    generalize k.left = left at *
    generalize k.a = a at *
    go_enter Try.func26, Try.ntmps26
    go_wp2
    refine bodyPost_ret (results_none rfl _ _ _) rfl ?_
    exact ⟨rfl, HF.out⟩
end Go.Proofs.Yteacldkfdhhphaa
