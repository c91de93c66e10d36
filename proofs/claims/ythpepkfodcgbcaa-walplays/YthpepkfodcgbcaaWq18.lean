import Derived.Test.YthpepkfodcgbcaaWq17
/- What the program's undo does. -/
set_option linter.unusedVariables false
set_option linter.unusedSimpArgs false
set_option maxRecDepth 4000
namespace Go.Proofs.Ythpepkfodcgbcaa
open Go.RowKit

theorem ButA.drew' {A : Nat → Prop} {w x : World} (h : ButA A w x) : ButA A w x.drew := ⟨h.os, h.tape, h.output, h.size, h.block⟩
theorem ButA.cells {A : Nat → Prop} {w x : World} (h : ButA A w x) (g : Nat) (hg : A g) (o : Nat) (vs : List Value) : ButA A w (x.setCells g o vs) := h.trans (butA_cells A g hg vs o x) fun j _ hj => hj
/-- The writes' blocks, and the row beside them. -/
structure UndoP (w : World) (k : KD) : Prop where
  d : IsKD w k
  n : k.n ≤ 25000
  len : k.F.length = 256 * k.n
  l : k.ws.length ≤ 100000
  ok : ∀ x ∈ k.ws, x.at_ < k.n ∧ x.was.length = 256 ∧ x.laid.length = 256
theorem UndoP.good {w : World} {k : KD} (h : UndoP w k) : ∀ x ∈ k.ws, Good x := fun x hx => (h.ok x hx).2
set_option maxHeartbeats 8000000 in
theorem kundo (k : KD) (w : World) (h : UndoP w k) : Calls Try.prog 53 #[.pointer (some ⟨k.a, 0, none⟩)] w fun e w' => e = .returned (.tuple #[]) ∧ IsKD w' { k with F := undoL k.F k.ws } ∧ ButA (fun j => j = k.g) w w' := by
  obtain ⟨x0, x1, x2, x3, x4, xf⟩ := kd_cells h.d.box
  obtain ⟨pa, pc, hp⟩ := h.d.pend.form
  rw [hp] at x1
  have hl := h.l
  have hn := h.n
  have HE : Hid (∀ x, x.heap[k.g]? = some (.cells (bytesV (undoL k.F k.ws)).toArray 106 (0, 0)) → ButA (fun j => j = k.g) w x → IsKD x { k with F := undoL k.F k.ws } ∧ ButA (fun j => j = k.g) w x) := hide (fun x hx hb => ⟨h.d.blkset _ hb hx, hb⟩)
  have H0 : Hid (∀ W, ButA (fun j => j = k.g) w W → W.cell? ⟨k.a, 0, none⟩ = some (.slice (some ⟨k.g, 0, none⟩) k.n k.n)) := hide (fun W hb => cell_but x0 hb h.d.ag)
  have H1 : Hid (∀ W, ButA (fun j => j = k.g) w W → W.cell? ⟨k.a, 1, none⟩ = some (.slice pa k.ws.length pc)) := hide (fun W hb => cell_but x1 hb h.d.ag)
  have HJ : Hid (∀ j x, k.ws[j]? = some x → (x.at_ < k.n ∧ x.was.length = 256) ∧ ∃ b, pa = some ⟨b, 0, none⟩ ∧ ∀ W, ButA (fun j => j = k.g) w W → W.cell? ⟨b, j * 513, none⟩ = some (.int .i64 (x.at_ : Int)) ∧ W.rangeAt b (j * 513 + 1) (bytesV x.was)) := hide (fun j x hx => by
    obtain ⟨hj, rfl⟩ := List.getElem?_eq_some_iff.1 hx
    obtain ⟨b, cap, e, q1, q2, q3⟩ := pend_at h.d.pend h.good j hj
    rw [hp] at e
    injection e with e1
    have hne : b ≠ k.g := (h.d.ap b (by rw [hp, e1]; rfl)).2
    exact ⟨⟨(h.ok _ (List.getElem_mem hj)).1, (h.ok _ (List.getElem_mem hj)).2.1⟩, b, e1, fun W hb => ⟨cell_but q1 hb hne, rangeAt_but q2 hb hne⟩⟩)
  have HLN : Hid (k.F.length = 256 * k.n) := hide h.len
  have HW : Hid (w.heap[k.g]? = some (.cells (bytesV (undoL k.F (k.ws.drop k.ws.length))).toArray 106 (0, 0))) := hide (by
    rw [List.drop_of_length_le (Nat.le_refl _)]
    exact h.d.blk)
  have HB : Hid (ButA (fun j => j = k.g) w w) := hide (ButA.refl _ _)
  clear h x0 x2 x3 x4 xf hp
  generalize hws : k.ws = ws at *
  generalize k.F = F at *
  generalize k.n = n at *
  generalize hg : k.g = g at *
  generalize ha : k.a = a at *
  generalize hL : ws.length = L at *
  go_enter Try.func53, Try.ntmps53
  go_wp2
  go_loopw [2] (fun vi wr => ∃ (z : Int) (i : Nat), vi = .int .i64 z ∧ z = (i : Int) - 1 ∧ i ≤ L ∧ Hid (wr.heap[g]? = some (.cells (bytesV (undoL F (ws.drop i))).toArray 106 (0, 0))) ∧ Hid (ButA (fun j => j = g) w wr)) (fun vi _ => (intOf vi + 1).toNat)
  case atStart => exact ⟨_, L, rfl, rfl, Nat.le_refl _, HW, HB⟩
  case round =>
    clear HW HB
    obtain ⟨z, i, rfl, hz, hi, HW, HB⟩ := hrel
    by_cases hlt : 0 < i
    · obtain ⟨j, rfl⟩ : ∃ j, i = j + 1 := ⟨i - 1, by omega⟩
      obtain rfl : z = (j : Int) := by omega
      clear hz
      have hj : j < ws.length := by omega
      have hj2 : (j : Int) < L := by omega
      have hj0 : (0 : Int) ≤ (j : Int) := by omega
      obtain ⟨y, hy⟩ : ∃ y, ws[j]? = some y := ⟨_, List.getElem?_eq_getElem hj⟩
      obtain ⟨⟨hm, hwl⟩, b, rfl, HQ⟩ := HJ.out j y hy
      have hun : undoL F (ws.drop j) = setB (undoL F (ws.drop (j + 1))) (256 * y.at_) y.was := by
        obtain ⟨_, rfl⟩ := List.getElem?_eq_some_iff.1 hy
        exact undo_drop F ws j hj
      have HQ' := hide HQ
      clear HQ hy
      generalize y.at_ = m at *
      generalize y.was = x at *
      have hm2 : (m : Int) < n := by omega
      have hti : (Try.prog.info? 106).map (·.size) = some (bytesV x).length := by rw [bytesV_len, hwl]; exact block_size
      have HTI := hide hti
      have hti2 : (Try.prog.info? 106).map (·.size) = some (bytesV x).toArray.size := by rw [List.size_toArray]; exact hti
      have HTI2 := hide hti2
      have HTH : Hid (wr.drew.there g (m * 256) (bytesV x).toArray.size) := hide (there_sub (w := wr.drew) HW.out (m * 256) _ (by
        have := HLN.out
        simp only [List.size_toArray, bytesV_len, undo_len, hwl]
        omega))
      have HON : Hid ((bytesV x).toArray.all (·.oneCell') = true) := hide (all_oneCell_toArray (bytesV_one x))
      have HB1 := hide HB.out.drew'
      have HB2 := hide (HB1.out.cells g rfl (m * 256) (bytesV x))
      have HW2 : Hid ((wr.drew.setCells g (m * 256) (bytesV x)).heap[g]? = some (.cells (bytesV (undoL F (ws.drop j))).toArray 106 (0, 0))) := hide (by
        rw [hun, Nat.mul_comm 256]
        exact heap_cells_bytes g _ x _ _ _ HW.out)
      clear hti hti2 HW HB hun hwl
      go_wp2_with fail
      refine wp_region_held_drew (S := fun W' => ButA (fun j => j = g) w W') (by kernel_rfl) HB1.out (fun hHeld => ?_)
      refine wpAnyH_take (i := 0) (v := ?_) rfl (by kernel_rfl) (by kernel_rfl) (by kernel_rfl) (fun _ _ _ h => h) (Or.inl ⟨by kernel_rfl, ?_⟩) hHeld ?_
      rotate_left
      · intro W hSw
        clear hSw
        go_simp <;> with_reducible rfl
      simp only [Act.put, List.getElem_toArray, List.getElem_cons_zero, List.getElem_cons_succ, List.setIfInBounds_toArray, List.set_cons_zero, List.set_cons_succ]
      refine wpAnyH_take (i := 1) (v := ?_) rfl (by kernel_rfl) (by kernel_rfl) (by kernel_rfl) (fun _ _ _ h => h) (Or.inl ⟨by kernel_rfl, ?_⟩) hHeld ?_
      rotate_left
      · intro W hSw
        clear hSw
        go_simp <;> with_reducible rfl
      simp only [Act.put, List.getElem_toArray, List.getElem_cons_zero, List.getElem_cons_succ, List.setIfInBounds_toArray, List.set_cons_zero, List.set_cons_succ]
      refine wpAnyH_take (i := 2) (v := ?_) rfl (by kernel_rfl) (by kernel_rfl) (by kernel_rfl) (fun _ _ _ h => h) (Or.inl ⟨by kernel_rfl, ?_⟩) hHeld ?_
      rotate_left
      · intro W hSw
        clear hSw
        go_simp <;> with_reducible rfl
      simp only [Act.put, List.getElem_toArray, List.getElem_cons_zero, List.getElem_cons_succ, List.setIfInBounds_toArray, List.set_cons_zero, List.set_cons_succ]
      refine wpAnyH_take (i := 3) (v := ?_) rfl (by kernel_rfl) (by kernel_rfl) (by kernel_rfl) (fun _ _ _ h => h) (Or.inl ⟨by kernel_rfl, ?_⟩) hHeld ?_
      rotate_left
      · intro W hSw
        have hc := H0.out W hSw
        clear hSw
        go_simp <;> with_reducible rfl
      simp only [Act.put, List.getElem_toArray, List.getElem_cons_zero, List.getElem_cons_succ, List.setIfInBounds_toArray, List.set_cons_zero, List.set_cons_succ]
      refine wpAnyH_take (i := 4) (v := ?_) rfl (by kernel_rfl) (by kernel_rfl) (by kernel_rfl) (fun _ _ _ h => h) (Or.inl ⟨by kernel_rfl, ?_⟩) hHeld ?_
      rotate_left
      · intro W hSw
        clear hSw
        go_simp <;> with_reducible rfl
      simp only [Act.put, List.getElem_toArray, List.getElem_cons_zero, List.getElem_cons_succ, List.setIfInBounds_toArray, List.set_cons_zero, List.set_cons_succ]
      refine wpAnyH_take (i := 5) (v := ?_) rfl (by kernel_rfl) (by kernel_rfl) (by kernel_rfl) (fun _ _ _ h => h) (Or.inl ⟨by kernel_rfl, ?_⟩) hHeld ?_
      rotate_left
      · intro W hSw
        clear hSw
        go_simp <;> with_reducible rfl
      simp only [Act.put, List.getElem_toArray, List.getElem_cons_zero, List.getElem_cons_succ, List.setIfInBounds_toArray, List.set_cons_zero, List.set_cons_succ]
      refine wpAnyH_take (i := 6) (v := ?_) rfl (by kernel_rfl) (by kernel_rfl) (by kernel_rfl) (fun _ _ _ h => h) (Or.inl ⟨by kernel_rfl, ?_⟩) hHeld ?_
      rotate_left
      · intro W hSw
        clear hSw
        go_simp <;> with_reducible rfl
      simp only [Act.put, List.getElem_toArray, List.getElem_cons_zero, List.getElem_cons_succ, List.setIfInBounds_toArray, List.set_cons_zero, List.set_cons_succ]
      refine wpAnyH_take (i := 7) (v := ?_) rfl (by kernel_rfl) (by kernel_rfl) (by kernel_rfl) (fun _ _ _ h => h) (Or.inl ⟨by kernel_rfl, ?_⟩) hHeld ?_
      rotate_left
      · intro W hSw
        have hc := H1.out W hSw
        clear hSw
        go_simp <;> with_reducible rfl
      simp only [Act.put, List.getElem_toArray, List.getElem_cons_zero, List.getElem_cons_succ, List.setIfInBounds_toArray, List.set_cons_zero, List.set_cons_succ]
      refine wpAnyH_take (i := 8) (v := ?_) rfl (by kernel_rfl) (by kernel_rfl) (by kernel_rfl) (fun _ _ _ h => h) (Or.inl ⟨by kernel_rfl, ?_⟩) hHeld ?_
      rotate_left
      · intro W hSw
        clear hSw
        go_simp <;> with_reducible rfl
      simp only [Act.put, List.getElem_toArray, List.getElem_cons_zero, List.getElem_cons_succ, List.setIfInBounds_toArray, List.set_cons_zero, List.set_cons_succ]
      refine wpAnyH_take (i := 9) (v := ?_) rfl (by kernel_rfl) (by kernel_rfl) (by kernel_rfl) (fun _ _ _ h => h) (Or.inl ⟨by kernel_rfl, ?_⟩) hHeld ?_
      rotate_left
      · intro W hSw
        clear hSw
        go_simp <;> with_reducible rfl
      simp only [Act.put, List.getElem_toArray, List.getElem_cons_zero, List.getElem_cons_succ, List.setIfInBounds_toArray, List.set_cons_zero, List.set_cons_succ]
      refine wpAnyH_take (i := 10) (v := ?_) rfl (by kernel_rfl) (by kernel_rfl) (by kernel_rfl) (fun _ _ _ h => h) (Or.inl ⟨by kernel_rfl, ?_⟩) hHeld ?_
      rotate_left
      · intro W hSw
        clear hSw
        go_simp <;> with_reducible rfl
      simp only [Act.put, List.getElem_toArray, List.getElem_cons_zero, List.getElem_cons_succ, List.setIfInBounds_toArray, List.set_cons_zero, List.set_cons_succ]
      refine wpAnyH_take (i := 11) (v := ?_) rfl (by kernel_rfl) (by kernel_rfl) (by kernel_rfl) (fun _ _ _ h => h) (Or.inl ⟨by kernel_rfl, ?_⟩) hHeld ?_
      rotate_left
      · intro W hSw
        have hc := (HQ'.out W hSw).1
        clear hSw
        go_simp <;> with_reducible rfl
      simp only [Act.put, List.getElem_toArray, List.getElem_cons_zero, List.getElem_cons_succ, List.setIfInBounds_toArray, List.set_cons_zero, List.set_cons_succ]
      refine wpAnyH_take (i := 12) (v := ?_) rfl (by kernel_rfl) (by kernel_rfl) (by kernel_rfl) (fun _ _ _ h => h) (Or.inl ⟨by kernel_rfl, ?_⟩) hHeld ?_
      rotate_left
      · intro W hSw
        clear hSw
        go_simp <;> with_reducible rfl
      simp only [Act.put, List.getElem_toArray, List.getElem_cons_zero, List.getElem_cons_succ, List.setIfInBounds_toArray, List.set_cons_zero, List.set_cons_succ]
      refine wpAnyH_take (i := 13) (v := ?_) rfl (by kernel_rfl) (by kernel_rfl) (by kernel_rfl) (fun _ _ _ h => h) (Or.inl ⟨by kernel_rfl, ?_⟩) hHeld ?_
      rotate_left
      · intro W hSw
        clear hSw
        go_simp <;> with_reducible rfl
      simp only [Act.put, List.getElem_toArray, List.getElem_cons_zero, List.getElem_cons_succ, List.setIfInBounds_toArray, List.set_cons_zero, List.set_cons_succ]
      refine wpAnyH_take (i := 14) (v := ?_) rfl (by kernel_rfl) (by kernel_rfl) (by kernel_rfl) (fun _ _ _ h => h) (Or.inl ⟨by kernel_rfl, ?_⟩) hHeld ?_
      rotate_left
      · intro W hSw
        clear hSw
        go_simp <;> with_reducible rfl
      simp only [Act.put, List.getElem_toArray, List.getElem_cons_zero, List.getElem_cons_succ, List.setIfInBounds_toArray, List.set_cons_zero, List.set_cons_succ]
      refine wpAnyH_take (i := 15) (v := ?_) rfl (by kernel_rfl) (by kernel_rfl) (by kernel_rfl) (fun _ _ _ h => h) (Or.inl ⟨by kernel_rfl, ?_⟩) hHeld ?_
      rotate_left
      · intro W hSw
        have hc := H1.out W hSw
        clear hSw
        go_simp <;> with_reducible rfl
      simp only [Act.put, List.getElem_toArray, List.getElem_cons_zero, List.getElem_cons_succ, List.setIfInBounds_toArray, List.set_cons_zero, List.set_cons_succ]
      refine wpAnyH_take (i := 16) (v := ?_) rfl (by kernel_rfl) (by kernel_rfl) (by kernel_rfl) (fun _ _ _ h => h) (Or.inl ⟨by kernel_rfl, ?_⟩) hHeld ?_
      rotate_left
      · intro W hSw
        clear hSw
        go_simp <;> with_reducible rfl
      simp only [Act.put, List.getElem_toArray, List.getElem_cons_zero, List.getElem_cons_succ, List.setIfInBounds_toArray, List.set_cons_zero, List.set_cons_succ]
      refine wpAnyH_take (i := 17) (v := ?_) rfl (by kernel_rfl) (by kernel_rfl) (by kernel_rfl) (fun _ _ _ h => h) (Or.inl ⟨by kernel_rfl, ?_⟩) hHeld ?_
      rotate_left
      · intro W hSw
        clear hSw
        go_simp <;> with_reducible rfl
      simp only [Act.put, List.getElem_toArray, List.getElem_cons_zero, List.getElem_cons_succ, List.setIfInBounds_toArray, List.set_cons_zero, List.set_cons_succ]
      refine wpAnyH_take (i := 18) (v := ?_) rfl (by kernel_rfl) (by kernel_rfl) (by kernel_rfl) (fun _ _ _ h => h) (Or.inl ⟨by kernel_rfl, ?_⟩) hHeld ?_
      rotate_left
      · intro W hSw
        clear hSw
        go_simp <;> with_reducible rfl
      simp only [Act.put, List.getElem_toArray, List.getElem_cons_zero, List.getElem_cons_succ, List.setIfInBounds_toArray, List.set_cons_zero, List.set_cons_succ]
      refine wpAnyH_take (i := 19) (v := .agg (bytesV x).toArray) rfl (by kernel_rfl) (by kernel_rfl) (by kernel_rfl) (fun _ _ _ h => h) (yieldsIf_load_mid (by kernel_rfl) 106 (.tmp 31) rfl b (j * 513 + 1) rfl (bytesV x) _ (fun W hSw => (HQ'.out W hSw).2) block_und rfl HTI.out) hHeld ?_
      simp only [Act.put, List.getElem_toArray, List.getElem_cons_zero, List.getElem_cons_succ, List.setIfInBounds_toArray, List.set_cons_zero, List.set_cons_succ]
      refine wpAnyH_take (i := 20) (v := ?_) rfl (by kernel_rfl) (by kernel_rfl) (by kernel_rfl) (fun _ _ _ h => h) (Or.inl ⟨by kernel_rfl, ?_⟩) hHeld ?_
      rotate_left
      · intro W hSw
        clear hSw
        go_simp <;> with_reducible rfl
      simp only [Act.put, List.getElem_toArray, List.getElem_cons_zero, List.getElem_cons_succ, List.setIfInBounds_toArray, List.set_cons_zero, List.set_cons_succ]
      refine wpAnyH_ready (rs := [21]) (by kernel_rfl) (by simp) ?_
      refine AllReadyH.cons rfl (fun K hK => ?_) AllReadyH.nil
      refine step_wp rfl (wp_store_mid 106 (.tmp 33) (.tmp 32) rfl g (m * 256) (bytesV x).toArray rfl rfl HTH.out HTI2.out HON.out ?_)
      refine hK.out _ _ ?_ (fun hHeld => ?_)
      · exact HB2.out
      clear hK K
      try simp only [Act.put, List.getElem_toArray, List.getElem_cons_zero, List.getElem_cons_succ, List.setIfInBounds_toArray, List.set_cons_zero, List.set_cons_succ]
      refine wpAnyH_done (by kernel_rfl) ?_ _
      clear hHeld
      have e9 : (bytesV x).toArray.toList = bytesV x := rfl
      try rw [e9]
      generalize wr.drew.setCells g (m * 256) (bytesV x) = w9 at *
      go_wp2
      go_roundw
      case rel => exact ⟨_, j, rfl, by go_num, by omega, HW2, HB2⟩
      case measure => simp [intOf]
    · obtain rfl : i = 0 := by omega
      obtain rfl : z = -1 := by omega
      have HF := hide (HE.out wr HW.out HB.out)
      clear HW HB hz hi hlt
      go_wp2
      go_end0
      exact ⟨rfl, HF.out.1, HF.out.2⟩
end Go.Proofs.Ythpepkfodcgbcaa
/- What the program's redo does. -/
set_option linter.unusedVariables false
set_option linter.unusedSimpArgs false
set_option maxRecDepth 4000
namespace Go.Proofs.Ythpepkfodcgbcaa
open Go.RowKit

theorem IsF.at_ {w : World} {a : Option Addr} {n c : Nat} {l : List Bool} (h : IsF w (.slice a n c) l) (i : Nat) (x : Bool) (hx : l[i]? = some x) : ∃ b o, a = some ⟨b, o, none⟩ ∧ w.cell? ⟨b, o + i, none⟩ = some (.bool x) := by
  obtain ⟨hi, rfl⟩ := List.getElem?_eq_some_iff.1 hx
  rcases h with ⟨rfl, _⟩ | ⟨b, o, cap, e, hh⟩
  · simp at hi
  · injection e with e1
    exact ⟨b, o, e1, hh i hi⟩
/-- What stands while redo goes on. -/
structure RedoP (w : World) (k : KD) (d : DM) (F0 : Bs) (kv : Value) (keep : List Bool) : Prop where
  u : UndoP w k
  r : PRel k.n F0 k.ws k.fu k.left k.off d
  ok : OkD d
  f : k.F = crashF d keep 0
  y : IsF w kv keep
  o : keep ≠ [] → ∀ b, kv.ownBlock = some b → b ≠ k.g
  b : keep.length ≤ 9223372036854775807
theorem redo_step {n : Nat} {F : Bs} {ws : List PW} {fu : Bool} {left : Int} {off : Bool} {d : DM} (h : PRel n F ws fu left off d) (hok : OkD d) (keep : List Bool) (i q r : Nat) (x : PW) (kb : Bool) (hi : keep[i]? = some kb) (hx : ws[q]? = some x) (hq : q = i / 4) (hr : r = i % 4) :
    crashF d keep (i + 1) = if kb then setB (crashF d keep i) (256 * x.at_ + 64 * r) (cutB x.laid r) else crashF d keep i := by
  subst hq hr
  obtain ⟨h1, rfl⟩ := List.getElem?_eq_some_iff.1 hi
  obtain ⟨h2, rfl⟩ := List.getElem?_eq_some_iff.1 hx
  exact h.crash_step hok keep i h1 h2
set_option maxHeartbeats 8000000 in
theorem kredo (k : KD) (d : DM) (F0 : Bs) (kv : Value) (keep : List Bool) (w : World) (h : RedoP w k d F0 kv keep) : Calls Try.prog 54 #[.pointer (some ⟨k.a, 0, none⟩), kv] w fun e w' => e = .returned (.tuple #[]) ∧ ∃ i, (keep.length ≤ i ∨ 4 * k.ws.length ≤ i) ∧ IsKD w' { k with F := crashF d keep i } ∧ ButA (fun j => j = k.g) w w' := by
  obtain ⟨x0, x1, x2, x3, x4, xf⟩ := kd_cells h.u.d.box
  obtain ⟨pa, pc, hp⟩ := h.u.d.pend.form
  obtain ⟨ka, kc, rfl⟩ := h.y.form
  rw [hp] at x1
  have hl := h.u.l
  have hn := h.u.n
  have hkl := h.b
  have HP := hide (kpending k w h.u.d hl)
  have HE : Hid (∀ x i, x.heap[k.g]? = some (.cells (bytesV (crashF d keep i)).toArray 106 (0, 0)) → ButA (fun j => j = k.g) w x → (keep.length ≤ i ∨ 4 * k.ws.length ≤ i) → ∃ i, (keep.length ≤ i ∨ 4 * k.ws.length ≤ i) ∧ IsKD x { k with F := crashF d keep i } ∧ ButA (fun j => j = k.g) w x) := hide (fun x i hx hb hi => ⟨i, hi, h.u.d.blkset _ hb hx, hb⟩)
  have H0 : Hid (∀ W, ButA (fun j => j = k.g) w W → W.cell? ⟨k.a, 0, none⟩ = some (.slice (some ⟨k.g, 0, none⟩) k.n k.n)) := hide (fun W hb => cell_but x0 hb h.u.d.ag)
  have H1 : Hid (∀ W, ButA (fun j => j = k.g) w W → W.cell? ⟨k.a, 1, none⟩ = some (.slice pa k.ws.length pc)) := hide (fun W hb => cell_but x1 hb h.u.d.ag)
  have HJ : Hid (∀ j x, k.ws[j]? = some x → (x.at_ < k.n ∧ x.laid.length = 256) ∧ ∃ b, pa = some ⟨b, 0, none⟩ ∧ b ≠ k.g ∧ ∀ W, ButA (fun j => j = k.g) w W → W.cell? ⟨b, j * 513, none⟩ = some (.int .i64 (x.at_ : Int)) ∧ W.rangeAt b (j * 513 + 257) (bytesV x.laid)) := hide (fun j x hx => by
    obtain ⟨hj, rfl⟩ := List.getElem?_eq_some_iff.1 hx
    obtain ⟨b, cap, e, q1, q2, q3⟩ := pend_at h.u.d.pend h.u.good j hj
    rw [hp] at e
    injection e with e1
    have hne : b ≠ k.g := (h.u.d.ap b (by rw [hp, e1]; rfl)).2
    exact ⟨⟨(h.u.ok _ (List.getElem_mem hj)).1, (h.u.ok _ (List.getElem_mem hj)).2.2⟩, b, e1, hne, fun W hb => ⟨cell_but q1 hb hne, rangeAt_but q3 hb hne⟩⟩)
  have HK : Hid (∀ i x, keep[i]? = some x → ∃ b o, ka = some ⟨b, o, none⟩ ∧ ∀ W, ButA (fun j => j = k.g) w W → W.cell? ⟨b, o + i, none⟩ = some (.bool x)) := hide (fun i x hx => by
    obtain ⟨b, o, e, hc⟩ := h.y.at_ i x hx
    have hne : b ≠ k.g := h.o (fun e0 => by rw [e0] at hx; cases hx) b (by rw [e]; rfl)
    exact ⟨b, o, e, fun W hb => cell_but hc hb hne⟩)
  have HST : Hid (∀ i q r x kb, keep[i]? = some kb → k.ws[q]? = some x → q = i / 4 → r = i % 4 → crashF d keep (i + 1) = if kb then setB (crashF d keep i) (256 * x.at_ + 64 * r) (cutB x.laid r) else crashF d keep i) := hide (fun i q r x kb h1 h2 h3 h4 => redo_step h.r h.ok keep i q r x kb h1 h2 h3 h4)
  have HLN : Hid (∀ i, (crashF d keep i).length = 256 * k.n) := hide (fun i => crashF_len h.r h.ok keep i)
  have HW : Hid (w.heap[k.g]? = some (.cells (bytesV (crashF d keep 0)).toArray 106 (0, 0))) := hide (by
    rw [← h.f]
    exact h.u.d.blk)
  have HB : Hid (ButA (fun j => j = k.g) w w) := hide (ButA.refl _ _)
  clear h x0 x1 x2 x3 x4 xf hp
  generalize hws : k.ws = ws at *
  generalize k.n = n at *
  generalize hg : k.g = g at *
  generalize ha : k.a = a at *
  have HWL : Hid (∀ q, q < ws.length → ∃ x, ws[q]? = some x) := hide (fun q hq => ⟨_, List.getElem?_eq_getElem hq⟩)
  have HKL : Hid (∀ q, q < keep.length → ∃ x, keep[q]? = some x) := hide (fun q hq => ⟨_, List.getElem?_eq_getElem hq⟩)
  generalize ws.length = L at *
  generalize keep.length = KL at *
  by_cases hmn : (KL : Int) ≤ 4 * (L : Int)
  · go_enter Try.func54, Try.ntmps54
    go_wp2_with fail
    refine HP.out.mono ?_
    rintro e w1 ⟨rfl, rfl⟩
    clear HP
    go_wp2
    go_loopw [10] (fun vi wr => ∃ i : Nat, vi = .int .i64 (i : Int) ∧ i ≤ KL ∧ Hid (wr.heap[g]? = some (.cells (bytesV (crashF d keep i)).toArray 106 (0, 0))) ∧ Hid (ButA (fun j => j = g) w1 wr)) (fun vi _ => KL - (intOf vi).toNat)
    case atStart => exact ⟨0, rfl, Nat.zero_le _, HW, HB⟩
    case round =>
      clear HW HB
      obtain ⟨i, rfl, hi, HW, HB⟩ := hrel
      by_cases hlt : i < KL
      · have hlt2 : (i : Int) < (KL : Int) := by omega
        have hik : i < KL := by omega
        have hik2 : (i : Int) < (KL : Int) := by omega
        obtain ⟨kb, hkb⟩ := HKL.out i hik
        obtain ⟨q, hq⟩ : ∃ q, q = i / 4 := ⟨_, rfl⟩
        obtain ⟨r, hr⟩ : ∃ r, r = i % 4 := ⟨_, rfl⟩
        have hql : q < L := by omega
        obtain ⟨x, hx⟩ := HWL.out q hql
        have hst := HST.out i q r x kb hkb hx hq hr
        obtain ⟨kbb, kbo, rfl, HKC⟩ := HK.out i kb hkb
        obtain ⟨⟨hm, hll⟩, b, rfl, hbg, HQ⟩ := HJ.out q x hx
        have hkc := HKC wr HB.out
        cases kb
        · have hst' : crashF d keep (i + 1) = crashF d keep i := hst
          have HW2 : Hid (wr.heap[g]? = some (.cells (bytesV (crashF d keep (i + 1))).toArray 106 (0, 0))) := hide (by rw [hst']; exact HW.out)
          clear hst hst' hx hkb HKC HQ hll hm hbg hq hr HW
          go_wp2
          go_roundw
          case rel => exact ⟨i + 1, by go_num, by omega, HW2, HB⟩
          case measure => simp [intOf]; omega
        · have hst' : crashF d keep (i + 1) = setB (crashF d keep i) (256 * x.at_ + 64 * r) (cutB x.laid r) := hst
          have hB1 := HB.out.drew'
          obtain ⟨q1, q2⟩ := HQ wr.drew hB1
          have HL := hide (klay wr.drew b g n (q * 513) x.at_ x.laid (crashF d keep i) r (by omega) hm hn hll (HLN.out i) hbg q1 q2 HW.out)
          have HB1 := hide hB1
          have HG2 : Hid (∀ y, LayR wr.drew g (crashF d keep i) (256 * x.at_ + 64 * r) (cutB x.laid r) (.returned (.tuple #[])) y → Hid (y.heap[g]? = some (.cells (bytesV (crashF d keep (i + 1))).toArray 106 (0, 0))) ∧ Hid (ButA (fun j => j = g) w1 y)) := hide (fun y hy => ⟨hide (by rw [hst']; exact hy.2.1), hide (hB1.trans hy.2.2 (fun j _ h => h))⟩)
          have hq1 : (i : Int).tdiv 4 = (q : Int) := by rw [Int.tdiv_eq_ediv_of_nonneg (by omega)]; omega
          have hr1 : (i : Int).tmod 4 = (r : Int) := by rw [Int.tmod_eq_emod_of_nonneg (by omega)]; omega
          have hq2 : (i : Int) / 4 = (q : Int) := by omega
          have hr2 : (i : Int) % 4 = (r : Int) := by omega
          have hq3 : (q : Int) < (L : Int) := by omega
          have hq4 : IntKind.i64.wrap (q : Int) = (q : Int) := by rw [IntKind.wrap_i64]; omega
          have hr4 : IntKind.i64.wrap (r : Int) = (r : Int) := by rw [IntKind.wrap_i64]; omega
          have hq5 : (0 : Int) ≤ (q : Int) := by omega
          clear hst hst' hx hkb HKC HQ hll hm hbg HW hB1 q1 q2
          have HQR := hide (And.intro hq hr)
          clear hq hr
          go_wp2_with fail
          refine wp_region_held_drew (S := fun W' => ButA (fun j => j = g) w1 W') (by kernel_rfl) HB1.out (fun hHeld => ?_)
          refine wpAnyH_take (i := 0) (v := ?_) rfl (by kernel_rfl) (by kernel_rfl) (by kernel_rfl) (fun _ _ _ h => h) (Or.inl ⟨by kernel_rfl, ?_⟩) hHeld ?_
          rotate_left
          · intro W hSw
            clear hSw
            go_simp <;> with_reducible rfl
          simp only [Act.put, List.getElem_toArray, List.getElem_cons_zero, List.getElem_cons_succ, List.setIfInBounds_toArray, List.set_cons_zero, List.set_cons_succ]
          refine wpAnyH_take (i := 1) (v := ?_) rfl (by kernel_rfl) (by kernel_rfl) (by kernel_rfl) (fun _ _ _ h => h) (Or.inl ⟨by kernel_rfl, ?_⟩) hHeld ?_
          rotate_left
          · intro W hSw
            clear hSw
            go_simp <;> with_reducible rfl
          simp only [Act.put, List.getElem_toArray, List.getElem_cons_zero, List.getElem_cons_succ, List.setIfInBounds_toArray, List.set_cons_zero, List.set_cons_succ]
          refine wpAnyH_take (i := 2) (v := ?_) rfl (by kernel_rfl) (by kernel_rfl) (by kernel_rfl) (fun _ _ _ h => h) (Or.inl ⟨by kernel_rfl, ?_⟩) hHeld ?_
          rotate_left
          · intro W hSw
            clear hSw
            go_simp <;> with_reducible rfl
          simp only [Act.put, List.getElem_toArray, List.getElem_cons_zero, List.getElem_cons_succ, List.setIfInBounds_toArray, List.set_cons_zero, List.set_cons_succ]
          refine wpAnyH_take (i := 3) (v := ?_) rfl (by kernel_rfl) (by kernel_rfl) (by kernel_rfl) (fun _ _ _ h => h) (Or.inl ⟨by kernel_rfl, ?_⟩) hHeld ?_
          rotate_left
          · intro W hSw
            have hc := H1.out W hSw
            clear hSw
            go_simp <;> with_reducible rfl
          simp only [Act.put, List.getElem_toArray, List.getElem_cons_zero, List.getElem_cons_succ, List.setIfInBounds_toArray, List.set_cons_zero, List.set_cons_succ]
          refine wpAnyH_take (i := 4) (v := ?_) rfl (by kernel_rfl) (by kernel_rfl) (by kernel_rfl) (fun _ _ _ h => h) (Or.inl ⟨by kernel_rfl, ?_⟩) hHeld ?_
          rotate_left
          · intro W hSw
            clear hSw
            go_simp <;> with_reducible rfl
          simp only [Act.put, List.getElem_toArray, List.getElem_cons_zero, List.getElem_cons_succ, List.setIfInBounds_toArray, List.set_cons_zero, List.set_cons_succ]
          refine wpAnyH_take (i := 5) (v := ?_) rfl (by kernel_rfl) (by kernel_rfl) (by kernel_rfl) (fun _ _ _ h => h) (Or.inl ⟨by kernel_rfl, ?_⟩) hHeld ?_
          rotate_left
          · intro W hSw
            clear hSw
            go_simp <;> with_reducible rfl
          simp only [Act.put, List.getElem_toArray, List.getElem_cons_zero, List.getElem_cons_succ, List.setIfInBounds_toArray, List.set_cons_zero, List.set_cons_succ]
          refine wpAnyH_take (i := 6) (v := ?_) rfl (by kernel_rfl) (by kernel_rfl) (by kernel_rfl) (fun _ _ _ h => h) (Or.inl ⟨by kernel_rfl, ?_⟩) hHeld ?_
          rotate_left
          · intro W hSw
            clear hSw
            go_simp <;> with_reducible rfl
          simp only [Act.put, List.getElem_toArray, List.getElem_cons_zero, List.getElem_cons_succ, List.setIfInBounds_toArray, List.set_cons_zero, List.set_cons_succ]
          refine wpAnyH_take (i := 7) (v := ?_) rfl (by kernel_rfl) (by kernel_rfl) (by kernel_rfl) (fun _ _ _ h => h) (Or.inl ⟨by kernel_rfl, ?_⟩) hHeld ?_
          rotate_left
          · intro W hSw
            clear hSw
            go_simp <;> with_reducible rfl
          simp only [Act.put, List.getElem_toArray, List.getElem_cons_zero, List.getElem_cons_succ, List.setIfInBounds_toArray, List.set_cons_zero, List.set_cons_succ]
          refine wpAnyH_take (i := 8) (v := ?_) rfl (by kernel_rfl) (by kernel_rfl) (by kernel_rfl) (fun _ _ _ h => h) (Or.inl ⟨by kernel_rfl, ?_⟩) hHeld ?_
          rotate_left
          · intro W hSw
            clear hSw
            go_simp <;> with_reducible rfl
          simp only [Act.put, List.getElem_toArray, List.getElem_cons_zero, List.getElem_cons_succ, List.setIfInBounds_toArray, List.set_cons_zero, List.set_cons_succ]
          refine wpAnyH_take (i := 9) (v := ?_) rfl (by kernel_rfl) (by kernel_rfl) (by kernel_rfl) (fun _ _ _ h => h) (Or.inl ⟨by kernel_rfl, ?_⟩) hHeld ?_
          rotate_left
          · intro W hSw
            clear hSw
            go_simp <;> with_reducible rfl
          simp only [Act.put, List.getElem_toArray, List.getElem_cons_zero, List.getElem_cons_succ, List.setIfInBounds_toArray, List.set_cons_zero, List.set_cons_succ]
          refine wpAnyH_take (i := 10) (v := ?_) rfl (by kernel_rfl) (by kernel_rfl) (by kernel_rfl) (fun _ _ _ h => h) (Or.inl ⟨by kernel_rfl, ?_⟩) hHeld ?_
          rotate_left
          · intro W hSw
            have hc := H0.out W hSw
            clear hSw
            go_simp <;> with_reducible rfl
          simp only [Act.put, List.getElem_toArray, List.getElem_cons_zero, List.getElem_cons_succ, List.setIfInBounds_toArray, List.set_cons_zero, List.set_cons_succ]
          refine wpAnyH_take (i := 11) (v := ?_) rfl (by kernel_rfl) (by kernel_rfl) (by kernel_rfl) (fun _ _ _ h => h) (Or.inl ⟨by kernel_rfl, ?_⟩) hHeld ?_
          rotate_left
          · intro W hSw
            clear hSw
            go_simp <;> with_reducible rfl
          simp only [Act.put, List.getElem_toArray, List.getElem_cons_zero, List.getElem_cons_succ, List.setIfInBounds_toArray, List.set_cons_zero, List.set_cons_succ]
          refine wpAnyH_take (i := 12) (v := ?_) rfl (by kernel_rfl) (by kernel_rfl) (by kernel_rfl) (fun _ _ _ h => h) (Or.inl ⟨by kernel_rfl, ?_⟩) hHeld ?_
          rotate_left
          · intro W hSw
            clear hSw
            go_simp <;> with_reducible rfl
          simp only [Act.put, List.getElem_toArray, List.getElem_cons_zero, List.getElem_cons_succ, List.setIfInBounds_toArray, List.set_cons_zero, List.set_cons_succ]
          refine wpAnyH_ready (rs := [13]) (by kernel_rfl) (by simp) ?_
          refine AllReadyH.cons rfl (fun K hK => ?_) AllReadyH.nil
          go_simp
          go_wp2_with (first | (go_at_call 71; refine HL.out.mono ?_; rintro e y ⟨rfl, hy1, hy2⟩))
          obtain ⟨HW2, HB2⟩ := HG2.out y ⟨rfl, hy1, hy2⟩
          clear hy1 hy2
          refine hK.out _ _ ?_ (fun hHeld => ?_)
          · exact HB2.out
          clear hK K
          try simp only [Act.put, List.getElem_toArray, List.getElem_cons_zero, List.getElem_cons_succ, List.setIfInBounds_toArray, List.set_cons_zero, List.set_cons_succ]
          refine wpAnyH_done (by kernel_rfl) ?_ _
          clear hHeld
          go_wp2
          go_roundw
          case rel => exact ⟨i + 1, by go_num, by omega, HW2, HB2⟩
          case measure => simp [intOf]; omega
      · have hlt2 : ¬ (i : Int) < (KL : Int) := by omega
        have HF := hide (HE.out wr i HW.out HB.out (by omega))
        clear HW HB
        go_wp2
        go_end0
        exact ⟨rfl, HF.out⟩
  · have hmn2 : 4 * (L : Int) < (KL : Int) := by omega
    go_enter Try.func54, Try.ntmps54
    go_wp2_with fail
    refine HP.out.mono ?_
    rintro e w1 ⟨rfl, rfl⟩
    clear HP
    go_wp2
    go_loopw [10] (fun vi wr => ∃ i : Nat, vi = .int .i64 (i : Int) ∧ i ≤ (4 * L) ∧ Hid (wr.heap[g]? = some (.cells (bytesV (crashF d keep i)).toArray 106 (0, 0))) ∧ Hid (ButA (fun j => j = g) w1 wr)) (fun vi _ => (4 * L) - (intOf vi).toNat)
    case atStart => exact ⟨0, rfl, Nat.zero_le _, HW, HB⟩
    case round =>
      clear HW HB
      obtain ⟨i, rfl, hi, HW, HB⟩ := hrel
      by_cases hlt : i < (4 * L)
      · have hlt2 : (i : Int) < 4 * (L : Int) := by omega
        have hik : i < KL := by omega
        have hik2 : (i : Int) < (KL : Int) := by omega
        obtain ⟨kb, hkb⟩ := HKL.out i hik
        obtain ⟨q, hq⟩ : ∃ q, q = i / 4 := ⟨_, rfl⟩
        obtain ⟨r, hr⟩ : ∃ r, r = i % 4 := ⟨_, rfl⟩
        have hql : q < L := by omega
        obtain ⟨x, hx⟩ := HWL.out q hql
        have hst := HST.out i q r x kb hkb hx hq hr
        obtain ⟨kbb, kbo, rfl, HKC⟩ := HK.out i kb hkb
        obtain ⟨⟨hm, hll⟩, b, rfl, hbg, HQ⟩ := HJ.out q x hx
        have hkc := HKC wr HB.out
        cases kb
        · have hst' : crashF d keep (i + 1) = crashF d keep i := hst
          have HW2 : Hid (wr.heap[g]? = some (.cells (bytesV (crashF d keep (i + 1))).toArray 106 (0, 0))) := hide (by rw [hst']; exact HW.out)
          clear hst hst' hx hkb HKC HQ hll hm hbg hq hr HW
          go_wp2
          go_roundw
          case rel => exact ⟨i + 1, by go_num, by omega, HW2, HB⟩
          case measure => simp [intOf]; omega
        · have hst' : crashF d keep (i + 1) = setB (crashF d keep i) (256 * x.at_ + 64 * r) (cutB x.laid r) := hst
          have hB1 := HB.out.drew'
          obtain ⟨q1, q2⟩ := HQ wr.drew hB1
          have HL := hide (klay wr.drew b g n (q * 513) x.at_ x.laid (crashF d keep i) r (by omega) hm hn hll (HLN.out i) hbg q1 q2 HW.out)
          have HB1 := hide hB1
          have HG2 : Hid (∀ y, LayR wr.drew g (crashF d keep i) (256 * x.at_ + 64 * r) (cutB x.laid r) (.returned (.tuple #[])) y → Hid (y.heap[g]? = some (.cells (bytesV (crashF d keep (i + 1))).toArray 106 (0, 0))) ∧ Hid (ButA (fun j => j = g) w1 y)) := hide (fun y hy => ⟨hide (by rw [hst']; exact hy.2.1), hide (hB1.trans hy.2.2 (fun j _ h => h))⟩)
          have hq1 : (i : Int).tdiv 4 = (q : Int) := by rw [Int.tdiv_eq_ediv_of_nonneg (by omega)]; omega
          have hr1 : (i : Int).tmod 4 = (r : Int) := by rw [Int.tmod_eq_emod_of_nonneg (by omega)]; omega
          have hq2 : (i : Int) / 4 = (q : Int) := by omega
          have hr2 : (i : Int) % 4 = (r : Int) := by omega
          have hq3 : (q : Int) < (L : Int) := by omega
          have hq4 : IntKind.i64.wrap (q : Int) = (q : Int) := by rw [IntKind.wrap_i64]; omega
          have hr4 : IntKind.i64.wrap (r : Int) = (r : Int) := by rw [IntKind.wrap_i64]; omega
          have hq5 : (0 : Int) ≤ (q : Int) := by omega
          clear hst hst' hx hkb HKC HQ hll hm hbg HW hB1 q1 q2
          have HQR := hide (And.intro hq hr)
          clear hq hr
          go_wp2_with fail
          refine wp_region_held_drew (S := fun W' => ButA (fun j => j = g) w1 W') (by kernel_rfl) HB1.out (fun hHeld => ?_)
          refine wpAnyH_take (i := 0) (v := ?_) rfl (by kernel_rfl) (by kernel_rfl) (by kernel_rfl) (fun _ _ _ h => h) (Or.inl ⟨by kernel_rfl, ?_⟩) hHeld ?_
          rotate_left
          · intro W hSw
            clear hSw
            go_simp <;> with_reducible rfl
          simp only [Act.put, List.getElem_toArray, List.getElem_cons_zero, List.getElem_cons_succ, List.setIfInBounds_toArray, List.set_cons_zero, List.set_cons_succ]
          refine wpAnyH_take (i := 1) (v := ?_) rfl (by kernel_rfl) (by kernel_rfl) (by kernel_rfl) (fun _ _ _ h => h) (Or.inl ⟨by kernel_rfl, ?_⟩) hHeld ?_
          rotate_left
          · intro W hSw
            clear hSw
            go_simp <;> with_reducible rfl
          simp only [Act.put, List.getElem_toArray, List.getElem_cons_zero, List.getElem_cons_succ, List.setIfInBounds_toArray, List.set_cons_zero, List.set_cons_succ]
          refine wpAnyH_take (i := 2) (v := ?_) rfl (by kernel_rfl) (by kernel_rfl) (by kernel_rfl) (fun _ _ _ h => h) (Or.inl ⟨by kernel_rfl, ?_⟩) hHeld ?_
          rotate_left
          · intro W hSw
            clear hSw
            go_simp <;> with_reducible rfl
          simp only [Act.put, List.getElem_toArray, List.getElem_cons_zero, List.getElem_cons_succ, List.setIfInBounds_toArray, List.set_cons_zero, List.set_cons_succ]
          refine wpAnyH_take (i := 3) (v := ?_) rfl (by kernel_rfl) (by kernel_rfl) (by kernel_rfl) (fun _ _ _ h => h) (Or.inl ⟨by kernel_rfl, ?_⟩) hHeld ?_
          rotate_left
          · intro W hSw
            have hc := H1.out W hSw
            clear hSw
            go_simp <;> with_reducible rfl
          simp only [Act.put, List.getElem_toArray, List.getElem_cons_zero, List.getElem_cons_succ, List.setIfInBounds_toArray, List.set_cons_zero, List.set_cons_succ]
          refine wpAnyH_take (i := 4) (v := ?_) rfl (by kernel_rfl) (by kernel_rfl) (by kernel_rfl) (fun _ _ _ h => h) (Or.inl ⟨by kernel_rfl, ?_⟩) hHeld ?_
          rotate_left
          · intro W hSw
            clear hSw
            go_simp <;> with_reducible rfl
          simp only [Act.put, List.getElem_toArray, List.getElem_cons_zero, List.getElem_cons_succ, List.setIfInBounds_toArray, List.set_cons_zero, List.set_cons_succ]
          refine wpAnyH_take (i := 5) (v := ?_) rfl (by kernel_rfl) (by kernel_rfl) (by kernel_rfl) (fun _ _ _ h => h) (Or.inl ⟨by kernel_rfl, ?_⟩) hHeld ?_
          rotate_left
          · intro W hSw
            clear hSw
            go_simp <;> with_reducible rfl
          simp only [Act.put, List.getElem_toArray, List.getElem_cons_zero, List.getElem_cons_succ, List.setIfInBounds_toArray, List.set_cons_zero, List.set_cons_succ]
          refine wpAnyH_take (i := 6) (v := ?_) rfl (by kernel_rfl) (by kernel_rfl) (by kernel_rfl) (fun _ _ _ h => h) (Or.inl ⟨by kernel_rfl, ?_⟩) hHeld ?_
          rotate_left
          · intro W hSw
            clear hSw
            go_simp <;> with_reducible rfl
          simp only [Act.put, List.getElem_toArray, List.getElem_cons_zero, List.getElem_cons_succ, List.setIfInBounds_toArray, List.set_cons_zero, List.set_cons_succ]
          refine wpAnyH_take (i := 7) (v := ?_) rfl (by kernel_rfl) (by kernel_rfl) (by kernel_rfl) (fun _ _ _ h => h) (Or.inl ⟨by kernel_rfl, ?_⟩) hHeld ?_
          rotate_left
          · intro W hSw
            clear hSw
            go_simp <;> with_reducible rfl
          simp only [Act.put, List.getElem_toArray, List.getElem_cons_zero, List.getElem_cons_succ, List.setIfInBounds_toArray, List.set_cons_zero, List.set_cons_succ]
          refine wpAnyH_take (i := 8) (v := ?_) rfl (by kernel_rfl) (by kernel_rfl) (by kernel_rfl) (fun _ _ _ h => h) (Or.inl ⟨by kernel_rfl, ?_⟩) hHeld ?_
          rotate_left
          · intro W hSw
            clear hSw
            go_simp <;> with_reducible rfl
          simp only [Act.put, List.getElem_toArray, List.getElem_cons_zero, List.getElem_cons_succ, List.setIfInBounds_toArray, List.set_cons_zero, List.set_cons_succ]
          refine wpAnyH_take (i := 9) (v := ?_) rfl (by kernel_rfl) (by kernel_rfl) (by kernel_rfl) (fun _ _ _ h => h) (Or.inl ⟨by kernel_rfl, ?_⟩) hHeld ?_
          rotate_left
          · intro W hSw
            clear hSw
            go_simp <;> with_reducible rfl
          simp only [Act.put, List.getElem_toArray, List.getElem_cons_zero, List.getElem_cons_succ, List.setIfInBounds_toArray, List.set_cons_zero, List.set_cons_succ]
          refine wpAnyH_take (i := 10) (v := ?_) rfl (by kernel_rfl) (by kernel_rfl) (by kernel_rfl) (fun _ _ _ h => h) (Or.inl ⟨by kernel_rfl, ?_⟩) hHeld ?_
          rotate_left
          · intro W hSw
            have hc := H0.out W hSw
            clear hSw
            go_simp <;> with_reducible rfl
          simp only [Act.put, List.getElem_toArray, List.getElem_cons_zero, List.getElem_cons_succ, List.setIfInBounds_toArray, List.set_cons_zero, List.set_cons_succ]
          refine wpAnyH_take (i := 11) (v := ?_) rfl (by kernel_rfl) (by kernel_rfl) (by kernel_rfl) (fun _ _ _ h => h) (Or.inl ⟨by kernel_rfl, ?_⟩) hHeld ?_
          rotate_left
          · intro W hSw
            clear hSw
            go_simp <;> with_reducible rfl
          simp only [Act.put, List.getElem_toArray, List.getElem_cons_zero, List.getElem_cons_succ, List.setIfInBounds_toArray, List.set_cons_zero, List.set_cons_succ]
          refine wpAnyH_take (i := 12) (v := ?_) rfl (by kernel_rfl) (by kernel_rfl) (by kernel_rfl) (fun _ _ _ h => h) (Or.inl ⟨by kernel_rfl, ?_⟩) hHeld ?_
          rotate_left
          · intro W hSw
            clear hSw
            go_simp <;> with_reducible rfl
          simp only [Act.put, List.getElem_toArray, List.getElem_cons_zero, List.getElem_cons_succ, List.setIfInBounds_toArray, List.set_cons_zero, List.set_cons_succ]
          refine wpAnyH_ready (rs := [13]) (by kernel_rfl) (by simp) ?_
          refine AllReadyH.cons rfl (fun K hK => ?_) AllReadyH.nil
          go_simp
          go_wp2_with (first | (go_at_call 71; refine HL.out.mono ?_; rintro e y ⟨rfl, hy1, hy2⟩))
          obtain ⟨HW2, HB2⟩ := HG2.out y ⟨rfl, hy1, hy2⟩
          clear hy1 hy2
          refine hK.out _ _ ?_ (fun hHeld => ?_)
          · exact HB2.out
          clear hK K
          try simp only [Act.put, List.getElem_toArray, List.getElem_cons_zero, List.getElem_cons_succ, List.setIfInBounds_toArray, List.set_cons_zero, List.set_cons_succ]
          refine wpAnyH_done (by kernel_rfl) ?_ _
          clear hHeld
          go_wp2
          go_roundw
          case rel => exact ⟨i + 1, by go_num, by omega, HW2, HB2⟩
          case measure => simp [intOf]; omega
      · have hlt2 : ¬ (i : Int) < 4 * (L : Int) := by omega
        have HF := hide (HE.out wr i HW.out HB.out (by omega))
        clear HW HB
        go_wp2
        go_end0
        exact ⟨rfl, HF.out⟩
end Go.Proofs.Ythpepkfodcgbcaa
/- What the program's Crash does. -/
set_option linter.unusedVariables false
set_option linter.unusedSimpArgs false
set_option maxRecDepth 4000
namespace Go.Proofs.Ythpepkfodcgbcaa
open Go.RowKit

theorem KRel.undoP {w : World} {k : KD} {d : DM} (h1 : IsKD w k) (h2 : KRel k d) (hF : Fit d) : UndoP w k := by
  have e : d.l.length = 4 * k.ws.length := by rw [h2.l, pcs_len]
  exact ⟨h1, by have := hF.s; have := h2.n4; omega, h2.len, by have := hF.l; omega, h2.ok⟩
set_option maxHeartbeats 8000000 in
theorem pcrash_any (A : Nat → Prop) (v : Value) (d : DM) (kv : Value) (keep : List Bool) (w : World) (hK : IsK A w v d) (hF : Fit d) (hY : IsF w kv keep) (hO : keep ≠ [] → Off A kv) (hb : keep.length ≤ 9223372036854775807) : Calls Try.prog 20 #[v, kv] w fun e w' => e = .returned (.tuple #[]) ∧ KR IsK A w v (crashD d keep) w' := by
  obtain ⟨k, rfl, rfl, h1, h2⟩ := hK
  have hu := h2.undoP h1 hF
  have HU := hide (kundo k w hu)
  have HR : Hid (∀ x, IsKD x { k with F := undoL k.F k.ws } → ButA (fun j => j = k.g) w x → Calls Try.prog 54 #[.pointer (some ⟨k.a, 0, none⟩), kv] x fun e w' => e = .returned (.tuple #[]) ∧ ∃ i, (keep.length ≤ i ∨ 4 * k.ws.length ≤ i) ∧ IsKD w' { k with F := crashF d keep i } ∧ ButA (fun j => j = k.g) x w') := hide (fun x hx hbx => by
    refine kredo { k with F := undoL k.F k.ws } d k.F kv keep x ⟨⟨hx, hu.n, by show (undoL k.F k.ws).length = _; rw [undo_len]; exact hu.len, hu.l, hu.ok⟩, h2, hF.ok, h2.undo, ?_, ?_, hb⟩
    · by_cases h0 : keep = []
      · subst h0
        rcases hY with hY | ⟨b, o, cap, e, _⟩
        · exact .inl hY
        · exact .inl ⟨rfl, some ⟨b, o, none⟩, cap, e⟩
      · refine hY.keep fun j hj => ?_
        have hn := hO h0 j hj
        rcases hY with ⟨e, _⟩ | ⟨b, o, cap, e, hh⟩
        · exact absurd e h0
        · subst e
          cases hj
          have hl : 0 < keep.length := List.length_pos_iff.2 h0
          exact hbx.block b (cell_lt (hh 0 hl)) (fun e => hn (.inr (.inl e)))
    · intro h0 b hb e
      exact hO h0 b hb (.inr (.inl e)))
  have HE : Hid (∀ x y i, IsKD x { k with F := undoL k.F k.ws } → ButA (fun j => j = k.g) w x → (keep.length ≤ i ∨ 4 * k.ws.length ≤ i) → IsKD y { k with F := crashF d keep i } → ButA (fun j => j = k.g) x y → KR IsK (kdA k) w (.pointer (some ⟨k.a, 0, none⟩)) (crashD d keep) ((((y.setCell ⟨k.a, 1, none⟩ (.slice none 0 0)).setCell ⟨k.a, 2, none⟩ (.bool false)).setCell ⟨k.a, 3, none⟩ (.int .i64 0)).setCell ⟨k.a, 4, none⟩ (.bool false))) := hide (fun x y i hx hbx hi hy hby => by
    have q1 := heap_box_set (heap_box_set (heap_box_set (heap_box_set hy.box 1 (.slice none 0 0)) 2 (.bool false)) 3 (.int .i64 0)) 4 (.bool false)
    have b1 : ButA (kdA k) w y := (hbx.mono fun j hj => .inr (.inl hj)).trans (hby.mono fun j hj => (.inr (.inl hj) : kdA k j)) fun j _ h => h
    have b2 : ButA (kdA k) w ((((y.setCell ⟨k.a, 1, none⟩ (.slice none 0 0)).setCell ⟨k.a, 2, none⟩ (.bool false)).setCell ⟨k.a, 3, none⟩ (.int .i64 0)).setCell ⟨k.a, 4, none⟩ (.bool false)) := (((b1.setCell (.inl (.inl rfl)) _).setCell (.inl (.inl rfl)) _).setCell (.inl (.inl rfl)) _).setCell (.inl (.inl rfl)) _
    have hg : ((((y.setCell ⟨k.a, 1, none⟩ (.slice none 0 0)).setCell ⟨k.a, 2, none⟩ (.bool false)).setCell ⟨k.a, 3, none⟩ (.int .i64 0)).setCell ⟨k.a, 4, none⟩ (.bool false)).heap[k.g]? = y.heap[k.g]? := by
      have hne : k.g ≠ k.a := fun e => h1.ag e.symm
      rw [Below.heap_setCell _ _ _ _ hne, Below.heap_setCell _ _ _ _ hne, Below.heap_setCell _ _ _ _ hne, Below.heap_setCell _ _ _ _ hne]
    refine ⟨kdA { k with F := crashF d keep i, pv := .slice none 0 0, ws := [], fu := false, left := 0, off := false }, ⟨{ k with F := crashF d keep i, pv := .slice none 0 0, ws := [], fu := false, left := 0, off := false }, rfl, rfl, ⟨q1, hg.trans hy.blk, PendAt.nil _, h1.ag, fun j hj => by cases hj⟩, h2.crash hF.ok keep i hi⟩, ?_, b2⟩
    intro j hj
    rcases hj with hj | hj | hj
    · exact .inl (.inl hj)
    · exact .inl (.inr (.inl hj))
    · cases hj)
  clear h1 h2 hu hb hO
  obtain ⟨ka, kc, rfl⟩ := hY.form
  clear hY
  go_enter Try.func20, Try.ntmps20
  go_wp2_with fail
  refine HU.out.mono ?_
  rintro e w1 ⟨rfl, u1, u2⟩
  clear HU
  have HR1 := hide (HR.out w1 u1 u2)
  have HE1 := hide (fun y i a b c => HE.out w1 y i u1 u2 a b c)
  clear HR HE u1 u2
  go_wp2_with fail
  refine HR1.out.mono ?_
  rintro e w2 ⟨rfl, i, r1, r2, r3⟩
  have HF := hide (HE1.out w2 i r1 r2 r3)
  obtain ⟨x0, x1, x2, x3, x4, xf⟩ := kd_cells r2.box
  obtain ⟨pa, pc, hp⟩ := r2.pend.form
  simp only [] at x0 x1 x2 x3 x4 xf hp
  rw [hp] at x1
  clear HR1 HE1 r1 r2 r3 hp
  generalize k.ws.length = L at *
  have f1 : ∀ u : World, ∀ j v, u.frozen? ⟨k.a, j, none⟩ = false → (u.setCell ⟨k.a, 1, none⟩ v).frozen? ⟨k.a, j, none⟩ = false := fun u j v h => by rw [World.frozen?_setCell]; exact h
  have y2 : (w2.setCell ⟨k.a, 1, none⟩ (.slice none 0 0)).cell? ⟨k.a, 2, none⟩ = some (.bool k.fu) := (World.cell?_setCell_other _ _ _ _ (by intro e; injection e; omega)).trans x2
  have y3 : ((w2.setCell ⟨k.a, 1, none⟩ (.slice none 0 0)).setCell ⟨k.a, 2, none⟩ (.bool false)).cell? ⟨k.a, 3, none⟩ = some (.int .i64 k.left) := (World.cell?_setCell_other _ _ _ _ (by intro e; injection e; omega)).trans ((World.cell?_setCell_other _ _ _ _ (by intro e; injection e; omega)).trans x3)
  have y4 : (((w2.setCell ⟨k.a, 1, none⟩ (.slice none 0 0)).setCell ⟨k.a, 2, none⟩ (.bool false)).setCell ⟨k.a, 3, none⟩ (.int .i64 0)).cell? ⟨k.a, 4, none⟩ = some (.bool k.off) := (World.cell?_setCell_other _ _ _ _ (by intro e; injection e; omega)).trans ((World.cell?_setCell_other _ _ _ _ (by intro e; injection e; omega)).trans ((World.cell?_setCell_other _ _ _ _ (by intro e; injection e; omega)).trans x4))
  clear f1
  generalize k.left = left at *
  go_wp2
  go_end0
  exact ⟨rfl, HF.out⟩
end Go.Proofs.Ythpepkfodcgbcaa
