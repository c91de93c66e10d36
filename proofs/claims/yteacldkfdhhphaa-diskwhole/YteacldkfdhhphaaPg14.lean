/- What the program's undo does. -/
import Derived.Test.YteacldkfdhhphaaPf14
set_option linter.unusedVariables false
set_option linter.unusedSimpArgs false
set_option maxRecDepth 4000
namespace Go.Proofs.Yteacldkfdhhphaa
open Go.RowKit

theorem ButA.drew' {A : Nat → Prop} {w x : World} (h : ButA A w x) : ButA A w x.drew := ⟨h.os, h.tape, h.output, h.size, h.block⟩
theorem ButA.cells {A : Nat → Prop} {w x : World} (h : ButA A w x) (g : Nat) (hg : A g) (o : Nat) (vs : List Value) : ButA A w (x.setCells g o vs) := h.trans (butA_cells A g hg vs o x) fun j _ hj => hj
/-- The writes' blocks, and the row beside them. -/
structure UndoP (w : World) (k : KD) : Prop where
  d : IsKD w k
  n : k.n ≤ 25000
  len : k.F.length = 256 * k.n
  l : k.ws.length ≤ 100000
  ok : ∀ x ∈ k.ws, x.at_ < k.n ∧ x.was.length = 256 ∧ x.laid.length = 256
theorem UndoP.good {w : World} {k : KD} (h : UndoP w k) : ∀ x ∈ k.ws, Good x := fun x hx => (h.ok x hx).2
set_option maxHeartbeats 8000000 in
theorem kundo (k : KD) (w : World) (h : UndoP w k) : Calls Try.prog 36 #[.pointer (some ⟨k.a, 0, none⟩)] w fun e w' => e = .returned (.tuple #[]) ∧ IsKD w' { k with F := undoL k.F k.ws } ∧ ButA (fun j => j = k.g) w w' := by
  obtain ⟨x0, x1, x2, x3, x4, xf⟩ := kd_cells h.d.box
  obtain ⟨pa, pc, hp⟩ := h.d.pend.form
  rw [hp] at x1
  have hl := h.l
  have hn := h.n
  have HE : Hid (∀ x, x.heap[k.g]? = some (.cells (bytesV (undoL k.F k.ws)).toArray 69 (0, 0)) → ButA (fun j => j = k.g) w x → IsKD x { k with F := undoL k.F k.ws } ∧ ButA (fun j => j = k.g) w x) := hide (fun x hx hb => ⟨h.d.blkset _ hb hx, hb⟩)
  have H0 : Hid (∀ W, ButA (fun j => j = k.g) w W → W.cell? ⟨k.a, 0, none⟩ = some (.slice (some ⟨k.g, 0, none⟩) k.n k.n)) := hide (fun W hb => cell_but x0 hb h.d.ag)
  have H1 : Hid (∀ W, ButA (fun j => j = k.g) w W → W.cell? ⟨k.a, 1, none⟩ = some (.slice pa k.ws.length pc)) := hide (fun W hb => cell_but x1 hb h.d.ag)
  have HJ : Hid (∀ j x, k.ws[j]? = some x → (x.at_ < k.n ∧ x.was.length = 256) ∧ ∃ b, pa = some ⟨b, 0, none⟩ ∧ ∀ W, ButA (fun j => j = k.g) w W → W.cell? ⟨b, j * 513, none⟩ = some (.int .i64 (x.at_ : Int)) ∧ W.rangeAt b (j * 513 + 1) (bytesV x.was)) := hide (fun j x hx => by
    obtain ⟨hj, rfl⟩ := List.getElem?_eq_some_iff.1 hx
    obtain ⟨b, cap, e, q1, q2, q3⟩ := pend_at h.d.pend h.good j hj
    rw [hp] at e
    injection e with e1
    have hne : b ≠ k.g := (h.d.ap b (by rw [hp, e1]; rfl)).2
    exact ⟨⟨(h.ok _ (List.getElem_mem hj)).1, (h.ok _ (List.getElem_mem hj)).2.1⟩, b, e1, fun W hb => ⟨cell_but q1 hb hne, rangeAt_but q2 hb hne⟩⟩)
  have HLN : Hid (k.F.length = 256 * k.n) := hide h.len
  have HW : Hid (w.heap[k.g]? = some (.cells (bytesV (undoL k.F (k.ws.drop k.ws.length))).toArray 69 (0, 0))) := hide (by
    rw [List.drop_of_length_le (Nat.le_refl _)]
    exact h.d.blk)
  have HB : Hid (ButA (fun j => j = k.g) w w) := hide (ButA.refl _ _)
  clear h x0 x2 x3 x4 xf hp
  generalize hws : k.ws = ws at *
  generalize k.F = F at *
  generalize k.n = n at *
  generalize hg : k.g = g at *
  generalize ha : k.a = a at *
  generalize hL : ws.length = L at *
  go_enter Try.func36, Try.ntmps36
  go_wp2
  go_loopw [2] (fun vi wr => ∃ (z : Int) (i : Nat), vi = .int .i64 z ∧ z = (i : Int) - 1 ∧ i ≤ L ∧ Hid (wr.heap[g]? = some (.cells (bytesV (undoL F (ws.drop i))).toArray 69 (0, 0))) ∧ Hid (ButA (fun j => j = g) w wr)) (fun vi _ => (intOf vi + 1).toNat)
  case atStart => exact ⟨_, L, rfl, rfl, Nat.le_refl _, HW, HB⟩
  case round =>
    clear HW HB
    obtain ⟨z, i, rfl, hz, hi, HW, HB⟩ := hrel
    by_cases hlt : 0 < i
    · obtain ⟨j, rfl⟩ : ∃ j, i = j + 1 := ⟨i - 1, by omega⟩
      obtain rfl : z = (j : Int) := by omega
      clear hz
      have hj : j < ws.length := by omega
      have hj2 : (j : Int) < L := by omega
      have hj0 : (0 : Int) ≤ (j : Int) := by omega
      obtain ⟨y, hy⟩ : ∃ y, ws[j]? = some y := ⟨_, List.getElem?_eq_getElem hj⟩
      obtain ⟨⟨hm, hwl⟩, b, rfl, HQ⟩ := HJ.out j y hy
      have hun : undoL F (ws.drop j) = setB (undoL F (ws.drop (j + 1))) (256 * y.at_) y.was := by
        obtain ⟨_, rfl⟩ := List.getElem?_eq_some_iff.1 hy
        exact undo_drop F ws j hj
      have HQ' := hide HQ
      clear HQ hy
      generalize y.at_ = m at *
      generalize y.was = x at *
      have hm2 : (m : Int) < n := by omega
      have hti : (Try.prog.info? 69).map (·.size) = some (bytesV x).length := by rw [bytesV_len, hwl]; exact block_size
      have HTI := hide hti
      have hti2 : (Try.prog.info? 69).map (·.size) = some (bytesV x).toArray.size := by rw [List.size_toArray]; exact hti
      have HTI2 := hide hti2
      have HTH : Hid (wr.drew.there g (m * 256) (bytesV x).toArray.size) := hide (there_sub (w := wr.drew) HW.out (m * 256) _ (by
        have := HLN.out
        simp only [List.size_toArray, bytesV_len, undo_len, hwl]
        omega))
      have HON : Hid ((bytesV x).toArray.all (·.oneCell') = true) := hide (all_oneCell_toArray (bytesV_one x))
      have HB1 := hide HB.out.drew'
      have HB2 := hide (HB1.out.cells g rfl (m * 256) (bytesV x))
      have HW2 : Hid ((wr.drew.setCells g (m * 256) (bytesV x)).heap[g]? = some (.cells (bytesV (undoL F (ws.drop j))).toArray 69 (0, 0))) := hide (by
        rw [hun, Nat.mul_comm 256]
        exact heap_cells_bytes g _ x _ _ _ HW.out)
      clear hti hti2 HW HB hun hwl
      go_wp2_with fail
      refine wp_region_held_drew (S := fun W' => ButA (fun j => j = g) w W') (by kernel_rfl) HB1.out (fun hHeld => ?_)
      refine wpAnyH_take (i := 0) (v := ?_) rfl (by kernel_rfl) (by kernel_rfl) (by kernel_rfl) (fun _ _ _ h => h) (Or.inl ⟨by kernel_rfl, ?_⟩) hHeld ?_
      rotate_left
      · intro W hSw
        clear hSw
        go_simp <;> with_reducible rfl
      simp only [Act.put, List.getElem_toArray, List.getElem_cons_zero, List.getElem_cons_succ, List.setIfInBounds_toArray, List.set_cons_zero, List.set_cons_succ]
      refine wpAnyH_take (i := 1) (v := ?_) rfl (by kernel_rfl) (by kernel_rfl) (by kernel_rfl) (fun _ _ _ h => h) (Or.inl ⟨by kernel_rfl, ?_⟩) hHeld ?_
      rotate_left
      · intro W hSw
        clear hSw
        go_simp <;> with_reducible rfl
      simp only [Act.put, List.getElem_toArray, List.getElem_cons_zero, List.getElem_cons_succ, List.setIfInBounds_toArray, List.set_cons_zero, List.set_cons_succ]
      refine wpAnyH_take (i := 2) (v := ?_) rfl (by kernel_rfl) (by kernel_rfl) (by kernel_rfl) (fun _ _ _ h => h) (Or.inl ⟨by kernel_rfl, ?_⟩) hHeld ?_
      rotate_left
      · intro W hSw
        clear hSw
        go_simp <;> with_reducible rfl
      simp only [Act.put, List.getElem_toArray, List.getElem_cons_zero, List.getElem_cons_succ, List.setIfInBounds_toArray, List.set_cons_zero, List.set_cons_succ]
      refine wpAnyH_take (i := 3) (v := ?_) rfl (by kernel_rfl) (by kernel_rfl) (by kernel_rfl) (fun _ _ _ h => h) (Or.inl ⟨by kernel_rfl, ?_⟩) hHeld ?_
      rotate_left
      · intro W hSw
        have hc := H0.out W hSw
        clear hSw
        go_simp <;> with_reducible rfl
      simp only [Act.put, List.getElem_toArray, List.getElem_cons_zero, List.getElem_cons_succ, List.setIfInBounds_toArray, List.set_cons_zero, List.set_cons_succ]
      refine wpAnyH_take (i := 4) (v := ?_) rfl (by kernel_rfl) (by kernel_rfl) (by kernel_rfl) (fun _ _ _ h => h) (Or.inl ⟨by kernel_rfl, ?_⟩) hHeld ?_
      rotate_left
      · intro W hSw
        clear hSw
        go_simp <;> with_reducible rfl
      simp only [Act.put, List.getElem_toArray, List.getElem_cons_zero, List.getElem_cons_succ, List.setIfInBounds_toArray, List.set_cons_zero, List.set_cons_succ]
      refine wpAnyH_take (i := 5) (v := ?_) rfl (by kernel_rfl) (by kernel_rfl) (by kernel_rfl) (fun _ _ _ h => h) (Or.inl ⟨by kernel_rfl, ?_⟩) hHeld ?_
      rotate_left
      · intro W hSw
        clear hSw
        go_simp <;> with_reducible rfl
      simp only [Act.put, List.getElem_toArray, List.getElem_cons_zero, List.getElem_cons_succ, List.setIfInBounds_toArray, List.set_cons_zero, List.set_cons_succ]
      refine wpAnyH_take (i := 6) (v := ?_) rfl (by kernel_rfl) (by kernel_rfl) (by kernel_rfl) (fun _ _ _ h => h) (Or.inl ⟨by kernel_rfl, ?_⟩) hHeld ?_
      rotate_left
      · intro W hSw
        clear hSw
        go_simp <;> with_reducible rfl
      simp only [Act.put, List.getElem_toArray, List.getElem_cons_zero, List.getElem_cons_succ, List.setIfInBounds_toArray, List.set_cons_zero, List.set_cons_succ]
      refine wpAnyH_take (i := 7) (v := ?_) rfl (by kernel_rfl) (by kernel_rfl) (by kernel_rfl) (fun _ _ _ h => h) (Or.inl ⟨by kernel_rfl, ?_⟩) hHeld ?_
      rotate_left
      · intro W hSw
        have hc := H1.out W hSw
        clear hSw
        go_simp <;> with_reducible rfl
      simp only [Act.put, List.getElem_toArray, List.getElem_cons_zero, List.getElem_cons_succ, List.setIfInBounds_toArray, List.set_cons_zero, List.set_cons_succ]
      refine wpAnyH_take (i := 8) (v := ?_) rfl (by kernel_rfl) (by kernel_rfl) (by kernel_rfl) (fun _ _ _ h => h) (Or.inl ⟨by kernel_rfl, ?_⟩) hHeld ?_
      rotate_left
      · intro W hSw
        clear hSw
        go_simp <;> with_reducible rfl
      simp only [Act.put, List.getElem_toArray, List.getElem_cons_zero, List.getElem_cons_succ, List.setIfInBounds_toArray, List.set_cons_zero, List.set_cons_succ]
      refine wpAnyH_take (i := 9) (v := ?_) rfl (by kernel_rfl) (by kernel_rfl) (by kernel_rfl) (fun _ _ _ h => h) (Or.inl ⟨by kernel_rfl, ?_⟩) hHeld ?_
      rotate_left
      · intro W hSw
        clear hSw
        go_simp <;> with_reducible rfl
      simp only [Act.put, List.getElem_toArray, List.getElem_cons_zero, List.getElem_cons_succ, List.setIfInBounds_toArray, List.set_cons_zero, List.set_cons_succ]
      refine wpAnyH_take (i := 10) (v := ?_) rfl (by kernel_rfl) (by kernel_rfl) (by kernel_rfl) (fun _ _ _ h => h) (Or.inl ⟨by kernel_rfl, ?_⟩) hHeld ?_
      rotate_left
      · intro W hSw
        clear hSw
        go_simp <;> with_reducible rfl
      simp only [Act.put, List.getElem_toArray, List.getElem_cons_zero, List.getElem_cons_succ, List.setIfInBounds_toArray, List.set_cons_zero, List.set_cons_succ]
      refine wpAnyH_take (i := 11) (v := ?_) rfl (by kernel_rfl) (by kernel_rfl) (by kernel_rfl) (fun _ _ _ h => h) (Or.inl ⟨by kernel_rfl, ?_⟩) hHeld ?_
      rotate_left
      · intro W hSw
        have hc := (HQ'.out W hSw).1
        clear hSw
        go_simp <;> with_reducible rfl
      simp only [Act.put, List.getElem_toArray, List.getElem_cons_zero, List.getElem_cons_succ, List.setIfInBounds_toArray, List.set_cons_zero, List.set_cons_succ]
      refine wpAnyH_take (i := 12) (v := ?_) rfl (by kernel_rfl) (by kernel_rfl) (by kernel_rfl) (fun _ _ _ h => h) (Or.inl ⟨by kernel_rfl, ?_⟩) hHeld ?_
      rotate_left
      · intro W hSw
        clear hSw
        go_simp <;> with_reducible rfl
      simp only [Act.put, List.getElem_toArray, List.getElem_cons_zero, List.getElem_cons_succ, List.setIfInBounds_toArray, List.set_cons_zero, List.set_cons_succ]
      refine wpAnyH_take (i := 13) (v := ?_) rfl (by kernel_rfl) (by kernel_rfl) (by kernel_rfl) (fun _ _ _ h => h) (Or.inl ⟨by kernel_rfl, ?_⟩) hHeld ?_
      rotate_left
      · intro W hSw
        clear hSw
        go_simp <;> with_reducible rfl
      simp only [Act.put, List.getElem_toArray, List.getElem_cons_zero, List.getElem_cons_succ, List.setIfInBounds_toArray, List.set_cons_zero, List.set_cons_succ]
      refine wpAnyH_take (i := 14) (v := ?_) rfl (by kernel_rfl) (by kernel_rfl) (by kernel_rfl) (fun _ _ _ h => h) (Or.inl ⟨by kernel_rfl, ?_⟩) hHeld ?_
      rotate_left
      · intro W hSw
        clear hSw
        go_simp <;> with_reducible rfl
      simp only [Act.put, List.getElem_toArray, List.getElem_cons_zero, List.getElem_cons_succ, List.setIfInBounds_toArray, List.set_cons_zero, List.set_cons_succ]
      refine wpAnyH_take (i := 15) (v := ?_) rfl (by kernel_rfl) (by kernel_rfl) (by kernel_rfl) (fun _ _ _ h => h) (Or.inl ⟨by kernel_rfl, ?_⟩) hHeld ?_
      rotate_left
      · intro W hSw
        have hc := H1.out W hSw
        clear hSw
        go_simp <;> with_reducible rfl
      simp only [Act.put, List.getElem_toArray, List.getElem_cons_zero, List.getElem_cons_succ, List.setIfInBounds_toArray, List.set_cons_zero, List.set_cons_succ]
      refine wpAnyH_take (i := 16) (v := ?_) rfl (by kernel_rfl) (by kernel_rfl) (by kernel_rfl) (fun _ _ _ h => h) (Or.inl ⟨by kernel_rfl, ?_⟩) hHeld ?_
      rotate_left
      · intro W hSw
        clear hSw
        go_simp <;> with_reducible rfl
      simp only [Act.put, List.getElem_toArray, List.getElem_cons_zero, List.getElem_cons_succ, List.setIfInBounds_toArray, List.set_cons_zero, List.set_cons_succ]
      refine wpAnyH_take (i := 17) (v := ?_) rfl (by kernel_rfl) (by kernel_rfl) (by kernel_rfl) (fun _ _ _ h => h) (Or.inl ⟨by kernel_rfl, ?_⟩) hHeld ?_
      rotate_left
      · intro W hSw
        clear hSw
        go_simp <;> with_reducible rfl
      simp only [Act.put, List.getElem_toArray, List.getElem_cons_zero, List.getElem_cons_succ, List.setIfInBounds_toArray, List.set_cons_zero, List.set_cons_succ]
      refine wpAnyH_take (i := 18) (v := ?_) rfl (by kernel_rfl) (by kernel_rfl) (by kernel_rfl) (fun _ _ _ h => h) (Or.inl ⟨by kernel_rfl, ?_⟩) hHeld ?_
      rotate_left
      · intro W hSw
        clear hSw
        go_simp <;> with_reducible rfl
      simp only [Act.put, List.getElem_toArray, List.getElem_cons_zero, List.getElem_cons_succ, List.setIfInBounds_toArray, List.set_cons_zero, List.set_cons_succ]
      refine wpAnyH_take (i := 19) (v := .agg (bytesV x).toArray) rfl (by kernel_rfl) (by kernel_rfl) (by kernel_rfl) (fun _ _ _ h => h) (yieldsIf_load_mid (by kernel_rfl) 69 (.tmp 31) rfl b (j * 513 + 1) rfl (bytesV x) _ (fun W hSw => (HQ'.out W hSw).2) block_und rfl HTI.out) hHeld ?_
      simp only [Act.put, List.getElem_toArray, List.getElem_cons_zero, List.getElem_cons_succ, List.setIfInBounds_toArray, List.set_cons_zero, List.set_cons_succ]
      refine wpAnyH_take (i := 20) (v := ?_) rfl (by kernel_rfl) (by kernel_rfl) (by kernel_rfl) (fun _ _ _ h => h) (Or.inl ⟨by kernel_rfl, ?_⟩) hHeld ?_
      rotate_left
      · intro W hSw
        clear hSw
        go_simp <;> with_reducible rfl
      simp only [Act.put, List.getElem_toArray, List.getElem_cons_zero, List.getElem_cons_succ, List.setIfInBounds_toArray, List.set_cons_zero, List.set_cons_succ]
      refine wpAnyH_ready (rs := [21]) (by kernel_rfl) (by simp) ?_
      refine AllReadyH.cons rfl (fun K hK => ?_) AllReadyH.nil
      refine step_wp rfl (wp_store_mid 69 (.tmp 33) (.tmp 32) rfl g (m * 256) (bytesV x).toArray rfl rfl HTH.out HTI2.out HON.out ?_)
      refine hK.out _ _ ?_ (fun hHeld => ?_)
      · exact HB2.out
      clear hK K
      try simp only [Act.put, List.getElem_toArray, List.getElem_cons_zero, List.getElem_cons_succ, List.setIfInBounds_toArray, List.set_cons_zero, List.set_cons_succ]
      refine wpAnyH_done (by kernel_rfl) ?_ _
      clear hHeld
      have e9 : (bytesV x).toArray.toList = bytesV x := rfl
      try rw [e9]
      generalize wr.drew.setCells g (m * 256) (bytesV x) = w9 at *
      go_wp2
      go_roundw
      case rel => exact ⟨_, j, rfl, by go_num, by omega, HW2, HB2⟩
      case measure => simp [intOf]
    · obtain rfl : i = 0 := by omega
      obtain rfl : z = -1 := by omega
      have HF := hide (HE.out wr HW.out HB.out)
      clear HW HB hz hi hlt
      go_wp2
      go_end0
      exact ⟨rfl, HF.out.1, HF.out.2⟩
end Go.Proofs.Yteacldkfdhhphaa
