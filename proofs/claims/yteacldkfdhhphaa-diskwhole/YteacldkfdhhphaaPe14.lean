/- What the program's Dump answers. -/
import Derived.Test.YteacldkfdhhphaaPd14
set_option linter.unusedVariables false
set_option linter.unusedSimpArgs false
set_option maxRecDepth 4000
namespace Go.Proofs.Yteacldkfdhhphaa
open Go.RowKit

/-- One operation of a region that draws its order. -/
theorem step_wp {P : Program} {ops : Array Oper} {o : Oper} {a : Act} {w : World} {K : Act → World → Prop} {Q : Exit → Act → World → Prop} {E : Prop} (hgd : o.guard = none) (h : Oper.wp P o a w K Q) : if Region.wanted o (yielded ops a.tmps) = true then Oper.wp P o a w K Q else E := by
  have hw : Region.wanted o (yielded ops a.tmps) = true := by simp [Region.wanted, hgd]
  rw [if_pos hw]
  exact h
theorem make_great (w : World) (n : Nat) (hn : n ≤ 100000000) : ∃ w1, (Instr.makeSlice 34 (.int .i64 (n : Int)) (.int .i64 (n : Int))).run Try.prog w = .ok (.slice (some ⟨w.heap.size, 0, none⟩) n n) w1 ∧ w1.heap[w.heap.size]? = some (.cells (bytesV (List.replicate n 0)).toArray 5 (0, 0)) ∧ Below w.heap.size w w1 := by
  obtain ⟨w1, h1, h2, h3⟩ := run_make_full (P := Try.prog) w w.heap.size 34 5 Try.t5 (.int .u8 0) 1 Try.underlying34 (by kernel_rfl) (by kernel_rfl) (by kernel_rfl) .i64 .i64 n (by rw [show Try.t5.bytes = 1 from by kernel_rfl]; omega) (by unfold maxLen; omega) (Nat.le_refl _)
  refine ⟨w1, h1, ?_, (Below.refl _ w).grown h3 (Nat.le_refl _) (fun k hk => by cases hk)⟩
  have h4 := owns_whole h2
  rw [h4]
  have e : (madeCells (Value.cells (.int .u8 0)) (n * 1)).toList = bytesV (List.replicate n 0) := by
    rw [show Value.cells (.int .u8 0) = #[.int .u8 0] from rfl, toList_madeCells_one, Nat.mul_one]
    simp [bytesV]
  rw [e]
/-- The bytes told so far. -/
def dumpN (F : Bs) (i : Nat) : Bs := setB (List.replicate F.length 0) 0 (F.take (256 * i))
theorem dumpN_zero (F : Bs) : dumpN F 0 = List.replicate F.length 0 := rfl
theorem dumpN_len (F : Bs) (i : Nat) : (dumpN F i).length = F.length := by unfold dumpN; rw [setB_len, List.length_replicate]
theorem dumpN_end (F : Bs) (i : Nat) (h : F.length ≤ 256 * i) : dumpN F i = F := by
  unfold dumpN
  rw [List.take_of_length_le h, setB_all _ _ (by rw [List.length_replicate])]
theorem dumpN_succ (F : Bs) (i : Nat) (h : 256 * i + 256 ≤ F.length) : setB (dumpN F i) (256 * i) (wasB F i) = dumpN F (i + 1) := by
  unfold dumpN wasB
  have h1 : (F.take (256 * i)).length = 256 * i := by rw [List.length_take]; omega
  have e : F.take (256 * (i + 1)) = F.take (256 * i) ++ (F.drop (256 * i)).take 256 := by rw [show 256 * (i + 1) = 256 * i + 256 by omega, List.take_add]
  rw [e, setB_app, h1, Nat.zero_add]
set_option maxHeartbeats 4000000 in
theorem pdump_any (A : Nat → Prop) (v : Value) (d : DM) (w : World) (hK : IsK A w v d) (hF : Fit d) : Calls Try.prog 18 #[v] w fun e w' => ∃ u, e = .returned u ∧ NewY w.heap.size w' u (dumpD d) ∧ Below w.heap.size w w' := by
  obtain ⟨k, rfl, rfl, h1, h2⟩ := hK
  obtain ⟨x0, x1, x2, x3, x4, xf⟩ := kd_cells h1.box
  have hn : k.n ≤ 25000 := by have := hF.s; have := h2.n4; omega
  have hlen : k.F.length = 256 * k.n := h2.len
  rw [← h2.now]
  obtain ⟨w1, hmk, hwh, hb⟩ := make_great w (256 * k.n) (by omega)
  have hmk2 : (Instr.makeSlice 34 (.int .i64 (256 * (k.n : Int))) (.int .i64 (256 * (k.n : Int)))).run Try.prog w = .ok (.slice (some ⟨w.heap.size, 0, none⟩) (256 * k.n) (256 * k.n)) w1 := by
    have e : ((256 * k.n : Nat) : Int) = 256 * (k.n : Int) := by omega
    rw [e] at hmk
    exact hmk
  have HX : Hid (∀ x, Below w.heap.size w x → x.cell? ⟨k.a, 0, none⟩ = some (.slice (some ⟨k.g, 0, none⟩) k.n k.n)) := hide (fun x b => (b.cell (cell_lt x0)).trans x0)
  have HG : Hid (∀ x, Below w.heap.size w x → x.heap[k.g]? = some (.cells (bytesV k.F).toArray 69 (0, 0))) := hide (fun x b => (b.block _ (h1.lt _ (.inr (.inl rfl)))).trans h1.blk)
  have HB := hide hb
  rw [← hlen, ← dumpN_zero] at hwh
  have HW := hide hwh
  have y0 := HX.out w1 hb
  clear h1 h2 hmk hwh hb x1 x2 x3 x4 xf hF
  generalize k.F = F at *
  generalize k.n = n at *
  generalize k.a = a at *
  generalize k.g = g at *
  have hw1 : wrap64 (256 * (n : Int)) = 256 * (n : Int) := by unfold wrap64; omega
  generalize hN : w.heap.size = N at *
  go_enter Try.func18, Try.ntmps18
  go_wp2
  go_loopw [19] (fun vi wr => ∃ i : Nat, vi = .int .i64 (i : Int) ∧ i ≤ n ∧ Hid (wr.heap[N]? = some (.cells (bytesV (dumpN F i)).toArray 5 (0, 0))) ∧ Hid (Below N w wr)) (fun vi _ => n - (intOf vi).toNat)
  case atStart => exact ⟨0, rfl, Nat.zero_le _, HW, HB⟩
  case round =>
    clear HW HB
    obtain ⟨i, rfl, hi, HW, HB⟩ := hrel
    by_cases hlt : i < n
    · have hlt2 : (i : Int) < n := by omega
      have hw2 : wrap64 (256 * (i : Int)) = 256 * (i : Int) := by unfold wrap64; omega
      have hgw := HG.out wr HB.out
      have hwl : (wasB F i).length = 256 := was_len F n i hlen hlt
      have hcp := copy_bytes_run wr.drew N (256 * i) (256 * n - 256 * i) (256 * n - 256 * i) g (i * 256) 256 256 (wasB F i) (by
          have e : 256 ≤ 256 * n - 256 * i := by omega
          rw [hwl]; exact (Nat.min_eq_left e).symm) (by
        have := range_sub hgw (i * 256) 256
        rw [Nat.mul_comm i 256] at this ⊢
        exact this) (there_sub (w := wr.drew) HW.out (256 * i) _ (by rw [hwl]; simp [bytesV_len, dumpN_len]; omega))
      rw [hwl] at hcp
      have HSL : Hid (∀ W, (Instr.slice 34 (.slice (some ⟨N, 0, none⟩) (256 * n) (256 * n)) (some (.int .i64 (256 * (i : Int)))) none none).run Try.prog W = .ok (.slice (some ⟨N, 256 * i, none⟩) (256 * n - 256 * i) (256 * n - 256 * i)) W) := hide (by
        intro W
        have h1 : (0 : Int) ≤ 256 * (i : Int) := by omega
        have h2 : 256 * (i : Int) ≤ ((256 * n : Nat) : Int) := by omega
        have h3 : (256 * (i : Int)).toNat = 256 * i := by omega
        have h4 : ¬ 256 * n = 256 * i := by omega
        have h5 : ¬ n = i := by omega
        have h6 : i ≤ n := by omega
        simp [Instr.slice, run_underlying Try.underlying34, Instr.sliceBounds, Instr.sliceBound, asIntOf, h1, h2, h3, h4, h5, h6, Try.sizeOf5, addr_addo])
      have HCP := hide hcp
      have hbn : Below N wr.drew (wr.drew.setCells N (256 * i) (bytesV (wasB F i))) := (butA_cells (fun j => j = N) N rfl _ _ _).below (fun k e => by rw [e]; exact Nat.le_refl _) (by
        have h1 := HB.out.size
        have h2 : wr.drew.heap.size = wr.heap.size := rfl
        omega)
      have HB2 := hide (HB.out.drew.trans hbn)
      have HW2 : Hid ((wr.drew.setCells N (256 * i) (bytesV (wasB F i))).heap[N]? = some (.cells (bytesV (dumpN F (i + 1))).toArray 5 (0, 0))) := hide (by
        rw [← dumpN_succ F i (by omega)]
        exact heap_cells_bytes N _ _ _ _ _ HW.out)
      have hwk : IntKind.i64.wrap (256 * (i : Int)) = 256 * (i : Int) := by rw [IntKind.wrap_i64]; omega
      clear hcp hgw hwl hbn HW y0
      go_wp2_with fail
      refine wp_region_held_drew (S := fun W' => Below N w W') (by kernel_rfl) (HB.out.drew) (fun hHeld => ?_)
      refine wpAnyH_take (i := 0) (v := ?_) rfl (by kernel_rfl) (by kernel_rfl) (by kernel_rfl) (fun _ _ _ h => h) (Or.inl ⟨by kernel_rfl, ?_⟩) hHeld ?_
      rotate_left
      · intro W hSw
        clear hSw
        go_simp <;> with_reducible rfl
      simp only [Act.put, List.getElem_toArray, List.getElem_cons_zero, List.getElem_cons_succ, List.setIfInBounds_toArray, List.set_cons_zero, List.set_cons_succ]
      refine wpAnyH_take (i := 1) (v := ?_) rfl (by kernel_rfl) (by kernel_rfl) (by kernel_rfl) (fun _ _ _ h => h) (Or.inl ⟨by kernel_rfl, ?_⟩) hHeld ?_
      rotate_left
      · intro W hSw
        clear hSw
        go_simp <;> with_reducible rfl
      simp only [Act.put, List.getElem_toArray, List.getElem_cons_zero, List.getElem_cons_succ, List.setIfInBounds_toArray, List.set_cons_zero, List.set_cons_succ]
      refine wpAnyH_take (i := 2) (v := ?_) rfl (by kernel_rfl) (by kernel_rfl) (by kernel_rfl) (fun _ _ _ h => h) (Or.inl ⟨by kernel_rfl, ?_⟩) hHeld ?_
      rotate_left
      · intro W hSw
        clear hSw
        go_simp <;> with_reducible rfl
      simp only [Act.put, List.getElem_toArray, List.getElem_cons_zero, List.getElem_cons_succ, List.setIfInBounds_toArray, List.set_cons_zero, List.set_cons_succ]
      refine wpAnyH_take (i := 3) (v := ?_) rfl (by kernel_rfl) (by kernel_rfl) (by kernel_rfl) (fun _ _ _ h => h) (Or.inl ⟨by kernel_rfl, ?_⟩) hHeld ?_
      rotate_left
      · intro W hSw
        have hsl := HSL.out
        clear hSw
        go_simp <;> with_reducible rfl
      simp only [Act.put, List.getElem_toArray, List.getElem_cons_zero, List.getElem_cons_succ, List.setIfInBounds_toArray, List.set_cons_zero, List.set_cons_succ]
      refine wpAnyH_take (i := 4) (v := ?_) rfl (by kernel_rfl) (by kernel_rfl) (by kernel_rfl) (fun _ _ _ h => h) (Or.inl ⟨by kernel_rfl, ?_⟩) hHeld ?_
      rotate_left
      · intro W hSw
        clear hSw
        go_simp <;> with_reducible rfl
      simp only [Act.put, List.getElem_toArray, List.getElem_cons_zero, List.getElem_cons_succ, List.setIfInBounds_toArray, List.set_cons_zero, List.set_cons_succ]
      refine wpAnyH_take (i := 5) (v := ?_) rfl (by kernel_rfl) (by kernel_rfl) (by kernel_rfl) (fun _ _ _ h => h) (Or.inl ⟨by kernel_rfl, ?_⟩) hHeld ?_
      rotate_left
      · intro W hSw
        clear hSw
        go_simp <;> with_reducible rfl
      simp only [Act.put, List.getElem_toArray, List.getElem_cons_zero, List.getElem_cons_succ, List.setIfInBounds_toArray, List.set_cons_zero, List.set_cons_succ]
      refine wpAnyH_take (i := 6) (v := ?_) rfl (by kernel_rfl) (by kernel_rfl) (by kernel_rfl) (fun _ _ _ h => h) (Or.inl ⟨by kernel_rfl, ?_⟩) hHeld ?_
      rotate_left
      · intro W hSw
        clear hSw
        go_simp <;> with_reducible rfl
      simp only [Act.put, List.getElem_toArray, List.getElem_cons_zero, List.getElem_cons_succ, List.setIfInBounds_toArray, List.set_cons_zero, List.set_cons_succ]
      refine wpAnyH_take (i := 7) (v := ?_) rfl (by kernel_rfl) (by kernel_rfl) (by kernel_rfl) (fun _ _ _ h => h) (Or.inl ⟨by kernel_rfl, ?_⟩) hHeld ?_
      rotate_left
      · intro W hSw
        have hc := HX.out W hSw
        clear hSw
        go_simp <;> with_reducible rfl
      simp only [Act.put, List.getElem_toArray, List.getElem_cons_zero, List.getElem_cons_succ, List.setIfInBounds_toArray, List.set_cons_zero, List.set_cons_succ]
      refine wpAnyH_take (i := 8) (v := ?_) rfl (by kernel_rfl) (by kernel_rfl) (by kernel_rfl) (fun _ _ _ h => h) (Or.inl ⟨by kernel_rfl, ?_⟩) hHeld ?_
      rotate_left
      · intro W hSw
        clear hSw
        go_simp <;> with_reducible rfl
      simp only [Act.put, List.getElem_toArray, List.getElem_cons_zero, List.getElem_cons_succ, List.setIfInBounds_toArray, List.set_cons_zero, List.set_cons_succ]
      refine wpAnyH_take (i := 9) (v := ?_) rfl (by kernel_rfl) (by kernel_rfl) (by kernel_rfl) (fun _ _ _ h => h) (Or.inl ⟨by kernel_rfl, ?_⟩) hHeld ?_
      rotate_left
      · intro W hSw
        clear hSw
        go_simp <;> with_reducible rfl
      simp only [Act.put, List.getElem_toArray, List.getElem_cons_zero, List.getElem_cons_succ, List.setIfInBounds_toArray, List.set_cons_zero, List.set_cons_succ]
      refine wpAnyH_take (i := 10) (v := ?_) rfl (by kernel_rfl) (by kernel_rfl) (by kernel_rfl) (fun _ _ _ h => h) (Or.inl ⟨by kernel_rfl, ?_⟩) hHeld ?_
      rotate_left
      · intro W hSw
        clear hSw
        go_simp <;> with_reducible rfl
      simp only [Act.put, List.getElem_toArray, List.getElem_cons_zero, List.getElem_cons_succ, List.setIfInBounds_toArray, List.set_cons_zero, List.set_cons_succ]
      refine wpAnyH_ready (rs := [11]) (by kernel_rfl) (by simp) ?_
      refine AllReadyH.cons rfl (fun K hK => ?_) AllReadyH.nil
      refine step_wp rfl (Lib.wp_copy_run _ (.tmp 25) (.tmp 32) 34 34 rfl _ _ rfl rfl HCP.out ?_)
      refine hK.out _ _ ?_ (fun hHeld => ?_)
      · exact HB2.out
      clear hK K
      try simp only [Act.put, List.getElem_toArray, List.getElem_cons_zero, List.getElem_cons_succ, List.setIfInBounds_toArray, List.set_cons_zero, List.set_cons_succ]
      refine wpAnyH_done (by kernel_rfl) ?_ _
      clear hHeld
      generalize wr.drew.setCells N (256 * i) (bytesV (wasB F i)) = w9 at *
      go_wp2
      go_roundw
      case rel => exact ⟨i + 1, by go_num, by omega, HW2, HB2⟩
      case measure => simp [intOf]; omega
    · have hlt2 : ¬ (i : Int) < n := by omega
      obtain rfl : i = n := by omega
      have hr := HW.out
      rw [dumpN_end F i (by omega)] at hr
      have HF := hide (show NewY N wr (.slice (some ⟨N, 0, none⟩) (256 * i) (256 * i)) F ∧ Below N w wr from ⟨row_newY hr (Nat.le_refl _) hlen, HB.out⟩)
      clear hr HW HB
      go_wp2
      go_ret
      exact ⟨_, rfl, HF.out.1, HF.out.2⟩
end Go.Proofs.Yteacldkfdhhphaa
