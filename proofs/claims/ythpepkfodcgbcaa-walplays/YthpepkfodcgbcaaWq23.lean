import Derived.Test.YthpepkfodcgbcaaWq22
import Derived.Test.YthpepkfodcgbcaaWq12
/- What the program's Encode answers. -/
set_option linter.unusedVariables false
set_option linter.unusedSimpArgs false
set_option maxRecDepth 40000
namespace Go.Proofs.Ythpepkfodcgbcaa
open Go.RowKit

theorem slice_x_8 (g : Nat) (W : World) : (Instr.sliceAt 130 (.pointer (some ⟨g, 0, none⟩)) none (some (.int .i64 8)) none).run Try.prog W = .ok (.slice (some ⟨g, 0, none⟩) 8 64) W := by
  simp [Instr.sliceAt, Instr.sureAddr, run_underlying Try.underlying130, Instr.sliceBounds, Instr.sliceBound, asIntOf, Try.sizeOf5, addr_addo]
theorem slice_8_16 (g : Nat) (W : World) : (Instr.sliceAt 130 (.pointer (some ⟨g, 0, none⟩)) (some (.int .i64 8)) (some (.int .i64 16)) none).run Try.prog W = .ok (.slice (some ⟨g, 8, none⟩) 8 56) W := by
  simp [Instr.sliceAt, Instr.sureAddr, run_underlying Try.underlying130, Instr.sliceBounds, Instr.sliceBound, asIntOf, Try.sizeOf5, addr_addo]
theorem slice_16_18 (g : Nat) (W : World) : (Instr.sliceAt 130 (.pointer (some ⟨g, 0, none⟩)) (some (.int .i64 16)) (some (.int .i64 18)) none).run Try.prog W = .ok (.slice (some ⟨g, 16, none⟩) 2 48) W := by
  simp [Instr.sliceAt, Instr.sureAddr, run_underlying Try.underlying130, Instr.sliceBounds, Instr.sliceBound, asIntOf, Try.sizeOf5, addr_addo]
theorem slice_18_20 (g : Nat) (W : World) : (Instr.sliceAt 130 (.pointer (some ⟨g, 0, none⟩)) (some (.int .i64 18)) (some (.int .i64 20)) none).run Try.prog W = .ok (.slice (some ⟨g, 18, none⟩) 2 46) W := by
  simp [Instr.sliceAt, Instr.sureAddr, run_underlying Try.underlying130, Instr.sliceBounds, Instr.sliceBound, asIntOf, Try.sizeOf5, addr_addo]
theorem slice_20_21 (g : Nat) (W : World) : (Instr.sliceAt 130 (.pointer (some ⟨g, 0, none⟩)) (some (.int .i64 20)) (some (.int .i64 21)) none).run Try.prog W = .ok (.slice (some ⟨g, 20, none⟩) 1 44) W := by
  simp [Instr.sliceAt, Instr.sureAddr, run_underlying Try.underlying130, Instr.sliceBounds, Instr.sliceBound, asIntOf, Try.sizeOf5, addr_addo]
theorem slice_21_60 (g : Nat) (W : World) : (Instr.sliceAt 130 (.pointer (some ⟨g, 0, none⟩)) (some (.int .i64 21)) (some (.int .i64 60)) none).run Try.prog W = .ok (.slice (some ⟨g, 21, none⟩) 39 43) W := by
  simp [Instr.sliceAt, Instr.sureAddr, run_underlying Try.underlying130, Instr.sliceBounds, Instr.sliceBound, asIntOf, Try.sizeOf5, addr_addo]
theorem slice_60_x (g : Nat) (W : World) : (Instr.sliceAt 130 (.pointer (some ⟨g, 0, none⟩)) (some (.int .i64 60)) none none).run Try.prog W = .ok (.slice (some ⟨g, 60, none⟩) 4 4) W := by
  simp [Instr.sliceAt, Instr.sureAddr, run_underlying Try.underlying130, Instr.sliceBounds, Instr.sliceBound, asIntOf, Try.sizeOf5, addr_addo]
theorem slice_x_60 (g : Nat) (W : World) : (Instr.sliceAt 130 (.pointer (some ⟨g, 0, none⟩)) none (some (.int .i64 60)) none).run Try.prog W = .ok (.slice (some ⟨g, 0, none⟩) 60 64) W := by
  simp [Instr.sliceAt, Instr.sureAddr, run_underlying Try.underlying130, Instr.sliceBounds, Instr.sliceBound, asIntOf, Try.sizeOf5, addr_addo]
theorem slice_x_x (g : Nat) (W : World) : (Instr.sliceAt 130 (.pointer (some ⟨g, 0, none⟩)) none none none).run Try.prog W = .ok (.slice (some ⟨g, 0, none⟩) 64 64) W := by
  simp [Instr.sliceAt, Instr.sureAddr, run_underlying Try.underlying130, Instr.sliceBounds, Instr.sliceBound, asIntOf, Try.sizeOf5, addr_addo]

def PEncR (w : World) (c : CL) (e : Ending) (w' : World) : Prop := Below w.heap.size w w' ∧ ((¬ mayC c ∧ ∃ a k, e = .returned (.tuple #[.slice a 0 k, .int .i64 1])) ∨ (mayC c ∧ ∃ a k, e = .returned (.tuple #[.slice a 64 k, .int .i64 0]) ∧ IsY w' (.slice a 64 k) (encC c)))
def PEncN (w : World) (c : CL) (e : Ending) (w' : World) : Prop := PEncR w c e w' ∧ ∀ v n, e = .returned (.tuple #[v, n]) → NewV w w' v
theorem lay_next (A x : Bs) (n m : Nat) (h : n = x.length + m) : setBK (A ++ List.replicate n 0) A.length x = (A ++ x) ++ List.replicate m 0 := by
  rw [setB_nextK A (List.replicate m 0) (List.replicate n 0) x (by rw [List.length_replicate, List.length_replicate]; exact h), List.drop_replicate, show n - x.length = m by omega]
theorem enc_laid (c : CL) (h : c.data.length ≤ 39) (F0 F1 F2 F3 F4 F5 F6 : Bs) (h0 : F0 = List.replicate 64 0) (h1 : F1 = setBK F0 0 (putB c.ep 8)) (h2 : F2 = setBK F1 8 (putB c.li 8)) (h3 : F3 = setBK F2 16 (putB c.part.toNat 2)) (h4 : F4 = setBK F3 18 (putB c.of.toNat 2)) (h5 : F5 = setBK F4 20 (putB c.data.length 1)) (h6 : F6 = setBK F5 21 c.data) :
    setBK F6 60 (putB (sumB (F6.take 60)).toNat 4) = encC c := by
  have step : ∀ (A x F G : Bs) (o n m : Nat), A.length = o → F = A ++ List.replicate n 0 → n = x.length + m → G = setBK F o x → G = (A ++ x) ++ List.replicate m 0 ∧ (A ++ x).length = o + x.length := fun A x F G o n m ho hF hn hG => by
    subst ho
    rw [hG, hF]
    exact ⟨lay_next A x n m hn, by rw [List.length_append]⟩
  obtain ⟨e1, l1⟩ := step [] (putB c.ep 8) F0 F1 0 64 56 rfl (by rw [h0]; rfl) (by rw [put_len]) h1
  rw [put_len] at l1
  obtain ⟨e2, l2⟩ := step _ (putB c.li 8) F1 F2 8 56 48 l1 e1 (by rw [put_len]) h2
  rw [put_len] at l2
  obtain ⟨e3, l3⟩ := step _ (putB c.part.toNat 2) F2 F3 16 48 46 l2 e2 (by rw [put_len]) h3
  rw [put_len] at l3
  obtain ⟨e4, l4⟩ := step _ (putB c.of.toNat 2) F3 F4 18 46 44 l3 e3 (by rw [put_len]) h4
  rw [put_len] at l4
  obtain ⟨e5, l5⟩ := step _ (putB c.data.length 1) F4 F5 20 44 43 l4 e4 (by rw [put_len]) h5
  rw [put_len] at l5
  obtain ⟨e6, l6⟩ := step _ c.data F5 F6 21 43 (43 - c.data.length) l5 e5 (by omega) h6
  have hb : F6 = bodyC c ++ List.replicate 4 0 := by
    rw [e6, bodyC, headC, show 43 - c.data.length = (39 - c.data.length) + 4 by omega, ← List.replicate_append_replicate]
    simp only [List.nil_append, List.append_assoc]
  have ht : F6.take 60 = bodyC c := by rw [hb, ← body_len c h, List.take_left]
  rw [ht]
  obtain ⟨e7, l7⟩ := step (bodyC c) (putB (sumB (bodyC c)).toNat 4) F6 _ 60 4 0 (body_len c h) hb (by rw [put_len]) rfl
  rw [e7, List.replicate_zero, List.append_nil]
  rfl
theorem zero_bytes : (bytesVK (List.replicate 64 0)).toArray = (Array.replicate 64 (Value.int .u8 0)) := by kernel_rfl
set_option maxHeartbeats 1000000 in
theorem penc_not (c : CL) (dv : Value) (w : World) (hC : IsC w c dv) (hn : ¬ mayC c) : Calls Try.prog 73 #[clA c dv] w (PEncN w c) := by
  have HM := hide (pmay_any c dv (clW w c dv) (hC.below (below_alloc w _)))
  rw [decide_eq_false hn] at HM
  have HBX := hide (fun x (b : Below (clW w c dv).heap.size (clW w c dv) x) => (cl_box w c dv b).2)
  have HF : Hid (∀ x, Below w.heap.size w x → PEncN w c (.returned (.tuple #[.slice none 0 0, .int .i64 1])) x) := hide (fun x hb => ⟨⟨hb, .inl ⟨hn, _, _, rfl⟩⟩, fun v n e k hk => by
    injection e with e
    injection e with e
    injection e with e
    injection e with e _
    rw [← e] at hk
    cases hk⟩)
  obtain ⟨a, k, rfl⟩ := hC.d.form
  obtain ⟨ep, li, part, of, data⟩ := c
  simp only [] at *
  generalize data.length = m at *
  clear hC hn
  go_enter Try.func73, Try.ntmps73
  go_wp2_with fail
  refine HM.out.mono ?_
  rintro e w1 ⟨rfl, b1⟩
  have BW := hide (HF.out _ (HBX.out _ b1))
  clear b1 HM HBX HF
  go_wp2
  go_ret2
  exact BW.out
set_option maxHeartbeats 8000000 in
theorem penc_may (c : CL) (dv : Value) (w : World) (hC : IsC w c dv) (hm : mayC c) : Calls Try.prog 73 #[clA c dv] w (PEncN w c) := by
  have hmay := hm
  have HM := hide (pmay_any c dv (clW w c dv) (hC.below (below_alloc w _)))
  rw [decide_eq_true hm] at HM
  have HBX := hide (fun x (b : Below (clW w c dv).heap.size (clW w c dv) x) => (cl_box w c dv b).2)
  have HD := hide (fun x (b : Below (clW w c dv).heap.size (clW w c dv) x) => hC.d.below (cl_box w c dv b).2)
  have HCE := hide (fun x (b : Below (clW w c dv).heap.size (clW w c dv) x) => cl_cells (cl_box w c dv b).1)
  obtain ⟨h1, h2, h3, h4⟩ := hm
  obtain ⟨p, hp⟩ : ∃ p : Nat, c.part = (p : Int) := ⟨c.part.toNat, by omega⟩
  obtain ⟨q, hq⟩ : ∃ q : Nat, c.of = (q : Int) := ⟨c.of.toNat, by omega⟩
  have hep := hC.ep
  have hli := hC.li
  have hpl : p < 65536 := by omega
  have hql : q < 65536 := by omega
  obtain ⟨a, k, rfl⟩ := hC.d.form
  obtain ⟨ep, li, part, of, data⟩ := c
  simp only [] at *
  subst hp hq
  clear hC h1 h2 h3
  generalize hW0 : clW w ⟨ep, li, (p : Int), (q : Int), data⟩ (.slice a data.length k) = W0 at *
  have hsz0 : w.heap.size ≤ W0.heap.size := by rw [← hW0]; simp
  have HSZ := hide hsz0
  have hWl : W0 = w.alloc (.cells #[.int .u64 (ep : Int), .int .u64 (li : Int), .int .i64 (p : Int), .int .i64 (q : Int), .slice a data.length k] 90) := hW0.symm
  have HWl := hide hWl
  clear hW0 hWl hsz0
  generalize hdl : data.length = dl at *
  have HDL := hide hdl
  clear hdl
  go_enter Try.func73, Try.ntmps73
  go_wp2_with fail
  rw [← HWl.out]
  refine HM.out.mono ?_
  rintro e w1 ⟨rfl, b1⟩
  clear HM
  obtain ⟨c0, c1, c2, c3, c4⟩ := HCE.out _ b1
  go_wp2_with fail
  have hba := below_alloc w1 (.cells #[.int .u8 0, .int .u8 0, .int .u8 0, .int .u8 0, .int .u8 0, .int .u8 0, .int .u8 0, .int .u8 0, .int .u8 0, .int .u8 0, .int .u8 0, .int .u8 0, .int .u8 0, .int .u8 0, .int .u8 0, .int .u8 0, .int .u8 0, .int .u8 0, .int .u8 0, .int .u8 0, .int .u8 0, .int .u8 0, .int .u8 0, .int .u8 0, .int .u8 0, .int .u8 0, .int .u8 0, .int .u8 0, .int .u8 0, .int .u8 0, .int .u8 0, .int .u8 0, .int .u8 0, .int .u8 0, .int .u8 0, .int .u8 0, .int .u8 0, .int .u8 0, .int .u8 0, .int .u8 0, .int .u8 0, .int .u8 0, .int .u8 0, .int .u8 0, .int .u8 0, .int .u8 0, .int .u8 0, .int .u8 0, .int .u8 0, .int .u8 0, .int .u8 0, .int .u8 0, .int .u8 0, .int .u8 0, .int .u8 0, .int .u8 0, .int .u8 0, .int .u8 0, .int .u8 0, .int .u8 0, .int .u8 0, .int .u8 0, .int .u8 0, .int .u8 0] 130)
  have hBK : BlkY (w1.alloc (.cells #[.int .u8 0, .int .u8 0, .int .u8 0, .int .u8 0, .int .u8 0, .int .u8 0, .int .u8 0, .int .u8 0, .int .u8 0, .int .u8 0, .int .u8 0, .int .u8 0, .int .u8 0, .int .u8 0, .int .u8 0, .int .u8 0, .int .u8 0, .int .u8 0, .int .u8 0, .int .u8 0, .int .u8 0, .int .u8 0, .int .u8 0, .int .u8 0, .int .u8 0, .int .u8 0, .int .u8 0, .int .u8 0, .int .u8 0, .int .u8 0, .int .u8 0, .int .u8 0, .int .u8 0, .int .u8 0, .int .u8 0, .int .u8 0, .int .u8 0, .int .u8 0, .int .u8 0, .int .u8 0, .int .u8 0, .int .u8 0, .int .u8 0, .int .u8 0, .int .u8 0, .int .u8 0, .int .u8 0, .int .u8 0, .int .u8 0, .int .u8 0, .int .u8 0, .int .u8 0, .int .u8 0, .int .u8 0, .int .u8 0, .int .u8 0, .int .u8 0, .int .u8 0, .int .u8 0, .int .u8 0, .int .u8 0, .int .u8 0, .int .u8 0, .int .u8 0] 130)) w1.heap.size 130 (List.replicate 64 0) := (alloc_newC w1 _).trans (by rw [show bytesVK (List.replicate 64 0) = [Value.int .u8 0, Value.int .u8 0, Value.int .u8 0, Value.int .u8 0, Value.int .u8 0, Value.int .u8 0, Value.int .u8 0, Value.int .u8 0, Value.int .u8 0, Value.int .u8 0, Value.int .u8 0, Value.int .u8 0, Value.int .u8 0, Value.int .u8 0, Value.int .u8 0, Value.int .u8 0, Value.int .u8 0, Value.int .u8 0, Value.int .u8 0, Value.int .u8 0, Value.int .u8 0, Value.int .u8 0, Value.int .u8 0, Value.int .u8 0, Value.int .u8 0, Value.int .u8 0, Value.int .u8 0, Value.int .u8 0, Value.int .u8 0, Value.int .u8 0, Value.int .u8 0, Value.int .u8 0, Value.int .u8 0, Value.int .u8 0, Value.int .u8 0, Value.int .u8 0, Value.int .u8 0, Value.int .u8 0, Value.int .u8 0, Value.int .u8 0, Value.int .u8 0, Value.int .u8 0, Value.int .u8 0, Value.int .u8 0, Value.int .u8 0, Value.int .u8 0, Value.int .u8 0, Value.int .u8 0, Value.int .u8 0, Value.int .u8 0, Value.int .u8 0, Value.int .u8 0, Value.int .u8 0, Value.int .u8 0, Value.int .u8 0, Value.int .u8 0, Value.int .u8 0, Value.int .u8 0, Value.int .u8 0, Value.int .u8 0, Value.int .u8 0, Value.int .u8 0, Value.int .u8 0, Value.int .u8 0] from rfl])
  have B := hide (b1.trans (hba.mono b1.size))
  have hgl := hBK.lt
  generalize hg : w1.heap.size = g at *
  have hg0 : W0.heap.size ≤ g := by rw [← hg]; exact b1.size
  clear hg hba c0 c1 c2 c3 c4
  have hwq : ∀ m : Nat, m < 65536 → IntKind.u64.wrap (m : Int) = (m : Int) := fun m hm => by unfold IntKind.wrap; simp only [show IntKind.u64.signed = false from rfl, Bool.false_and]; show (if _ then _ else (m : Int) % 18446744073709551616) = _; rw [if_neg (by simp)]; omega
  have HWP := hide (hwq p hpl)
  have HWQ := hide (hwq q hql)
  have HWD := hide (hwq dl (by omega))
  clear hwq
  generalize w1.alloc (.cells #[.int .u8 0, .int .u8 0, .int .u8 0, .int .u8 0, .int .u8 0, .int .u8 0, .int .u8 0, .int .u8 0, .int .u8 0, .int .u8 0, .int .u8 0, .int .u8 0, .int .u8 0, .int .u8 0, .int .u8 0, .int .u8 0, .int .u8 0, .int .u8 0, .int .u8 0, .int .u8 0, .int .u8 0, .int .u8 0, .int .u8 0, .int .u8 0, .int .u8 0, .int .u8 0, .int .u8 0, .int .u8 0, .int .u8 0, .int .u8 0, .int .u8 0, .int .u8 0, .int .u8 0, .int .u8 0, .int .u8 0, .int .u8 0, .int .u8 0, .int .u8 0, .int .u8 0, .int .u8 0, .int .u8 0, .int .u8 0, .int .u8 0, .int .u8 0, .int .u8 0, .int .u8 0, .int .u8 0, .int .u8 0, .int .u8 0, .int .u8 0, .int .u8 0, .int .u8 0, .int .u8 0, .int .u8 0, .int .u8 0, .int .u8 0, .int .u8 0, .int .u8 0, .int .u8 0, .int .u8 0, .int .u8 0, .int .u8 0, .int .u8 0, .int .u8 0] 130) = w2 at *
  clear b1
  have HG := hide hg0
  have HP := hide (fun (W : World) (o N cap n : Nat) (F : Bs) (hW : Below W0.heap.size W0 W) (hB : BlkY W g 130 F) (hF : F.length = 64) (hN : N ≤ 8) (hoN : o + N ≤ 64) (hn : n < 18446744073709551616) => (pput_any g o N cap n 130 F W hB hN (by rw [hF]; exact hoN) (by rw [hF]; decide) hn).mono fun e w' (h : PutR W g o N n 130 F e w') => (⟨h.1, hide h.2.1, hW.trans (h.2.2.below (by have := HG.out; exact Nat.le_trans (Nat.le_refl _) (by first | exact this | omega)))⟩ : e = .returned (.tuple #[]) ∧ Hid (BlkY w' g 130 (setBK F o (putB n N))) ∧ Below W0.heap.size W0 w'))
  have HBK := hide hBK
  clear hBK hgl hg0
  have HFL : Hid ((List.replicate 64 (0 : UInt8)).length = 64) := hide (by simp)
  generalize hF0 : List.replicate 64 (0 : UInt8) = F0 at *
  have HF0 := hide hF0
  clear hF0
  have hsl := fun W => slice_x_8 g W
  go_wp2_with fail
  refine wp_region_held_drew (S := fun W' => Below W0.heap.size W0 W') (by kernel_rfl) B.out.drew (fun hHeld => ?_)
  refine wpAnyH_take (i := 0) (v := ?_) rfl (by kernel_rfl) (by kernel_rfl) (by kernel_rfl) (fun _ _ _ h => h) (Or.inl ⟨by kernel_rfl, ?_⟩) hHeld ?_
  rotate_left
  · intro W hSw
    have hs := hsl W
    clear hSw
    go_simp <;> with_reducible rfl
  simp only [Act.put, List.getElem_toArray, List.getElem_cons_zero, List.getElem_cons_succ, List.setIfInBounds_toArray, List.set_cons_zero, List.set_cons_succ]
  refine wpAnyH_take (i := 1) (v := ?_) rfl (by kernel_rfl) (by kernel_rfl) (by kernel_rfl) (fun _ _ _ h => h) (Or.inl ⟨by kernel_rfl, ?_⟩) hHeld ?_
  rotate_left
  · intro W hSw
    clear hSw
    go_simp <;> with_reducible rfl
  simp only [Act.put, List.getElem_toArray, List.getElem_cons_zero, List.getElem_cons_succ, List.setIfInBounds_toArray, List.set_cons_zero, List.set_cons_succ]
  refine wpAnyH_take (i := 2) (v := ?_) rfl (by kernel_rfl) (by kernel_rfl) (by kernel_rfl) (fun _ _ _ h => h) (Or.inl ⟨by kernel_rfl, ?_⟩) hHeld ?_
  rotate_left
  · intro W hSw
    obtain ⟨c0, c1, c2, c3, c4⟩ := HCE.out _ hSw
    clear hSw
    go_simp <;> with_reducible rfl
  simp only [Act.put, List.getElem_toArray, List.getElem_cons_zero, List.getElem_cons_succ, List.setIfInBounds_toArray, List.set_cons_zero, List.set_cons_succ]
  refine wpAnyH_ready (rs := [3]) (by kernel_rfl) (by simp) ?_
  refine AllReadyH.cons rfl (fun K hK => ?_) AllReadyH.nil
  go_simp
  go_wp2_with (first | (go_at_call 79; refine (HP.out _ 0 8 64 ep F0 B.out.drew (BlkY.keep HBK.out rfl) HFL.out (by decide) (by decide) hep).mono ?_; rintro e y ⟨rfl, HBK2, hb2⟩))
  refine hK.out _ _ ?_ (fun hHeld => ?_)
  · exact hb2
  clear hK K
  try simp only [Act.put, List.getElem_toArray, List.getElem_cons_zero, List.getElem_cons_succ, List.setIfInBounds_toArray, List.set_cons_zero, List.set_cons_succ]
  refine wpAnyH_done (by kernel_rfl) ?_ _
  clear hHeld HBK B hsl
  have HFL2 : Hid ((setBK F0 0 (putB ep 8)).length = 64) := hide ((setB_lenK _ _ _).trans HFL.out)
  clear HFL
  generalize hF1 : setBK F0 0 (putB ep 8) = F1 at *
  have HF1 := hide hF1
  clear hF1
  have HFL := HFL2
  have HBK := HBK2
  have B := hide hb2
  clear HFL2 HBK2 hb2
  try clear hHeld
  have hsl := fun W => slice_8_16 g W
  go_wp2_with fail
  refine wp_region_held_drew (S := fun W' => Below W0.heap.size W0 W') (by kernel_rfl) B.out.drew (fun hHeld => ?_)
  refine wpAnyH_take (i := 0) (v := ?_) rfl (by kernel_rfl) (by kernel_rfl) (by kernel_rfl) (fun _ _ _ h => h) (Or.inl ⟨by kernel_rfl, ?_⟩) hHeld ?_
  rotate_left
  · intro W hSw
    have hs := hsl W
    clear hSw
    go_simp <;> with_reducible rfl
  simp only [Act.put, List.getElem_toArray, List.getElem_cons_zero, List.getElem_cons_succ, List.setIfInBounds_toArray, List.set_cons_zero, List.set_cons_succ]
  refine wpAnyH_take (i := 1) (v := ?_) rfl (by kernel_rfl) (by kernel_rfl) (by kernel_rfl) (fun _ _ _ h => h) (Or.inl ⟨by kernel_rfl, ?_⟩) hHeld ?_
  rotate_left
  · intro W hSw
    clear hSw
    go_simp <;> with_reducible rfl
  simp only [Act.put, List.getElem_toArray, List.getElem_cons_zero, List.getElem_cons_succ, List.setIfInBounds_toArray, List.set_cons_zero, List.set_cons_succ]
  refine wpAnyH_take (i := 2) (v := ?_) rfl (by kernel_rfl) (by kernel_rfl) (by kernel_rfl) (fun _ _ _ h => h) (Or.inl ⟨by kernel_rfl, ?_⟩) hHeld ?_
  rotate_left
  · intro W hSw
    obtain ⟨c0, c1, c2, c3, c4⟩ := HCE.out _ hSw
    clear hSw
    go_simp <;> with_reducible rfl
  simp only [Act.put, List.getElem_toArray, List.getElem_cons_zero, List.getElem_cons_succ, List.setIfInBounds_toArray, List.set_cons_zero, List.set_cons_succ]
  refine wpAnyH_ready (rs := [3]) (by kernel_rfl) (by simp) ?_
  refine AllReadyH.cons rfl (fun K hK => ?_) AllReadyH.nil
  go_simp
  go_wp2_with (first | (go_at_call 79; refine (HP.out _ 8 8 56 li F1 B.out.drew (BlkY.keep HBK.out rfl) HFL.out (by decide) (by decide) hli).mono ?_; rintro e y ⟨rfl, HBK2, hb2⟩))
  refine hK.out _ _ ?_ (fun hHeld => ?_)
  · exact hb2
  clear hK K
  try simp only [Act.put, List.getElem_toArray, List.getElem_cons_zero, List.getElem_cons_succ, List.setIfInBounds_toArray, List.set_cons_zero, List.set_cons_succ]
  refine wpAnyH_done (by kernel_rfl) ?_ _
  clear hHeld HBK B hsl
  have HFL2 : Hid ((setBK F1 8 (putB li 8)).length = 64) := hide ((setB_lenK _ _ _).trans HFL.out)
  clear HFL
  generalize hF2 : setBK F1 8 (putB li 8) = F2 at *
  have HF2 := hide hF2
  clear hF2
  have HFL := HFL2
  have HBK := HBK2
  have B := hide hb2
  clear HFL2 HBK2 hb2
  try clear hHeld
  have hsl := fun W => slice_16_18 g W
  go_wp2_with fail
  refine wp_region_held_drew (S := fun W' => Below W0.heap.size W0 W') (by kernel_rfl) B.out.drew (fun hHeld => ?_)
  refine wpAnyH_take (i := 0) (v := ?_) rfl (by kernel_rfl) (by kernel_rfl) (by kernel_rfl) (fun _ _ _ h => h) (Or.inl ⟨by kernel_rfl, ?_⟩) hHeld ?_
  rotate_left
  · intro W hSw
    have hs := hsl W
    clear hSw
    go_simp <;> with_reducible rfl
  simp only [Act.put, List.getElem_toArray, List.getElem_cons_zero, List.getElem_cons_succ, List.setIfInBounds_toArray, List.set_cons_zero, List.set_cons_succ]
  refine wpAnyH_take (i := 1) (v := ?_) rfl (by kernel_rfl) (by kernel_rfl) (by kernel_rfl) (fun _ _ _ h => h) (Or.inl ⟨by kernel_rfl, ?_⟩) hHeld ?_
  rotate_left
  · intro W hSw
    clear hSw
    go_simp <;> with_reducible rfl
  simp only [Act.put, List.getElem_toArray, List.getElem_cons_zero, List.getElem_cons_succ, List.setIfInBounds_toArray, List.set_cons_zero, List.set_cons_succ]
  refine wpAnyH_take (i := 2) (v := ?_) rfl (by kernel_rfl) (by kernel_rfl) (by kernel_rfl) (fun _ _ _ h => h) (Or.inl ⟨by kernel_rfl, ?_⟩) hHeld ?_
  rotate_left
  · intro W hSw
    obtain ⟨c0, c1, c2, c3, c4⟩ := HCE.out _ hSw
    clear hSw
    go_simp <;> with_reducible rfl
  simp only [Act.put, List.getElem_toArray, List.getElem_cons_zero, List.getElem_cons_succ, List.setIfInBounds_toArray, List.set_cons_zero, List.set_cons_succ]
  refine wpAnyH_take (i := 3) (v := ?_) rfl (by kernel_rfl) (by kernel_rfl) (by kernel_rfl) (fun _ _ _ h => h) (Or.inl ⟨by kernel_rfl, ?_⟩) hHeld ?_
  rotate_left
  · intro W hSw
    have hwx := HWP.out
    clear hSw
    go_simp <;> with_reducible rfl
  simp only [Act.put, List.getElem_toArray, List.getElem_cons_zero, List.getElem_cons_succ, List.setIfInBounds_toArray, List.set_cons_zero, List.set_cons_succ]
  refine wpAnyH_ready (rs := [4]) (by kernel_rfl) (by simp) ?_
  refine AllReadyH.cons rfl (fun K hK => ?_) AllReadyH.nil
  go_simp
  go_wp2_with (first | (go_at_call 79; refine (HP.out _ 16 2 48 p F2 B.out.drew (BlkY.keep HBK.out rfl) HFL.out (by decide) (by decide) (by omega)).mono ?_; rintro e y ⟨rfl, HBK2, hb2⟩))
  refine hK.out _ _ ?_ (fun hHeld => ?_)
  · exact hb2
  clear hK K
  try simp only [Act.put, List.getElem_toArray, List.getElem_cons_zero, List.getElem_cons_succ, List.setIfInBounds_toArray, List.set_cons_zero, List.set_cons_succ]
  refine wpAnyH_done (by kernel_rfl) ?_ _
  clear hHeld HBK B hsl
  have HFL2 : Hid ((setBK F2 16 (putB p 2)).length = 64) := hide ((setB_lenK _ _ _).trans HFL.out)
  clear HFL
  generalize hF3 : setBK F2 16 (putB p 2) = F3 at *
  have HF3 := hide hF3
  clear hF3
  have HFL := HFL2
  have HBK := HBK2
  have B := hide hb2
  clear HFL2 HBK2 hb2
  try clear hHeld
  have hsl := fun W => slice_18_20 g W
  go_wp2_with fail
  refine wp_region_held_drew (S := fun W' => Below W0.heap.size W0 W') (by kernel_rfl) B.out.drew (fun hHeld => ?_)
  refine wpAnyH_take (i := 0) (v := ?_) rfl (by kernel_rfl) (by kernel_rfl) (by kernel_rfl) (fun _ _ _ h => h) (Or.inl ⟨by kernel_rfl, ?_⟩) hHeld ?_
  rotate_left
  · intro W hSw
    have hs := hsl W
    clear hSw
    go_simp <;> with_reducible rfl
  simp only [Act.put, List.getElem_toArray, List.getElem_cons_zero, List.getElem_cons_succ, List.setIfInBounds_toArray, List.set_cons_zero, List.set_cons_succ]
  refine wpAnyH_take (i := 1) (v := ?_) rfl (by kernel_rfl) (by kernel_rfl) (by kernel_rfl) (fun _ _ _ h => h) (Or.inl ⟨by kernel_rfl, ?_⟩) hHeld ?_
  rotate_left
  · intro W hSw
    clear hSw
    go_simp <;> with_reducible rfl
  simp only [Act.put, List.getElem_toArray, List.getElem_cons_zero, List.getElem_cons_succ, List.setIfInBounds_toArray, List.set_cons_zero, List.set_cons_succ]
  refine wpAnyH_take (i := 2) (v := ?_) rfl (by kernel_rfl) (by kernel_rfl) (by kernel_rfl) (fun _ _ _ h => h) (Or.inl ⟨by kernel_rfl, ?_⟩) hHeld ?_
  rotate_left
  · intro W hSw
    obtain ⟨c0, c1, c2, c3, c4⟩ := HCE.out _ hSw
    clear hSw
    go_simp <;> with_reducible rfl
  simp only [Act.put, List.getElem_toArray, List.getElem_cons_zero, List.getElem_cons_succ, List.setIfInBounds_toArray, List.set_cons_zero, List.set_cons_succ]
  refine wpAnyH_take (i := 3) (v := ?_) rfl (by kernel_rfl) (by kernel_rfl) (by kernel_rfl) (fun _ _ _ h => h) (Or.inl ⟨by kernel_rfl, ?_⟩) hHeld ?_
  rotate_left
  · intro W hSw
    have hwx := HWQ.out
    clear hSw
    go_simp <;> with_reducible rfl
  simp only [Act.put, List.getElem_toArray, List.getElem_cons_zero, List.getElem_cons_succ, List.setIfInBounds_toArray, List.set_cons_zero, List.set_cons_succ]
  refine wpAnyH_ready (rs := [4]) (by kernel_rfl) (by simp) ?_
  refine AllReadyH.cons rfl (fun K hK => ?_) AllReadyH.nil
  go_simp
  go_wp2_with (first | (go_at_call 79; refine (HP.out _ 18 2 46 q F3 B.out.drew (BlkY.keep HBK.out rfl) HFL.out (by decide) (by decide) (by omega)).mono ?_; rintro e y ⟨rfl, HBK2, hb2⟩))
  refine hK.out _ _ ?_ (fun hHeld => ?_)
  · exact hb2
  clear hK K
  try simp only [Act.put, List.getElem_toArray, List.getElem_cons_zero, List.getElem_cons_succ, List.setIfInBounds_toArray, List.set_cons_zero, List.set_cons_succ]
  refine wpAnyH_done (by kernel_rfl) ?_ _
  clear hHeld HBK B hsl
  have HFL2 : Hid ((setBK F3 18 (putB q 2)).length = 64) := hide ((setB_lenK _ _ _).trans HFL.out)
  clear HFL
  generalize hF4 : setBK F3 18 (putB q 2) = F4 at *
  have HF4 := hide hF4
  clear hF4
  have HFL := HFL2
  have HBK := HBK2
  have B := hide hb2
  clear HFL2 HBK2 hb2
  try clear hHeld
  have hsl := fun W => slice_20_21 g W
  go_wp2_with fail
  refine wp_region_held_drew (S := fun W' => Below W0.heap.size W0 W') (by kernel_rfl) B.out.drew (fun hHeld => ?_)
  refine wpAnyH_take (i := 0) (v := ?_) rfl (by kernel_rfl) (by kernel_rfl) (by kernel_rfl) (fun _ _ _ h => h) (Or.inl ⟨by kernel_rfl, ?_⟩) hHeld ?_
  rotate_left
  · intro W hSw
    have hs := hsl W
    clear hSw
    go_simp <;> with_reducible rfl
  simp only [Act.put, List.getElem_toArray, List.getElem_cons_zero, List.getElem_cons_succ, List.setIfInBounds_toArray, List.set_cons_zero, List.set_cons_succ]
  refine wpAnyH_take (i := 1) (v := ?_) rfl (by kernel_rfl) (by kernel_rfl) (by kernel_rfl) (fun _ _ _ h => h) (Or.inl ⟨by kernel_rfl, ?_⟩) hHeld ?_
  rotate_left
  · intro W hSw
    clear hSw
    go_simp <;> with_reducible rfl
  simp only [Act.put, List.getElem_toArray, List.getElem_cons_zero, List.getElem_cons_succ, List.setIfInBounds_toArray, List.set_cons_zero, List.set_cons_succ]
  refine wpAnyH_take (i := 2) (v := ?_) rfl (by kernel_rfl) (by kernel_rfl) (by kernel_rfl) (fun _ _ _ h => h) (Or.inl ⟨by kernel_rfl, ?_⟩) hHeld ?_
  rotate_left
  · intro W hSw
    obtain ⟨c0, c1, c2, c3, c4⟩ := HCE.out _ hSw
    clear hSw
    go_simp <;> with_reducible rfl
  simp only [Act.put, List.getElem_toArray, List.getElem_cons_zero, List.getElem_cons_succ, List.setIfInBounds_toArray, List.set_cons_zero, List.set_cons_succ]
  refine wpAnyH_take (i := 3) (v := ?_) rfl (by kernel_rfl) (by kernel_rfl) (by kernel_rfl) (fun _ _ _ h => h) (Or.inl ⟨by kernel_rfl, ?_⟩) hHeld ?_
  rotate_left
  · intro W hSw
    clear hSw
    go_simp <;> with_reducible rfl
  simp only [Act.put, List.getElem_toArray, List.getElem_cons_zero, List.getElem_cons_succ, List.setIfInBounds_toArray, List.set_cons_zero, List.set_cons_succ]
  refine wpAnyH_take (i := 4) (v := ?_) rfl (by kernel_rfl) (by kernel_rfl) (by kernel_rfl) (fun _ _ _ h => h) (Or.inl ⟨by kernel_rfl, ?_⟩) hHeld ?_
  rotate_left
  · intro W hSw
    have hwx := HWD.out
    clear hSw
    go_simp <;> with_reducible rfl
  simp only [Act.put, List.getElem_toArray, List.getElem_cons_zero, List.getElem_cons_succ, List.setIfInBounds_toArray, List.set_cons_zero, List.set_cons_succ]
  refine wpAnyH_ready (rs := [5]) (by kernel_rfl) (by simp) ?_
  refine AllReadyH.cons rfl (fun K hK => ?_) AllReadyH.nil
  go_simp
  go_wp2_with (first | (go_at_call 79; refine (HP.out _ 20 1 44 dl F4 B.out.drew (BlkY.keep HBK.out rfl) HFL.out (by decide) (by decide) (by omega)).mono ?_; rintro e y ⟨rfl, HBK2, hb2⟩))
  refine hK.out _ _ ?_ (fun hHeld => ?_)
  · exact hb2
  clear hK K
  try simp only [Act.put, List.getElem_toArray, List.getElem_cons_zero, List.getElem_cons_succ, List.setIfInBounds_toArray, List.set_cons_zero, List.set_cons_succ]
  refine wpAnyH_done (by kernel_rfl) ?_ _
  clear hHeld HBK B hsl
  have HFL2 : Hid ((setBK F4 20 (putB dl 1)).length = 64) := hide ((setB_lenK _ _ _).trans HFL.out)
  clear HFL
  generalize hF5 : setBK F4 20 (putB dl 1) = F5 at *
  have HF5 := hide hF5
  clear hF5
  have HFL := HFL2
  have HBK := HBK2
  have B := hide hb2
  clear HFL2 HBK2 hb2
  try clear hHeld
  have hsl := fun W => slice_21_60 g W
  obtain ⟨w8, hrun, hbk8, hbg8⟩ := copy_isY y.drew g 21 39 43 130 F5 data _ (BlkY.keep HBK.out rfl) (HD.out _ B.out.drew) (by rw [HDL.out]; exact h4) (by rw [HFL.out]; decide)
  rw [HDL.out] at hrun
  have HRUN := hide hrun
  have HBK8 := hide hbk8
  have B8 := hide (B.out.drew.trans (hbg8.below HG.out))
  clear hrun hbk8 hbg8
  go_wp2_with fail
  refine wp_region_held_drew (S := fun W' => Below W0.heap.size W0 W') (by kernel_rfl) B.out.drew (fun hHeld => ?_)
  refine wpAnyH_take (i := 0) (v := ?_) rfl (by kernel_rfl) (by kernel_rfl) (by kernel_rfl) (fun _ _ _ h => h) (Or.inl ⟨by kernel_rfl, ?_⟩) hHeld ?_
  rotate_left
  · intro W hSw
    have hs := hsl W
    clear hSw
    go_simp <;> with_reducible rfl
  simp only [Act.put, List.getElem_toArray, List.getElem_cons_zero, List.getElem_cons_succ, List.setIfInBounds_toArray, List.set_cons_zero, List.set_cons_succ]
  refine wpAnyH_take (i := 1) (v := ?_) rfl (by kernel_rfl) (by kernel_rfl) (by kernel_rfl) (fun _ _ _ h => h) (Or.inl ⟨by kernel_rfl, ?_⟩) hHeld ?_
  rotate_left
  · intro W hSw
    clear hSw
    go_simp <;> with_reducible rfl
  simp only [Act.put, List.getElem_toArray, List.getElem_cons_zero, List.getElem_cons_succ, List.setIfInBounds_toArray, List.set_cons_zero, List.set_cons_succ]
  refine wpAnyH_take (i := 2) (v := ?_) rfl (by kernel_rfl) (by kernel_rfl) (by kernel_rfl) (fun _ _ _ h => h) (Or.inl ⟨by kernel_rfl, ?_⟩) hHeld ?_
  rotate_left
  · intro W hSw
    obtain ⟨c0, c1, c2, c3, c4⟩ := HCE.out _ hSw
    clear hSw
    go_simp <;> with_reducible rfl
  simp only [Act.put, List.getElem_toArray, List.getElem_cons_zero, List.getElem_cons_succ, List.setIfInBounds_toArray, List.set_cons_zero, List.set_cons_succ]
  refine wpAnyH_ready (rs := [3]) (by kernel_rfl) (by simp) ?_
  refine AllReadyH.cons rfl (fun K hK => ?_) AllReadyH.nil
  refine step_wpK rfl (Lib.wp_copy_run _ (.tmp 32) (.tmp 34) 43 43 rfl _ _ rfl rfl HRUN.out ?_)
  refine hK.out _ _ ?_ (fun hHeld => ?_)
  · exact B8.out
  clear hK K
  try simp only [Act.put, List.getElem_toArray, List.getElem_cons_zero, List.getElem_cons_succ, List.setIfInBounds_toArray, List.set_cons_zero, List.set_cons_succ]
  refine wpAnyH_done (by kernel_rfl) ?_ _
  clear hHeld HBK B hsl HRUN
  have HFL2 : Hid ((setBK F5 21 data).length = 64) := hide ((setB_lenK _ _ _).trans HFL.out)
  clear HFL
  generalize hF6 : setBK F5 21 data = F6 at *
  have HF6 := hide hF6
  clear hF6
  have HFL := HFL2
  have HBK := HBK8
  have B := B8
  clear HFL2 HBK8 B8
  have HSUM := hide (psum_any (.slice (some ⟨g, 0, none⟩) 60 64) (F6.take 60) w8.drew (by have h := (BlkY.keep HBK.out rfl : BlkY w8.drew g 130 F6).isY 0 60 64 (by rw [HFL.out]; decide) (by decide); rw [List.drop_zero] at h; exact h) (by rw [List.length_take]; omega))
  have hS := (sumB (F6.take 60)).isLt
  obtain ⟨S, hSS⟩ : ∃ S : Nat, (sumB (F6.take 60)).toNat = S := ⟨_, rfl⟩
  rw [hSS] at HSUM hS
  have HSS := hide hSS
  clear hSS
  have hwS : IntKind.u64.wrap (S : Int) = (S : Int) := by unfold IntKind.wrap; simp only [show IntKind.u64.signed = false from rfl, Bool.false_and]; show (if _ then _ else (S : Int) % 18446744073709551616) = _; rw [if_neg (by simp)]; omega
  have HWS := hide hwS
  clear hwS
  have hsl1 := fun W => slice_60_x g W
  have hsl2 := fun W => slice_x_60 g W
  go_wp2_with fail
  refine wp_region_held_drew (S := fun W' => Below W0.heap.size W0 W') (by kernel_rfl) B.out.drew (fun hHeld => ?_)
  refine wpAnyH_take (i := 0) (v := ?_) rfl (by kernel_rfl) (by kernel_rfl) (by kernel_rfl) (fun _ _ _ h => h) (Or.inl ⟨by kernel_rfl, ?_⟩) hHeld ?_
  rotate_left
  · intro W hSw
    have hs := hsl1 W
    clear hSw
    go_simp <;> with_reducible rfl
  simp only [Act.put, List.getElem_toArray, List.getElem_cons_zero, List.getElem_cons_succ, List.setIfInBounds_toArray, List.set_cons_zero, List.set_cons_succ]
  refine wpAnyH_take (i := 1) (v := ?_) rfl (by kernel_rfl) (by kernel_rfl) (by kernel_rfl) (fun _ _ _ h => h) (Or.inl ⟨by kernel_rfl, ?_⟩) hHeld ?_
  rotate_left
  · intro W hSw
    have hs := hsl2 W
    clear hSw
    go_simp <;> with_reducible rfl
  simp only [Act.put, List.getElem_toArray, List.getElem_cons_zero, List.getElem_cons_succ, List.setIfInBounds_toArray, List.set_cons_zero, List.set_cons_succ]
  refine wpAnyH_ready (rs := [2]) (by kernel_rfl) (by simp) ?_
  refine AllReadyH.cons rfl (fun K hK => ?_) AllReadyH.nil
  go_simp
  go_wp2_with (first | (go_at_call 80; refine (HSUM.out).mono ?_; rintro e y0 ⟨rfl, hb0⟩))
  have HBY := hide (BlkY.keep HBK.out (hb0.block g HBK.out.lt))
  have BY := hide (B.out.drew.trans (hb0.mono B.out.size))
  clear hb0
  refine hK.out _ _ ?_ (fun hHeld => ?_)
  · exact BY.out
  clear hK K
  try simp only [Act.put, List.getElem_toArray, List.getElem_cons_zero, List.getElem_cons_succ, List.setIfInBounds_toArray, List.set_cons_zero, List.set_cons_succ]
  refine wpAnyH_take (i := 3) (v := ?_) rfl (by kernel_rfl) (by kernel_rfl) (by kernel_rfl) (fun _ _ _ h => h) (Or.inl ⟨by kernel_rfl, ?_⟩) hHeld ?_
  rotate_left
  · intro W hSw
    have hwx := HWS.out
    clear hSw
    go_simp <;> with_reducible rfl
  simp only [Act.put, List.getElem_toArray, List.getElem_cons_zero, List.getElem_cons_succ, List.setIfInBounds_toArray, List.set_cons_zero, List.set_cons_succ]
  refine wpAnyH_ready (rs := [4]) (by kernel_rfl) (by simp) ?_
  refine AllReadyH.cons rfl (fun K hK => ?_) AllReadyH.nil
  go_simp
  go_wp2_with (first | (go_at_call 79; refine (HP.out _ 60 4 4 S F6 BY.out HBY.out HFL.out (by decide) (by decide) (by omega)).mono ?_; rintro e y ⟨rfl, HBK2, hb2⟩))
  refine hK.out _ _ ?_ (fun hHeld => ?_)
  · exact hb2
  clear hK K
  try simp only [Act.put, List.getElem_toArray, List.getElem_cons_zero, List.getElem_cons_succ, List.setIfInBounds_toArray, List.set_cons_zero, List.set_cons_succ]
  refine wpAnyH_done (by kernel_rfl) ?_ _
  clear hHeld HBK B hsl1 hsl2 HSUM HBY BY
  have hall := enc_laid ⟨ep, li, (p : Int), (q : Int), data⟩ (by show data.length ≤ 39; rw [HDL.out]; exact h4) F0 F1 F2 F3 F4 F5 F6 HF0.out.symm HF1.out.symm HF2.out.symm (by show F3 = setBK F2 16 (putB ((p : Int).toNat) 2); rw [Int.toNat_natCast]; exact HF3.out.symm) (by show F4 = setBK F3 18 (putB ((q : Int).toNat) 2); rw [Int.toNat_natCast]; exact HF4.out.symm) (by show F5 = setBK F4 20 (putB data.length 1); rw [HDL.out]; exact HF5.out.symm) HF6.out.symm
  rw [HSS.out] at hall
  have hi := HBK2.out.isY 0 64 64 (by rw [setB_lenK, HFL.out]; decide) (by decide)
  rw [hall, List.drop_zero, List.take_of_length_le (by rw [enc_len _ (by show data.length ≤ 39; rw [HDL.out]; exact h4)]; decide)] at hi
  have bw := HBX.out _ hb2
  have hgs : g < y.heap.size := HBK2.out.lt
  have hgw : w.heap.size ≤ g := by have h1 := HG.out; have h2 := HSZ.out; omega
  have HF : Hid (PEncN w ⟨ep, li, (p : Int), (q : Int), data⟩ (.returned (.tuple #[.slice (some ⟨g, 0, none⟩) 64 64, .int .i64 0])) y) := hide ⟨⟨bw, .inr ⟨hmay, _, _, rfl, hi⟩⟩, fun v n e k hk => by
    injection e with e
    injection e with e
    injection e with e
    injection e with e _
    rw [← e] at hk
    injection hk with hk
    rw [← hk]
    exact ⟨hgw, hgs⟩⟩
  clear hall hi bw hgs hgw hb2 HBK2 HP HF0 HF1 HF2 HF3 HF4 HF5 HF6 HD HCE HFL hmay
  have hsl := fun W => slice_x_x g W
  go_wp2
  go_ret2
  exact HF.out
theorem penc_new (c : CL) (dv : Value) (w : World) (hC : IsC w c dv) (hl : c.data.length ≤ 1000000) : Calls Try.prog 73 #[clA c dv] w (PEncN w c) := by
  by_cases hm : mayC c
  · exact penc_may c dv w hC hm
  · exact penc_not c dv w hC hm
theorem penc_any (c : CL) (dv : Value) (w : World) (hC : IsC w c dv) (hl : c.data.length ≤ 1000000) : Calls Try.prog 73 #[clA c dv] w (PEncR w c) := (penc_new c dv w hC hl).mono fun e w' h => h.1
end Go.Proofs.Ythpepkfodcgbcaa
