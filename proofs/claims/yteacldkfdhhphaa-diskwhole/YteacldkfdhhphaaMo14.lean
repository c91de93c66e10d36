/- What the statements' own bytes and model answer. -/
import Derived.Test.YteacldkfdhhphaaSm14
import Derived.Test.YteacldkfdhhphaaDk14
import Derived.Test.YteacldkfdhhphaaDl14
set_option linter.unusedVariables false
set_option linter.unusedSimpArgs false
set_option maxRecDepth 40000
namespace Go.Proofs.Yteacldkfdhhphaa
open Go.RowKit

theorem step_call_enter {P : Program} {ops : Array Oper} {o : Oper} {a : Act} {w : World} {K : Act → World → Prop} {Q : Exit → Act → World → Prop} {E : Prop}
    (hg : o.guard = none) (f : FuncId) (vs : Array Value) (hx : (execOp a.eval o).run P w = .ok (.enter f vs) w) {R : Ending → World → Prop} (hC : Calls P f vs w R) (hK : ∀ e w', R e w' → ∃ v, e = .returned v ∧ K (a.put o.dst v) w') :
    if Region.wanted o (yielded ops a.tmps) = true then Oper.wp P o a w K Q else E := by
  have hw : Region.wanted o (yielded ops a.tmps) = true := by simp [Region.wanted, hg]
  rw [if_pos hw]
  unfold Oper.wp
  rw [hx, Oper.upon_enter]
  refine hC.mono ?_
  intro e w' h
  obtain ⟨v, rfl, hk⟩ := hK e w' h
  exact hk
theorem owns_isY {w : World} {B : Nat} {v : Value} {l : Bs} (h : w.ownsRow B 5 1 v l.length (bytesV l)) : IsY w v l := by
  rcases h.2 with ⟨rfl, h2⟩ | ⟨g, cap, cur, rfl, _, _, hc, _⟩
  · exact .inl ⟨List.eq_nil_of_length_eq_zero h2, _, _, rfl⟩
  · exact .inr ⟨g, 0, cap, rfl, hc, own_cells h⟩
theorem append_nothingY (W : World) (g n cap : Nat) (a : Option Addr) (c : Nat) (h : n ≤ cap) (hm : cap ≤ maxLen) :
    (Builtin.append_ #[34, 34] 34 #[.slice (some ⟨g, 0, none⟩) n cap, .slice a 0 c]).run Try.prog W = .ok (.slice (some ⟨g, 0, none⟩) n cap) W := by
  simp [Builtin.append_, go_sem]
  rw [if_pos h]
  cases a <;> simp [go_sem, storeCells]
theorem copy_bytes (w : World) (u : Value) (l : Bs) (hU : IsY w u l) (hl : l.length ≤ 1000000) :
    ∃ a c w1, (Builtin.append_ #[34, 34] 34 #[.slice (some ⟨w.heap.size, 0, none⟩) 0 0, u]).run Try.prog (w.alloc (.cells #[] 5)) = .ok (.slice a l.length c) w1 ∧ w1.ownsRow w.heap.size 5 1 (.slice a l.length c) l.length (bytesV l) ∧ Below w.heap.size w w1 := by
  have hb := below_alloc w (.cells #[] 5)
  have h0 := own_bytes w w.heap.size (Nat.le_refl _)
  rcases hU with ⟨rfl, a, c, rfl⟩ | ⟨b, o, cap, rfl, _, hc⟩
  · exact ⟨_, _, _, append_nothingY _ w.heap.size 0 0 a c (Nat.le_refl _) (by decide), h0, hb⟩
  · obtain ⟨v', w', hr, ho, hg, _, hat⟩ := run_append_own_at (P := Try.prog) (w.alloc (.cells #[] 5)) w.heap.size 34 34 5 Try.t5 (.int .u8 0) 1 1 Try.underlying34 (by kernel_rfl) (by kernel_rfl) (by kernel_rfl) (by kernel_rfl) (by kernel_rfl) (by omega)
      (.slice (some ⟨w.heap.size, 0, none⟩) 0 0) 0 [] h0 ⟨b, o, none⟩ l.length cap (bytesV l) (by rw [bytesV_len, Nat.mul_one])
      (by
        intro j u hu
        have hj : j < l.length := by rw [← bytesV_len]; exact (List.getElem?_eq_some_iff.1 hu).1
        rw [addr_addo, (hb.cell (cell_lt (hc j hj))).trans (hc j hj)]
        unfold bytesV at hu
        rw [List.getElem?_map, List.getElem?_eq_getElem hj] at hu
        exact hu) (by
        intro u hu
        unfold bytesV at hu
        obtain ⟨y, _, rfl⟩ := List.mem_map.1 hu
        rfl) (by unfold maxLen; omega) (by omega) hb.size
    rw [Nat.zero_add, List.nil_append] at ho
    obtain ⟨a, c, rfl⟩ := owns_formG ho
    exact ⟨a, c, w', hr, ho, hb.trans ((Below.refl _ _).grown hg hb.size (owns_blk h0))⟩
theorem block_len (b : Bs) : (blockB b).length = 256 := by unfold blockB; simp
set_option maxHeartbeats 1000000 in
theorem abytes_any (a : AV) (w : World) (hY : IsY w a.bv a.b) (hl : a.b.length ≤ 1000000) (hkv : ∃ p n c, a.kv = .slice p n c) :
    Calls Try.prog 28 #[acA a] w fun e w' => ∃ v, e = .returned v ∧ w'.ownsRow w.heap.size 5 1 v (acB a).length (bytesV (acB a)) ∧ Below w.heap.size w w' := by
  have hb0 := below_alloc w (.cells (acC a) 37)
  obtain ⟨ca, cc, w1, hr, ho, hb1⟩ := copy_bytes (w.alloc (.cells (acC a) 37)) a.bv a.b (hY.below hb0) hl
  have HBK := hide (rblock_any a.bv a.b (w.alloc (.cells (acC a) 37)) (hY.below hb0) hl)
  have s1 : (w.alloc (.cells (acC a) 37)).heap.size = w.heap.size + 1 := by simp
  rw [s1] at hr
  have hx : (w.alloc (.cells (acC a) 37)).cell? ⟨w.heap.size, 2, none⟩ = some a.bv := by simp [go_sem]
  have hx2 := ((below_alloc (w.alloc (.cells (acC a) 37)) (.cells #[] 5)).cell (cell_lt hx)).trans hx
  have HF1 : Hid (∃ v, Ending.returned (.slice ca a.b.length cc) = .returned v ∧ w1.ownsRow w.heap.size 5 1 v a.b.length (bytesV a.b) ∧ Below w.heap.size w w1) := hide ⟨_, rfl, own_base ho (by omega), hb0.trans (hb1.mono hb0.size)⟩
  have HB0 := hide hb0
  obtain ⟨kind, n, b, short, keep, bv, kv⟩ := a
  simp only [] at *
  obtain ⟨ba, bc, rfl⟩ := hY.form
  obtain ⟨kp, kn, kc, rfl⟩ := hkv
  clear hY ho hb1 hb0 s1 hx
  cases short
  · show Calls Try.prog _ _ w fun e w' => ∃ v, e = .returned v ∧ w'.ownsRow w.heap.size 5 1 v (blockB b).length (bytesV (blockB b)) ∧ Below w.heap.size w w'
    rw [block_len]
    clear hr hx2 HF1
    go_enter Try.func28, Try.ntmps28
    go_wp2_with fail
    refine HBK.out.mono ?_
    rintro e w2 ⟨v, rfl, ho, hb⟩
    have HF : Hid (∃ u, Ending.returned v = .returned u ∧ w2.ownsRow w.heap.size 5 1 u 256 (bytesV (blockB b)) ∧ Below w.heap.size w w2) := hide ⟨_, rfl, own_base ho HB0.out.size, HB0.out.trans (hb.mono HB0.out.size)⟩
    obtain ⟨va, vc, rfl⟩ := owns_formG ho
    clear ho hb HBK
    go_wp2
    go_ret
    exact HF.out
  · show Calls Try.prog _ _ w fun e w' => ∃ v, e = .returned v ∧ w'.ownsRow w.heap.size 5 1 v b.length (bytesV b) ∧ Below w.heap.size w w'
    clear HBK
    generalize b.length = bl at *
    go_enter Try.func28, Try.ntmps28
    go_wp2_with (at_builtin; refine Lib.wpList_append_run _ rfl (.tmp 5) (.tmp 7) _ _ rfl _ _ rfl rfl _ _ hr ?_)
    go_ret
    exact HF1.out
end Go.Proofs.Yteacldkfdhhphaa
