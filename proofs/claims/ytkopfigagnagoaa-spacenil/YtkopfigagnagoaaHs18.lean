/- A number more, at the end, and the number at the end taken. -/
import Derived.Test.YtkopfigagnagoaaHr18
import Derived.Deep.RegionLaw
set_option linter.unusedVariables false
set_option linter.unusedSimpArgs false
set_option maxRecDepth 4000
namespace Go.Proofs.Ytkopfigagnagoaa
open Go.RowKit

theorem step_append_run {P : Program} {ops : Array Oper} {o : Oper} {a : Act} {w : World} {K : Act → World → Prop} {Q : Exit → Act → World → Prop} {E : Prop}
    (hg : o.guard = none) (d x : Operand) (dT sT : TypeId) (hop : o.op = Op.call { callee := Callee.builtin Builtin.append, args := #[d, x], argTypes := #[dT, sT] })
    (v u : Value) (hd : a.eval d = v) (hx : a.eval x = u) {v' : Value} {w' : World} (hr : (Builtin.append_ #[dT, sT] o.type #[v, u]).run P w = .ok v' w') (hK : K (a.put o.dst v') w') :
    if Region.wanted o (yielded ops a.tmps) = true then Oper.wp P o a w K Q else E := by
  have hw : Region.wanted o (yielded ops a.tmps) = true := by simp [Region.wanted, hg]
  rw [if_pos hw]
  unfold Oper.wp
  simp [execOp, hop, resolve, invoke, builtin, hd, hx, hr, Result.andThen]
  exact hK
/-- What a call on a space's numbers writes to: the space's box and the row. -/
def nb18 (b : Nat) (v : Value) : Nat → Prop := fun k => k = b ∨ v.ownBlock = some k
theorem numsV_app (l : List Nat) (x : Nat) : numsV (l ++ [x]) = numsV l ++ [.int .i64 (x : Int)] := by
  unfold numsV
  rw [List.map_append]
  rfl
theorem numsV_one (l : List Nat) : ∀ u ∈ numsV l, u.oneCell' = true := by
  intro u hu
  obtain ⟨b, _, rfl⟩ := List.mem_map.1 hu
  rfl
/-- A number appended to a row of one's own, and the row put into its box. -/
theorem append_num (w : World) (T0 : Value) (b : Nat) (v : Value) (l : List Nat) (x : Nat) (h : NumS w T0 b v l) (hl : l.length < 4096) :
    ∃ v' w', (Builtin.append_ #[50, 50] 50 #[v, .slice (some ⟨w.heap.size, 0, none⟩) 1 1]).run Try.prog (w.alloc (.cells #[.int .i64 (x : Int)] 3)) = .ok v' w' ∧
      (∃ a c, v' = .slice a (l.length + 1) c) ∧ w'.cell? ⟨b, 1, none⟩ = some v ∧ w'.frozen? ⟨b, 1, none⟩ = false ∧ w'.heap[b]? = w.heap[b]? ∧
      ∀ W, Still (w'.setCell ⟨b, 1, none⟩ v') W → NumS W T0 b v' (l ++ [x]) ∧ ButA (nb18 b v) w W ∧ ∀ k, v'.ownBlock = some k → v.ownBlock = some k ∨ w.heap.size ≤ k := by
  have hb : b < w.heap.size := cell_lt h.cell
  have hx : ∀ k, v.ownBlock = some k → k < w.heap.size := fun k e => (h.row.lt k e).2
  obtain ⟨i, h1, h2, h3, h4⟩ : ∃ i, Try.prog.info? 3 = some i ∧ i.zero = some (.int .i64 0) ∧ i.size = 1 ∧ i.bytes = 8 := ⟨Try.t3, by kernel_rfl, by kernel_rfl, by kernel_rfl, by kernel_rfl⟩
  obtain ⟨v', w', hr, how, hg, _, hat⟩ := run_append_own_at (P := Try.prog) (w.alloc (.cells #[.int .i64 (x : Int)] 3)) 0 50 50 3 i (.int .i64 0) 1 8 Try.underlying50 h1 h2 h3 h4 rfl (by omega)
    v l.length (numsV l) (h.row.alloc _) ⟨w.heap.size, 0, none⟩ 1 1 (numsV [x]) rfl (fun j u hu => by
      rw [addr_add, cell_of_row _ w.heap.size j _ _ _ (heap_alloc_new w _)]
      simpa [numsV] using hu) (numsV_one _) (by unfold maxLen; omega) (by omega) (Nat.zero_le _)
  have hsz : (w.alloc (.cells #[.int .i64 (x : Int)] 3)).heap.size = w.heap.size + 1 := by simp
  have hkeep : ∀ k, k < w.heap.size → v.ownBlock ≠ some k → w'.heap[k]? = w.heap[k]? := fun k hk hne => (hg.block k (by omega) (fun e => hne e.symm)).trans ((below_alloc w _).block k hk)
  have hwb : w'.heap[b]? = w.heap[b]? := hkeep b hb h.apart
  have hwh : ∀ k, v'.ownBlock = some k → v.ownBlock = some k ∨ w.heap.size ≤ k := fun k e => by
    rcases hat with h5 | h5
    · exact .inl (h5 ▸ e)
    · rw [h5, hsz] at e
      injection e with e
      exact .inr (by omega)
  have hap : v'.ownBlock ≠ some b := fun e => by
    rcases hwh b e with h5 | h5
    · exact h.apart h5
    · omega
  have c1 : w'.cell? ⟨b, 1, none⟩ = some v := by rw [World.cell?_of_block (a := ⟨b, 1, none⟩) hwb]; exact h.cell
  have c2 : w'.frozen? ⟨b, 1, none⟩ = false := by rw [World.frozen?_of_block (a := ⟨b, 1, none⟩) hwb]; exact h.frozen
  have hf : ∃ a c, v' = .slice a (l.length + 1) c := by
    rcases how.2 with ⟨_, h6⟩ | ⟨g, cap, cur, rfl, _⟩
    · omega
    · exact ⟨_, _, rfl⟩
  refine ⟨v', w', hr, hf, c1, c2, hwb, fun W hW => ?_⟩
  have hN : NumS (w'.setCell ⟨b, 1, none⟩ v') T0 b v' (l ++ [x]) := by
    refine ⟨by rw [World.cell?_setCell_other _ _ _ _ (by simp), World.cell?_of_block (a := ⟨b, 0, none⟩) hwb]; exact h.cell0, by rw [World.frozen?_setCell, World.frozen?_of_block (a := ⟨b, 0, none⟩) hwb]; exact h.frozen0, World.cell?_setCell_same _ _ _ (by rw [c1]), by rw [World.frozen?_setCell]; exact c2, ?_, hap, by rw [List.length_append, List.length_singleton]; omega⟩
    rw [List.length_append, List.length_singleton, numsV_app]
    refine ownsRow_keep how fun k e => Below.heap_setCell _ _ _ _ (fun e2 => hap (by rw [e, e2]))
  refine ⟨hN.still hW, ?_, hwh⟩
  have hs1 : w.heap.size ≤ w'.heap.size := by have := hg.size; omega
  have hB : ButA (nb18 b v) w w' := ⟨hg.os, hg.tape, hg.output, hs1, fun k hk hn => hkeep k hk (fun e => hn (.inr e))⟩
  exact (hB.setCell (a := ⟨b, 1, none⟩) (.inl (.inl rfl)) v').trans (hW.but (fun _ => False)) (fun _ _ hf => hf.elim)
set_option maxHeartbeats 2000000 in
theorem npush_any (T0 : Value) (b : Nat) (v : Value) (l : List Nat) (x : Nat) (w : World) (h : NumS w T0 b v l) (hl : l.length < 4096) : Calls Try.prog 49 #[.pointer (some ⟨b, 1, none⟩), .iface 3 (.int .i64 (x : Int))] w fun e w' => e = .returned (.tuple #[]) ∧ ∃ v', NumS w' T0 b v' (l ++ [x]) ∧ ButA (nb18 b v) w w' ∧ ∀ k, v'.ownBlock = some k → v.ownBlock = some k ∨ w.heap.size ≤ k := by
  have hs : Still w w.drew := ⟨rfl, rfl, rfl, rfl⟩
  obtain ⟨v', w', hr, ⟨a', c', rfl⟩, c1, c2, _, hF⟩ := append_num w.drew T0 b v l x (h.still hs) hl
  have HF : Hid (∀ W, Still (w'.setCell ⟨b, 1, none⟩ (.slice a' (l.length + 1) c')) W → ∃ v', NumS W T0 b v' (l ++ [x]) ∧ ButA (nb18 b v) w W ∧ ∀ k, v'.ownBlock = some k → v.ownBlock = some k ∨ w.heap.size ≤ k) := hide (fun W hW => by
    obtain ⟨q1, q2, q3⟩ := hF W hW
    exact ⟨_, q1, ⟨q2.os, q2.tape, q2.output, q2.size, q2.block⟩, q3⟩)
  obtain ⟨a, c, rfl⟩ := h.form
  have c0 := h.cell
  have cF := h.frozen
  have hb : b < w.heap.size := cell_lt c0
  have c3 : (w.alloc (.cells #[.int .i64 (x : Int)] 3)).cell? ⟨b, 1, none⟩ = some (.slice a l.length c) := ((below_alloc w _).cell hb).trans c0
  have HR := hide hr
  have hta : ∀ W : World, (Instr.typeAssert (.iface 3 (.int .i64 (x : Int))) 20 3 false).run Try.prog W = .ok (.int .i64 (x : Int)) W := fun W => by kernel_rfl
  clear h hr hF hs
  generalize l.length = n at *
  go_enter Try.func49, Try.ntmps49
  go_wp2
  go_region_law (refine step_append_run rfl (.tmp 7) (.tmp 10) 50 50 rfl (.slice a n c) (.slice (some ⟨w.heap.size, 0, none⟩) 1 1) (by simp [Act.eval, Act.put]) (by simp [Act.eval, Act.put]) HR.out ?_)
  all_goals (try go_wp2)
  all_goals go_end0
  all_goals exact ⟨rfl, HF.out _ ⟨rfl, rfl, rfl, rfl⟩⟩
set_option maxHeartbeats 2000000 in
theorem npop_any (T0 : Value) (b : Nat) (v : Value) (l : List Nat) (m : Nat) (w : World) (h : NumS w T0 b v l) (hm : l.length = m + 1) : Calls Try.prog 48 #[.pointer (some ⟨b, 1, none⟩)] w fun e w' => e = .returned (.iface 3 (.int .i64 (atN l m : Int))) ∧ ∃ v', NumS w' T0 b v' (l.take m) ∧ ButA (nb18 b v) w w' ∧ ∀ k, v'.ownBlock = some k → v.ownBlock = some k := by
  obtain ⟨g, cap, rfl, hgb, hg, hc⟩ := h.some_ (by omega)
  have c0 := h.cell
  have cF := h.frozen
  have hle := h.le
  have cm := (h.at_ m (by omega)).1
  have HF : Hid (NumS (w.setCell ⟨b, 1, none⟩ (.slice (some ⟨g, 0, none⟩) m cap)) T0 b (.slice (some ⟨g, 0, none⟩) m cap) (l.take m) ∧ ButA (nb18 b (.slice (some ⟨g, 0, none⟩) l.length cap)) w (w.setCell ⟨b, 1, none⟩ (.slice (some ⟨g, 0, none⟩) m cap))) := hide (by
    have hlt : (l.take m).length = m := by rw [List.length_take]; omega
    refine ⟨⟨by rw [World.cell?_setCell_other _ _ _ _ (by simp)]; exact h.cell0, by rw [World.frozen?_setCell]; exact h.frozen0, World.cell?_setCell_same _ _ _ (by rw [c0]), by rw [World.frozen?_setCell]; exact cF, ?_, fun e => hgb (by injection e), by omega⟩, (ButA.refl _ w).setCell (a := ⟨b, 1, none⟩) (.inl (.inl rfl)) _⟩
    rw [hlt]
    refine ownsRow_keep (w := w) ?_ fun k e => Below.heap_setCell _ _ _ _ (fun e2 => hgb (by injection e with e; exact e.trans e2))
    rcases h.row.2 with ⟨h5, _⟩ | ⟨g', cap', cur, h5, h6, h7, h8, h9, h10, h11⟩
    · cases h5
    · injection h5 with e1 e2 e3
      injection e1 with e1
      injection e1 with e1
      subst e1
      subst e3
      refine ⟨by rw [numsV_len, hlt, Nat.mul_one], .inr ⟨g, cap, cur, rfl, h6, h7, by omega, h9, h10, ?_⟩⟩
      have : numsV (l.take m) = (numsV l).take m := by unfold numsV; rw [List.map_take]
      rw [this, ← h11, List.take_take, Nat.mul_one, Nat.mul_one, Nat.min_eq_left (by omega)])
  clear h
  generalize atN l m = y at *
  rw [hm] at *
  have hw2 : wrap64 (((m + 1 : Nat) : Int) - 1) = (m : Int) := by unfold wrap64; omega
  go_enter Try.func48, Try.ntmps48
  go_wp2
  go_ret
  exact ⟨rfl, _, HF.out.1, HF.out.2, fun k e => e⟩
end Go.Proofs.Ytkopfigagnagoaa
