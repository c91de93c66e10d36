/- What the document's nought and Block answer. -/
import Derived.Test.YteacldkfdhhphaaDi14
set_option linter.unusedVariables false
set_option linter.unusedSimpArgs false
set_option maxRecDepth 40000
namespace Go.Proofs.Yteacldkfdhhphaa
open Go.RowKit

theorem made_bytes (n : Nat) : (madeCells (Value.int .u8 0).cells (n * 1)).toList = bytesV (List.replicate n 0) := by
  rw [Nat.mul_one]
  have h := toList_madeCells_one (Value.int .u8 0) n
  rw [show (Value.int .u8 0).cells = #[Value.int .u8 0] from rfl, h]
  unfold bytesV
  rw [List.map_replicate]
  rfl
theorem make_bytes (w : World) (n : Nat) (hn : n ≤ 1000000) : ∃ w1, (Instr.makeSlice 34 (.int .i64 (n : Int)) (.int .i64 (n : Int))).run Try.prog w = .ok (.slice (some ⟨w.heap.size, 0, none⟩) n n) w1 ∧ w1.ownsRow w.heap.size 5 1 (.slice (some ⟨w.heap.size, 0, none⟩) n n) n (bytesV (List.replicate n 0)) ∧ Below w.heap.size w w1 := by
  obtain ⟨w1, h1, h2, h3⟩ := run_make_full (P := Try.prog) w w.heap.size 34 5 Try.t5 (.int .u8 0) 1 Try.underlying34 (by kernel_rfl) (by kernel_rfl) (by kernel_rfl) .i64 .i64 n (by rw [show Try.t5.bytes = 1 from by kernel_rfl]; omega) (by unfold maxLen; omega) (Nat.le_refl _)
  rw [made_bytes] at h2
  exact ⟨w1, h1, h2, (Below.refl _ w).grown h3 (Nat.le_refl _) (fun k hk => by cases hk)⟩
theorem own_cells {w : World} {B g cap : Nat} {l : Bs} (h : w.ownsRow B 5 1 (.slice (some ⟨g, 0, none⟩) l.length cap) l.length (bytesV l)) : ∀ j (hj : j < l.length), w.cell? ⟨g, 0 + j, none⟩ = some (.int .u8 (l[j].toNat : Int)) := fun j hj => by
  rw [Nat.zero_add, h.cellAt j (by omega)]
  unfold bytesV
  rw [List.getElem?_map, List.getElem?_eq_getElem hj]
  rfl
set_option maxHeartbeats 1000000 in
theorem rnought_any (w : World) : Calls Try.prog 27 #[] w fun e w' => e = .returned (.string ⟨noughtB.toArray⟩) ∧ Below w.heap.size w w' := by
  obtain ⟨w1, h1, h2, h3⟩ := make_bytes w 64 (by omega)
  have hc := conv_bytes w1 w.heap.size 0 64 noughtB (own_cells (l := noughtB) h2)
  rw [show noughtB.length = 64 from rfl] at hc
  have h1' : (Instr.makeSlice 34 (.int .i64 64) (.int .i64 64)).run Try.prog w = .ok (.slice (some ⟨w.heap.size, 0, none⟩) 64 64) w1 := h1
  have BB := hide h3
  clear h1 h2 h3
  generalize (⟨noughtB.toArray⟩ : ByteArray) = Z at *
  go_enter Try.func27, Try.ntmps27
  go_wp2
  go_ret
  exact ⟨rfl, BB.out⟩
def blkP (b : Bs) (i : Nat) : Bs := (List.range 256).map fun j => if j < i then b.getD (j % b.length) 0 else 0
theorem blk_len (b : Bs) (i : Nat) : (blkP b i).length = 256 := by unfold blkP; simp
theorem blk_get (b : Bs) (i j : Nat) (h : j < (blkP b i).length) : (blkP b i)[j] = if j < i then b.getD (j % b.length) 0 else 0 := by simp [blkP]
theorem blk_start (b : Bs) : blkP b 0 = List.replicate 256 0 := by
  apply List.ext_getElem
  · rw [blk_len, List.length_replicate]
  · intro j h1 h2
    rw [blk_get, List.getElem_replicate, if_neg (by omega)]
theorem blk_end (b : Bs) : blkP b 256 = blockB b := by
  unfold blkP blockB
  apply List.map_congr_left
  intro j hj
  rw [if_pos (List.mem_range.1 hj)]
theorem blk_none (i : Nat) : blkP [] i = blockB [] := by
  unfold blkP blockB
  apply List.map_congr_left
  intro j hj
  simp
theorem blk_step (b : Bs) (i : Nat) (h : i < 256) (hb : i % b.length < b.length) : blkP b (i + 1) = (blkP b i).set i b[i % b.length] := by
  apply List.ext_getElem
  · rw [List.length_set, blk_len, blk_len]
  · intro j h1 h2
    rw [List.getElem_set, blk_get, blk_get]
    rw [blk_len] at h1
    by_cases hj : i = j
    · subst hj
      rw [if_pos rfl, if_pos (by omega), List.getD_eq_getElem?_getD, List.getElem?_eq_getElem hb]
      rfl
    · rw [if_neg hj]
      by_cases hji : j < i
      · rw [if_pos hji, if_pos (by omega)]
      · rw [if_neg hji, if_neg (by omega)]
theorem bytesV_set (l : Bs) (j : Nat) (x : UInt8) : bytesV (l.set j x) = (bytesV l).set j (.int .u8 (x.toNat : Int)) := by
  unfold bytesV
  rw [List.map_set]
set_option maxHeartbeats 2000000 in
theorem rblock_any (bv : Value) (b : Bs) (w : World) (hY : IsY w bv b) (hl : b.length ≤ 1000000) :
    Calls Try.prog 24 #[bv] w fun e w' => ∃ v, e = .returned v ∧ w'.ownsRow w.heap.size 5 1 v 256 (bytesV (blockB b)) ∧ Below w.heap.size w w' := by
  obtain ⟨w1, h1, h2, h3⟩ := make_bytes w 256 (by omega)
  have h1' : (Instr.makeSlice 34 (.int .i64 256) (.int .i64 256)).run Try.prog w = .ok (.slice (some ⟨w.heap.size, 0, none⟩) 256 256) w1 := h1
  rw [← blk_start b] at h2
  have HO := hide h2
  have HB := hide h3
  have HY := hide (fun x (b : Below w.heap.size w x) => hY.below b)
  obtain ⟨ba, bc, rfl⟩ := hY.form
  clear h1 h2 h3 hY
  go_enter Try.func24, Try.ntmps24
  go_wp2
  clear h1'
  go_loopw [4] (fun vi wr => ∃ i : Nat, vi = .int .i64 (i : Int) ∧ i ≤ 256 ∧ Hid (wr.ownsRow w.heap.size 5 1 (.slice (some ⟨w.heap.size, 0, none⟩) 256 256) 256 (bytesV (blkP b i))) ∧ Hid (Below w.heap.size w wr)) (fun vi _ => 256 - (intOf vi).toNat)
  case atStart => exact ⟨0, rfl, Nat.zero_le _, HO, HB⟩
  case round =>
    clear HO HB
    obtain ⟨i, rfl, hi, HO, HB⟩ := hrel
    by_cases hlt : i < 256
    · have hlt2 : (i : Int) < 256 := by omega
      by_cases hbl : 0 < b.length
      · have hbl2 : (0 : Int) < b.length := by omega
        have hbl3 : ((b.length : Int) == 0) = false := by rw [beq_eq_false_iff_ne]; omega
        have hr0 : i % b.length < b.length := Nat.mod_lt _ hbl
        rcases HY.out wr HB.out with ⟨h0, _⟩ | ⟨bb, bo, cap, e, hc1, hc2⟩
        · rw [h0] at hbl; simp at hbl
        injection e with e _ e3
        subst e e3
        have hcell := hc2 (i % b.length) hr0
        have hst := (HO.out.stored i (.int .u8 (b[i % b.length].toNat : Int))).1
        rw [← bytesV_set, ← blk_step b i hlt hr0] at hst
        have q0 : wr.cell? ⟨w.heap.size, i, none⟩ = (bytesV (blkP b i))[i]? := HO.out.cellAt i (by omega)
        obtain ⟨old, hold⟩ : ∃ old, wr.cell? ⟨w.heap.size, i, none⟩ = some old := ⟨_, q0.trans (List.getElem?_eq_getElem (by rw [bytesV_len, blk_len]; omega))⟩
        have q1 := HO.out.frozenAt i
        have HST := hide hst
        have HB2 := hide (HB.out.setCell (p := ⟨w.heap.size, i, none⟩) (Nat.le_refl _) (.int .u8 (b[i % b.length].toNat : Int)))
        have hrem : (i : Int).tmod b.length = ((i % b.length : Nat) : Int) := by rw [Int.tmod_eq_emod_of_nonneg (by omega)]; omega
        have hrem2 : (i : Int) % b.length = ((i % b.length : Nat) : Int) := by omega
        clear hst q0 hc1 hc2 HO
        generalize b[i % b.length].toNat = xb at *
        generalize i % b.length = r at *
        have hr1 : (r : Int) < b.length := by omega
        go_wp2
        go_roundw
        case rel => exact ⟨i + 1, by go_num, by omega, HST, HB2⟩
        case measure => simp [intOf]; omega
      · obtain rfl : b = [] := List.eq_nil_of_length_eq_zero (by omega)
        have ho := HO.out
        rw [blk_none] at ho
        have HF : Hid (∃ v, Ending.returned (.slice (some ⟨w.heap.size, 0, none⟩) 256 256) = .returned v ∧ wr.ownsRow w.heap.size 5 1 v 256 (bytesV (blockB [])) ∧ Below w.heap.size w wr) := hide ⟨_, rfl, ho, HB.out⟩
        clear ho HO hbl
        go_wp2
        go_ret
        exact HF.out
    · have hlt2 : ¬ (i : Int) < 256 := by omega
      obtain rfl : i = 256 := by omega
      have ho := HO.out
      rw [blk_end] at ho
      have HF : Hid (∃ v, Ending.returned (.slice (some ⟨w.heap.size, 0, none⟩) 256 256) = .returned v ∧ wr.ownsRow w.heap.size 5 1 v 256 (bytesV (blockB b)) ∧ Below w.heap.size w wr) := hide ⟨_, rfl, ho, HB.out⟩
      clear ho HO
      go_wp2
      go_ret
      exact HF.out
end Go.Proofs.Yteacldkfdhhphaa
