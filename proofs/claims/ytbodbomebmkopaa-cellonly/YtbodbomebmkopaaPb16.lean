/- Bytes of one block, written over; what the program's put does. -/
import Derived.Test.YtbodbomebmkopaaPa16
import Derived.Lib.SlBuf
set_option linter.unusedVariables false
set_option linter.unusedSimpArgs false
set_option maxRecDepth 40000
namespace Go.Proofs.Ytbodbomebmkopaa
open Go.RowKit

/-- Bytes laid over others from a place on. -/
def setB (F : Bs) (o : Nat) : Bs → Bs
  | [] => F
  | v :: r => setB (F.set o v) (o + 1) r
theorem setB_len : ∀ (x : Bs) (F : Bs) (o : Nat), (setB F o x).length = F.length
  | [], F, o => rfl
  | v :: r, F, o => by rw [setB, setB_len r]; simp
theorem setB_get : ∀ (x : Bs) (F : Bs) (o j : Nat), o + x.length ≤ F.length → (setB F o x)[j]? = if o ≤ j ∧ j < o + x.length then x[j - o]? else F[j]?
  | [], F, o, j, h => by
    show F[j]? = _
    rw [if_neg (by rw [List.length_nil]; omega)]
  | v :: r, F, o, j, h => by
    have h' : o + (r.length + 1) ≤ F.length := h
    rw [setB, setB_get r (F.set o v) (o + 1) j (by rw [List.length_set]; omega), List.length_cons]
    by_cases h1 : j = o
    · subst h1
      rw [if_neg (by omega), if_pos (by omega), List.getElem?_set_self (by omega)]
      simp
    · rw [List.getElem?_set_ne (by omega)]
      by_cases h2 : o ≤ j ∧ j < o + (r.length + 1)
      · rw [if_pos (by omega), if_pos h2, show j - o = (j - (o + 1)) + 1 by omega, List.getElem?_cons_succ]
      · rw [if_neg (by omega), if_neg h2]
theorem setB_is (x F : Bs) (o : Nat) (h : o + x.length ≤ F.length) : setB F o x = F.take o ++ (x ++ F.drop (o + x.length)) := by
  apply List.ext_getElem?
  intro j
  rw [setB_get x F o j h]
  have hl : (F.take o).length = o := by rw [List.length_take]; omega
  by_cases h1 : o ≤ j
  · rw [List.getElem?_append_right (by omega), hl]
    by_cases h2 : j < o + x.length
    · rw [if_pos ⟨h1, h2⟩, List.getElem?_append_left (by omega)]
    · rw [if_neg (by omega), List.getElem?_append_right (by omega), List.getElem?_drop]
      congr 1
      omega
  · rw [if_neg (by omega), List.getElem?_append_left (by omega), List.getElem?_take, if_pos (by omega)]
theorem setB_front (F x : Bs) (o : Nat) (v : UInt8) (h : o + 1 + x.length ≤ F.length) : (setB F (o + 1) x).set o v = setB F o (v :: x) := by
  apply List.ext_getElem?
  intro j
  rw [setB_get (v :: x) F o j (by rw [List.length_cons]; omega), List.length_cons]
  by_cases h1 : j = o
  · subst h1
    rw [List.getElem?_set_self (by rw [setB_len]; omega), if_pos (by omega)]
    simp
  · rw [List.getElem?_set_ne (by omega), setB_get x F (o + 1) j (by omega)]
    by_cases h2 : o + 1 ≤ j ∧ j < o + 1 + x.length
    · rw [if_pos h2, if_pos (by omega), show j - o = (j - (o + 1)) + 1 by omega, List.getElem?_cons_succ]
    · rw [if_neg h2, if_neg (by omega)]
/-- What is laid behind what was laid. -/
theorem setB_next (A X Z x : Bs) (h : Z.length = x.length + X.length) : setB (A ++ Z) A.length x = A ++ x ++ Z.drop x.length := by
  rw [setB_is x _ _ (by rw [List.length_append]; omega), List.take_left, List.drop_append, List.drop_of_length_le (by omega), List.nil_append, show A.length + x.length - A.length = x.length by omega, List.append_assoc]
abbrev bytesV (l : Bs) : List Value := Lib.byteCells l
theorem bytesV_len (l : Bs) : (bytesV l).length = l.length := byteCells_len l
/-- All bytes of a block. -/
def BlkY (w : World) (g : Nat) (t : TypeId) (F : Bs) : Prop := w.heap[g]? = some (.cells (bytesV F).toArray t (0, 0))
theorem BlkY.cell {w : World} {g : Nat} {t : TypeId} {F : Bs} (h : BlkY w g t F) (j : Nat) (hj : j < F.length) : w.cell? ⟨g, j, none⟩ = some (.int .u8 (F[j].toNat : Int)) := by
  rw [cell_of_row w g j _ t _ h]
  have := byteCells_get F j hj
  simpa using this
theorem BlkY.frozen {w : World} {g : Nat} {t : TypeId} {F : Bs} (h : BlkY w g t F) (j : Nat) : w.frozen? ⟨g, j, none⟩ = false := by unfold BlkY at h; simp [World.frozen?, h]
theorem BlkY.lt {w : World} {g : Nat} {t : TypeId} {F : Bs} (h : BlkY w g t F) : g < w.heap.size := (Array.getElem?_eq_some_iff.1 h).1
theorem BlkY.keep {w W : World} {g : Nat} {t : TypeId} {F : Bs} (h : BlkY w g t F) (hk : W.heap[g]? = w.heap[g]?) : BlkY W g t F := hk.trans h
theorem bytesV_setA (F : Bs) (o : Nat) (v : UInt8) : (bytesV F).toArray.setIfInBounds o (.int .u8 (v.toNat : Int)) = (bytesV (F.set o v)).toArray := by
  apply Array.ext'
  simp [bytesV, Lib.byteCells, List.map_set]
theorem BlkY.set {w : World} {g : Nat} {t : TypeId} {F : Bs} (h : BlkY w g t F) (o : Nat) (v : UInt8) : BlkY (w.setCell ⟨g, o, none⟩ (.int .u8 (v.toNat : Int))) g t (F.set o v) := by
  unfold BlkY at *
  rw [setCell_eq_setRow w g o _ t _ _ h, setRow_heap w g _ _ t _ h, bytesV_setA]
theorem BlkY.isY {w : World} {g : Nat} {t : TypeId} {F : Bs} (h : BlkY w g t F) (o k cap : Nat) (hk : o + k ≤ F.length) (hc : k ≤ cap) : IsY w (.slice (some ⟨g, o, none⟩) k cap) ((F.drop o).take k) := by
  have hlen : ((F.drop o).take k).length = k := by rw [List.length_take, List.length_drop]; omega
  refine .inr ⟨g, o, cap, by rw [hlen], by rw [hlen]; omega, fun j hj => ?_⟩
  rw [hlen] at hj
  rw [h.cell (o + j) (by omega)]
  congr 3
  rw [List.getElem_take, List.getElem_drop]
/-- Nothing is written but block g. -/
structure ButG (g : Nat) (w w' : World) : Prop where
  os : w'.os = w.os
  tape : w'.tape = w.tape
  output : w'.output = w.output
  size : w'.heap.size = w.heap.size
  block : ∀ k, k ≠ g → w'.heap[k]? = w.heap[k]?
theorem ButG.refl (g : Nat) (w : World) : ButG g w w := ⟨rfl, rfl, rfl, rfl, fun _ _ => rfl⟩
theorem ButG.trans {g : Nat} {w w1 w2 : World} (h : ButG g w w1) (k : ButG g w1 w2) : ButG g w w2 := ⟨k.os.trans h.os, k.tape.trans h.tape, k.output.trans h.output, k.size.trans h.size, fun j hj => (k.block j hj).trans (h.block j hj)⟩
theorem ButG.setCell {g : Nat} {w w' : World} (h : ButG g w w') (o : Nat) (v : Value) : ButG g w (w'.setCell ⟨g, o, none⟩ v) := ⟨h.os, h.tape, h.output, by rw [← h.size]; simp [World.setCell], fun k hk => (Below.heap_setCell _ _ _ _ hk).trans (h.block k hk)⟩
theorem ButG.below {g n : Nat} {w w' : World} (h : ButG g w w') (hn : n ≤ g) : Below n w w' := ⟨h.os, h.tape, h.output, by have := h.size; omega, fun k hk => h.block k (by omega)⟩
theorem ButG.drew {g : Nat} {w w' : World} (h : ButG g w w') : ButG g w w'.drew := ⟨h.os, h.tape, h.output, h.size, h.block⟩
def PutR (w : World) (g o N n : Nat) (t : TypeId) (F : Bs) (e : Ending) (w' : World) : Prop := e = .returned (.tuple #[]) ∧ BlkY w' g t (setB F o (putB n N)) ∧ ButG g w w'
theorem div_next (n i : Nat) : ((n / 256 ^ i : Nat) : Int) / 256 = ((n / 256 ^ (i + 1) : Nat) : Int) := by
  rw [Nat.pow_succ, ← Nat.div_div_eq_div_mul]
  omega
set_option maxHeartbeats 4000000 in
theorem pput_any (g o N cap n : Nat) (t : TypeId) (F : Bs) (w : World) (hB : BlkY w g t F) (hN : N ≤ 8) (hoN : o + N ≤ F.length) (hF : F.length ≤ 1000) (hn : n < 18446744073709551616) : Calls Try.prog 22 #[.slice (some ⟨g, o, none⟩) N cap, .int .u64 (n : Int)] w (PutR w g o N n t F) := by
  have HS0 : Hid (BlkY w g t (setB F (o + N - 0) (putB n 0)) ∧ ButG g w w) := hide ⟨hB, ButG.refl _ _⟩
  have HP : Hid (∀ i, i < N → setB F (o + N - (i + 1)) (putB n (i + 1)) = (setB F (o + N - i) (putB n i)).set (o + N - (i + 1)) (UInt8.ofNat (n / 256 ^ i))) := hide (fun i hi => by
    have h := setB_front F (putB n i) (o + N - (i + 1)) (UInt8.ofNat (n / 256 ^ i)) (by rw [put_len]; omega)
    rw [show o + N - (i + 1) + 1 = o + N - i by omega] at h
    rw [h]
    rfl)
  have HL := hide (fun i => setB_len (putB n i) F (o + N - i))
  have HD := hide (fun i => div_next n i)
  have hn0 : ((n / 256 ^ 0 : Nat) : Int) = (n : Int) := by rw [Nat.pow_zero, Nat.div_one]
  clear hB
  go_enter Try.func22, Try.ntmps22
  go_wp2
  go_loopw [1, 7] (fun nv iv wr => ∃ (i : Nat), i ≤ N ∧ iv = .int .i64 (i : Int) ∧ nv = .int .u64 ((n / 256 ^ i : Nat) : Int) ∧ Hid (BlkY wr g t (setB F (o + N - i) (putB n i)) ∧ ButG g w wr)) (fun _ iv _ => N - (intOf iv).toNat)
  case atStart => exact ⟨0, Nat.zero_le _, rfl, by rw [hn0], HS0⟩
  case round =>
    clear HS0 hn0
    obtain ⟨i, hi, rfl, rfl, HS⟩ := hrel
    by_cases hlt : i < N
    · have hlt2 : (i : Int) < (N : Int) := by omega
      obtain ⟨q, rfl⟩ : ∃ q, N = i + 1 + q := ⟨N - (i + 1), by omega⟩
      have hq : o + (i + 1 + q) - (i + 1) = o + q := by omega
      have hw1 : wrap64 (((i + 1 + q : Nat) : Int) - 1) = ((i + q : Nat) : Int) := by unfold wrap64; omega
      have hw2 : wrap64 (((i + q : Nat) : Int) - (i : Int)) = (q : Int) := by unfold wrap64; omega
      have hp := HP.out i (by omega)
      rw [hq] at hp
      have hl := HL.out i
      have hc : wr.cell? ⟨g, o + q, none⟩ = some (.int .u8 (((setB F (o + (i + 1 + q) - i) (putB n i))[o + q]'(by rw [hl]; omega)).toNat : Int)) := HS.out.1.cell (o + q) (by rw [hl]; omega)
      have hf := HS.out.1.frozen (o + q)
      have hs := HS.out.1.set (o + q) (UInt8.ofNat (n / 256 ^ i))
      rw [← hp] at hs
      have hby : ((UInt8.ofNat (n / 256 ^ i)).toNat : Int) = ((n / 256 ^ i : Nat) : Int) % 256 := by rw [UInt8.toNat_ofNat']; rfl
      have hb2 := HS.out.2.setCell (o + q) (.int .u8 (((n / 256 ^ i : Nat) : Int) % 256))
      rw [hby] at hs
      have HS2 := hide (And.intro hs hb2)
      have hdv := HD.out i
      have hlq : q < i + 1 + q := by omega
      generalize hX : ((setB F (o + (i + 1 + q) - i) (putB n i))[o + q]'(by rw [hl]; omega)).toNat = X at *
      have hM : n / 256 ^ i < 18446744073709551616 := Nat.lt_of_le_of_lt (Nat.div_le_self _ _) hn
      clear hs hb2 hp hl HS HP HL HD hby hX hoN hF hn
      generalize hM2 : n / 256 ^ (i + 1) = M2 at *
      have HM2 := hide hM2
      clear hM2
      generalize n / 256 ^ i = M at *
      go_wp2
      go_roundw
      case rel => exact ⟨i + 1, by omega, by go_num, by rw [HM2.out], by rw [hq]; exact HS2⟩
      case measure => simp [intOf]; omega
    · have hlt2 : ¬ (i : Int) < (N : Int) := by omega
      obtain rfl : i = N := by omega
      have HF : Hid (PutR w g o i n t F (.returned (.tuple #[])) wr) := hide ⟨rfl, by have h := HS.out.1; rw [show o + i - i = o by omega] at h; exact h, HS.out.2⟩
      clear HS HP HL HD
      go_wp2
      go_end0
      exact HF.out
theorem cells_other (g : Nat) : ∀ (vs : List Value) (o : Nat) (w : World) (k : Nat), k ≠ g → (w.setCells g o vs).heap[k]? = w.heap[k]?
  | [], _, _, _, _ => rfl
  | v :: r, o, w, k, h => by rw [World.setCells, cells_other g r (o + 1) _ k h, Below.heap_setCell _ _ _ _ h]
theorem cells_size (g : Nat) : ∀ (vs : List Value) (o : Nat) (w : World), (w.setCells g o vs).heap.size = w.heap.size
  | [], _, _ => rfl
  | v :: r, o, w => by rw [World.setCells, cells_size g r]; simp [World.setCell]
theorem cells_out (g : Nat) : ∀ (vs : List Value) (o : Nat) (w : World), (w.setCells g o vs).os = w.os ∧ (w.setCells g o vs).tape = w.tape ∧ (w.setCells g o vs).output = w.output
  | [], _, _ => ⟨rfl, rfl, rfl⟩
  | v :: r, o, w => by rw [World.setCells]; exact cells_out g r (o + 1) _
theorem ButG.cells (g : Nat) (vs : List Value) (o : Nat) (w : World) : ButG g w (w.setCells g o vs) := by
  obtain ⟨h1, h2, h3⟩ := cells_out g vs o w
  exact ⟨h1, h2, h3, cells_size g vs o w, fun k hk => cells_other g vs o w k hk⟩
theorem BlkY.cells {g : Nat} {t : TypeId} : ∀ (x F : Bs) (o : Nat) (w : World), BlkY w g t F → BlkY (w.setCells g o (bytesV x)) g t (setB F o x)
  | [], F, o, w, h => h
  | v :: r, F, o, w, h => by
    show BlkY ((w.setCell ⟨g, o, none⟩ (.int .u8 (v.toNat : Int))).setCells g (o + 1) (bytesV r)) g t _
    exact BlkY.cells r (F.set o v) (o + 1) _ (h.set o v)
/-- copy(d, u), d a part of a block of the call's own. -/
theorem copy_isY (W : World) (g o dl dc : Nat) (t : TypeId) (F x : Bs) (u : Value) (hB : BlkY W g t F) (hU : IsY W u x) (hx : x.length ≤ dl) (ho : o + dl ≤ F.length) :
    ∃ W', (Builtin.copy_ #[23, 23] 3 #[.slice (some ⟨g, o, none⟩) dl dc, u]).run Try.prog W = .ok (.int .i64 (x.length : Int)) W' ∧ BlkY W' g t (setB F o x) ∧ ButG g W W' := by
  rcases hU with ⟨rfl, a, c, rfl⟩ | ⟨b, so, cap, rfl, _, hh⟩
  · exact ⟨W, run_copy_none W _ _ _ 5 _ _ _ _ _ _ Try.underlying23 (by kernel_rfl) (by simp), hB, ButG.refl _ _⟩
  · have h := run_copy_cells (P := Try.prog) W 23 23 3 5 g o dl dc ⟨b, so, none⟩ x.length cap (bytesV x) Try.underlying23 (by kernel_rfl) (by rw [bytesV_len]; exact (Nat.min_eq_left hx).symm)
      (fun j v hv => by
        have hj : j < x.length := by rw [← bytesV_len]; exact (List.getElem?_eq_some_iff.1 hv).1
        rw [byteCells_get x j hj] at hv
        rw [addr_addo, hh j hj]
        exact hv)
      (fun j hj => by rw [bytesV_len] at hj; rw [hB.cell (o + j) (by omega)]; rfl) (fun j _ => hB.frozen (o + j)) (byteCells_one x)
    rw [bytesV_len] at h
    exact ⟨_, h, BlkY.cells x F o W hB, ButG.cells g _ o W⟩
theorem step_wp {P : Program} {ops : Array Oper} {o : Oper} {a : Act} {w : World} {K : Act → World → Prop} {Q : Exit → Act → World → Prop} {E : Prop} (hgd : o.guard = none) (h : Oper.wp P o a w K Q) : if Region.wanted o (yielded ops a.tmps) = true then Oper.wp P o a w K Q else E := by
  have hw : Region.wanted o (yielded ops a.tmps) = true := by simp [Region.wanted, hgd]
  rw [if_pos hw]
  exact h
end Go.Proofs.Ytbodbomebmkopaa
