/- What the heap's Push and Pop, and least, answer. -/
import Derived.Test.YtkopfigagnagoaaHu18
set_option linter.unusedVariables false
set_option linter.unusedSimpArgs false
set_option maxRecDepth 4000
namespace Go.Proofs.Ytkopfigagnagoaa
open Go.RowKit

set_option maxHeartbeats 4000000 in
theorem nhpush_any (T0 : Value) (b : Nat) (v : Value) (l : List Nat) (x : Nat) (w : World) (h : NumS w T0 b v l) (hl : l.length < 4096) (hh : HeapN l l.length) : Calls Try.prog 25 #[.iface 56 (.pointer (some ⟨b, 1, none⟩)), .iface 3 (.int .i64 (x : Int))] w fun e w' => e = .returned (.tuple #[]) ∧ ∃ v' l', NumS w' T0 b v' l' ∧ l'.Perm (l ++ [x]) ∧ HeapN l' l'.length ∧ ButA (nb18 b v) w w' ∧ ∀ k, v'.ownBlock = some k → v.ownBlock = some k ∨ w.heap.size ≤ k := by
  have HC := hide (npush_any T0 b v l x w h hl)
  have HU := hide (heap_last hh x)
  have hm := meth_push ⟨b, 1, none⟩ w
  have hlen : (l ++ [x]).length = l.length + 1 := by rw [List.length_append, List.length_singleton]
  clear h hh
  go_enter Try.func25, Try.ntmps25
  go_wp2_with fail
  refine HC.out.mono ?_
  rintro e w1 ⟨rfl, v1, hn1, hb1, ho1⟩
  clear HC hm
  obtain ⟨a1, c1, rfl⟩ := hn1.form
  rw [hlen] at hn1 ho1
  have HN1 := hide hn1
  have HB1 := hide hb1
  have HO1 := hide ho1
  have hm := meth_len ⟨b, 1, none⟩ w1 _ hn1.cell
  have HL := hide (nlen_any a1 (l.length + 1) c1 w1)
  have hw : wrap64 ((l.length : Int) + 1 - 1) = (l.length : Int) := by unfold wrap64; omega
  have HC := hide (nup_any T0 b _ (l ++ [x]) l.length w1 hn1 (by omega) HU.out)
  clear hn1 hb1 ho1 HU
  go_wp2_with fail
  refine HL.out.mono ?_
  rintro e w2 ⟨rfl, rfl⟩
  clear HL hm
  go_wp2_with fail
  refine HC.out.mono ?_
  rintro e w3 ⟨rfl, l', q1, q2, q3, q4⟩
  clear HC
  have HF : Hid (∃ v' l', NumS w3 T0 b v' l' ∧ l'.Perm (l ++ [x]) ∧ HeapN l' l'.length ∧ ButA (nb18 b v) w w3 ∧ ∀ k, v'.ownBlock = some k → v.ownBlock = some k ∨ w.heap.size ≤ k) := hide ⟨_, l', q1, q2, q3, HB1.out.trans q4 (fun j hj hb => by
    rcases HO1.out j hb with h1 | h1
    · exact .inr h1
    · omega), HO1.out⟩
  clear q1 q2 q3 q4 HB1 HO1 HN1
  go_wp2
  go_end0
  exact ⟨rfl, HF.out⟩
set_option maxHeartbeats 4000000 in
theorem nhpop_any (T0 : Value) (b : Nat) (v : Value) (l : List Nat) (m : Nat) (w : World) (h : NumS w T0 b v l) (hm : l.length = m + 1) (hh : HeapN l l.length) : Calls Try.prog 26 #[.iface 56 (.pointer (some ⟨b, 1, none⟩))] w fun e w' => e = .returned (.iface 3 (.int .i64 (atN l 0 : Int))) ∧ ∃ v' l', NumS w' T0 b v' (l'.take m) ∧ l'.Perm (swapL l 0 m) ∧ atN l' m = atN l 0 ∧ HeapN l' m ∧ ButA (nb18 b v) w w' ∧ ∀ k, v'.ownBlock = some k → v.ownBlock = some k := by
  have hle := h.le
  have hf := heap_first hh (by omega)
  rw [hm, Nat.add_sub_cancel] at hf
  have HD := hide hf
  have hmm := meth_len ⟨b, 1, none⟩ w _ h.cell
  have hms := meth_swap ⟨b, 1, none⟩ w _ h.cell
  have HSW := hide (nswap_any T0 b v l 0 m w h (by omega) (by omega))
  have HAT : Hid (atN (swapL l 0 m) m = atN l 0) := hide (by rw [swap_at (by omega) (by omega), if_pos rfl])
  have HLN : Hid ((swapL l 0 m).length = m + 1) := hide (by rw [swap_len]; exact hm)
  obtain ⟨a, c, rfl⟩ := h.form
  rw [hm] at hmm hms HSW
  have HL := hide (nlen_any a (m + 1) c w)
  have hw : wrap64 ((m : Int) + 1 - 1) = (m : Int) := by unfold wrap64; omega
  rw [hm] at *
  clear h hh hf
  go_enter Try.func26, Try.ntmps26
  go_wp2_with fail
  refine HL.out.mono ?_
  rintro e w0 ⟨rfl, rfl⟩
  clear HL hmm
  go_wp2_with fail
  refine HSW.out.mono ?_
  rintro e w1 ⟨rfl, q1, q2⟩
  have HB1 := hide q2
  have HC := hide (ndown_any T0 b _ (swapL l 0 m) m w1 q1 (by rw [HLN.out]; omega) HD.out)
  clear q1 q2 HSW hms HD
  go_wp2_with fail
  refine HC.out.mono ?_
  rintro e w2 ⟨⟨q, rfl⟩, l', p1, p2, p3, p4, p5⟩
  have hl' : l'.length = m + 1 := by rw [p2.length_eq]; exact HLN.out
  have HP2 := hide (show l'.Perm (swapL l 0 m) from p2)
  have HA2 : Hid (atN l' m = atN l 0) := hide ((p4 m (Nat.le_refl _)).trans HAT.out)
  have HH2 := hide p3
  have HB2 := hide (HB1.out.trans p5 fun _ _ hb => hb)
  clear HC
  have HC := hide (npop_any T0 b _ l' m w2 p1 hl')
  have hmp := meth_pop ⟨b, 1, none⟩ w2
  clear p1 p2 p3 p4 p5 HB1 hl' HAT HLN
  go_wp2_with fail
  refine HC.out.mono ?_
  rintro e w3 ⟨rfl, v', r1, r2, r3⟩
  rw [HA2.out]
  have HF : Hid (∃ v' l', NumS w3 T0 b v' (l'.take m) ∧ l'.Perm (swapL l 0 m) ∧ atN l' m = atN l 0 ∧ HeapN l' m ∧ ButA (nb18 b (.slice a (m + 1) c)) w0 w3 ∧ ∀ k, v'.ownBlock = some k → (Value.slice a (m + 1) c).ownBlock = some k) := hide ⟨v', l', r1, HP2.out, HA2.out, HH2.out, (HB2.out.mono (fun k hk => .inr hk)).trans r2 fun _ _ hb => hb, r3⟩
  clear r1 r2 r3 HP2 HA2 HH2 HB2 HC hmp
  go_wp2
  go_ret
  exact ⟨rfl, HF.out⟩
set_option maxHeartbeats 4000000 in
theorem nleast_any (T0 : Value) (b : Nat) (v : Value) (l : List Nat) (m : Nat) (w : World) (h : NumS w T0 b v l) (hm : l.length = m + 1) (hh : HeapN l l.length) : Calls Try.prog 24 #[.pointer (some ⟨b, 1, none⟩)] w fun e w' => e = .returned (.int .i64 (atN l 0 : Int)) ∧ ∃ v' l', NumS w' T0 b v' (l'.take m) ∧ l'.Perm (swapL l 0 m) ∧ atN l' m = atN l 0 ∧ HeapN l' m ∧ ButA (nb18 b v) w w' ∧ ∀ k, v'.ownBlock = some k → v.ownBlock = some k := by
  have HC := hide (nhpop_any T0 b v l m w h hm hh)
  generalize hy : atN l 0 = y at *
  have HY := hide hy
  clear h hh hy
  have hta : ∀ W : World, (Instr.typeAssert (.iface 3 (.int .i64 (y : Int))) 20 3 false).run Try.prog W = .ok (.int .i64 (y : Int)) W := fun W => by kernel_rfl
  go_enter Try.func24, Try.ntmps24
  go_wp2_with fail
  refine HC.out.mono ?_
  rintro e w1 ⟨rfl, r1⟩
  have HF := hide r1
  clear r1 HC
  go_wp2
  go_ret
  exact ⟨rfl, HF.out⟩
end Go.Proofs.Ytkopfigagnagoaa
