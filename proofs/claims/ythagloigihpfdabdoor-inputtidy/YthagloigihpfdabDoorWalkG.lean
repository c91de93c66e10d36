/- What the program's Lines answers, of whatever text: line feeds alone; nothing that was there is written. -/
import Derived.Test.YthagloigihpfdabDoorWalkF
set_option linter.unusedVariables false
set_option linter.unusedSimpArgs false
namespace Go.Proofs.YthagloigihpfdabDoor
open Go.RowKit

theorem dec_first (b : UInt8) (r : List UInt8) (h : b.toNat < 128) : decL1 (b :: r) = (b.toNat, 1) := dec_one _ _ _ _ _ h

theorem rune_not13 (l : List UInt8) (hl : l ≠ []) (h : (decL1 l).1 ≠ 13) : (decL1 l).2 ≤ l.length ∧ linesL l = l.take (decL1 l).2 ++ linesL (l.drop (decL1 l).2) := by
  have hb := pieceL_bd l hl
  have hno : ∀ c ∈ l.take (decL1 l).2, c ≠ 13 := by
    cases hg : goodL l
    · rw [dec_not_good l hl hg]
      cases l with
      | nil => exact absurd rfl hl
      | cons b r =>
        intro c hc
        simp only [List.take_succ_cons, List.take_zero, List.mem_cons, List.not_mem_nil, or_false] at hc
        subst hc
        intro e
        subst e
        simp [goodL] at hg
    · rw [(dec_good l hg).1]
      rcases whole_shape _ (whole_take l hg) with ⟨c, hc, hlt⟩ | hall
      · rw [hc]
        intro d hd
        simp only [List.mem_cons, List.not_mem_nil, or_false] at hd
        subst hd
        intro e
        subst e
        cases l with
        | nil => exact absurd rfl hl
        | cons b r =>
          have hb0 : b = 13 := by
            have := congrArg List.head? hc
            rw [List.head?_take] at this
            simpa [show pieceL (b :: r) ≠ 0 by omega] using this
          subst hb0
          exact h (by rw [dec_first 13 r (by decide)]; rfl)
      · intro c hc e
        have := hall c hc
        rw [e] at this
        exact absurd this (by decide)
  have hle : (decL1 l).2 ≤ l.length := by
    cases hg : goodL l
    · rw [dec_not_good l hl hg]; simp; omega
    · rw [(dec_good l hg).1]; omega
  refine ⟨hle, ?_⟩
  have e := linesL_app (l.take (decL1 l).2) (l.drop (decL1 l).2) hno
  rw [List.take_append_drop] at e
  exact e

theorem rune_13 (l : List UInt8) (hl : l ≠ []) (h : (decL1 l).1 = 13) : ∃ r, l = 13 :: r ∧ (decL1 l).2 = 1 := by
  cases l with
  | nil => exact absurd rfl hl
  | cons b r =>
    cases hg : goodL (b :: r)
    · rw [dec_not_good _ hl hg] at h; simp at h
    · by_cases hb : b = 13
      · subst hb
        exact ⟨r, rfl, by rw [dec_first 13 r (by decide)]⟩
      · have := (dec_good _ hg).2.2.1 (by
          simp only [List.head?_cons, Option.map_some]
          intro e
          exact hb (UInt8.toNat_inj.1 (Option.some.inj e)))
        exact absurd h this

theorem strCells_list (s : ByteArray) : Lib.strCells s = Lib.byteCells s.data.toList := by
  simp [Lib.strCells, Lib.byteCells]
theorem hasPrefix_lf (l : List UInt8) : Lib.hasPrefix l [10] = decide (l.head? = some 10) := by
  cases l with
  | nil => simp [Lib.hasPrefix]
  | cons b r =>
    simp only [Lib.hasPrefix, List.isPrefixOf, Bool.and_true, List.head?_cons, Option.some.injEq]
    rw [Bool.eq_iff_iff]
    simp
    exact eq_comm

theorem mid_more (l : List UInt8) (st p q : Nat) (h1 : st ≤ p) (h2 : p ≤ q) (h3 : q ≤ l.length) : (l.drop st).take (q - st) = (l.drop st).take (p - st) ++ (l.drop p).take (q - p) := by
  rw [show q - st = (p - st) + (q - p) by omega, List.take_add, List.drop_drop, show st + (p - st) = p by omega]

set_option maxHeartbeats 4000000 in
set_option maxRecDepth 1000000 in
theorem lines_any (s : ByteArray) (hs : s.size ≤ 10000000) (w : World) :
    Calls Tryd.prog 6 #[.string s] w fun e w' => e = .returned (.string ⟨(linesL s.data.toList).toArray⟩) ∧ Below w.heap.size w w' := by
  have HD : Hid (linesL s.data.toList = linesL s.data.toList) := rfl
  generalize hR : linesL s.data.toList = R at *
  have HR := hide hR
  clear hR HD
  go_enter Tryd.func6, Tryd.ntmps6
  go_wp2
  go_loopw [4] (fun ts wr => ∃ (pos st : Nat) (acc : List UInt8), ts = .int .i64 st ∧ Lib.IsBuilderF 31 5 w.heap.size w.heap.size (Lib.byteCells acc) wr ∧ wr.heap[w.heap.size + 1]? = some (.stringIter s pos) ∧ Below w.heap.size w wr ∧ st ≤ pos ∧ pos ≤ s.size ∧ acc.length ≤ st ∧ Hid (acc ++ ((s.data.toList.drop st).take (pos - st) ++ linesL (s.data.toList.drop pos)) = R)) (fun _ wr => s.size - wr.iterPos (w.heap.size + 1))
  case atStart =>
    refine ⟨0, 0, [], rfl, (Lib.IsBuilderF.of (Lib.fresh_isBuilder 31 5 w)).alloc _, ?_, ((Below.refl _ w).alloc (Nat.le_refl _) _).alloc (by simp) _, by omega, by omega, by simp, ?_⟩
    · have := World.iter_heap (w.alloc (.cells #[.pointer none, .slice none 0 0] 31)) s 0
      simpa using this
    · refine hide ?_
      rw [← HR.out]
      simp
  case round =>
    obtain ⟨pos, st, acc, rfl, hI, hit, hbw, hsp, hps, hal, HN⟩ := hrel
    have hsz : w.heap.size + 1 < wr.heap.size := (Array.getElem?_eq_some_iff.1 hit).1
    by_cases hp : pos < s.size
    · have hnx : ∀ ty, (Instr.next (.pointer (some ⟨w.heap.size + 1, 0, none⟩)) true ty).run Tryd.prog wr = _ := fun ty => Lib.run_next_any_at wr (w.heap.size + 1) s pos ty hit hp
      have hde := decode_list s pos
      have hp2 : pos < s.data.toList.length := by rw [← size_list]; exact hp
      obtain ⟨k1, _, _, _⟩ := conts_at _ pos hp2
      rw [hde] at hnx
      clear hde
      by_cases h13 : (decL1 (s.data.toList.drop pos)).1 = 13
      · obtain ⟨r, k2, k3⟩ := rune_13 _ (drop_ne hp2) h13
        have hr : s.data.toList.drop (pos + 1) = r := by
          rw [← List.drop_drop, k2]; rfl
        rw [h13, k3] at hnx
        have hm : (s.extract st pos).data.toList = (s.data.toList.drop st).take (pos - st) := Lib.extract_data s st pos
        have hmz : (s.extract st pos).size = pos - st := by
          rw [size_list, hm, List.length_take, List.length_drop, ← size_list]; omega
        have HM := hide hm
        have hI2 := hI.iterAt hit (pos + 1)
        have hit2 := Lib.iterAt_heap wr (w.heap.size + 1) s pos (pos + 1) hit
        have hbw2 := Lib.below_iterAt hbw (k := w.heap.size + 1) (by omega) s (pos + 1)
        have hsz2 : w.heap.size ≤ (wr.iterAt (w.heap.size + 1) s (pos + 1)).heap.size := by rw [Lib.iterAt_size]; omega
        have hpx := Tryd.strings_HasPrefix (s.extract (pos + 1) s.size) ⟨#[10]⟩
        rw [extract_drop, show (⟨#[10]⟩ : ByteArray).data.toList = [10] from rfl, hasPrefix_lf, hr] at hpx
        have HPX := hide hpx
        have HL : Hid (linesL (s.data.toList.drop pos) = if r.head? = some 10 then linesL r else 10 :: linesL r) := by
          refine hide ?_
          rw [k2]; simp [linesL]
        have HRR := hide hr
        have hmid : ∀ x : List UInt8, acc ++ ((s.data.toList.drop st).take (pos - st)) ++ x = R → acc ++ ((s.data.toList.drop st).take (pos - st) ++ x) = R := by
          intro x hx; rw [← List.append_assoc]; exact hx
        have HMID := hide hmid
        clear hpx k2 k3 hm h13 hr hmid k1
        by_cases h10 : r.head? = some 10
        · have HN2 : Hid ((acc ++ (s.data.toList.drop st).take (pos - st)) ++ ((s.data.toList.drop (pos + 1)).take (pos + 1 - (pos + 1)) ++ linesL (s.data.toList.drop (pos + 1))) = R) := by
            refine hide ?_
            rw [← HN.out, HL.out, if_pos h10, HRR.out]
            simp
          rw [decide_eq_true h10] at HPX
          clear HN HL HRR HMID h10
          go_wp2_with fail
          refine (Tryd.Builder_WriteString_k w.heap.size w.heap.size _ _ _ hI2 (by rw [Lib.byteCells_length, hmz]; omega) hsz2).mono ?_
          rintro e W1 ⟨rfl, h1, b1, k1⟩
          go_wp2_with fail
          refine (HPX.out _).mono ?_
          rintro e w2 ⟨rfl, rfl⟩
          go_wp2
          go_roundw
          case rel =>
            refine ⟨pos + 1, pos + 1, acc ++ (s.data.toList.drop st).take (pos - st), by go_num, ?_, k1.iter hit2 (by omega), hbw2.trans b1, by omega, by omega, by rw [List.length_append, List.length_take]; omega, HN2⟩
            rw [Lib.byteCells_append, ← HM.out, ← strCells_list]; exact Or.inr h1
          case measure =>
            simp only [World.iterPos, k1.iter hit2 (by omega), hit]
            omega
        · have HN2 : Hid (((acc ++ (s.data.toList.drop st).take (pos - st)) ++ [10]) ++ ((s.data.toList.drop (pos + 1)).take (pos + 1 - (pos + 1)) ++ linesL (s.data.toList.drop (pos + 1))) = R) := by
            refine hide ?_
            rw [← HN.out, HL.out, if_neg h10, HRR.out]
            simp
          rw [decide_eq_false h10] at HPX
          clear HN HL HRR HMID h10
          go_wp2_with fail
          refine (Tryd.Builder_WriteString_k w.heap.size w.heap.size _ _ _ hI2 (by rw [Lib.byteCells_length, hmz]; omega) hsz2).mono ?_
          rintro e W1 ⟨rfl, h1, b1, k1⟩
          go_wp2_with fail
          refine (HPX.out _).mono ?_
          rintro e w2 ⟨rfl, rfl⟩
          go_wp2_with fail
          have hI3 : Lib.IsBuilderF 31 5 w.heap.size w.heap.size (Lib.byteCells (acc ++ (s.data.toList.drop st).take (pos - st))) w2 := by
            rw [Lib.byteCells_append, ← HM.out, ← strCells_list]; exact Or.inr h1
          have hw1 : w.heap.size ≤ w2.heap.size := by
            have := (hbw2.trans b1).size
            omega
          refine (Tryd.Builder_WriteByte_k w.heap.size w.heap.size _ 10 _ hI3 (by rw [Lib.byteCells_length, List.length_append, List.length_take]; omega) hw1).mono ?_
          rintro e W2 ⟨rfl, h2, b2, k2⟩
          go_wp2
          go_roundw
          case rel =>
            refine ⟨pos + 1, pos + 1, (acc ++ (s.data.toList.drop st).take (pos - st)) ++ [10], by go_num, ?_, k2.iter (k1.iter hit2 (by omega)) (by omega), (hbw2.trans b1).trans b2, by omega, by omega, by rw [List.length_append, List.length_append, List.length_take]; simp; omega, HN2⟩
            rw [Lib.byteCells_append]; exact Or.inr h2
          case measure =>
            simp only [World.iterPos, k2.iter (k1.iter hit2 (by omega)) (by omega), hit]
            omega
      · obtain ⟨k2, k3⟩ := rune_not13 _ (drop_ne hp2) h13
        rw [List.length_drop, ← size_list] at k2
        have HN2 : Hid (acc ++ ((s.data.toList.drop st).take ((pos + (decL1 (s.data.toList.drop pos)).2) - st) ++ linesL (s.data.toList.drop (pos + (decL1 (s.data.toList.drop pos)).2))) = R) := by
          refine hide ?_
          rw [← HN.out, k3, mid_more _ st pos (pos + (decL1 (s.data.toList.drop pos)).2) hsp (by omega) (by rw [← size_list]; omega), List.drop_drop, Nat.add_sub_cancel_left]
          simp only [List.append_assoc]
        have hne : (((decL1 (s.data.toList.drop pos)).1 : Int) != 13) = true := by rw [bne_iff_ne]; omega
        clear k3 h13 HN
        generalize (decL1 (s.data.toList.drop pos)).2 = W at *
        generalize (decL1 (s.data.toList.drop pos)).1 = R1 at *
        have hI2 := hI.iterAt hit (pos + W)
        have hit2 := Lib.iterAt_heap wr (w.heap.size + 1) s pos (pos + W) hit
        have hbw2 := Lib.below_iterAt hbw (k := w.heap.size + 1) (by omega) s (pos + W)
        go_wp2
        go_roundw
        case rel => exact ⟨pos + W, st, acc, rfl, hI2, hit2, hbw2, by omega, by omega, hal, HN2⟩
        case measure =>
          simp only [World.iterPos, hit2, hit]
          omega
    · have hnx : ∀ ty, (Instr.next (.pointer (some ⟨w.heap.size + 1, 0, none⟩)) true ty).run Tryd.prog wr = _ := fun ty => Lib.run_next_end_at wr (w.heap.size + 1) s pos ty hit hp
      have HE : Hid (acc ++ s.data.toList.drop st = R) := by
        refine hide ?_
        have hz : s.data.toList.drop pos = [] := List.drop_eq_nil_of_le (by rw [← size_list]; omega)
        rw [← HN.out, hz, List.take_of_length_le (by rw [List.length_drop, ← size_list]; omega)]
        simp [linesL]
      have hm := extract_drop s st
      have hmz := extract_size s st
      have HM := hide hm
      have hsz2 : w.heap.size ≤ wr.heap.size := by omega
      clear HN hm
      go_wp2_with fail
      refine (Tryd.Builder_WriteString_k w.heap.size w.heap.size _ _ _ hI (by rw [Lib.byteCells_length, hmz]; omega) hsz2).mono ?_
      rintro e W1 ⟨rfl, h1, b1, k1⟩
      have hI3 : Lib.IsBuilderF 31 5 w.heap.size w.heap.size (Lib.byteCells (acc ++ s.data.toList.drop st)) W1 := by
        rw [Lib.byteCells_append, ← HM.out, ← strCells_list]; exact Or.inr h1
      have hw1 : w.heap.size ≤ W1.heap.size := by
        have := (hbw.trans b1).size
        omega
      go_wp2_with fail
      refine (Tryd.Builder_String_any_k w.heap.size w.heap.size _ _ hI3 hw1).mono ?_
      rintro e W2 ⟨rfl, _, b2, _⟩
      go_wp2
      go_ret
      exact ⟨ret_str HE.out, (hbw.trans b1).trans b2⟩
end Go.Proofs.YthagloigihpfdabDoor
