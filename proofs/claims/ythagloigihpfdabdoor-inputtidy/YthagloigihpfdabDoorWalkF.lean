/- What the program's Decode answers: the pieces of what stands behind the mark, one behind the other, each bad one replaced; nothing that was there is written. -/
import Derived.Test.YthagloigihpfdabDoorWalkE0
import Derived.BigCall
set_option linter.unusedVariables false
set_option linter.unusedSimpArgs false
namespace Go.Proofs.YthagloigihpfdabDoor
open Go.RowKit

theorem trim_strip (l : List UInt8) : Lib.trimPrefix l [239, 187, 191] = stripL l := rfl

theorem decL_length (l : List UInt8) : (decL l).length ≤ 3 * l.length := by
  refine pieces_ind (P := fun l => (decL l).length ≤ 3 * l.length) (by simp [decL_nil]) ?_ l
  intro l h ih
  have hb := pieceL_bd l h
  rw [decL_step l h, List.length_append]
  rw [List.length_drop] at ih
  have : (if goodL l = true then l.take (pieceL l) else badB).length ≤ 3 * pieceL l := by
    split
    · simp; omega
    · simp [badB]; omega
  omega

/-- What a round of the program's loop writes. -/
theorem rune_of (l : List UInt8) (h : l ≠ []) : Lib.encodeRune ((decL1 l).1 : Int) = (if goodL l = true then l.take (pieceL l) else badB) := by
  cases hg : goodL l
  · rw [dec_not_good l h hg, if_neg (by decide)]
    decide
  · rw [(dec_good l hg).2.1, if_pos rfl]

set_option maxHeartbeats 4000000 in
set_option maxRecDepth 1000000 in
theorem decode_any (l : List UInt8) (v : Value) (hl : l.length ≤ 1000000) (w : World) (hv : (convert 24 9 v).run Tryd.prog w = .ok (.string ⟨l.toArray⟩) w) :
    Calls Tryd.prog 8 #[v] w fun e w' => e = .returned (.string ⟨(DecL l).toArray⟩) ∧ Below w.heap.size w w' := by
  have htp := Tryd.strings_TrimPrefix ⟨l.toArray⟩ ⟨#[239, 187, 191]⟩
  have htp2 : ∀ w, Calls Tryd.prog 15 #[.string ⟨l.toArray⟩, .string ⟨#[239, 187, 191]⟩] w fun e w' => e = .returned (.string ⟨(stripL l).toArray⟩) ∧ w' = w := htp
  have HTP := hide htp2
  clear htp htp2
  have hsl : (stripL l).length ≤ 1000000 := by
    unfold stripL; split
    · simp; omega
    · exact hl
  have HD : Hid (DecL l = decL (stripL l)) := rfl
  generalize DecL l = R at *
  generalize hS : stripL l = S at *
  clear hS
  go_enter Tryd.func8, Tryd.ntmps8
  go_wp2_with fail
  refine (HTP.out _).mono ?_
  rintro e w' ⟨rfl, rfl⟩
  have hss : (⟨S.toArray⟩ : ByteArray).data.toList = S := rfl
  generalize (⟨S.toArray⟩ : ByteArray) = s at *
  subst hss
  rw [← size_list] at hsl
  go_wp2
  go_loopw [5] (fun te wr => ∃ (pos e : Nat) (acc : List UInt8), te = .int .i64 e ∧ Lib.IsBuilderF 31 5 w'.heap.size w'.heap.size (Lib.byteCells acc) wr ∧ wr.heap[w'.heap.size + 1]? = some (.stringIter s pos) ∧ Below w'.heap.size w' wr ∧ pos ≤ e ∧ e ≤ s.size ∧ acc.length ≤ 3 * e ∧ Hid (Conts s.data.toList pos e) ∧ Hid (acc ++ decL (s.data.toList.drop e) = decL s.data.toList)) (fun _ wr => s.size - wr.iterPos (w'.heap.size + 1))
  case atStart =>
    refine ⟨0, 0, [], rfl, (Lib.IsBuilderF.of (Lib.fresh_isBuilder 31 5 w')).alloc _, ?_, ((Below.refl _ w').alloc (Nat.le_refl _) _).alloc (by simp) _, by omega, by omega, by simp, fun j a b => by omega, ?_⟩
    · have := World.iter_heap (w'.alloc (.cells #[.pointer none, .slice none 0 0] 31)) s 0
      simpa using this
    · show [] ++ decL (s.data.toList.drop 0) = _
      simp
  case round =>
    obtain ⟨pos, e, acc, rfl, hI, hit, hbw, hpe, hes, hal, HC, HN⟩ := hrel
    have hsz : w'.heap.size + 1 < wr.heap.size := (Array.getElem?_eq_some_iff.1 hit).1
    by_cases hp : pos < s.size
    · have hnx : ∀ ty, (Instr.next (.pointer (some ⟨w'.heap.size + 1, 0, none⟩)) true ty).run Tryd.prog wr = _ := fun ty => Lib.run_next_any_at wr (w'.heap.size + 1) s pos ty hit hp
      have hde := decode_list s pos
      by_cases hlt : pos < e
      · obtain ⟨k1, k2⟩ := conts_in _ pos e HC.out hlt
        rw [hde, k1] at hnx
        clear hde k1
        have hit2 := Lib.iterAt_heap wr (w'.heap.size + 1) s pos (pos + 1) hit
        have hbw2 := Lib.below_iterAt hbw (k := w'.heap.size + 1) (by omega) s (pos + 1)
        have hI2 := hI.iterAt hit (pos + 1)
        have HC2 : Hid (Conts s.data.toList (pos + 1) e) := k2
        clear k2
        go_wp2
        go_roundw
        case rel => exact ⟨pos + 1, e, acc, rfl, hI2, hit2, hbw2, by omega, hes, hal, HC2, HN⟩
        case measure =>
          simp only [World.iterPos, hit2, hit]
          omega
      · have hpe2 : pos = e := by omega
        subst hpe2
        have hp2 : pos < s.data.toList.length := by rw [← size_list]; exact hp
        obtain ⟨k1, k2, k3, k4⟩ := conts_at _ pos hp2
        have hds := decL_step _ (drop_ne hp2)
        have hro := rune_of _ (drop_ne hp2)
        have hdl := decode_le s pos
        rw [hde] at hnx hdl
        clear hde
        have hpc := pieceLength_from s pos (by unfold maxLen; omega) hp
        have hpb := pieceL_bd _ (drop_ne hp2)
        rw [← size_list] at k3
        have hrl := Lib.runeCells_le ((decL1 (s.data.toList.drop pos)).1 : Int)
        rw [Lib.runeCells_length] at hrl
        have hwl : (Lib.encodeRune ((decL1 (s.data.toList.drop pos)).1 : Int)).length ≤ 3 * pieceL (s.data.toList.drop pos) := by
          rw [hro]
          split
          · simp; omega
          · simp [badB]; omega
        have HN2 : Hid ((acc ++ Lib.encodeRune ((decL1 (s.data.toList.drop pos)).1 : Int)) ++ decL (s.data.toList.drop (pos + pieceL (s.data.toList.drop pos))) = decL s.data.toList) := by
          refine hide ?_
          rw [← HN.out, hds, hro, List.drop_drop, List.append_assoc]
        have HC2 : Hid (Conts s.data.toList (pos + (decL1 (s.data.toList.drop pos)).2) (pos + pieceL (s.data.toList.drop pos))) := k4
        clear hds hro k4 HN HC
        generalize (decL1 (s.data.toList.drop pos)).2 = W at *
        generalize (decL1 (s.data.toList.drop pos)).1 = R1 at *
        generalize pieceL (s.data.toList.drop pos) = pl at *
        have hI2 := hI.iterAt hit (pos + W)
        have hit2 := Lib.iterAt_heap wr (w'.heap.size + 1) s pos (pos + W) hit
        have hbw2 := Lib.below_iterAt hbw (k := w'.heap.size + 1) (by omega) s (pos + W)
        have hsz2 : w'.heap.size ≤ (wr.iterAt (w'.heap.size + 1) s (pos + W)).heap.size := by rw [Lib.iterAt_size]; omega
        have HPC := hide hpc
        clear hpc
        go_wp2_with fail
        refine (HPC.out _).mono ?_
        rintro e w2 ⟨rfl, rfl⟩
        go_wp2_with fail
        refine (Tryd.Builder_WriteRune_k w'.heap.size w'.heap.size _ _ (by omega) (by omega) _ hI2 (by rw [Lib.byteCells_length]; omega) hsz2).mono ?_
        rintro e W1 ⟨rfl, h1, b1, k1⟩
        go_wp2
        go_roundw
        case rel =>
          refine ⟨pos + W, pos + pl, acc ++ Lib.encodeRune (R1 : Int), by go_num, ?_, k1.iter hit2 (by omega), hbw2.trans b1, by omega, by omega, by rw [List.length_append]; omega, HC2, HN2⟩
          rw [Lib.byteCells_append, Lib.byteCells_encodeRune]; exact Or.inr h1
        case measure =>
          simp only [World.iterPos, k1.iter hit2 (by omega), hit]
          omega
    · have hnx : ∀ ty, (Instr.next (.pointer (some ⟨w'.heap.size + 1, 0, none⟩)) true ty).run Tryd.prog wr = _ := fun ty => Lib.run_next_end_at wr (w'.heap.size + 1) s pos ty hit hp
      have HE : Hid (acc = R) := by
        refine hide ?_
        have h3 := HN.out
        rw [List.drop_eq_nil_of_le (by rw [← size_list]; omega), decL_nil, List.append_nil] at h3
        rw [h3, HD.out]
      clear HN HC HD
      go_wp2_with fail
      refine (Tryd.Builder_String_any_k w'.heap.size w'.heap.size acc _ hI (by omega)).mono ?_
      rintro e W1 ⟨rfl, _, b1, _⟩
      go_wp2
      go_ret
      exact ⟨ret_str HE.out, hbw.trans b1⟩
end Go.Proofs.YthagloigihpfdabDoor
