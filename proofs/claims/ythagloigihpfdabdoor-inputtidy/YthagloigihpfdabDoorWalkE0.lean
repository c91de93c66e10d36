/- What the program's Count answers, of whatever text: the pieces' number; nothing that was there is written. -/
import Derived.Test.YthagloigihpfdabDoorWalkB
import Derived.Test.YthagloigihpfdabDoorPieces
import Derived.Test.YthagloigihpfdabDoorShelf
import Derived.Lib.OthersKept
import Derived.Lib.IndexBytes
set_option linter.unusedVariables false
set_option linter.unusedSimpArgs false
namespace Go.Proofs.YthagloigihpfdabDoor
open Go.RowKit

def Conts (l : List UInt8) (p e : Nat) : Prop := ∀ j, p ≤ j → j < e → ∃ c, l[j]? = some c ∧ 128 ≤ c.toNat ∧ c.toNat ≤ 191

theorem drop_ne {l : List UInt8} {p : Nat} (h : p < l.length) : l.drop p ≠ [] := by
  intro e
  have := congrArg List.length e
  simp at this
  omega
theorem conts_in (l : List UInt8) (p e : Nat) (h : Conts l p e) (hp : p < e) : decL1 (l.drop p) = (65533, 1) ∧ Conts l (p + 1) e := by
  obtain ⟨c, h1, h2, h3⟩ := h p (Nat.le_refl _) hp
  refine ⟨?_, fun j a b => h j (by omega) b⟩
  have e : l.drop p = c :: l.drop (p + 1) := by
    obtain ⟨hl, he⟩ := List.getElem?_eq_some_iff.1 h1
    rw [List.drop_eq_getElem_cons hl, he]
  rw [e]
  exact dec_not_good _ (by simp) (cont_not_good c _ h2 h3)
theorem conts_at (l : List UInt8) (p : Nat) (h : p < l.length) : 1 ≤ (decL1 (l.drop p)).2 ∧ p + (decL1 (l.drop p)).2 ≤ p + pieceL (l.drop p) ∧ p + pieceL (l.drop p) ≤ l.length ∧ Conts l (p + (decL1 (l.drop p)).2) (p + pieceL (l.drop p)) := by
  have hne := drop_ne h
  have hb := pieceL_bd _ hne
  rw [List.length_drop] at hb
  have hin : ∀ j, p + 1 ≤ j → j < p + pieceL (l.drop p) → ∃ c, l[j]? = some c ∧ 128 ≤ c.toNat ∧ c.toNat ≤ 191 := by
    intro j h1 h2
    obtain ⟨c, hc⟩ := pieceL_cont (l.drop p) (j - p) (by omega) (by omega)
    rw [List.getElem?_drop, show p + (j - p) = j by omega] at hc
    exact ⟨c, hc⟩
  cases hg : goodL (l.drop p)
  · rw [dec_not_good _ hne hg]
    exact ⟨by simp, by simp; omega, by omega, fun j a b => hin j a b⟩
  · rw [(dec_good _ hg).1]
    exact ⟨by omega, by omega, by omega, fun j a b => by omega⟩

theorem size_list (s : ByteArray) : s.size = s.data.toList.length := by
  rw [Array.length_toList]; rfl
theorem extract_drop (s : ByteArray) (a : Nat) : (s.extract a s.size).data.toList = s.data.toList.drop a := Lib.extract_to_end s a
theorem extract_size (s : ByteArray) (a : Nat) : (s.extract a s.size).size = s.size - a := by
  rw [size_list, extract_drop, List.length_drop, ← size_list]

theorem pieceLength_from (s : ByteArray) (p : Nat) (hs : s.size ≤ maxLen) (hp : p < s.size) (w : World) :
    Calls Tryd.prog 16 #[.string (s.extract p s.size)] w fun e w' => e = .returned (.int .i64 (pieceL (s.data.toList.drop p) : Nat)) ∧ w' = w := by
  have h := pieceLength_any (s.extract p s.size) (by rw [extract_size]; omega) (by rw [extract_size]; omega) w
  rw [extract_drop] at h
  exact h

set_option maxHeartbeats 1000000 in
theorem count_any (s : ByteArray) (hs : s.size ≤ maxLen) (w : World) :
    Calls Tryd.prog 9 #[.string s] w fun e w' => e = .returned (.int .i64 (countL s.data.toList : Nat)) ∧ Below w.heap.size w w' := by
  have hs0 := hs
  have HS := hide hs0
  unfold maxLen at hs
  clear hs0
  go_enter Tryd.func9, Tryd.ntmps9
  go_wp2
  go_loopw [3, 4] (fun tn te wr => ∃ n pos e : Nat, tn = .int .i64 n ∧ te = .int .i64 e ∧ n ≤ e ∧ pos ≤ e ∧ e ≤ s.size ∧ wr.heap[w.heap.size]? = some (.stringIter s pos) ∧ Below w.heap.size w wr ∧ Hid (Conts s.data.toList pos e) ∧ Hid (n + countL (s.data.toList.drop e) = countL s.data.toList)) (fun _ _ wr => s.size - wr.iterPos w.heap.size)
  case atStart =>
    refine ⟨0, 0, 0, rfl, rfl, by omega, by omega, by omega, ?_, (Below.refl _ w).alloc (Nat.le_refl _) _, fun j a b => by omega, ?_⟩
    · exact World.iter_heap w s 0
    · show 0 + countL (s.data.toList.drop 0) = _
      simp
  case round =>
    obtain ⟨n, pos, e, rfl, rfl, hn, hpe, hes, hit, hbw, HC, HN⟩ := hrel
    have hsz : w.heap.size < wr.heap.size := (Array.getElem?_eq_some_iff.1 hit).1
    by_cases hp : pos < s.size
    · have hnx : ∀ ty, (Instr.next (.pointer (some ⟨w.heap.size, 0, none⟩)) true ty).run Tryd.prog wr = _ := fun ty => Lib.run_next_any_at wr w.heap.size s pos ty hit hp
      have hde := decode_list s pos
      by_cases hlt : pos < e
      · obtain ⟨k1, k2⟩ := conts_in _ pos e HC.out hlt
        rw [hde, k1] at hnx
        clear hde k1
        have hit2 := Lib.iterAt_heap wr w.heap.size s pos (pos + 1) hit
        have hbw2 := Lib.below_iterAt hbw (k := w.heap.size) (by omega) s (pos + 1)
        have HC2 : Hid (Conts s.data.toList (pos + 1) e) := k2
        clear k2
        go_wp2
        go_roundw
        case rel => exact ⟨n, pos + 1, e, rfl, rfl, hn, by omega, hes, hit2, hbw2, HC2, HN⟩
        case measure =>
          simp only [World.iterPos, hit2, hit]
          omega
      · have hpe2 : pos = e := by omega
        subst hpe2
        have hp2 : pos < s.data.toList.length := by rw [← size_list]; exact hp
        obtain ⟨k1, k2, k3, k4⟩ := conts_at _ pos hp2
        have hcs := countL_step _ (drop_ne hp2)
        rw [hde] at hnx
        clear hde
        have hpc := pieceLength_from s pos HS.out hp
        have hpb := pieceL_bd _ (drop_ne hp2)
        rw [← size_list] at k3
        have HN2 : Hid ((n + 1) + countL (s.data.toList.drop (pos + pieceL (s.data.toList.drop pos))) = countL s.data.toList) := by
          refine hide ?_
          rw [← HN.out, hcs, List.drop_drop]
          omega
        have HC2 : Hid (Conts s.data.toList (pos + (decL1 (s.data.toList.drop pos)).2) (pos + pieceL (s.data.toList.drop pos))) := k4
        clear hcs k4 HN HC
        generalize (decL1 (s.data.toList.drop pos)).2 = W at *
        generalize (decL1 (s.data.toList.drop pos)).1 = R at *
        generalize pieceL (s.data.toList.drop pos) = pl at *
        have hit2 := Lib.iterAt_heap wr w.heap.size s pos (pos + W) hit
        have hbw2 := Lib.below_iterAt hbw (k := w.heap.size) (by omega) s (pos + W)
        have HPC := hide hpc
        clear hpc
        go_wp2_with fail
        refine (HPC.out _).mono ?_
        rintro e w' ⟨rfl, rfl⟩
        go_wp2
        go_roundw
        case rel => exact ⟨n + 1, pos + W, pos + pl, by go_num, by go_num, by omega, by omega, by omega, hit2, hbw2, HC2, HN2⟩
        case measure =>
          simp only [World.iterPos, hit2, hit]
          omega
    · have hnx : ∀ ty, (Instr.next (.pointer (some ⟨w.heap.size, 0, none⟩)) true ty).run Tryd.prog wr = _ := fun ty => Lib.run_next_end_at wr w.heap.size s pos ty hit hp
      have HE : Hid (n = countL s.data.toList) := by
        refine hide ?_
        have := HN.out
        rw [List.drop_eq_nil_of_le (by rw [← size_list]; omega), countL_nil] at this
        omega
      clear HN HC
      go_wp2
      go_ret
      exact ⟨ret_int (by rw [HE.out]), hbw⟩

end Go.Proofs.YthagloigihpfdabDoor
