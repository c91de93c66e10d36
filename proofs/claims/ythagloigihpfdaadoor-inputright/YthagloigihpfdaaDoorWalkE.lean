/- What the program's Count and Valid answer, of whatever text: the pieces' number, and whether all are good; nothing that was there is written. -/
import Derived.Test.YthagloigihpfdaaDoorWalkB
import Derived.Test.YthagloigihpfdaaDoorPieces
import Derived.Test.YthagloigihpfdaaDoorShelf
import Derived.Lib.OthersKept
import Derived.Lib.IndexBytes
set_option linter.unusedVariables false
set_option linter.unusedSimpArgs false
namespace Go.Proofs.YthagloigihpfdaaDoor
open Go.RowKit

def Conts (l : List UInt8) (p e : Nat) : Prop := ∀ j, p ≤ j → j < e → ∃ c, l[j]? = some c ∧ 128 ≤ c.toNat ∧ c.toNat ≤ 191

theorem drop_ne {l : List UInt8} {p : Nat} (h : p < l.length) : l.drop p ≠ [] := by
  intro e
  have := congrArg List.length e
  simp at this
  omega
theorem conts_in (l : List UInt8) (p e : Nat) (h : Conts l p e) (hp : p < e) : decL1 (l.drop p) = (65533, 1) ∧ Conts l (p + 1) e := by
  obtain ⟨c, h1, h2, h3⟩ := h p (Nat.le_refl _) hp
  refine ⟨?_, fun j a b => h j (by omega) b⟩
  have e : l.drop p = c :: l.drop (p + 1) := by
    obtain ⟨hl, he⟩ := List.getElem?_eq_some_iff.1 h1
    rw [List.drop_eq_getElem_cons hl, he]
  rw [e]
  exact dec_not_good _ (by simp) (cont_not_good c _ h2 h3)
theorem conts_at (l : List UInt8) (p : Nat) (h : p < l.length) : 1 ≤ (decL1 (l.drop p)).2 ∧ p + (decL1 (l.drop p)).2 ≤ p + pieceL (l.drop p) ∧ p + pieceL (l.drop p) ≤ l.length ∧ Conts l (p + (decL1 (l.drop p)).2) (p + pieceL (l.drop p)) := by
  have hne := drop_ne h
  have hb := pieceL_bd _ hne
  rw [List.length_drop] at hb
  have hin : ∀ j, p + 1 ≤ j → j < p + pieceL (l.drop p) → ∃ c, l[j]? = some c ∧ 128 ≤ c.toNat ∧ c.toNat ≤ 191 := by
    intro j h1 h2
    obtain ⟨c, hc⟩ := pieceL_cont (l.drop p) (j - p) (by omega) (by omega)
    rw [List.getElem?_drop, show p + (j - p) = j by omega] at hc
    exact ⟨c, hc⟩
  cases hg : goodL (l.drop p)
  · rw [dec_not_good _ hne hg]
    exact ⟨by simp, by simp; omega, by omega, fun j a b => hin j a b⟩
  · rw [(dec_good _ hg).1]
    exact ⟨by omega, by omega, by omega, fun j a b => by omega⟩

theorem size_list (s : ByteArray) : s.size = s.data.toList.length := by
  rw [Array.length_toList]; rfl
theorem extract_drop (s : ByteArray) (a : Nat) : (s.extract a s.size).data.toList = s.data.toList.drop a := Lib.extract_to_end s a
theorem extract_size (s : ByteArray) (a : Nat) : (s.extract a s.size).size = s.size - a := by
  rw [size_list, extract_drop, List.length_drop, ← size_list]

theorem pieceLength_from (s : ByteArray) (p : Nat) (hs : s.size ≤ maxLen) (hp : p < s.size) (w : World) :
    Calls Tryd.prog 22 #[.string (s.extract p s.size)] w fun e w' => e = .returned (.int .i64 (pieceL (s.data.toList.drop p) : Nat)) ∧ w' = w := by
  have h := pieceLength_any (s.extract p s.size) (by rw [extract_size]; omega) (by rw [extract_size]; omega) w
  rw [extract_drop] at h
  exact h

set_option maxHeartbeats 1000000 in
theorem count_any (s : ByteArray) (hs : s.size ≤ maxLen) (w : World) :
    Calls Tryd.prog 14 #[.string s] w fun e w' => e = .returned (.int .i64 (countL s.data.toList : Nat)) ∧ Below w.heap.size w w' := by
  have hs0 := hs
  have HS := hide hs0
  unfold maxLen at hs
  clear hs0
  go_enter Tryd.func14, Tryd.ntmps14
  go_wp2
  go_loopw [3, 4] (fun tn te wr => ∃ n pos e : Nat, tn = .int .i64 n ∧ te = .int .i64 e ∧ n ≤ e ∧ pos ≤ e ∧ e ≤ s.size ∧ wr.heap[w.heap.size]? = some (.stringIter s pos) ∧ Below w.heap.size w wr ∧ Hid (Conts s.data.toList pos e) ∧ Hid (n + countL (s.data.toList.drop e) = countL s.data.toList)) (fun _ _ wr => s.size - wr.iterPos w.heap.size)
  case atStart =>
    refine ⟨0, 0, 0, rfl, rfl, by omega, by omega, by omega, ?_, (Below.refl _ w).alloc (Nat.le_refl _) _, fun j a b => by omega, ?_⟩
    · exact World.iter_heap w s 0
    · show 0 + countL (s.data.toList.drop 0) = _
      simp
  case round =>
    obtain ⟨n, pos, e, rfl, rfl, hn, hpe, hes, hit, hbw, HC, HN⟩ := hrel
    have hsz : w.heap.size < wr.heap.size := (Array.getElem?_eq_some_iff.1 hit).1
    by_cases hp : pos < s.size
    · have hnx : ∀ ty, (Instr.next (.pointer (some ⟨w.heap.size, 0, none⟩)) true ty).run Tryd.prog wr = _ := fun ty => Lib.run_next_any_at wr w.heap.size s pos ty hit hp
      have hde := decode_list s pos
      by_cases hlt : pos < e
      · obtain ⟨k1, k2⟩ := conts_in _ pos e HC.out hlt
        rw [hde, k1] at hnx
        clear hde k1
        have hit2 := Lib.iterAt_heap wr w.heap.size s pos (pos + 1) hit
        have hbw2 := Lib.below_iterAt hbw (k := w.heap.size) (by omega) s (pos + 1)
        have HC2 : Hid (Conts s.data.toList (pos + 1) e) := k2
        clear k2
        go_wp2
        go_roundw
        case rel => exact ⟨n, pos + 1, e, rfl, rfl, hn, by omega, hes, hit2, hbw2, HC2, HN⟩
        case measure =>
          simp only [World.iterPos, hit2, hit]
          omega
      · have hpe2 : pos = e := by omega
        subst hpe2
        have hp2 : pos < s.data.toList.length := by rw [← size_list]; exact hp
        obtain ⟨k1, k2, k3, k4⟩ := conts_at _ pos hp2
        have hcs := countL_step _ (drop_ne hp2)
        rw [hde] at hnx
        clear hde
        have hpc := pieceLength_from s pos HS.out hp
        have hpb := pieceL_bd _ (drop_ne hp2)
        rw [← size_list] at k3
        have HN2 : Hid ((n + 1) + countL (s.data.toList.drop (pos + pieceL (s.data.toList.drop pos))) = countL s.data.toList) := by
          refine hide ?_
          rw [← HN.out, hcs, List.drop_drop]
          omega
        have HC2 : Hid (Conts s.data.toList (pos + (decL1 (s.data.toList.drop pos)).2) (pos + pieceL (s.data.toList.drop pos))) := k4
        clear hcs k4 HN HC
        generalize (decL1 (s.data.toList.drop pos)).2 = W at *
        generalize (decL1 (s.data.toList.drop pos)).1 = R at *
        generalize pieceL (s.data.toList.drop pos) = pl at *
        have hit2 := Lib.iterAt_heap wr w.heap.size s pos (pos + W) hit
        have hbw2 := Lib.below_iterAt hbw (k := w.heap.size) (by omega) s (pos + W)
        have HPC := hide hpc
        clear hpc
        go_wp2_with fail
        refine (HPC.out _).mono ?_
        rintro e w' ⟨rfl, rfl⟩
        go_wp2
        go_roundw
        case rel => exact ⟨n + 1, pos + W, pos + pl, by go_num, by go_num, by omega, by omega, by omega, hit2, hbw2, HC2, HN2⟩
        case measure =>
          simp only [World.iterPos, hit2, hit]
          omega
    · have hnx : ∀ ty, (Instr.next (.pointer (some ⟨w.heap.size, 0, none⟩)) true ty).run Tryd.prog wr = _ := fun ty => Lib.run_next_end_at wr w.heap.size s pos ty hit hp
      have HE : Hid (n = countL s.data.toList) := by
        refine hide ?_
        have := HN.out
        rw [List.drop_eq_nil_of_le (by rw [← size_list]; omega), countL_nil] at this
        omega
      clear HN HC
      go_wp2
      go_ret
      exact ⟨ret_int (by rw [HE.out]), hbw⟩

theorem prefix_good (l : List UInt8) (h : Lib.hasPrefix l badB = true) : goodL l = true := by
  unfold Lib.hasPrefix at h
  obtain ⟨x, rfl⟩ := List.isPrefixOf_iff_prefix.1 h
  exact (good_app badB x badB_whole.1).1
theorem good_prefix (l : List UInt8) (hg : goodL l = true) (h : (decL1 l).1 = 65533) : Lib.hasPrefix l badB = true := by
  have h2 := (dec_good l hg).2.1
  rw [h] at h2
  have h3 : Lib.encodeRune ((65533 : Nat) : Int) = badB := by decide
  rw [h3] at h2
  unfold Lib.hasPrefix
  rw [List.isPrefixOf_iff_prefix, h2]
  exact List.take_prefix _ _

set_option maxHeartbeats 1000000 in
theorem valid_any (s : ByteArray) (hs : s.size ≤ maxLen) (w : World) :
    Calls Tryd.prog 13 #[.string s] w fun e w' => e = .returned (.bool (validL s.data.toList)) ∧ Below w.heap.size w w' := by
  unfold maxLen at hs
  go_enter Tryd.func13, Tryd.ntmps13
  go_wp2
  go_loopw [] (fun wr => ∃ pos : Nat, pos ≤ s.size ∧ wr.heap[w.heap.size]? = some (.stringIter s pos) ∧ Below w.heap.size w wr ∧ Hid (validL (s.data.toList.drop pos) = validL s.data.toList)) (fun wr => s.size - wr.iterPos w.heap.size)
  case atStart =>
    refine ⟨0, by omega, ?_, (Below.refl _ w).alloc (Nat.le_refl _) _, ?_⟩
    · exact World.iter_heap w s 0
    · show validL (s.data.toList.drop 0) = _
      simp
  case round =>
    obtain ⟨pos, hps, hit, hbw, HN⟩ := hrel
    have hsz : w.heap.size < wr.heap.size := (Array.getElem?_eq_some_iff.1 hit).1
    by_cases hp : pos < s.size
    · have hnx : ∀ ty, (Instr.next (.pointer (some ⟨w.heap.size, 0, none⟩)) true ty).run Tryd.prog wr = _ := fun ty => Lib.run_next_any_at wr w.heap.size s pos ty hit hp
      have hde := decode_list s pos
      have hp2 : pos < s.data.toList.length := by rw [← size_list]; exact hp
      have hvs := validL_step _ (drop_ne hp2)
      have hpb := pieceL_bd _ (drop_ne hp2)
      rw [List.length_drop, ← size_list] at hpb
      have hpx := Tryd.strings_HasPrefix (s.extract pos s.size) ⟨#[239, 191, 189]⟩
      rw [extract_drop] at hpx
      have hpx2 : ∀ w, Calls Tryd.prog 16 #[.string (s.extract pos s.size), .string ⟨#[239, 191, 189]⟩] w fun e w' => e = .returned (.bool (Lib.hasPrefix (s.data.toList.drop pos) badB)) ∧ w' = w := hpx
      clear hpx
      cases hg : goodL (s.data.toList.drop pos)
      · have HE : Hid (validL s.data.toList = false) := by
          refine hide ?_
          rw [← HN.out, hvs, hg]; rfl
        have hpf : Lib.hasPrefix (s.data.toList.drop pos) badB = false := by
          cases hq : Lib.hasPrefix (s.data.toList.drop pos) badB
          · rfl
          · rw [prefix_good _ hq] at hg; exact absurd hg (by decide)
        rw [hpf] at hpx2
        rw [hde, dec_not_good _ (drop_ne hp2) hg] at hnx
        have hbw2 := Lib.below_iterAt hbw (k := w.heap.size) (by omega) s (pos + 1)
        clear hvs hde hg HN hpf
        have HPX := hide hpx2
        clear hpx2
        go_wp2_with fail
        refine (HPX.out _).mono ?_
        rintro e w' ⟨rfl, rfl⟩
        go_wp2
        go_ret
        exact ⟨ret_bool HE.out.symm, hbw2⟩
      · have hdg := dec_good _ hg
        have HN2 : Hid (validL (s.data.toList.drop (pos + pieceL (s.data.toList.drop pos))) = validL s.data.toList) := by
          refine hide ?_
          rw [← HN.out, hvs, hg, List.drop_drop]; rfl
        have hpf := good_prefix _ hg
        rw [hde, hdg.1] at hnx
        clear hde hvs hg HN hdg
        generalize (decL1 (s.data.toList.drop pos)).1 = R at *
        generalize pieceL (s.data.toList.drop pos) = pl at *
        have hit2 := Lib.iterAt_heap wr w.heap.size s pos (pos + pl) hit
        have hbw2 := Lib.below_iterAt hbw (k := w.heap.size) (by omega) s (pos + pl)
        by_cases hR : R = 65533
        · rw [hpf hR] at hpx2
          subst hR
          have HPX := hide hpx2
          clear hpx2 hpf
          go_wp2_with fail
          refine (HPX.out _).mono ?_
          rintro e w' ⟨rfl, rfl⟩
          go_wp2
          go_roundw
          case rel => exact ⟨pos + pl, by omega, hit2, hbw2, HN2⟩
          case measure =>
            simp only [World.iterPos, hit2, hit]
            omega
        · have hRb : ((R : Int) == 65533) = false := beq_eq_false_iff_ne.2 (by omega)
          clear hpx2 hpf hR
          go_wp2
          go_roundw
          case rel => exact ⟨pos + pl, by omega, hit2, hbw2, HN2⟩
          case measure =>
            simp only [World.iterPos, hit2, hit]
            omega
    · have hnx : ∀ ty, (Instr.next (.pointer (some ⟨w.heap.size, 0, none⟩)) true ty).run Tryd.prog wr = _ := fun ty => Lib.run_next_end_at wr w.heap.size s pos ty hit hp
      have HE : Hid (validL s.data.toList = true) := by
        refine hide ?_
        rw [← HN.out, List.drop_eq_nil_of_le (by rw [← size_list]; omega), validL_nil]
      clear HN
      go_wp2
      go_ret
      exact ⟨ret_bool HE.out.symm, hbw⟩
end Go.Proofs.YthagloigihpfdaaDoor
