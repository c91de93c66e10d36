/- What the document's Piece answers: the length of the piece at a place, and whether it is good; the world but for its draws stays as it was. -/
import Derived.Test.YthagloigihpfdaaDoorWalkC
import Derived.Deep.QuietTactic
import Derived.BigQuiet
set_option linter.unusedVariables false
set_option linter.unusedSimpArgs false
namespace Go.Proofs.YthagloigihpfdaaDoor
open Go.RowKit

theorem run_index_at (s : ByteArray) (i : Nat) (z : Int) (hz : z = i) (h : i < s.size) (w : World) :
    (Instr.index 9 (.string s) (.int .i64 z)).run Tryd.prog w = .ok (.int .u8 (s[i].toNat : Int)) w := by
  subst hz
  simp [Instr.index, asIntOf, run_underlying Tryd.underlying9, h]

theorem eqKL (k L : Nat) : ((k : Int) == (L : Int)) = decide (k = L) := by
  rw [Bool.eq_iff_iff]; simp; omega

theorem ret_piece {a b : Int} {x y : Bool} (h1 : a = b) (h2 : x = y) : Ending.returned (.tuple #[.int .i64 a, .bool x]) = .returned (.tuple #[.int .i64 b, .bool y]) := by rw [h1, h2]

theorem longP_le (b : Nat) : longP b ≤ 4 := by
  have := need_le b
  unfold longP; (repeat' split) <;> omega

theorem piece_zero (b : UInt8) (r : List UInt8) (h : longP b.toNat = 0) : pieceL (b :: r) = 1 ∧ goodL (b :: r) = false := by
  have hn : need b.toNat = 0 ∧ ¬ b.toNat < 128 := by
    unfold longP at h
    (repeat' split at h) <;> omega
  constructor
  · simp [pieceL, hn.1, runL]
  · simp [goodL, hn.1, hn.2]
theorem piece_start (b : UInt8) (r : List UInt8) (h : longP b.toNat ≠ 0) : pieceL (b :: r) = 1 + runL (longP b.toNat - 1) (loK b.toNat 1) (hiK b.toNat 1) r := by
  have hn : longP b.toNat - 1 = need b.toNat := by
    unfold longP at h ⊢
    by_cases c : b.toNat < 128
    · have : need b.toNat = 0 := by unfold need; rw [if_pos (by omega)]
      simp [c, this]
    · rw [if_neg c] at h ⊢
      by_cases d : need b.toNat = 0
      · rw [if_pos d] at h; exact absurd rfl h
      · rw [if_neg d]; omega
  rw [hn]
  simp [pieceL, loK, hiK]
theorem piece_good (b : UInt8) (r : List UInt8) (h : longP b.toNat ≠ 0) : goodL (b :: r) = decide (pieceL (b :: r) = longP b.toNat) := by
  by_cases c : b.toNat < 128
  · have hn : need b.toNat = 0 := by unfold need; rw [if_pos (by omega)]
    have hl : longP b.toNat = 1 := by unfold longP; rw [if_pos c]
    simp [goodL, pieceL, c, hn, hl, runL]
  · have hn : need b.toNat ≠ 0 ∧ longP b.toNat = need b.toNat + 1 := by
      unfold longP at h ⊢
      rw [if_neg c] at h ⊢
      by_cases d : need b.toNat = 0
      · rw [if_pos d] at h; exact absurd rfl h
      · rw [if_neg d]; exact ⟨d, rfl⟩
    have h1 : 1 ≤ need b.toNat := by omega
    simp only [goodL, pieceL, hn.2, c, h1, decide_false, decide_true, Bool.false_or, Bool.true_and]
    congr 1
    apply propext
    omega

theorem fitsB_true {b k c : Nat} (h : fitsB b k c = true) : loK b k ≤ c ∧ c ≤ hiK b k := by
  simpa [fitsB] using h
theorem fitsB_false {b k c : Nat} (h : fitsB b k c = false) : ¬ (loK b k ≤ c ∧ c ≤ hiK b k) := by
  intro hh
  simp [fitsB, hh.1, hh.2] at h

theorem piece_ends (pl L k : Nat) (b : UInt8) (r : List UInt8) (hL : longP b.toNat = L) (h0 : L ≠ 0) (hp : pieceL (b :: r) = k) : goodL (b :: r) = decide (k = L) := by
  rw [piece_good b r (by omega), hp, hL]

set_option maxHeartbeats 1000000 in
theorem piece_none (s : ByteArray) (at' : Nat) (hs : s.size ≤ 1000000) (h0 : at' < s.size) (HL : Hid (longP s[at'].toNat = 0)) (w : World) :
    Calls Tryd.prog 28 #[.string s, .int .i64 (at' : Int)] w fun e w' => e = .returned (.tuple #[.int .i64 1, .bool false]) ∧ ∃ n, w' = w.drewN n := by
  have hlt := s[at'].toNat_lt
  go_enter Tryd.func28, Tryd.ntmps28
  go_wp2_with fail
  refine (long_any _ hlt _).mono ?_
  rintro e w' ⟨rfl, rfl⟩
  rw [HL.out]
  go_wp2
  go_ret2
  exact ⟨rfl, 0, rfl⟩

set_option maxHeartbeats 1000000 in
theorem piece_some (s : ByteArray) (at' L pl : Nat) (gd : Bool) (hs : s.size ≤ 1000000) (h0 : at' < s.size) (h1 : 1 ≤ L) (h4 : L ≤ 4) (HL : Hid (longP s[at'].toNat = L))
    (HP : Hid (pl = 1 + runL (L - 1) (loK s[at'].toNat 1) (hiK s[at'].toNat 1) (s.data.toList.drop (at' + 1)))) (HG : Hid (gd = decide (pl = L))) (w : World) :
    Calls Tryd.prog 28 #[.string s, .int .i64 (at' : Int)] w fun e w' => e = .returned (.tuple #[.int .i64 pl, .bool gd]) ∧ ∃ n, w' = w.drewN n := by
  have hlt := s[at'].toNat_lt
  have hb : ((L : Int) == 0) = false := beq_eq_false_iff_ne.2 (by omega)
  go_enter Tryd.func28, Tryd.ntmps28
  go_wp2_with fail
  refine (long_any _ hlt _).mono ?_
  rintro e w' ⟨rfl, rfl⟩
  rw [HL.out]
  go_wp2
  go_loopw [7] (fun t wr => ∃ k nq : Nat, 1 ≤ k ∧ k ≤ L ∧ at' + k ≤ s.size ∧ t = .int .i64 k ∧ Hid (wr = w'.drewN nq) ∧ Hid (pl = k + runL (L - k) (loK s[at'].toNat k) (hiK s[at'].toNat k) (s.data.toList.drop (at' + k)))) (fun t _ => s.size - (intOf t).toNat)
  case atStart => exact ⟨1, 0, by omega, by omega, by omega, rfl, rfl, HP⟩
  case round =>
    obtain ⟨k, nw, hk1, hk2, hk3, rfl, HW, HR⟩ := hrel
    by_cases c1 : k < L
    · by_cases c2 : at' + k < s.size
      · have hd := drop_cons s (at' + k) c2
        have hc := s[at' + k].toNat_lt
        have d1 : (k : Int) < L := by omega
        have hwr : IntKind.i64.wrap ((at' : Int) + k) = (at' : Int) + k := by rw [IntKind.wrap_i64]; omega
        have d2 : (at' : Int) + k < s.size := by omega
        have hix := run_index_at s (at' + k) ((at' : Int) + k) (by omega) c2
        cases hf : fitsB s[at'].toNat k s[at' + k].toNat
        · have HN : Hid (pl = k) := by
            refine hide ?_
            rw [HR.out, hd, runL_stop _ _ _ _ _ (fitsB_false hf), Nat.add_zero]
          clear HR hd
          go_wp2_with fail
          go_quiet ((go_at_call 38; exact Calls.quiet_of_same (fits_any _ _ _ _)))
          go_wp2
          go_ret2
          exact ⟨ret_piece (by rw [HN.out]) (by rw [HG.out, HN.out]; exact eqKL k L), _, by rw [HW.out, World.drewN_drewN]⟩
        · have HN : Hid (pl = (k + 1) + runL (L - (k + 1)) (loK s[at'].toNat (k + 1)) (hiK s[at'].toNat (k + 1)) (s.data.toList.drop (at' + (k + 1)))) := by
            refine hide ?_
            rw [HR.out, hd, show L - k = (L - (k + 1)) + 1 by omega, runL_step _ _ _ _ _ (fitsB_true hf)]
            have e1 : loK s[at'].toNat (k + 1) = 128 := by unfold loK; rw [if_neg (by omega)]
            have e2 : hiK s[at'].toNat (k + 1) = 191 := by unfold hiK; rw [if_neg (by omega)]
            rw [e1, e2, show at' + (k + 1) = at' + k + 1 by omega]
            omega
          clear HR hd
          go_wp2_with fail
          go_quiet ((go_at_call 38; exact Calls.quiet_of_same (fits_any _ _ _ _)))
          go_wp2
          go_roundw
          case rel => exact ⟨k + 1, nw + nq, by omega, by omega, by omega, by go_num, hide (by rw [HW.out, World.drewN_drewN]), HN⟩
          case measure => simp [intOf]; omega
      · have HN : Hid (pl = k) := by
          refine hide ?_
          rw [HR.out, List.drop_eq_nil_of_le (by simpa using Nat.le_of_not_lt c2), runL_nil, Nat.add_zero]
        clear HR
        have d1 : (k : Int) < L := by omega
        have hwr : IntKind.i64.wrap ((at' : Int) + k) = (at' : Int) + k := by rw [IntKind.wrap_i64]; omega
        have d2 : ((at' : Int) + k < s.size) = False := eq_false (by omega)
        go_wp2_with fail
        go_quiet (fail)
        go_wp2
        go_ret2
        exact ⟨ret_piece (by rw [HN.out]) (by rw [HG.out, HN.out]; exact eqKL k L), _, by rw [HW.out, World.drewN_drewN]⟩
    · have hkL : k = L := by omega
      have HN : Hid (pl = k) := by
        refine hide ?_
        rw [HR.out, show L - k = 0 by omega]; rfl
      clear HR
      have HK := hide hkL
      clear hkL
      have d1 : ((k : Int) < L) = False := eq_false (by omega)
      go_wp2_with fail
      go_quiet (fail)
      go_wp2
      go_ret2
      exact ⟨ret_piece (by rw [HN.out]) (by rw [HG.out, HN.out]; exact eqKL k L), _, by rw [HW.out, World.drewN_drewN]⟩

theorem piece_any (s : ByteArray) (at' : Nat) (hs : s.size ≤ 1000000) (h0 : at' < s.size) (w : World) :
    Calls Tryd.prog 28 #[.string s, .int .i64 (at' : Int)] w fun e w' => e = .returned (.tuple #[.int .i64 (pieceL (s.data.toList.drop at') : Nat), .bool (goodL (s.data.toList.drop at'))]) ∧ ∃ n, w' = w.drewN n := by
  rw [drop_cons s at' h0]
  by_cases hL : longP s[at'].toNat = 0
  · obtain ⟨p1, p2⟩ := piece_zero s[at'] (s.data.toList.drop (at' + 1)) hL
    rw [p1, p2]
    exact piece_none s at' hs h0 hL w
  · exact piece_some s at' (longP s[at'].toNat) _ _ hs h0 (by omega) (longP_le _) rfl (piece_start _ _ hL) (piece_good _ _ hL) w

end Go.Proofs.YthagloigihpfdaaDoor
