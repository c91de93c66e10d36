/- CrcOne's walk. -/
import Derived.Test.YtffdlpcdjmhfkaaLc15
set_option linter.unusedVariables false
set_option linter.unusedSimpArgs false
set_option maxRecDepth 40000
namespace Go.Proofs.Ytffdlpcdjmhfkaa
open Go.RowKit

theorem xor8 (X Y : UInt8) : bits BinOp.xor IntKind.u8 (X.toNat : Int) (Y.toNat : Int) = ((X ^^^ Y).toNat : Int) := by
  have h1 : BitVec.ofInt 8 (X.toNat : Int) = X.toBitVec := by rw [BitVec.ofInt_natCast]; simp
  have h2 : BitVec.ofInt 8 (Y.toNat : Int) = Y.toBitVec := by rw [BitVec.ofInt_natCast]; simp
  have h3 : ((X ^^^ Y).toNat : Int) < 256 := by have := (X ^^^ Y).toBitVec.isLt; show ((X ^^^ Y).toBitVec.toNat : Int) < 256; omega
  show IntKind.u8.wrap ((BitVec.ofInt 8 (X.toNat : Int) ^^^ BitVec.ofInt 8 (Y.toNat : Int)).toNat : Int) = _
  rw [h1, h2]
  simp only [IntKind.wrap]
  rw [show IntKind.u8.signed = false from rfl, Bool.false_and, if_neg (by simp)]
  show ((X ^^^ Y).toNat : Int) % 256 = _
  omega
theorem xor8_zero (x z : UInt8) : x = x ^^^ z ↔ z = 0 := by
  constructor
  · intro h
    have h2 : x ^^^ x = x ^^^ (x ^^^ z) := congrArg (x ^^^ ·) h
    rw [← UInt8.xor_assoc, UInt8.xor_self, UInt8.zero_xor] at h2
    exact h2.symm
  · rintro rfl
    rw [UInt8.xor_zero]
theorem one_set (b : Bs) (i : Nat) (hi : i < b.length) (z : UInt8) : (sumB b = sumB (b.set i (b[i] ^^^ z))) ↔ z = 0 := by
  have e1 : b = b.take i ++ b[i] :: b.drop (i + 1) := by
    rw [← List.drop_eq_getElem_cons hi, List.take_append_drop]
  have e2 : b.set i (b[i] ^^^ z) = b.take i ++ (b[i] ^^^ z) :: b.drop (i + 1) := List.set_eq_take_append_cons_drop .. |>.trans (if_pos hi)
  have h := sum_one (b.take i) b[i] (b[i] ^^^ z) (b.drop (i + 1))
  rw [← e2, ← e1] at h
  exact h.trans (xor8_zero _ _)
set_option maxHeartbeats 8000000 in
theorem crcOne_walk (v : Value) (b : Bs) (i : Int) (hi : (Lit.int .i64 i).wf = true) (z : Int) (hz : (Lit.int .u8 z).wf = true) (w : World) (hY : IsY w v b) (hYl : b.length ≤ 9223372036854775807) :
    Calls Try.prog 6 #[v, .int .i64 i, .int .u8 z] w fun e w' => e = .returned (.bool true) ∧ Below w.heap.size w w' := by
  obtain ⟨a, c, rfl⟩ := hY.form
  obtain ⟨Z, rfl⟩ := u8_is hz
  have HAL := hide alive_any
  by_cases hl : 300 < b.length ∨ i < 0 ∨ (b.length : Int) ≤ i
  · rcases (by omega : (300 : Int) < b.length ∨ (¬ (300 : Int) < b.length ∧ i < 0) ∨ (¬ (300 : Int) < b.length ∧ ¬ i < 0 ∧ (b.length : Int) ≤ i)) with h1 | ⟨h1, h2⟩ | ⟨h1, h2, h3⟩
    all_goals
      clear hY hYl hz hl hi
      generalize b.length = n at *
      generalize Z.toNat = zz at *
      go_enter Try.func6, Try.ntmps6
      go_wp2_with fail
      refine (HAL.out _).mono ?_
      rintro e w1 ⟨rfl, b1⟩
      have B1 := hide b1
      clear HAL b1
      go_wp2
      go_ret
      exact ⟨rfl, B1.out⟩
  · obtain ⟨k, rfl⟩ : ∃ k : Nat, i = k := ⟨i.toNat, by omega⟩
    have hk : k < b.length := by omega
    have g1 : ¬ (300 : Int) < b.length := by omega
    have g2 : ¬ (k : Int) < 0 := by omega
    have g3 : ¬ (b.length : Int) ≤ k := by omega
    have g4 : (k : Int) < b.length := by omega
    obtain ⟨a1, c1, w1, hr, ho, hb⟩ := copy_bytes w (.slice a b.length c) b hY (by omega)
    obtain ⟨g, o, ea, _, hgB, _, hcell, hfz, hny⟩ := (owns_newY ho).at_ k hk (b[k] ^^^ Z)
    subst ea
    have hx := xor8 b[k] Z
    have hs := one_set b k hk Z
    have HB1 : Hid (Below w.heap.size w (w1.setCell ⟨g, o + k, none⟩ (.int .u8 ((b[k] ^^^ Z).toNat : Int)))) := hide (hb.setCell (p := ⟨g, o + k, none⟩) hgB _)
    have HSB : Hid (∀ x, Below w.heap.size w x → Calls Try.prog 9 #[.slice a b.length c] x fun e w' => e = .returned (.int .u32 ((sumB b).toNat : Int)) ∧ Hid (Below x.heap.size x w')) := hide (fun x hx => (psum_any _ b x (hY.below hx) (by omega)).mono fun e w' hh => ⟨hh.1, hide hh.2⟩)
    have HSC : Hid (∀ x, Below (w1.setCell ⟨g, o + k, none⟩ (.int .u8 ((b[k] ^^^ Z).toNat : Int))).heap.size (w1.setCell ⟨g, o + k, none⟩ (.int .u8 ((b[k] ^^^ Z).toNat : Int))) x → Calls Try.prog 9 #[.slice (some ⟨g, o, none⟩) b.length c1] x fun e w' => e = .returned (.int .u32 ((sumB (b.set k (b[k] ^^^ Z))).toNat : Int)) ∧ Hid (Below x.heap.size x w')) := hide (fun x hx => (psum_any _ _ x (hny.below hx).isY (by rw [List.length_set]; omega)).mono fun e w' hh => ⟨hh.1, hide hh.2⟩)
    have HEQ : Hid ((((sumB b).toNat : Int) == ((sumB (b.set k (b[k] ^^^ Z))).toNat : Int)) = (((Z.toNat : Int) == 0) : Bool)) := hide (by
      by_cases h0 : Z = 0
      · have := hs.2 h0
        rw [← this, h0]
        simp
      · have h1 : ¬ sumB b = sumB (b.set k (b[k] ^^^ Z)) := fun e => h0 (hs.1 e)
        have h2 : ((Z.toNat : Int) == 0) = false := by
          rw [beq_eq_false_iff_ne]
          intro e
          apply h0
          have h3 : Z.toNat = 0 := by omega
          exact UInt8.toNat_inj.1 h3
        rw [h2, beq_eq_false_iff_ne]
        intro e
        exact h1 (BitVec.eq_of_toNat_eq (by omega)))
    clear hs hny ho hb hY hYl hz hl hi hgB
    generalize (sumB (b.set k (b[k] ^^^ Z))).toNat = Y at *
    generalize (sumB b).toNat = X at *
    generalize (b[k] ^^^ Z).toNat = xz at *
    generalize b[k].toNat = bk at *
    generalize b.length = n at *
    go_enter Try.func6, Try.ntmps6
    go_wp2_with (at_builtin; refine Lib.wpList_append_run _ rfl (.tmp 22) (.tmp 23) _ _ rfl _ _ rfl rfl _ _ hr ?_)
    clear hr hcell hfz hx
    refine (HAL.out _).mono ?_
    rintro e x1 ⟨rfl, b1⟩
    have B1 := hide b1
    have D1 := hide (bel_on HB1.out B1.out)
    clear b1 HAL HB1
    go_wp2_with fail
    refine (HSB.out _ D1.out).mono ?_
    rintro e x2 ⟨rfl, b2⟩
    have B2 := hide (bel_on B1.out b2.out)
    have D2 := hide (bel_on D1.out b2.out)
    clear b2 B1 D1 HSB
    go_wp2_with fail
    refine (HSC.out _ B2.out).mono ?_
    rintro e x3 ⟨rfl, b3⟩
    have D3 := hide (bel_on D2.out b3.out)
    have heq := HEQ.out
    clear b3 B2 D2 HSC HEQ
    cases hzz : ((Z.toNat : Int) == 0)
    all_goals
      rw [hzz] at heq
      go_wp2
      go_ret
      exact ⟨by first | rfl | simp, D3.out⟩
end Go.Proofs.Ytffdlpcdjmhfkaa
