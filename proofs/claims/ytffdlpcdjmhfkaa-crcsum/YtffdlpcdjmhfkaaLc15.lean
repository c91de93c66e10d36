/- CrcSum's and CrcMore's walks. -/
import Derived.Test.YtffdlpcdjmhfkaaLa15
set_option linter.unusedVariables false
set_option linter.unusedSimpArgs false
set_option maxRecDepth 40000
namespace Go.Proofs.Ytffdlpcdjmhfkaa
open Go.RowKit

theorem conv_any {w : World} {v : Value} {l : Bs} (h : IsY w v l) : ∃ a n c, v = .slice a n c ∧ ((n = 0 ∧ l = []) ∨ n ≠ 0 ∧ (convert 22 9 v).run Try.prog w = .ok (.string ⟨l.toArray⟩) w) := by
  obtain ⟨a, c, rfl⟩ := h.form
  by_cases h0 : l.length = 0
  · exact ⟨a, _, c, rfl, .inl ⟨h0, List.eq_nil_of_length_eq_zero h0⟩⟩
  · exact ⟨a, _, c, rfl, .inr ⟨h0, conv_isY0 h h0⟩⟩
theorem conv_zero (w : World) (a : Option Addr) (c : Nat) : (convert 22 9 (.slice a 0 c)).run Try.prog w = .ok (.string ⟨#[]⟩) w := by
  cases a with
  | none => exact run_convert_bytes_nil _ 22 5 Try.underlying22 Try.underlying5 0 c 9 Try.underlying9
  | some x => exact run_convert_bytes_back w 22 9 5 x c [] Try.underlying22 Try.underlying5 Try.underlying9 (fun j hj => absurd hj (Nat.not_lt_zero j))
theorem conv_isY {w : World} {v : Value} {l : Bs} (h : IsY w v l) : (convert 22 9 v).run Try.prog w = .ok (.string ⟨l.toArray⟩) w := by
  rcases h with ⟨rfl, a, c, rfl⟩ | ⟨b, o, cap, rfl, _, hc⟩
  · exact conv_zero w a c
  · exact conv_bytes w b o cap l hc
theorem u32_is {s : Int} (hs : (Lit.int .u32 s).wf = true) : ∃ S : BitVec 32, s = (S.toNat : Int) := by
  have hh := wf_int hs
  rw [show IntKind.u32.min = 0 from rfl, show IntKind.u32.max = 4294967295 from rfl] at hh
  exact ⟨BitVec.ofNat 32 s.toNat, by rw [BitVec.toNat_ofNat]; omega⟩
theorem u8_is {s : Int} (hs : (Lit.int .u8 s).wf = true) : ∃ S : UInt8, s = (S.toNat : Int) := by
  have hh := wf_int hs
  rw [show IntKind.u8.min = 0 from rfl, show IntKind.u8.max = 255 from rfl] at hh
  exact ⟨UInt8.ofNat s.toNat, by simp; omega⟩
set_option maxHeartbeats 4000000 in
theorem crcSum_walk (v : Value) (b : Bs) (w : World) (hY : IsY w v b) (hYl : b.length ≤ 9223372036854775807) :
    Calls Try.prog 3 #[v] w fun e w' => e = .returned (.bool true) ∧ Below w.heap.size w w' := by
  obtain ⟨a, c, rfl⟩ := hY.form
  have HAL := hide alive_any
  by_cases hl : 300 < b.length
  · have hl2 : (300 : Int) < b.length := by omega
    clear hY hYl hl
    generalize b.length = n at *
    go_enter Try.func3, Try.ntmps3
    go_wp2_with fail
    refine (HAL.out _).mono ?_
    rintro e w1 ⟨rfl, b1⟩
    have B1 := hide b1
    clear HAL b1
    go_wp2
    go_ret
    exact ⟨rfl, B1.out⟩
  · have hl2 : ¬ (300 : Int) < b.length := by omega
    obtain ⟨a1, c1, w1, hr, ho, hb⟩ := copy_bytes w (.slice a b.length c) b hY (by omega)
    have hn := owns_newY ho
    have HPS : Hid (Calls Try.prog 9 #[.slice a1 b.length c1] w1 fun e w' => e = .returned (.int .u32 ((sumB b).toNat : Int)) ∧ Hid (Below w1.heap.size w1 w')) := hide ((psum_any _ b w1 hn.isY (by omega)).mono fun e w' hh => ⟨hh.1, hide hh.2⟩)
    have HRS : Hid (∀ x, Below w.heap.size w x → Calls Try.prog 10 #[.slice a b.length c] x fun e w' => e = .returned (.int .u32 ((sumB b).toNat : Int)) ∧ w' = x) := hide (fun x hx => rsum_any _ b x (hY.below hx) (by omega))
    have HC1 := hide (fun x (hx : Below w1.heap.size w1 x) => conv_newY (hn.below hx))
    have HC2 := hide (fun x (hx : Below w.heap.size w x) => conv_isY (hY.below hx))
    have HB := hide hb
    clear hn ho hb hY hYl hl
    generalize (sumB b).toNat = X at *
    generalize hs : (⟨b.toArray⟩ : ByteArray) = S at *
    clear hs
    generalize b.length = n at *
    go_enter Try.func3, Try.ntmps3
    go_wp2_with (at_builtin; refine Lib.wpList_append_run _ rfl (.tmp 9) (.tmp 10) _ _ rfl _ _ rfl rfl _ _ hr ?_)
    clear hr
    refine HPS.out.mono ?_
    rintro e w2 ⟨rfl, b2⟩
    clear HPS
    go_wp2_with fail
    refine (HAL.out _).mono ?_
    rintro e w3 ⟨rfl, b3⟩
    have B3 := hide (bel_on b2.out b3)
    have D3 := hide (bel_on HB.out B3.out)
    clear HAL b2 b3 HB
    go_wp2_with fail
    refine (HRS.out _ D3.out).mono ?_
    rintro e w4 ⟨rfl, rfl⟩
    have h1 := HC1.out _ B3.out
    have h2 := HC2.out _ D3.out
    clear HRS HC1 HC2
    go_wp2
    go_ret
    exact ⟨rfl, D3.out⟩
set_option maxHeartbeats 4000000 in
theorem crcMore_walk (s : Int) (hs : (Lit.int .u32 s).wf = true) (v : Value) (b : Bs) (w : World) (hY : IsY w v b) (hYl : b.length ≤ 9223372036854775807) :
    Calls Try.prog 4 #[.int .u32 s, v] w fun e w' => e = .returned (.bool true) ∧ Below w.heap.size w w' := by
  obtain ⟨a, c, rfl⟩ := hY.form
  obtain ⟨S, rfl⟩ := u32_is hs
  have HAL := hide alive_any
  by_cases hl : 300 < b.length
  · have hl2 : (300 : Int) < b.length := by omega
    clear hY hYl hl hs
    generalize b.length = n at *
    go_enter Try.func4, Try.ntmps4
    go_wp2_with fail
    refine (HAL.out _).mono ?_
    rintro e w1 ⟨rfl, b1⟩
    have B1 := hide b1
    clear HAL b1
    go_wp2
    go_ret
    exact ⟨rfl, B1.out⟩
  · have hl2 : ¬ (300 : Int) < b.length := by omega
    have HPM : Hid (∀ x, Below w.heap.size w x → Calls Try.prog 11 #[.int .u32 (S.toNat : Int), .slice a b.length c] x fun e w' => e = .returned (.int .u32 ((moreB S b).toNat : Int)) ∧ Hid (Below w.heap.size w w')) := hide (fun x hx => (pmore_any S _ b x (hY.below hx) (by omega)).mono fun e w' hh => ⟨hh.1, hide (bel_on hx hh.2)⟩)
    have HRM : Hid (∀ x, Below w.heap.size w x → Calls Try.prog 12 #[.int .u32 (S.toNat : Int), .slice a b.length c] x fun e w' => e = .returned (.int .u32 ((moreB S b).toNat : Int)) ∧ w' = x) := hide (fun x hx => (rmore_any S.toNat S.isLt _ b x (hY.below hx) (by omega)).mono fun e w' hh => by
      rw [moreD_is, BitVec.ofNat_toNat] at hh
      simpa using hh)
    clear hY hYl hl hs
    generalize (moreB S b).toNat = X at *
    generalize b.length = n at *
    generalize S.toNat = z at *
    go_enter Try.func4, Try.ntmps4
    go_wp2_with fail
    refine (HAL.out _).mono ?_
    rintro e w1 ⟨rfl, b1⟩
    have H1 := hide (HPM.out w1 b1)
    clear HAL HPM b1
    go_wp2_with fail
    refine H1.out.mono ?_
    rintro e w2 ⟨rfl, b2⟩
    have H2 := hide (HRM.out w2 b2.out)
    clear H1 HRM
    go_wp2_with fail
    refine H2.out.mono ?_
    rintro e w3 ⟨rfl, rfl⟩
    clear H2
    go_wp2
    go_ret
    exact ⟨rfl, b2.out⟩
end Go.Proofs.Ytffdlpcdjmhfkaa
