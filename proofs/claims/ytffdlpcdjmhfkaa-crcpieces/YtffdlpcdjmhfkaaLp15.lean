/- CrcPieces's walk. -/
import Derived.Test.YtffdlpcdjmhfkaaLc15
set_option linter.unusedVariables false
set_option linter.unusedSimpArgs false
set_option maxRecDepth 40000
namespace Go.Proofs.Ytffdlpcdjmhfkaa
open Go.RowKit

/-- append(v, u...), v bytes of the call's own. -/
theorem append_isY (W : World) (B : Nat) (a1 : Option Addr) (c1 : Nat) (l : Bs) (u : Value) (x : Bs) (hown : W.ownsRow B 5 1 (.slice a1 l.length c1) l.length (bytesV l)) (ha : a1 ≠ none) (hU : IsY W u x) (h1 : l.length ≤ 1000000) (h2 : x.length ≤ 1000000) (hB : B ≤ W.heap.size) :
    ∃ a c w1, (Builtin.append_ #[22, 22] 22 #[.slice a1 l.length c1, u]).run Try.prog W = .ok (.slice a (l ++ x).length c) w1 ∧ w1.ownsRow B 5 1 (.slice a (l ++ x).length c) (l ++ x).length (bytesV (l ++ x)) ∧ Below B W w1 := by
  rcases hU with ⟨rfl, a, c, rfl⟩ | ⟨b, o, cap, rfl, _, hc⟩
  · rcases hown.2 with ⟨e, _⟩ | ⟨g, cap, cur, e, hb, hg, hn, hm, _⟩
    · injection e with e1
      exact absurd e1 ha
    · injection e with e1 e2 e3
      subst e1 e3
      rw [List.append_nil]
      exact ⟨_, _, _, append_nothingY W g l.length c1 a c hn hm, hown, Below.refl _ _⟩
  · obtain ⟨v', w', hr, ho, hg, _, hat⟩ := run_append_own_at (P := Try.prog) W B 22 22 5 Try.t5 (.int .u8 0) 1 1 Try.underlying22 (by kernel_rfl) (by kernel_rfl) (by kernel_rfl) (by kernel_rfl) (by kernel_rfl) (by omega)
      (.slice a1 l.length c1) l.length (bytesV l) hown ⟨b, o, none⟩ x.length cap (bytesV x) (by rw [bytesV_len, Nat.mul_one])
      (by
        intro j u hu
        have hj : j < x.length := by rw [← bytesV_len]; exact (List.getElem?_eq_some_iff.1 hu).1
        rw [addr_addo, hc j hj]
        unfold bytesV at hu
        rw [List.getElem?_map, List.getElem?_eq_getElem hj] at hu
        exact hu) (by
        intro u hu
        unfold bytesV at hu
        obtain ⟨y, _, rfl⟩ := List.mem_map.1 hu
        rfl) (by unfold maxLen; omega) (by omega) hB
    rw [← bytesV_app, ← List.length_append] at ho
    obtain ⟨a, c, rfl⟩ := owns_formG ho
    exact ⟨a, c, w', hr, ho, (Below.refl _ _).grown hg hB (owns_blk hown)⟩
/-- append(append([]byte{}, a...), b...). -/
theorem join_bytes (w : World) (u v : Value) (a b : Bs) (hu : IsY w u a) (hv : IsY w v b) (ha : a.length ≤ 1000000) (hb : b.length ≤ 1000000) :
    ∃ a1 c1 w1 a2 c2 w2, (Builtin.append_ #[22, 22] 22 #[.slice (some ⟨w.heap.size, 0, none⟩) 0 0, u]).run Try.prog (w.alloc (.cells #[] 5)) = .ok (.slice a1 a.length c1) w1 ∧ (Builtin.append_ #[22, 22] 22 #[.slice a1 a.length c1, v]).run Try.prog w1 = .ok (.slice a2 (a ++ b).length c2) w2 ∧ NewY w.heap.size w2 (.slice a2 (a ++ b).length c2) (a ++ b) ∧ Below w.heap.size w w2 := by
  have hbb := below_alloc w (.cells #[] 5)
  obtain ⟨a1, c1, w1, h1, h2, h3⟩ := copy_bytes w u a hu ha
  have hne : a1 ≠ none := by
    rcases hu with ⟨rfl, a', c', rfl⟩ | ⟨g, o, cap, rfl, _, hc⟩
    · rw [append_nothingY _ w.heap.size 0 0 a' c' (Nat.le_refl _) (by decide)] at h1
      injection h1 with h1
      injection h1 with e1
      rw [← e1]
      simp
    · intro e
      subst e
      rcases h2.2 with ⟨e, h0⟩ | ⟨g', cap', cur, e, _⟩
      · rw [h0] at h1
        rw [append_nothingY _ w.heap.size 0 0 _ cap (Nat.le_refl _) (by decide)] at h1
        injection h1 with h1
        injection h1 with e1
        cases e1
      · injection e with e1
        cases e1
  obtain ⟨a2, c2, w2, k1, k2, k3⟩ := append_isY w1 w.heap.size a1 c1 a v b h2 hne (hv.below h3) ha hb h3.size
  exact ⟨a1, c1, w1, a2, c2, w2, h1, k1, owns_newY k2, h3.trans k3⟩
set_option maxHeartbeats 8000000 in
theorem crcPieces_walk (s : Int) (hs : (Lit.int .u32 s).wf = true) (v1 : Value) (a : Bs) (v2 : Value) (b : Bs) (w : World) (hA : IsY w v1 a) (hAl : a.length ≤ 9223372036854775807) (hB : IsY w v2 b) (hBl : b.length ≤ 9223372036854775807) :
    Calls Try.prog 5 #[.int .u32 s, v1, v2] w fun e w' => e = .returned (.bool true) ∧ Below w.heap.size w w' := by
  obtain ⟨aa, ac, rfl⟩ := hA.form
  obtain ⟨ba, bc, rfl⟩ := hB.form
  obtain ⟨S, rfl⟩ := u32_is hs
  have HAL := hide alive_any
  by_cases hl : 300 < a.length ∨ 300 < b.length
  · rcases (by omega : (300 : Int) < a.length ∨ (¬ (300 : Int) < a.length ∧ (300 : Int) < b.length)) with h1 | ⟨h1, h2⟩
    all_goals
      clear hA hB hAl hBl hs hl
      generalize a.length = n at *
      generalize b.length = m at *
      generalize S.toNat = z at *
      go_enter Try.func5, Try.ntmps5
      go_wp2_with fail
      refine (HAL.out _).mono ?_
      rintro e w1 ⟨rfl, b1⟩
      have B1 := hide b1
      clear HAL b1
      go_wp2
      go_ret
      exact ⟨rfl, B1.out⟩
  · have g1 : ¬ (300 : Int) < a.length := by omega
    have g2 : ¬ (300 : Int) < b.length := by omega
    obtain ⟨a1, c1, w1, a2, c2, w2, r1, r2, ny, bw⟩ := join_bytes w _ _ a b hA hB (by omega) (by omega)
    have hal : (a ++ b).length ≤ 1000000 := by rw [List.length_append]; omega
    have HB2 := hide bw
    have HNY := hide ny
    have HMA : Hid (∀ (X : BitVec 32) x, Below w.heap.size w x → Calls Try.prog 11 #[.int .u32 (X.toNat : Int), .slice aa a.length ac] x fun e w' => e = .returned (.int .u32 ((moreB X a).toNat : Int)) ∧ Hid (Below x.heap.size x w')) := hide (fun X x hx => (pmore_any X _ a x (hA.below hx) (by omega)).mono fun e w' hh => ⟨hh.1, hide hh.2⟩)
    have HMB : Hid (∀ (X : BitVec 32) x, Below w.heap.size w x → Calls Try.prog 11 #[.int .u32 (X.toNat : Int), .slice ba b.length bc] x fun e w' => e = .returned (.int .u32 ((moreB X b).toNat : Int)) ∧ Hid (Below x.heap.size x w')) := hide (fun X x hx => (pmore_any X _ b x (hB.below hx) (by omega)).mono fun e w' hh => ⟨hh.1, hide hh.2⟩)
    have HMJ : Hid (∀ (X : BitVec 32) x, Below w2.heap.size w2 x → Calls Try.prog 11 #[.int .u32 (X.toNat : Int), .slice a2 (a ++ b).length c2] x fun e w' => e = .returned (.int .u32 ((moreB X (a ++ b)).toNat : Int)) ∧ Hid (Below x.heap.size x w')) := hide (fun X x hx => (pmore_any X _ (a ++ b) x (ny.below hx).isY hal).mono fun e w' hh => ⟨hh.1, hide hh.2⟩)
    have HM0 : Hid (∀ (X : BitVec 32) x, Calls Try.prog 11 #[.int .u32 (X.toNat : Int), .slice none 0 0] x fun e w' => e = .returned (.int .u32 (X.toNat : Int)) ∧ Hid (Below x.heap.size x w')) := hide (fun X x => (pmore_any X _ [] x (.inl ⟨rfl, _, _, rfl⟩) (by decide)).mono fun e w' hh => ⟨by rw [hh.1, more_nil], hide hh.2⟩)
    have HSA : Hid (∀ x, Below w.heap.size w x → Calls Try.prog 9 #[.slice aa a.length ac] x fun e w' => e = .returned (.int .u32 ((sumB a).toNat : Int)) ∧ Hid (Below x.heap.size x w')) := hide (fun x hx => (psum_any _ a x (hA.below hx) (by omega)).mono fun e w' hh => ⟨hh.1, hide hh.2⟩)
    have HSJ : Hid (∀ x, Below w2.heap.size w2 x → Calls Try.prog 9 #[.slice a2 (a ++ b).length c2] x fun e w' => e = .returned (.int .u32 ((sumB (a ++ b)).toNat : Int)) ∧ Hid (Below x.heap.size x w')) := hide (fun x hx => (psum_any _ (a ++ b) x (ny.below hx).isY hal).mono fun e w' hh => ⟨hh.1, hide hh.2⟩)
    have HS0 : Hid (∀ x, Calls Try.prog 9 #[.slice none 0 0] x fun e w' => e = .returned (.int .u32 0) ∧ Hid (Below x.heap.size x w')) := hide (fun x => (psum_any _ [] x (.inl ⟨rfl, _, _, rfl⟩) (by decide)).mono fun e w' hh => ⟨by rw [hh.1, sum_nil]; rfl, hide hh.2⟩)
    have e1 := more_app S a b
    have e2 := more_sum a b
    have HE1 : Hid (((moreB (moreB S a) b).toNat : Int) = ((moreB S (a ++ b)).toNat : Int)) := hide (by rw [e1])
    have HE2 : Hid (((moreB (sumB a) b).toNat : Int) = ((sumB (a ++ b)).toNat : Int)) := hide (by rw [e2])
    clear hA hB hAl hBl hs hl hal ny bw e1 e2
    generalize hQ : (a ++ b).length = q at *
    generalize hN : a.length = n at *
    generalize hM : b.length = m at *
    clear hQ hN hM
    go_enter Try.func5, Try.ntmps5
    go_wp2_with (at_builtin; first | refine Lib.wpList_append_run _ rfl (.tmp 17) (.tmp 18) _ _ rfl _ _ rfl rfl _ _ r1 ?_ | refine Lib.wpList_append_run _ rfl (.tmp 19) (.tmp 20) _ _ rfl _ _ rfl rfl _ _ r2 ?_)
    clear r1 r2
    refine (HAL.out _).mono ?_
    rintro e x1 ⟨rfl, b1⟩
    have B1 := hide b1
    have D1 := hide (bel_on HB2.out B1.out)
    clear b1 HAL HB2
    go_wp2_with fail
    refine (HMA.out S _ D1.out).mono ?_
    rintro e x2 ⟨rfl, b2⟩
    have B2 := hide (bel_on B1.out b2.out)
    have D2 := hide (bel_on D1.out b2.out)
    clear b2 B1 D1 HMA
    go_wp2_with fail
    refine (HMB.out (moreB S a) _ D2.out).mono ?_
    rintro e x3 ⟨rfl, b3⟩
    have B3 := hide (bel_on B2.out b3.out)
    have D3 := hide (bel_on D2.out b3.out)
    clear b3 B2 D2
    go_wp2_with fail
    refine (HMJ.out S _ B3.out).mono ?_
    rintro e x4 ⟨rfl, b4⟩
    have B4 := hide (bel_on B3.out b4.out)
    have D4 := hide (bel_on D3.out b4.out)
    rw [← HE1.out]
    clear b4 B3 D3 HMJ HE1
    generalize (moreB (moreB S a) b).toNat = Y1 at *
    go_wp2_with fail
    refine (HSA.out _ D4.out).mono ?_
    rintro e x5 ⟨rfl, b5⟩
    have B5 := hide (bel_on B4.out b5.out)
    have D5 := hide (bel_on D4.out b5.out)
    clear b5 B4 D4 HSA
    go_wp2_with fail
    refine (HMB.out (sumB a) _ D5.out).mono ?_
    rintro e x6 ⟨rfl, b6⟩
    have B6 := hide (bel_on B5.out b6.out)
    have D6 := hide (bel_on D5.out b6.out)
    clear b6 B5 D5 HMB
    go_wp2_with fail
    refine (HSJ.out _ B6.out).mono ?_
    rintro e x7 ⟨rfl, b7⟩
    have D7 := hide (bel_on D6.out b7.out)
    rw [← HE2.out]
    clear b7 B6 D6 HSJ HE2
    generalize (moreB (sumB a) b).toNat = Y2 at *
    go_wp2_with fail
    refine (HM0.out S _).mono ?_
    rintro e x8 ⟨rfl, b8⟩
    have D8 := hide (bel_on D7.out b8.out)
    clear b8 D7 HM0
    go_wp2_with fail
    refine (HS0.out _).mono ?_
    rintro e x9 ⟨rfl, b9⟩
    have D9 := hide (bel_on D8.out b9.out)
    clear b9 D8 HS0
    go_wp2
    go_ret
    exact ⟨rfl, D9.out⟩
end Go.Proofs.Ytffdlpcdjmhfkaa
