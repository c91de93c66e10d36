/- MarksFinds's walk. -/
import Derived.Test.YtihpjalbdkiecaaLC7
set_option linter.unusedVariables false
set_option linter.unusedSimpArgs false
namespace Go.Proofs.Ytihpjalbdkiecaa
open Go.RowKit

set_option maxHeartbeats 2000000 in
theorem finds_ok (l : List MV) (hs : smallL l = true) (n : ByteArray) (zs : List Int) (hz : zs.length ≤ 40) (v u : Value) (w : World) (hM : RowM w v l) (hOk : OkM w l) (hZ : IsZ w u zs) :
    Calls Try.prog 6 #[v, .string n, u] w fun e w' => e = .returned (.bool true) ∧ Below w.heap.size w w' := by
  have H1 := hide alive_any
  have HSM := hide (small_any v l w hM hOk)
  rw [hs] at HSM
  have hS := small_of l hs
  have hl40 := ((small_iff l).1 hs).1
  have H2 := hide (fun x (b : Below w.heap.size w x) => last_p v l hS n x (hM.below b) (hOk.below b))
  have H3 := hide (fun x (b : Below w.heap.size w x) => rlast_any v l (by omega) n x (hM.below b))
  have H4 := hide (fun z x (b : Below w.heap.size w x) => find_p v l hS z x (hM.below b) (hOk.below b))
  have H5 := hide (fun z x (b : Below w.heap.size w x) => rfind_any v l (by omega) z x (hM.below b))
  have H6 := hide (fun x (b : Below w.heap.size w x) => renew_p v u l hS zs (by omega) x (hM.below b) (hOk.below b) (hZ.below b))
  have H7 := hide (fun x (b : Below w.heap.size w x) => rrenew_any v u l (by omega) zs (by omega) x (hM.below b) (hZ.below b))
  obtain ⟨a, c, rfl⟩ := rowM_form hM
  obtain ⟨a2, c2, rfl⟩ := isZ_form hZ
  generalize lastZ l n = V1 at *
  generalize renewL l zs = V3 at *
  have HZ := hide hZ
  obtain ⟨M, hMz⟩ : ∃ M, M = zs.length := ⟨_, rfl⟩
  rw [← hMz] at HZ hz H6 H7 ⊢
  have HMM := hide hMz
  have hz2 : ¬ ((40 : Int) < M) := by omega
  clear hM hOk hs hS hZ hMz
  by_cases h0 : 0 < M
  · have h0' : (0 : Int) < M := by omega
    obtain ⟨b, o, rfl, d0⟩ := HZ.out.get 0 (by rw [← HMM.out]; exact h0)
    rw [Nat.add_zero] at d0
    have G4 := hide (H4.out zs[0])
    have G5 := hide (H5.out zs[0])
    generalize zs[0] = z0 at *
    generalize findZ l z0 = V2 at *
    clear H4 H5 h0
    go_enter Try.func6, Try.ntmps6
    go_wp2_with fail
    refine (HSM.out).mono ?_
    rintro e x0 ⟨rfl, rfl⟩
    go_wp2_with fail
    refine (H1.out _).mono ?_
    rintro e x1 ⟨rfl, b1⟩
    go_wp2_with fail
    refine (H2.out _ b1).mono ?_
    rintro e x2 ⟨rfl, b2⟩
    have b2 := b1.trans (b2.mono b1.size)
    clear b1
    go_wp2_with fail
    refine (H3.out _ b2).mono ?_
    rintro e x3 ⟨rfl, rfl⟩
    go_wp2_with fail
    refine (G4.out _ b2).mono ?_
    rintro e x4 ⟨rfl, b4⟩
    have b4 := b2.trans (b4.mono b2.size)
    clear b2
    go_wp2_with fail
    refine (G5.out _ b4).mono ?_
    rintro e x5 ⟨rfl, rfl⟩
    go_wp2_with fail
    refine (H6.out _ b4).mono ?_
    rintro e x6 ⟨rfl, b6⟩
    have b6 := b4.trans (b6.mono b4.size)
    clear b4
    go_wp2_with fail
    refine (H7.out _ b6).mono ?_
    rintro e x7 ⟨rfl, b7⟩
    have b7 := b6.trans (b7.mono b6.size)
    clear b6
    go_wp2
    go_ret
    exact ⟨rfl, b7⟩
  · have h0' : ¬ ((0 : Int) < M) := by omega
    have G4 := hide (H4.out 0)
    have G5 := hide (H5.out 0)
    generalize findZ l 0 = V2 at *
    clear H4 H5 h0
    go_enter Try.func6, Try.ntmps6
    go_wp2_with fail
    refine (HSM.out).mono ?_
    rintro e x0 ⟨rfl, rfl⟩
    go_wp2_with fail
    refine (H1.out _).mono ?_
    rintro e x1 ⟨rfl, b1⟩
    go_wp2_with fail
    refine (H2.out _ b1).mono ?_
    rintro e x2 ⟨rfl, b2⟩
    have b2 := b1.trans (b2.mono b1.size)
    clear b1
    go_wp2_with fail
    refine (H3.out _ b2).mono ?_
    rintro e x3 ⟨rfl, rfl⟩
    go_wp2_with fail
    refine (G4.out _ b2).mono ?_
    rintro e x4 ⟨rfl, b4⟩
    have b4 := b2.trans (b4.mono b2.size)
    clear b2
    go_wp2_with fail
    refine (G5.out _ b4).mono ?_
    rintro e x5 ⟨rfl, rfl⟩
    go_wp2_with fail
    refine (H6.out _ b4).mono ?_
    rintro e x6 ⟨rfl, b6⟩
    have b6 := b4.trans (b6.mono b4.size)
    clear b4
    go_wp2_with fail
    refine (H7.out _ b6).mono ?_
    rintro e x7 ⟨rfl, b7⟩
    have b7 := b6.trans (b7.mono b6.size)
    clear b6
    go_wp2
    go_ret
    exact ⟨rfl, b7⟩

set_option maxHeartbeats 1000000 in
theorem marksFinds_walk (v : Value) (l : List MV) (n : ByteArray) (u : Value) (zs : List Int) (w : World) (hM : RowM w v l) (hOk : OkM w l) (hZ : IsZ w u zs) :
    Calls Try.prog 6 #[v, .string n, u] w fun e w' => e = .returned (.bool true) ∧ Below w.heap.size w w' := by
  have H1 := hide alive_any
  have HSM := hide (small_any v l w hM hOk)
  by_cases hs : smallL l = true
  · by_cases hz : zs.length ≤ 40
    · exact finds_ok l hs n zs hz v u w hM hOk hZ
    · rw [hs] at HSM
      obtain ⟨a, c, rfl⟩ := rowM_form hM
      obtain ⟨a2, c2, rfl⟩ := isZ_form hZ
      have hz2 : (40 : Int) < zs.length := by omega
      generalize zs.length = M at *
      clear hM hOk hZ hs hz
      go_enter Try.func6, Try.ntmps6
      go_wp2_with fail
      refine (HSM.out).mono ?_
      rintro e x0 ⟨rfl, rfl⟩
      go_wp2_with fail
      refine (H1.out _).mono ?_
      rintro e w1 ⟨rfl, b1⟩
      go_wp2
      go_ret
      exact ⟨rfl, b1⟩
  · rw [Bool.eq_false_iff.2 hs] at HSM
    obtain ⟨a, c, rfl⟩ := rowM_form hM
    obtain ⟨a2, c2, rfl⟩ := isZ_form hZ
    clear hM hOk hZ hs
    go_enter Try.func6, Try.ntmps6
    go_wp2_with fail
    refine (HSM.out).mono ?_
    rintro e x0 ⟨rfl, rfl⟩
    go_wp2_with fail
    refine (H1.out _).mono ?_
    rintro e w1 ⟨rfl, b1⟩
    go_wp2
    go_ret
    exact ⟨rfl, b1⟩
end Go.Proofs.Ytihpjalbdkiecaa
