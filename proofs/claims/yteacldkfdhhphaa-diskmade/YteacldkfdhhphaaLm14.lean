/- DiskMade's walk. -/
import Derived.Test.YteacldkfdhhphaaSc14
import Derived.Deep.RegionHeld2
set_option linter.unusedVariables false
set_option linter.unusedSimpArgs false
set_option maxRecDepth 40000
namespace Go.Proofs.Yteacldkfdhhphaa
open Go.RowKit

theorem made_last (n : Nat) (h : 1 ≤ n) : readD (newD n) ((n : Int) - 1) = (List.replicate 256 0, 0) := by
  have his : isD (newD n) ((n : Int) - 1) = true := by
    rw [isD_iff]
    show _ ∧ _ < (((List.replicate (n * 4) noughtB).length / 4 : Nat) : Int)
    rw [List.length_replicate]
    omega
  unfold readD
  rw [his, if_pos rfl]
  show ((((List.replicate (n * 4) noughtB).drop (((n : Int) - 1).toNat * 4)).take 4).flatten, 0) = _
  rw [List.drop_replicate, List.take_replicate, show min 4 (n * 4 - ((n : Int) - 1).toNat * 4) = 4 by omega]
  have hk : (List.replicate 4 noughtB).flatten = List.replicate 256 0 := by kernel_rfl
  rw [hk]
theorem made_out (n : Nat) : (readD (newD n) (n : Int)).2 = 1 := by
  have his : isD (newD n) (n : Int) = false := by
    rw [Bool.eq_false_iff]
    intro h
    rw [isD_iff] at h
    have h2 : (n : Int) < (((List.replicate (n * 4) noughtB).length / 4 : Nat) : Int) := h.2
    rw [List.length_replicate] at h2
    omega
  unfold readD
  rw [his, if_neg (by simp)]
theorem made_size (n : Nat) : (newD n).safe.length / 4 = n := by
  show (List.replicate (n * 4) noughtB).length / 4 = n
  rw [List.length_replicate]
  omega
set_option maxHeartbeats 8000000 in
theorem diskMade_walk (n : Int) (hn : (Lit.int .i64 n).wf = true) (w : World) :
    Calls Try.prog 4 #[.int .i64 n] w fun e w' => e = .returned (.bool true) ∧ Below w.heap.size w w' := by
  have hwf : -9223372036854775808 ≤ n ∧ n ≤ 9223372036854775807 := by
    have hh := wf_int hn
    rw [show IntKind.i64.min = -9223372036854775808 from rfl, show IntKind.i64.max = 9223372036854775807 from rfl] at hh
    exact hh
  have HAL := hide alive_any
  by_cases hb : 1 ≤ n ∧ n ≤ 4096
  · obtain ⟨h1, h2⟩ := hb
    obtain ⟨k, rfl⟩ : ∃ k : Nat, n = k := ⟨n.toNat, by omega⟩
    have HN := hide (live_new k w w (Below.refl _ _) ⟨h1, h2⟩)
    rw [Int.toNat_natCast] at HN
    have hF : Fit (newD k) := Fit.new (by omega)
    have m1 := made_last k (by omega)
    have m2 := made_out k
    have m3 := made_size k
    have HR1 : Hid (∀ a x, Liv w (.pointer (some a)) (newD k) x → Calls Try.prog 15 #[.pointer (some a), .int .i64 ((k : Int) - 1)] x fun e y => ∃ p c, e = .returned (.tuple #[.slice p 256 c, .int .i64 0]) ∧ Hid (Liv w (.pointer (some a)) (newD k) y) ∧ Hid (NewY w.heap.size y (.slice p 256 c) (List.replicate 256 0))) := hide (fun a x hl => (live_read (n := (k : Int) - 1) hF hl).mono fun e y hh => by
      obtain ⟨p, c, rfl, hy, hb⟩ := hh
      rw [m1] at hy ⊢
      simp only [List.length_replicate] at hy ⊢
      exact ⟨p, c, rfl, hide (hl.below hb.out), hide (hy.out.base hl.b.size)⟩)
    have HR2 : Hid (∀ a x, Liv w (.pointer (some a)) (newD k) x → Calls Try.prog 15 #[.pointer (some a), .int .i64 (k : Int)] x fun e y => ∃ p c, e = .returned (.tuple #[.slice p (readD (newD k) k).1.length c, .int .i64 1]) ∧ Hid (Below x.heap.size x y)) := hide (fun a x hl => (live_read (n := (k : Int)) hF hl).mono fun e y hh => by
      obtain ⟨p, c, rfl, hy, hb⟩ := hh
      rw [m2]
      exact ⟨p, c, rfl, hb⟩)
    have HB0 : Hid (∀ a x, Liv w (.pointer (some a)) (newD k) x → Calls Try.prog 21 #[.pointer (some a)] x fun e y => e = .returned (.int .i64 (k : Int)) ∧ Hid (Below x.heap.size x y)) := hide (fun a x hl => (live_blocks hF hl).mono fun e y hh => ⟨by rw [hh.1, m3], hh.2⟩)
    have HP0 : Hid (∀ a x, Liv w (.pointer (some a)) (newD k) x → Calls Try.prog 17 #[.pointer (some a)] x fun e y => e = .returned (.int .i64 0) ∧ Hid (Below x.heap.size x y)) := hide (fun a x hl => live_pending hF hl)
    have hw1 : wrap64 ((k : Int) - 1) = (k : Int) - 1 := by unfold wrap64; omega
    have g1 : ¬ (k : Int) < 1 := by omega
    have g2 : ¬ (4096 : Int) < k := by omega
    clear hn hwf hF m1 m2 m3
    generalize (readD (newD k) k).1.length = kk at *
    go_enter Try.func4, Try.ntmps4
    go_wp2_with fail
    refine HN.out.mono ?_
    rintro e x0 ⟨a, rfl, L0⟩
    have H1 := hide (HR1.out a x0 L0.out)
    clear HN HR1 L0
    go_wp2_with fail
    refine H1.out.mono ?_
    rintro e x1 ⟨p, c, rfl, L1, y1⟩
    have H2 := hide (HR2.out a x1 L1.out)
    clear H1 HR2
    go_wp2_with fail
    refine H2.out.mono ?_
    rintro e x9 ⟨p9, c9, rfl, b9⟩
    have HCV : Hid (∀ W, Below x9.heap.size x9 W → (convert 34 9 (.slice p 256 c)).run Try.prog W = .ok (.string ⟨(List.replicate 256 (0 : UInt8)).toArray⟩) W) := hide (fun W hb => conv_newY ((y1.out.below b9.out).below hb))
    have LL := L1.out.below b9.out
    have HBX := hide (fun W (hb : Below x9.heap.size x9 W) => (LL.below hb).b)
    have HBL : Hid (∀ x, Below x9.heap.size x9 x → Calls Try.prog 21 #[.pointer (some a)] x fun e y => e = .returned (.int .i64 (k : Int)) ∧ Hid (Below x9.heap.size x9 y)) := hide (fun x hb => (HB0.out a x (LL.below hb)).mono fun e y hh => ⟨hh.1, hide (hb.trans (hh.2.out.mono hb.size))⟩)
    have HPE : Hid (∀ x, Below x9.heap.size x9 x → Calls Try.prog 17 #[.pointer (some a)] x fun e y => e = .returned (.int .i64 0) ∧ Hid (Below x9.heap.size x9 y)) := hide (fun x hb => (HP0.out a x (LL.below hb)).mono fun e y hh => ⟨hh.1, hide (hb.trans (hh.2.out.mono hb.size))⟩)
    have HMKS : Hid (∀ x, Below x9.heap.size x9 x → ∃ w1, (Instr.makeSlice 34 (.int .i64 256) (.int .i64 256)).run Try.prog x = .ok (.slice (some ⟨x.heap.size, 0, none⟩) 256 256) w1 ∧ Hid (Below x9.heap.size x9 w1) ∧ Hid (NewY x.heap.size w1 (.slice (some ⟨x.heap.size, 0, none⟩) 256 256) (List.replicate 256 0))) := hide (fun x hb => by
      obtain ⟨w1, h1, h2, h3⟩ := make_bytes x 256 (by omega)
      exact ⟨w1, h1, hide (hb.trans (h3.mono hb.size)), hide (owns_newY (l := List.replicate 256 0) (by rw [List.length_replicate]; exact h2))⟩)
    clear H2 LL L1 y1 b9 HB0 HP0 hw1
    go_wp2_with fail
    refine wp_region_held_drew (S := fun W' => Below x9.heap.size x9 W') (by kernel_rfl) (Below.refl _ x9).drew (fun hHeld => ?_)
    refine wpAnyH_ready (rs := [0]) (by kernel_rfl) (by simp) ?_
    refine AllReadyH.cons rfl (fun K hK => ?_) AllReadyH.nil
    go_simp
    go_wp2_with (first | (go_at_call 20; refine (HAL.out _).mono ?_; rintro e y0 ⟨rfl, b9⟩))
    refine hK.out _ _ ?_ (fun hHeld => ?_)
    · exact Below.trans hHeld (b9.mono hHeld.size)
    clear hK K
    try simp only [Act.put, List.getElem_toArray, List.getElem_cons_zero, List.getElem_cons_succ, List.setIfInBounds_toArray, List.set_cons_zero, List.set_cons_succ]
    clear b9
    refine wpAnyH_take (i := 1) (v := .bool true) rfl (by kernel_rfl) (by kernel_rfl) (by kernel_rfl) (fun _ _ _ h => h) (Or.inl ⟨by kernel_rfl, fun _ _ => by go_simp⟩) hHeld ?_
    simp only [Act.put, List.getElem_toArray, List.getElem_cons_zero, List.getElem_cons_succ, List.setIfInBounds_toArray, List.set_cons_zero, List.set_cons_succ]
    refine wpAnyH_take (i := 2) (v := ?_) rfl (by kernel_rfl) (by kernel_rfl) (by kernel_rfl) (fun _ _ _ h => h) (Or.inl ⟨by kernel_rfl, ?_⟩) hHeld ?_
    rotate_left
    · intro W hSw
      clear hSw
      go_simp <;> with_reducible rfl
    simp only [Act.put, List.getElem_toArray, List.getElem_cons_zero, List.getElem_cons_succ, List.setIfInBounds_toArray, List.set_cons_zero, List.set_cons_succ]
    refine wpAnyH_take (i := 3) (v := .bool true) rfl (by kernel_rfl) (by kernel_rfl) (by kernel_rfl) (fun _ _ _ h => h) (Or.inl ⟨by kernel_rfl, fun _ _ => by go_simp⟩) hHeld ?_
    simp only [Act.put, List.getElem_toArray, List.getElem_cons_zero, List.getElem_cons_succ, List.setIfInBounds_toArray, List.set_cons_zero, List.set_cons_succ]
    refine wpAnyH_take (i := 4) (v := .bool true) rfl (by kernel_rfl) (by kernel_rfl) (by kernel_rfl) (fun _ _ _ h => h) (Or.inl ⟨by kernel_rfl, fun _ _ => by go_simp⟩) hHeld ?_
    simp only [Act.put, List.getElem_toArray, List.getElem_cons_zero, List.getElem_cons_succ, List.setIfInBounds_toArray, List.set_cons_zero, List.set_cons_succ]
    refine wpAnyH_take (i := 5) (v := .bool true) rfl (by kernel_rfl) (by kernel_rfl) (by kernel_rfl) (fun _ _ _ h => h) (Or.inl ⟨by kernel_rfl, fun _ _ => by go_simp⟩) hHeld ?_
    simp only [Act.put, List.getElem_toArray, List.getElem_cons_zero, List.getElem_cons_succ, List.setIfInBounds_toArray, List.set_cons_zero, List.set_cons_succ]
    refine wpAnyH_take (i := 6) (v := ?_) rfl (by kernel_rfl) (by kernel_rfl) (by kernel_rfl) (fun _ _ _ h => h) (Or.inl ⟨by kernel_rfl, ?_⟩) hHeld ?_
    rotate_left
    · intro W hSw
      clear hSw
      go_simp <;> with_reducible rfl
    simp only [Act.put, List.getElem_toArray, List.getElem_cons_zero, List.getElem_cons_succ, List.setIfInBounds_toArray, List.set_cons_zero, List.set_cons_succ]
    refine wpAnyH_take (i := 7) (v := .bool true) rfl (by kernel_rfl) (by kernel_rfl) (by kernel_rfl) (fun _ _ _ h => h) (Or.inl ⟨by kernel_rfl, fun _ _ => by go_simp⟩) hHeld ?_
    simp only [Act.put, List.getElem_toArray, List.getElem_cons_zero, List.getElem_cons_succ, List.setIfInBounds_toArray, List.set_cons_zero, List.set_cons_succ]
    refine wpAnyH_take (i := 8) (v := .bool true) rfl (by kernel_rfl) (by kernel_rfl) (by kernel_rfl) (fun _ _ _ h => h) (Or.inl ⟨by kernel_rfl, fun _ _ => by go_simp⟩) hHeld ?_
    simp only [Act.put, List.getElem_toArray, List.getElem_cons_zero, List.getElem_cons_succ, List.setIfInBounds_toArray, List.set_cons_zero, List.set_cons_succ]
    refine wpAnyH_take (i := 9) (v := .bool true) rfl (by kernel_rfl) (by kernel_rfl) (by kernel_rfl) (fun _ _ _ h => h) (Or.inl ⟨by kernel_rfl, fun _ _ => by go_simp⟩) hHeld ?_
    simp only [Act.put, List.getElem_toArray, List.getElem_cons_zero, List.getElem_cons_succ, List.setIfInBounds_toArray, List.set_cons_zero, List.set_cons_succ]
    refine wpAnyH_take (i := 10) (v := ?_) rfl (by kernel_rfl) (by kernel_rfl) (by kernel_rfl) (fun _ _ _ h => h) (Or.inl ⟨by kernel_rfl, ?_⟩) hHeld ?_
    rotate_left
    · intro W hSw
      clear hSw
      go_simp <;> with_reducible rfl
    simp only [Act.put, List.getElem_toArray, List.getElem_cons_zero, List.getElem_cons_succ, List.setIfInBounds_toArray, List.set_cons_zero, List.set_cons_succ]
    refine wpAnyH_take (i := 11) (v := .bool true) rfl (by kernel_rfl) (by kernel_rfl) (by kernel_rfl) (fun _ _ _ h => h) (Or.inl ⟨by kernel_rfl, fun _ _ => by go_simp⟩) hHeld ?_
    simp only [Act.put, List.getElem_toArray, List.getElem_cons_zero, List.getElem_cons_succ, List.setIfInBounds_toArray, List.set_cons_zero, List.set_cons_succ]
    refine wpAnyH_take (i := 12) (v := .bool true) rfl (by kernel_rfl) (by kernel_rfl) (by kernel_rfl) (fun _ _ _ h => h) (Or.inl ⟨by kernel_rfl, fun _ _ => by go_simp⟩) hHeld ?_
    simp only [Act.put, List.getElem_toArray, List.getElem_cons_zero, List.getElem_cons_succ, List.setIfInBounds_toArray, List.set_cons_zero, List.set_cons_succ]
    refine wpAnyH_take (i := 13) (v := .bool true) rfl (by kernel_rfl) (by kernel_rfl) (by kernel_rfl) (fun _ _ _ h => h) (Or.inl ⟨by kernel_rfl, fun _ _ => by go_simp⟩) hHeld ?_
    simp only [Act.put, List.getElem_toArray, List.getElem_cons_zero, List.getElem_cons_succ, List.setIfInBounds_toArray, List.set_cons_zero, List.set_cons_succ]
    refine wpAnyH_take (i := 14) (v := ?_) rfl (by kernel_rfl) (by kernel_rfl) (by kernel_rfl) (fun _ _ _ h => h) (Or.inl ⟨by kernel_rfl, ?_⟩) hHeld ?_
    rotate_left
    · intro W hSw
      clear hSw
      go_simp <;> with_reducible rfl
    simp only [Act.put, List.getElem_toArray, List.getElem_cons_zero, List.getElem_cons_succ, List.setIfInBounds_toArray, List.set_cons_zero, List.set_cons_succ]
    refine wpAnyH_take (i := 15) (v := .bool true) rfl (by kernel_rfl) (by kernel_rfl) (by kernel_rfl) (fun _ _ _ h => h) (Or.inl ⟨by kernel_rfl, fun _ _ => by go_simp⟩) hHeld ?_
    simp only [Act.put, List.getElem_toArray, List.getElem_cons_zero, List.getElem_cons_succ, List.setIfInBounds_toArray, List.set_cons_zero, List.set_cons_succ]
    refine wpAnyH_take (i := 16) (v := .bool true) rfl (by kernel_rfl) (by kernel_rfl) (by kernel_rfl) (fun _ _ _ h => h) (Or.inl ⟨by kernel_rfl, fun _ _ => by go_simp⟩) hHeld ?_
    simp only [Act.put, List.getElem_toArray, List.getElem_cons_zero, List.getElem_cons_succ, List.setIfInBounds_toArray, List.set_cons_zero, List.set_cons_succ]
    refine wpAnyH_take (i := 17) (v := .bool true) rfl (by kernel_rfl) (by kernel_rfl) (by kernel_rfl) (fun _ _ _ h => h) (Or.inl ⟨by kernel_rfl, fun _ _ => by go_simp⟩) hHeld ?_
    simp only [Act.put, List.getElem_toArray, List.getElem_cons_zero, List.getElem_cons_succ, List.setIfInBounds_toArray, List.set_cons_zero, List.set_cons_succ]
    refine wpAnyH_take (i := 18) (v := ?_) rfl (by kernel_rfl) (by kernel_rfl) (by kernel_rfl) (fun _ _ _ h => h) (Or.inl ⟨by kernel_rfl, ?_⟩) hHeld ?_
    rotate_left
    · intro W hSw
      clear hSw
      go_simp <;> with_reducible rfl
    simp only [Act.put, List.getElem_toArray, List.getElem_cons_zero, List.getElem_cons_succ, List.setIfInBounds_toArray, List.set_cons_zero, List.set_cons_succ]
    refine wpAnyH_take (i := 19) (v := ?_) rfl (by kernel_rfl) (by kernel_rfl) (by kernel_rfl) (fun _ _ _ h => h) (Or.inl ⟨by kernel_rfl, ?_⟩) hHeld ?_
    rotate_left
    · intro W hSw
      have hcv := HCV.out _ hSw
      clear hSw
      go_simp <;> with_reducible rfl
    simp only [Act.put, List.getElem_toArray, List.getElem_cons_zero, List.getElem_cons_succ, List.setIfInBounds_toArray, List.set_cons_zero, List.set_cons_succ]
    have HMK := HMKS.out _ hHeld
    obtain ⟨w1, hmk, nb, ny⟩ := HMK
    refine wpAnyH_ready (rs := [20]) (by kernel_rfl) (by simp) ?_
    refine AllReadyH.cons rfl (fun K hK => ?_) AllReadyH.nil
    go_simp
    refine hK.out _ _ ?_ (fun hHeld => ?_)
    · exact nb.out
    clear hK K hmk
    try simp only [Act.put, List.getElem_toArray, List.getElem_cons_zero, List.getElem_cons_succ, List.setIfInBounds_toArray, List.set_cons_zero, List.set_cons_succ]
    have hcv2 := conv_newY ny.out
    refine wpAnyH_ready (rs := [21]) (by kernel_rfl) (by simp) ?_
    refine AllReadyH.cons rfl (fun K hK => ?_) AllReadyH.nil
    go_simp
    refine hK.out _ _ ?_ (fun hHeld => ?_)
    · exact hHeld
    clear hK K hcv2
    try simp only [Act.put, List.getElem_toArray, List.getElem_cons_zero, List.getElem_cons_succ, List.setIfInBounds_toArray, List.set_cons_zero, List.set_cons_succ]
    refine wpAnyH_take (i := 22) (v := .bool true) rfl (by kernel_rfl) (by kernel_rfl) (by kernel_rfl) (fun _ _ _ h => h) (Or.inl ⟨by kernel_rfl, fun _ _ => by go_simp⟩) hHeld ?_
    simp only [Act.put, List.getElem_toArray, List.getElem_cons_zero, List.getElem_cons_succ, List.setIfInBounds_toArray, List.set_cons_zero, List.set_cons_succ]
    refine wpAnyH_take (i := 23) (v := .bool true) rfl (by kernel_rfl) (by kernel_rfl) (by kernel_rfl) (fun _ _ _ h => h) (Or.inl ⟨by kernel_rfl, fun _ _ => by go_simp⟩) hHeld ?_
    simp only [Act.put, List.getElem_toArray, List.getElem_cons_zero, List.getElem_cons_succ, List.setIfInBounds_toArray, List.set_cons_zero, List.set_cons_succ]
    refine wpAnyH_take (i := 24) (v := .bool true) rfl (by kernel_rfl) (by kernel_rfl) (by kernel_rfl) (fun _ _ _ h => h) (Or.inl ⟨by kernel_rfl, fun _ _ => by go_simp⟩) hHeld ?_
    simp only [Act.put, List.getElem_toArray, List.getElem_cons_zero, List.getElem_cons_succ, List.setIfInBounds_toArray, List.set_cons_zero, List.set_cons_succ]
    refine wpAnyH_take (i := 25) (v := ?_) rfl (by kernel_rfl) (by kernel_rfl) (by kernel_rfl) (fun _ _ _ h => h) (Or.inl ⟨by kernel_rfl, ?_⟩) hHeld ?_
    rotate_left
    · intro W hSw
      clear hSw
      go_simp <;> with_reducible rfl
    simp only [Act.put, List.getElem_toArray, List.getElem_cons_zero, List.getElem_cons_succ, List.setIfInBounds_toArray, List.set_cons_zero, List.set_cons_succ]
    refine wpAnyH_take (i := 27) (v := ?_) rfl (by kernel_rfl) (by kernel_rfl) (by kernel_rfl) (fun _ _ _ h => h) (Or.inl ⟨by kernel_rfl, ?_⟩) hHeld ?_
    rotate_left
    · intro W hSw
      clear hSw
      go_simp <;> with_reducible rfl
    simp only [Act.put, List.getElem_toArray, List.getElem_cons_zero, List.getElem_cons_succ, List.setIfInBounds_toArray, List.set_cons_zero, List.set_cons_succ]
    have HB5 := hide (HBL.out _ hHeld)
    refine wpAnyH_ready (rs := [26]) (by kernel_rfl) (by simp) ?_
    refine AllReadyH.cons rfl (fun K hK => ?_) AllReadyH.nil
    go_simp
    go_wp2_with (first | (go_at_call 21; refine HB5.out.mono ?_; rintro e y5 ⟨rfl, b5⟩))
    refine hK.out _ _ ?_ (fun hHeld => ?_)
    · exact b5.out
    clear hK K
    try simp only [Act.put, List.getElem_toArray, List.getElem_cons_zero, List.getElem_cons_succ, List.setIfInBounds_toArray, List.set_cons_zero, List.set_cons_succ]
    clear b5 HB5
    refine wpAnyH_take (i := 28) (v := .bool true) rfl (by kernel_rfl) (by kernel_rfl) (by kernel_rfl) (fun _ _ _ h => h) (Or.inl ⟨by kernel_rfl, fun _ _ => by go_simp⟩) hHeld ?_
    simp only [Act.put, List.getElem_toArray, List.getElem_cons_zero, List.getElem_cons_succ, List.setIfInBounds_toArray, List.set_cons_zero, List.set_cons_succ]
    refine wpAnyH_take (i := 29) (v := .bool true) rfl (by kernel_rfl) (by kernel_rfl) (by kernel_rfl) (fun _ _ _ h => h) (Or.inl ⟨by kernel_rfl, fun _ _ => by go_simp⟩) hHeld ?_
    simp only [Act.put, List.getElem_toArray, List.getElem_cons_zero, List.getElem_cons_succ, List.setIfInBounds_toArray, List.set_cons_zero, List.set_cons_succ]
    refine wpAnyH_take (i := 30) (v := .bool true) rfl (by kernel_rfl) (by kernel_rfl) (by kernel_rfl) (fun _ _ _ h => h) (Or.inl ⟨by kernel_rfl, fun _ _ => by go_simp⟩) hHeld ?_
    simp only [Act.put, List.getElem_toArray, List.getElem_cons_zero, List.getElem_cons_succ, List.setIfInBounds_toArray, List.set_cons_zero, List.set_cons_succ]
    refine wpAnyH_take (i := 31) (v := ?_) rfl (by kernel_rfl) (by kernel_rfl) (by kernel_rfl) (fun _ _ _ h => h) (Or.inl ⟨by kernel_rfl, ?_⟩) hHeld ?_
    rotate_left
    · intro W hSw
      clear hSw
      go_simp <;> with_reducible rfl
    simp only [Act.put, List.getElem_toArray, List.getElem_cons_zero, List.getElem_cons_succ, List.setIfInBounds_toArray, List.set_cons_zero, List.set_cons_succ]
    have HB5 := hide (HPE.out _ hHeld)
    refine wpAnyH_ready (rs := [32]) (by kernel_rfl) (by simp) ?_
    refine AllReadyH.cons rfl (fun K hK => ?_) AllReadyH.nil
    go_simp
    go_wp2_with (first | (go_at_call 17; refine HB5.out.mono ?_; rintro e y5 ⟨rfl, b5⟩))
    refine hK.out _ _ ?_ (fun hHeld => ?_)
    · exact b5.out
    clear hK K
    try simp only [Act.put, List.getElem_toArray, List.getElem_cons_zero, List.getElem_cons_succ, List.setIfInBounds_toArray, List.set_cons_zero, List.set_cons_succ]
    clear b5 HB5
    refine wpAnyH_take (i := 33) (v := .bool true) rfl (by kernel_rfl) (by kernel_rfl) (by kernel_rfl) (fun _ _ _ h => h) (Or.inl ⟨by kernel_rfl, fun _ _ => by go_simp⟩) hHeld ?_
    simp only [Act.put, List.getElem_toArray, List.getElem_cons_zero, List.getElem_cons_succ, List.setIfInBounds_toArray, List.set_cons_zero, List.set_cons_succ]
    refine wpAnyH_take (i := 34) (v := .bool true) rfl (by kernel_rfl) (by kernel_rfl) (by kernel_rfl) (fun _ _ _ h => h) (Or.inl ⟨by kernel_rfl, fun _ _ => by go_simp⟩) hHeld ?_
    simp only [Act.put, List.getElem_toArray, List.getElem_cons_zero, List.getElem_cons_succ, List.setIfInBounds_toArray, List.set_cons_zero, List.set_cons_succ]
    refine wpAnyH_take (i := 35) (v := .bool true) rfl (by kernel_rfl) (by kernel_rfl) (by kernel_rfl) (fun _ _ _ h => h) (Or.inl ⟨by kernel_rfl, fun _ _ => by go_simp⟩) hHeld ?_
    simp only [Act.put, List.getElem_toArray, List.getElem_cons_zero, List.getElem_cons_succ, List.setIfInBounds_toArray, List.set_cons_zero, List.set_cons_succ]
    refine wpAnyH_done (by kernel_rfl) ?_ _
    have HZ := hide (HBX.out _ hHeld)
    clear hHeld
    go_wp2
    go_ret
    exact ⟨rfl, HZ.out⟩
  · have HN := hide (pnew_no n w hb)
    by_cases h1 : n < 1
    · clear hb hn
      go_enter Try.func4, Try.ntmps4
      go_wp2_with fail
      refine HN.out.mono ?_
      rintro e x0 ⟨rfl, b0⟩
      have B0 := hide b0
      clear HN b0
      go_wp2_with fail
      refine (HAL.out _).mono ?_
      rintro e x1 ⟨rfl, b1⟩
      have B1 := hide (bel_on B0.out b1)
      clear b1 B0 HAL
      go_wp2
      go_ret
      exact ⟨rfl, B1.out⟩
    · have h2 : (4096 : Int) < n := by omega
      clear hb hn
      go_enter Try.func4, Try.ntmps4
      go_wp2_with fail
      refine HN.out.mono ?_
      rintro e x0 ⟨rfl, b0⟩
      have B0 := hide b0
      clear HN b0
      go_wp2_with fail
      refine (HAL.out _).mono ?_
      rintro e x1 ⟨rfl, b1⟩
      have B1 := hide (bel_on B0.out b1)
      clear b1 B0 HAL
      go_wp2
      go_ret
      exact ⟨rfl, B1.out⟩
end Go.Proofs.Yteacldkfdhhphaa
