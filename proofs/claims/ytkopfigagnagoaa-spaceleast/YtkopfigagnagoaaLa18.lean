/- The live question of stage 18's statements; the walks of SpaceNil and SpaceMade. -/
import Derived.Test.YtkopfigagnagoaaPk18
set_option linter.unusedVariables false
set_option linter.unusedSimpArgs false
set_option maxRecDepth 40000
namespace Go.Proofs.Ytkopfigagnagoaa
open Go.RowKit

theorem IsK.below {A : Nat → Prop} {w x : World} {v : Value} {l : SL} (h : IsK A w v l) (hb : Below w.heap.size w x) : IsK A x v l := h.keep fun k hk => hb.block k (h.lt k hk)
/-- A space that was made since w, and what it has. -/
structure Liv (w : World) (v : Value) (l : SL) (x : World) : Prop where
  k : ∃ A, IsK A x v l ∧ ∀ k, A k → w.heap.size ≤ k
  b : Below w.heap.size w x
theorem Liv.below {w x y : World} {v : Value} {l : SL} (h : Liv w v l x) (hb : Below x.heap.size x y) : Liv w v l y := by
  obtain ⟨A, h1, h2⟩ := h.k
  exact ⟨⟨A, h1.below hb, h2⟩, h.b.trans (hb.mono h.b.size)⟩
theorem Liv.kr {w x y : World} {v : Value} {l : SL} {A : Nat → Prop} (hA : ∀ k, A k → w.heap.size ≤ k) (hb : Below w.heap.size w x) (h : KR IsK A x v l y) : Liv w v l y := by
  obtain ⟨A', h1, h2, h3⟩ := h
  refine ⟨⟨A', h1, fun k hk => (h2 k hk).elim (hA k) (fun h => Nat.le_trans hb.size h)⟩, hb.trans (h3.below hA hb.size)⟩
theorem live_new (n : Nat) (w : World) (h : 1 ≤ n ∧ n ≤ 4096) : Calls Try.prog 8 #[.int .i64 (n : Int)] w fun e x => ∃ a, e = .returned (.tuple #[.pointer (some a), .int .i64 0]) ∧ Hid (Liv w (.pointer (some a)) (newS n) x) := (pnew_ok n w h).mono (by
  rintro e x ⟨a, A, rfl, h1, h2, h3⟩
  exact ⟨a, rfl, hide ⟨⟨A, h1, h2⟩, h3⟩⟩)
theorem live_take {w x : World} {v : Value} {l : SL} (h : Liv w v l x) (hl : l.length ≤ 4096) : Calls Try.prog 19 #[v] x fun e y => e = .returned (.tuple #[.int .i64 ((takeS l).2.1 : Int), .int .i64 (takeS l).2.2]) ∧ Hid (Liv w v (takeS l).1 y) := by
  obtain ⟨A, h1, h2⟩ := h.k
  exact (ptake_any A v l x h1 hl).mono fun e y hh => ⟨hh.1, hide (Liv.kr h2 h.b hh.2)⟩
theorem live_give {w x : World} {v : Value} {l : SL} (h : Liv w v l x) (hl : l.length ≤ 4096) (i : Int) : Calls Try.prog 20 #[v, .int .i64 i] x fun e y => e = .returned (.int .i64 (giveS l i).2) ∧ Hid (Liv w v (giveS l i).1 y) := by
  obtain ⟨A, h1, h2⟩ := h.k
  exact (pgive_any A v l i x h1 hl).mono fun e y hh => ⟨hh.1, hide (Liv.kr h2 h.b hh.2)⟩
theorem live_taken {w x : World} {v : Value} {l : SL} (h : Liv w v l x) (hl : l.length ≤ 4096) (i : Int) : Calls Try.prog 16 #[v, .int .i64 i] x fun e y => e = .returned (.bool (takenS l i)) ∧ Hid (Liv w v l y) := by
  obtain ⟨A, h1, h2⟩ := h.k
  exact (ptaken_any A v l i x h1 hl).mono fun e y hh => ⟨hh.1, hide (h.below hh.2)⟩
theorem live_free {w x : World} {v : Value} {l : SL} (h : Liv w v l x) (hl : l.length ≤ 4096) : Calls Try.prog 14 #[v] x fun e y => e = .returned (.int .i64 (freeS l : Int)) ∧ Hid (Liv w v l y) := by
  obtain ⟨A, h1, h2⟩ := h.k
  exact (pfree_any A v l x h1 hl).mono fun e y hh => ⟨hh.1, hide (h.below hh.2)⟩
set_option maxHeartbeats 4000000 in
theorem alive_any (w : World) : Calls Try.prog 18 #[] w fun e w' => e = .returned (.bool true) ∧ Below w.heap.size w w' := by
  have HN := hide (live_new 2 w (by decide))
  change Hid (Calls Try.prog _ #[.int .i64 2] w _) at HN
  go_enter Try.func18, Try.ntmps18
  go_wp2_with fail
  refine HN.out.mono ?_
  rintro e w1 ⟨a, rfl, H1⟩
  have HT1 := hide (live_take H1.out (by decide))
  change Hid (Calls Try.prog _ _ w1 fun e y => e = .returned (.tuple #[.int .i64 0, .int .i64 0]) ∧ Hid (Liv w _ [true, false] y)) at HT1
  clear HN H1
  go_wp2_with fail
  refine HT1.out.mono ?_
  rintro e w2 ⟨rfl, H2⟩
  have HT2 := hide (live_take H2.out (by decide))
  change Hid (Calls Try.prog _ _ w2 fun e y => e = .returned (.tuple #[.int .i64 1, .int .i64 0]) ∧ Hid (Liv w _ [true, true] y)) at HT2
  clear HT1 H2
  go_wp2_with fail
  refine HT2.out.mono ?_
  rintro e w3 ⟨rfl, H3⟩
  have HT3 := hide (live_take H3.out (by decide))
  change Hid (Calls Try.prog _ _ w3 fun e y => e = .returned (.tuple #[.int .i64 0, .int .i64 3]) ∧ Hid (Liv w _ [true, true] y)) at HT3
  clear HT2 H3
  go_wp2_with fail
  refine HT3.out.mono ?_
  rintro e w4 ⟨rfl, H4⟩
  have HG := hide (live_give H4.out (by decide) 0)
  change Hid (Calls Try.prog _ _ w4 fun e y => e = .returned (.int .i64 0) ∧ Hid (Liv w _ [false, true] y)) at HG
  clear HT3 H4
  go_wp2_with fail
  refine HG.out.mono ?_
  rintro e w5 ⟨rfl, H5⟩
  have HF := hide (live_free H5.out (by decide))
  change Hid (Calls Try.prog _ _ w5 fun e y => e = .returned (.int .i64 1) ∧ Hid (Liv w _ [false, true] y)) at HF
  clear HG H5
  go_wp2_with fail
  refine HF.out.mono ?_
  rintro e w6 ⟨rfl, H6⟩
  have HA := hide (live_taken H6.out (by decide) 1)
  change Hid (Calls Try.prog _ _ w6 fun e y => e = .returned (.bool true) ∧ Hid (Liv w _ [false, true] y)) at HA
  clear HF H6
  go_wp2_with fail
  refine HA.out.mono ?_
  rintro e w7 ⟨rfl, H7⟩
  have HB := hide (live_taken H7.out (by decide) 0)
  change Hid (Calls Try.prog _ _ w7 fun e y => e = .returned (.bool false) ∧ Hid (Liv w _ [false, true] y)) at HB
  clear HA H7
  go_wp2_with fail
  refine HB.out.mono ?_
  rintro e w8 ⟨rfl, H8⟩
  have HE := hide H8.out.b
  clear HB H8
  go_wp2
  go_ret
  exact ⟨rfl, HE.out⟩
set_option maxHeartbeats 4000000 in
theorem spaceNil_walk (i : Int) (hi : (Lit.int .i64 i).wf = true) (v : Value) (l : List Int) (w : World) (hZ : IsZ w v l) :
    Calls Try.prog 6 #[.int .i64 i, v] w fun e w' => e = .returned (.bool true) ∧ Below w.heap.size w w' := by
  obtain ⟨a, c, rfl⟩ := hZ.form
  have HAL := hide alive_any
  have HT := hide (nil_take w)
  have HG := hide (nil_give i)
  have HO := hide (nil_only a l.length c)
  have HTK := hide (nil_taken i)
  have HFR := hide nil_free
  clear hZ hi
  generalize l.length = n at *
  go_enter Try.func6, Try.ntmps6
  go_wp2_with fail
  refine HT.out.mono ?_
  rintro e w1 ⟨⟨z, rfl⟩, b1⟩
  have B1 := hide b1
  clear b1 HT
  go_wp2_with fail
  refine (HAL.out _).mono ?_
  rintro e w2 ⟨rfl, b2⟩
  have B2 := hide (B1.out.trans (b2.mono B1.out.size))
  clear b2 B1
  go_wp2_with fail
  refine (HG.out _).mono ?_
  rintro e w3 ⟨rfl, b3⟩
  have B3 := hide (B2.out.trans (b3.mono B2.out.size))
  clear b3 B2
  go_wp2_with fail
  refine (HO.out _).mono ?_
  rintro e w4 ⟨rfl, b4⟩
  have B4 := hide (B3.out.trans (b4.mono B3.out.size))
  clear b4 B3
  go_wp2_with fail
  refine (HTK.out _).mono ?_
  rintro e w5 ⟨rfl, b5⟩
  have B5 := hide (B4.out.trans (b5.mono B4.out.size))
  clear b5 B4
  go_wp2_with fail
  refine (HFR.out _).mono ?_
  rintro e w6 ⟨rfl, b6⟩
  have B6 := hide (B5.out.trans (b6.mono B5.out.size))
  clear b6 B5
  go_wp2
  go_ret
  exact ⟨rfl, B6.out⟩
theorem taken_new (n : Nat) (i : Int) : takenS (newS n) i = false := by
  unfold takenS newS
  rw [List.getD_eq_getElem?_getD]
  by_cases h : i.toNat < n
  · rw [List.getElem?_replicate_of_lt h]
    simp
  · rw [List.getElem?_eq_none (by rw [List.length_replicate]; omega)]
    simp
theorem free_new (n : Nat) : freeS (newS n) = n := by
  unfold freeS newS
  rw [List.count_replicate_self]
set_option maxHeartbeats 4000000 in
theorem spaceMade_walk (n : Int) (hn : (Lit.int .i64 n).wf = true) (w : World) :
    Calls Try.prog 4 #[.int .i64 n] w fun e w' => e = .returned (.bool true) ∧ Below w.heap.size w w' := by
  have HAL := hide alive_any
  by_cases h : 1 ≤ n ∧ n ≤ 4096
  · obtain ⟨m, rfl⟩ : ∃ m : Nat, n = (m : Int) := ⟨n.toNat, by omega⟩
    have HN := hide (live_new m w (by omega))
    have g1 : (1 : Int) ≤ (m : Int) := by omega
    have g2 : (m : Int) ≤ 4096 := by omega
    have hw : wrap64 ((m : Int) - 1) = (m : Int) - 1 := by unfold wrap64; omega
    have hlen : (newS m).length ≤ 4096 := by unfold newS; rw [List.length_replicate]; omega
    have HLF := hide (fun x v (hx : Liv w v (newS m) x) => live_free hx hlen)
    have HLT := hide (fun x v i (hx : Liv w v (newS m) x) => live_taken hx hlen i)
    rw [free_new] at HLF
    have HTN := hide (taken_new m)
    clear h hn hlen
    generalize newS m = L at *
    go_enter Try.func4, Try.ntmps4
    go_wp2_with fail
    refine HN.out.mono ?_
    rintro e w1 ⟨a, rfl, H1⟩
    clear HN
    go_wp2_with fail
    refine (HAL.out _).mono ?_
    rintro e w2 ⟨rfl, b2⟩
    have H2 := hide (H1.out.below b2)
    have HF := hide (HLF.out _ _ H2.out)
    clear b2 H1 H2 HLF
    go_wp2_with fail
    refine HF.out.mono ?_
    rintro e w3 ⟨rfl, H3⟩
    have HA := hide (HLT.out _ _ 0 H3.out)
    rw [HTN.out] at HA
    clear H3 HF
    go_wp2_with fail
    refine HA.out.mono ?_
    rintro e w4 ⟨rfl, H4⟩
    have HB := hide (HLT.out _ _ ((m : Int) - 1) H4.out)
    rw [HTN.out] at HB
    clear H4 HA HLT HTN
    go_wp2_with fail
    refine HB.out.mono ?_
    rintro e w5 ⟨rfl, H5⟩
    have HE := hide H5.out.b
    clear HB H5
    go_wp2
    go_ret
    exact ⟨rfl, HE.out⟩
  · have HN := hide (pnew_no n w h)
    rcases (by omega : n < 1 ∨ (1 ≤ n ∧ 4096 < n)) with g1 | ⟨g1, g2⟩
    all_goals
      clear h hn
      go_enter Try.func4, Try.ntmps4
      go_wp2_with fail
      refine HN.out.mono ?_
      rintro e w1 ⟨rfl, b1⟩
      have B1 := hide b1
      clear b1 HN
      go_wp2_with fail
      refine (HAL.out _).mono ?_
      rintro e w2 ⟨rfl, b2⟩
      have B2 := hide (B1.out.trans (b2.mono B1.out.size))
      clear b2 B1
      go_wp2
      go_ret
      exact ⟨rfl, B2.out⟩
end Go.Proofs.Ytkopfigagnagoaa
