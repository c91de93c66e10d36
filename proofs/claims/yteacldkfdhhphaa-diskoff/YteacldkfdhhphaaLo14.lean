/- DiskOff's walk. -/
import Derived.Test.YteacldkfdhhphaaLn14
set_option linter.unusedVariables false
set_option linter.unusedSimpArgs false
set_option maxRecDepth 40000
namespace Go.Proofs.Yteacldkfdhhphaa
open Go.RowKit

/-- A disk of two blocks, i writes and flushes behind a fuse of n. -/
structure OffS (n i : Nat) (d : DM) : Prop where
  fit : Fit d
  s : d.safe.length = 8
  l : d.l.length ≤ 4 * i
  on : i ≤ n → d.fuse = true ∧ d.off = false ∧ d.left = (n : Int) - i
  out : n < i → d.off = true
theorem OffS.start (n : Nat) (hn : n ≤ 1000) : OffS n 0 (armD (newD 2) n) := by
  refine ⟨(Fit.new (by decide)).arm _ (by omega), by kernel_rfl, Nat.le_refl _, fun _ => ⟨rfl, rfl, ?_⟩, fun h => by omega⟩
  show (if (n : Int) < 0 then 0 else (n : Int)) = _
  split <;> omega
theorem OffS.spend {n i : Nat} {d : DM} (h : OffS n i d) : (spendD d).2 = decide (i < n) ∧ (i + 1 ≤ n → (spendD d).1.fuse = true ∧ (spendD d).1.off = false ∧ (spendD d).1.left = (n : Int) - (i + 1 : Nat)) ∧ (n < i + 1 → (spendD d).1.off = true) := by
  by_cases h1 : i < n
  · obtain ⟨a, b, c⟩ := h.on (by omega)
    rw [spend_fuse a b (by omega)]
    exact ⟨(decide_eq_true h1).symm, fun _ => ⟨a, b, by show d.left - 1 = _; omega⟩, fun h => by omega⟩
  · have hs : spendD d = ({ d with off := true, fuse := false }, false) := by
      by_cases h2 : i = n
      · obtain ⟨a, b, c⟩ := h.on (by omega)
        exact spend_out a (by omega)
      · exact spend_off (h.out (by omega))
    rw [hs]
    exact ⟨(decide_eq_false h1).symm, fun h => by omega, fun _ => rfl⟩
theorem OffS.write {n i : Nat} {d : DM} (h : OffS n i d) (hi : i ≤ 1000) (k : Int) (hk : 0 ≤ k ∧ k < 2) (b : Bs) (hb : b.length = 256) : (writeD d k b).2 = (if i < n then 0 else 9) ∧ OffS n (i + 1) (writeD d k b).1 := by
  obtain ⟨s1, s2, s3⟩ := h.spend
  have hw := write_size d k b
  have hf := h.fit.write (by have := h.l; omega) k b
  have his : isD d k = true := by
    rw [isD_iff, h.s]
    omega
  have he : writeD d k b = if (spendD d).2 then ({ (spendD d).1 with l := (spendD d).1.l ++ piecesL k.toNat b }, 0) else ((spendD d).1, 9) := by
    unfold writeD
    rw [his, decide_eq_true hb, Bool.and_true, if_pos rfl]
  have hl := h.l
  refine ⟨?_, hf, by rw [hw.1]; exact h.s, by omega, ?_, ?_⟩
  · rw [he, s1]
    by_cases h1 : i < n
    · simp [h1]
    · simp [h1]
  · rw [he]
    split
    · exact s2
    · exact s2
  · rw [he]
    split
    · exact s3
    · exact s3
theorem OffS.flush {n i : Nat} {d : DM} (h : OffS n i d) : (flushD d).2 = (if i < n then 0 else 9) ∧ OffS n (i + 1) (flushD d).1 := by
  obtain ⟨s1, s2, s3⟩ := h.spend
  have hw := flush_size d
  have hl := h.l
  refine ⟨?_, h.fit.flush, by rw [hw.1]; exact h.s, by omega, ?_, ?_⟩
  · unfold flushD
    rw [s1]
    by_cases h1 : i < n
    · simp [h1]
    · simp [h1]
  · unfold flushD
    split
    · exact s2
    · exact s2
  · unfold flushD
    split
    · exact s3
    · exact s3
/-- Behind the power's end. -/
theorem OffS.last {n i : Nat} {d : DM} (h : OffS n i d) (hi : i ≤ 1000) (hni : n ≤ i) (b : Bs) (hb : b.length = 256) : ∃ d1 d2, writeD d 0 b = (d1, 9) ∧ Fit d1 ∧ (readD d1 0).2 = 9 ∧ armD d1 5 = d1 ∧ Fit (crashD d1 []) ∧ writeD (crashD d1 []) 0 b = (d2, 0) ∧ Fit d2 ∧ (readD d2 0).2 = 0 := by
  obtain ⟨w1, w2⟩ := h.write hi 0 (by omega) b hb
  rw [if_neg (by omega)] at w1
  have hoff := w2.out (by omega)
  obtain ⟨⟨d1, z1⟩, hx⟩ : ∃ x, writeD d 0 b = x := ⟨_, rfl⟩
  rw [hx] at w1 w2 hoff
  simp only [] at w1 w2 hoff
  subst w1
  have hc := crash_size d1 []
  have his : ∀ d' : DM, d'.safe.length = 8 → isD d' 0 = true := fun d' h => by
    rw [isD_iff, h]
    omega
  have hw : writeD (crashD d1 []) 0 b = ({ crashD d1 [] with l := (crashD d1 []).l ++ piecesL 0 b }, 0) := by
    unfold writeD
    rw [his _ (by rw [hc.1, w2.s]), decide_eq_true hb, Bool.and_true, if_pos rfl]
    rfl
  have hf := w2.fit.crash []
  have hf2 := hf.write (by rw [hc.2]; decide) 0 b
  rw [hw] at hf2
  refine ⟨d1, _, hx, w2.fit, ?_, ?_, hf, hw, hf2, ?_⟩
  · unfold readD
    rw [his d1 w2.s, if_pos rfl, hoff, if_pos rfl]
  · unfold armD
    rw [hoff, if_pos rfl]
  · unfold readD
    rw [his _ (by show (crashD d1 []).safe.length = 8; rw [hc.1, w2.s]), if_pos rfl]
    rfl
set_option maxHeartbeats 8000000 in
theorem diskOff_walk (k : Int) (hk : (Lit.int .i64 k).wf = true) (m : Int) (hm : (Lit.int .i64 m).wf = true) (w : World) :
    Calls Try.prog 7 #[.int .i64 k, .int .i64 m] w fun e w' => e = .returned (.bool true) ∧ Below w.heap.size w w' := by
  obtain ⟨n, hn⟩ : ∃ n : Nat, pickN k 40 = n := ⟨(pickN k 40).toNat, by have := (pick_bound k 40 (by omega)).1; unfold pickN; omega⟩
  obtain ⟨q, hq⟩ : ∃ n : Nat, pickN m 40 = n := ⟨(pickN m 40).toNat, by have := (pick_bound m 40 (by omega)).1; unfold pickN; omega⟩
  have hn2 : n < 40 := by have := (pick_bound k 40 (by omega)).2; unfold pickN at hn; omega
  have hq2 : q < 40 := by have := (pick_bound m 40 (by omega)).2; unfold pickN at hq; omega
  have HPK : Hid (∀ x, Calls Try.prog 9 #[.int .i64 k, .int .i64 40] x fun e w' => e = .returned (.int .i64 (n : Int)) ∧ w' = x) := hide (fun x => (pick_any k 40 (by omega) (by omega) x).mono fun e w' h => by rw [hn] at h; exact h)
  have HPM : Hid (∀ x, Calls Try.prog 9 #[.int .i64 m, .int .i64 40] x fun e w' => e = .returned (.int .i64 (q : Int)) ∧ w' = x) := hide (fun x => (pick_any m 40 (by omega) (by omega) x).mono fun e w' h => by rw [hq] at h; exact h)
  have HN := hide (live_new 2 w w (Below.refl _ _) (by omega))
  have HFU : Hid (∀ a x, Liv w (.pointer (some a)) (newD (Int.toNat 2)) x → Calls Try.prog 26 #[.pointer (some a), .int .i64 (n : Int)] x fun e y => e = .returned (.tuple #[]) ∧ ∃ d, Hid (OffS n 0 d ∧ Liv w (.pointer (some a)) d y)) := hide (fun a x h => (live_fuse (n := (n : Int)) (Fit.new (by decide)) h (by omega)).mono fun e y hh => ⟨hh.1, _, hide ⟨OffS.start n (by omega), hh.2.out⟩⟩)
  have HFL : Hid (∀ a x (i : Nat) d, OffS n i d → Liv w (.pointer (some a)) d x → Calls Try.prog 25 #[.pointer (some a)] x fun e y => e = .returned (.int .i64 (if i < n then 0 else 9)) ∧ ∃ d, Hid (OffS n (i + 1) d ∧ Liv w (.pointer (some a)) d y)) := hide (fun a x i d h hl => (live_flush h.fit hl).mono fun e y hh => by
    obtain ⟨h1, h2⟩ := h.flush
    rw [h1] at hh
    exact ⟨hh.1, _, hide ⟨h2, hh.2.out⟩⟩)
  have HBK := hide (fun (x : World) (z : UInt8) => live_block (w := w) (v := .bool true) (d := liv0) (x := x) z)
  have HBN : Hid (∀ x : World, Calls Try.prog 24 #[.slice none 0 0] x fun e x1 => ∃ (p : Option Addr) (c : Nat), e = .returned (.slice p 256 c) ∧ Hid (NewY x.heap.size x1 (.slice p 256 c) (blockB [])) ∧ Hid (Below x.heap.size x x1)) := hide (fun x => (rblock_any _ [] _ (.inl ⟨rfl, _, _, rfl⟩) (by simp)).mono fun e x1 hh => by
    obtain ⟨v, rfl, ho, hb⟩ := hh
    obtain ⟨p, c, rfl⟩ := owns_formG ho
    exact ⟨p, c, rfl, hide (owns_newY (l := blockB []) (by rw [block_len]; exact ho)), hide hb⟩)
  have HWR : Hid (∀ a x x1 u (i : Nat) d (j : Int) z, i ≤ 100 → 0 ≤ j ∧ j < 2 → OffS n i d → Liv w (.pointer (some a)) d x → Below x.heap.size x x1 → NewY x.heap.size x1 u (blockB [z]) → Calls Try.prog 23 #[.pointer (some a), .int .i64 j, u] x1 fun e y => e = .returned (.int .i64 (if i < n then 0 else 9)) ∧ ∃ d, Hid (OffS n (i + 1) d ∧ Liv w (.pointer (some a)) d y)) := hide (fun a x x1 u i d j z hi hj h hl hb hy => (live_write (n := j) h.fit hl hb hy (by rw [block_len]; omega)).mono fun e y hh => by
    obtain ⟨h1, h2⟩ := h.write (by omega) j hj (blockB [z]) (block_len _)
    rw [h1] at hh
    exact ⟨hh.1, _, hide ⟨h2, hh.2.out⟩⟩)
  have HLA : Hid (∀ (i : Nat) d, i ≤ 100 → n ≤ i → OffS n i d → ∃ d1 d2, writeD d 0 (blockB []) = (d1, 9) ∧ Fit d ∧ Fit d1 ∧ (readD d1 0).2 = 9 ∧ armD d1 5 = d1 ∧ Fit (crashD d1 []) ∧ writeD (crashD d1 []) 0 (blockB []) = (d2, 0) ∧ Fit d2 ∧ (readD d2 0).2 = 0) := hide (fun i d hi hni h => by
    obtain ⟨d1, d2, e⟩ := h.last (by omega) hni (blockB []) (block_len _)
    exact ⟨d1, d2, e.1, h.fit, e.2⟩)
  have HWL : Hid (∀ a x x1 u d d1 (z : Int), Fit d → writeD d 0 (blockB []) = (d1, z) → Liv w (.pointer (some a)) d x → Below x.heap.size x x1 → NewY x.heap.size x1 u (blockB []) → Calls Try.prog 23 #[.pointer (some a), .int .i64 0, u] x1 fun e y => e = .returned (.int .i64 z) ∧ Hid (Liv w (.pointer (some a)) d1 y)) := hide (fun a x x1 u d d1 z hf hz hl hb hy => (live_write (n := 0) hf hl hb hy (by rw [block_len]; omega)).mono fun e y hh => by
    rw [hz] at hh
    exact hh)
  have HRD : Hid (∀ a x d (z : Int), Fit d → (readD d 0).2 = z → Liv w (.pointer (some a)) d x → Calls Try.prog 15 #[.pointer (some a), .int .i64 0] x fun e y => ∃ p k c, e = .returned (.tuple #[.slice p k c, .int .i64 z]) ∧ Hid (Liv w (.pointer (some a)) d y)) := hide (fun a x d z hf hz hl => (live_read (n := 0) hf hl).mono fun e y hh => by
    obtain ⟨p, c, rfl, hy, hb⟩ := hh
    rw [hz]
    exact ⟨_, _, _, rfl, hide (hl.below hb.out)⟩)
  have HF5 : Hid (∀ a x d, Fit d → armD d 5 = d → Liv w (.pointer (some a)) d x → Calls Try.prog 26 #[.pointer (some a), .int .i64 5] x fun e y => e = .returned (.tuple #[]) ∧ Hid (Liv w (.pointer (some a)) d y)) := hide (fun a x d hf hz hl => (live_fuse (n := 5) hf hl (by omega)).mono fun e y hh => by
    rw [hz] at hh
    exact hh)
  have HCR : Hid (∀ a x d, Fit d → Liv w (.pointer (some a)) d x → Calls Try.prog 22 #[.pointer (some a), .slice none 0 0] x fun e y => e = .returned (.tuple #[]) ∧ Hid (Liv w (.pointer (some a)) (crashD d []) y)) := hide (fun a x d hf hl => live_crash hf hl (Below.refl _ _) (.inl ⟨rfl, _, _, rfl⟩) (by simp) (fun _ k hk => by cases hk))
  have HAL : Hid (∀ a x d, Liv w (.pointer (some a)) d x → Calls Try.prog 20 #[] x fun e y => e = .returned (.bool true) ∧ Hid (Below w.heap.size w y)) := hide (fun a x d hl => (alive_any x).mono fun e y hh => ⟨hh.1, hide (hl.b.trans (hh.2.mono hl.b.size))⟩)
  clear hn hq hk hm
  go_enter Try.func7, Try.ntmps7
  go_wp2_with fail
  refine HN.out.mono ?_
  rintro e x0 ⟨a, rfl, L0⟩
  clear HN
  go_wp2_with fail
  refine (HPK.out _).mono ?_
  rintro e x1 ⟨rfl, rfl⟩
  have H1 := hide (HFU.out a _ L0.out)
  clear HPK HFU L0
  go_wp2_with fail
  refine H1.out.mono ?_
  rintro e x2 ⟨rfl, d, L1⟩
  clear H1
  go_wp2
  go_loopw [8] (fun vi wr => ∃ (i : Nat), vi = .int .i64 (i : Int) ∧ i ≤ n + q ∧ ∃ d, Hid (OffS n i d ∧ Liv w (.pointer (some a)) d wr)) (fun vi _ => n + q - (intOf vi).toNat)
  case atStart => exact ⟨0, rfl, Nat.zero_le _, d, L1⟩
  case round =>
    clear L1 d
    obtain ⟨i, rfl, hi, d, L⟩ := hrel
    have hws : wrap64 ((n : Int) + q) = (n : Int) + q := by unfold wrap64; omega
    go_wp2_with fail
    refine (HPM.out _).mono ?_
    rintro e w5 ⟨rfl, rfl⟩
    by_cases hlt : i < n + q
    · have hlt2 : (i : Int) < (n : Int) + q := by omega
      clear HLA HWL HRD HF5 HCR HAL
      have hiq : ∀ (z : Int), (if i < n then (0 : Int) else 9) = z → (z = 0 ∧ (i : Int) < n ∧ i < n) ∨ (z = 9 ∧ ¬ (i : Int) < n ∧ ¬ i < n) := fun z hz => by
        by_cases h : i < n
        · rw [if_pos h] at hz; exact .inl ⟨hz.symm, by omega, h⟩
        · rw [if_neg h] at hz; exact .inr ⟨hz.symm, by omega, h⟩
      by_cases h3 : i % 3 = 2
      · have h3a : (i : Int).tmod 3 = 2 := by rw [Int.tmod_eq_emod_of_nonneg (by omega)]; omega
        have h3b : (i : Int) % 3 = 2 := by omega
        have HX := hide (HFL.out a _ i d L.out.1 L.out.2)
        have HQ := hide hiq
        clear hiq L h3 HFL HWR HBK HBN
        go_wp2_with fail
        refine HX.out.mono ?_
        generalize hz : (if i < n then (0 : Int) else 9) = z
        have hzz := HQ.out z hz
        rintro e w6 ⟨rfl, d6, L6⟩
        clear HX hz HQ h3a h3b
        rcases hzz with ⟨rfl, c1, c2⟩ | ⟨rfl, c1, c2⟩
        · clear c2
          go_wp2
          go_roundw
          case rel => exact ⟨i + 1, by go_num, by omega, d6, L6⟩
          case measure => simp [intOf]; omega
        · clear c2
          go_wp2
          go_roundw
          case rel => exact ⟨i + 1, by go_num, by omega, d6, L6⟩
          case measure => simp [intOf]; omega
      · have h3a : ((i : Int).tmod 3 == 2) = false := by rw [Int.tmod_eq_emod_of_nonneg (by omega), beq_eq_false_iff_ne]; omega
        have h3b : ((i : Int) % 3 == 2) = false := by rw [beq_eq_false_iff_ne]; omega
        have h3c : ¬ (i : Int) % 3 = 2 := by omega
        obtain ⟨r, hr⟩ : ∃ r : Nat, r = i % 2 := ⟨_, rfl⟩
        have hr2 : r < 2 := by omega
        have h2a : (i : Int).tmod 2 = (r : Int) := by rw [Int.tmod_eq_emod_of_nonneg (by omega)]; omega
        have h2b : (i : Int) % 2 = (r : Int) := by omega
        have hcv : IntKind.u8.wrap (i : Int) = (i : Int) := wraps_u8 _ (by omega) (by omega)
        have hu8 : (UInt8.ofNat i).toNat = i := by simp; omega
        have hB1 := HBK.out w5 (UInt8.ofNat i)
        rw [hu8] at hB1
        have HB1 := hide hB1
        have HQ := hide hiq
        clear HFL HBN h3 hiq hB1 hu8 HBK hr
        go_wp2_with fail
        refine HB1.out.mono ?_
        rintro e w6 ⟨p, c, rfl, y6, b6⟩
        have H2 := hide (HWR.out a _ w6 _ i d (r : Int) _ (by omega) (by omega) L.out.1 L.out.2 b6.out y6.out)
        clear HB1 HWR L y6 b6
        go_wp2_with fail
        refine H2.out.mono ?_
        generalize hz : (if i < n then (0 : Int) else 9) = z
        have hzz := HQ.out z hz
        rintro e w7 ⟨rfl, d6, L6⟩
        clear H2 hz HQ h3a h3b h3c h2a h2b hcv
        rcases hzz with ⟨rfl, c1, c2⟩ | ⟨rfl, c1, c2⟩
        · clear c2
          go_wp2
          go_roundw
          case rel => exact ⟨i + 1, by go_num, by omega, d6, L6⟩
          case measure => simp [intOf]; omega
        · clear c2
          go_wp2
          go_roundw
          case rel => exact ⟨i + 1, by go_num, by omega, d6, L6⟩
          case measure => simp [intOf]; omega
    · have hlt2 : ¬ (i : Int) < (n : Int) + q := by omega
      obtain ⟨d1, d2, e1, fd, f1, e2, e3, f2, e4, f3, e5⟩ := HLA.out i d (by omega) (by omega) L.out.1
      have HB1 := hide (HBN.out w5)
      have L0 := hide L.out.2
      have HE := hide (And.intro e1 (And.intro e2 (And.intro e3 (And.intro e4 e5))))
      clear HLA HFL HWR HBK HPM L e1 e2 e3 e4 e5
      go_wp2_with fail
      refine HB1.out.mono ?_
      rintro e w6 ⟨p, c, rfl, y6, b6⟩
      have H2 := hide (HWL.out a _ w6 _ d d1 9 fd HE.out.1 L0.out b6.out y6.out)
      clear HB1 L0 y6 b6
      go_wp2_with fail
      refine H2.out.mono ?_
      rintro e w7 ⟨rfl, L1⟩
      have H3 := hide (HRD.out a w7 d1 9 f1 HE.out.2.1 L1.out)
      clear H2 L1
      go_wp2_with fail
      refine H3.out.mono ?_
      rintro e w8 ⟨p8, k8, c8, rfl, L2⟩
      have H4 := hide (HF5.out a w8 d1 f1 HE.out.2.2.1 L2.out)
      clear H3 L2 HF5
      go_wp2_with fail
      refine H4.out.mono ?_
      rintro e w9 ⟨rfl, L3⟩
      have H5 := hide (HCR.out a w9 d1 f1 L3.out)
      clear H4 L3 HCR
      go_wp2_with fail
      refine H5.out.mono ?_
      rintro e w10 ⟨rfl, L4⟩
      have HB2 := hide (HBN.out w10)
      clear H5 HBN
      go_wp2_with fail
      refine HB2.out.mono ?_
      rintro e w11 ⟨p11, c11, rfl, y11, b11⟩
      have H6 := hide (HWL.out a _ w11 _ _ d2 0 f2 HE.out.2.2.2.1 L4.out b11.out y11.out)
      clear HB2 L4 y11 b11 HWL
      go_wp2_with fail
      refine H6.out.mono ?_
      rintro e w12 ⟨rfl, L5⟩
      have H7 := hide (HRD.out a w12 d2 0 f3 HE.out.2.2.2.2 L5.out)
      clear H6 L5 HRD
      go_wp2_with fail
      refine H7.out.mono ?_
      rintro e w13 ⟨p13, k13, c13, rfl, L6⟩
      have H8 := hide (HAL.out a w13 d2 L6.out)
      clear H7 L6 HAL
      go_wp2_with fail
      refine H8.out.mono ?_
      rintro e w14 ⟨rfl, B9⟩
      clear H8
      go_wp2
      go_ret
      exact ⟨rfl, B9.out⟩
end Go.Proofs.Yteacldkfdhhphaa
