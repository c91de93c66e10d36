/- What the document's own Before answers; nothing that was there is written. -/
import Derived.Test.YtjgklemhlmgheaaWalkK5
import Derived.Test.YtjgklemhlmgheaaPJ5
set_option linter.unusedVariables false
set_option linter.unusedSimpArgs false
namespace Go.Proofs.Ytjgklemhlmgheaa
open Go.RowKit

theorem ahead_len (p c : Nat) : ∀ q : List Nat, (aheadL p c q).length ≤ 2 * q.length
  | [] => by simp [aheadL]
  | x :: r => by
    have ih := ahead_len p c r
    unfold aheadL at ih ⊢
    rw [List.flatMap_cons, List.length_append, List.length_cons]
    have : (if x = p then [c, x] else [x]).length ≤ 2 := by split <;> simp
    omega
set_option maxRecDepth 10000 in
set_option maxHeartbeats 4000000 in
theorem before_any (v : Value) (T : TR) (zr zc : Int) (hl : T.length ≤ 100000) (hWF : WF T) (B : Nat → Prop) (w : World) (hB : ∀ k, B k → k < w.heap.size) (hT : IsTB B w v T) :
    Calls Try.prog 37 #[.agg #[v], .int .i64 zr, .int .i64 zc] w fun e w' => TreeN B w w' e (beforeZ T zr zc) ∧ Below w.heap.size w w' := by
  have hkl : ∀ i, (kidsAt T i).length ≤ 100000 := fun i => by have := hWF.kids_len i; omega
  have hk : ∀ i (h : i < T.length), T[i].2.length ≤ 1000000 := fun i h => by rw [← kidsAt_get h]; have := hkl i; omega
  have hl6 : T.length ≤ 1000000 := by omega
  have HT0 := hide hT
  have HBB := hide hB
  have HT := hide hT.isT
  have HI1 := hide (is_any v T zr)
  have HI2 := hide (is_any v T zc)
  have HP := hide (fun z => parent_any v T z hl6 hk)
  have HHO := hide (fun n hn => holds_any v T n hn)
  have HWI := hide (fun n m => within_any v T n m hl6 hk)
  have HO := hide (fun n => out_any v T n hl6 hk B)
  replace hT := hT.isT
  obtain ⟨b, o, cap, rfl, hcap, hit⟩ := hT
  have bA0 := below_alloc w (.cells #[.slice (some ⟨b, o, none⟩) T.length cap] 27)
  have B1 := hide (bA0.alloc bA0.size (.cells #[.slice none 0 0] 27))
  have K1 := hide ((Kept.new w [.slice (some ⟨b, o, none⟩) T.length cap] 27).alloc (.cells #[.slice none 0 0] 27))
  have Z1 := hide (Kept.new (w.alloc (.cells #[.slice (some ⟨b, o, none⟩) T.length cap] 27)) [.slice none 0 0] 27)
  clear hit bA0 hk hB
  unfold beforeZ
  by_cases hp : inT T zr
  · rw [show decide (0 ≤ zr ∧ zr < T.length) = true from decide_eq_true hp] at HI1
    by_cases hc : inT T zc
    · rw [show decide (0 ≤ zc ∧ zc < T.length) = true from decide_eq_true hc] at HI2
      rw [if_pos ⟨hp, hc⟩]
      obtain ⟨p, rfl⟩ : ∃ p : Nat, zr = (p : Int) := ⟨zr.toNat, by unfold inT at hp; omega⟩
      obtain ⟨c, rfl⟩ : ∃ c : Nat, zc = (c : Int) := ⟨zc.toNat, by unfold inT at hc; omega⟩
      have hpl : p < T.length := by unfold inT at hp; omega
      have hcl : c < T.length := by unfold inT at hc; omega
      rw [Int.toNat_natCast, Int.toNat_natCast]
      clear hp hc
      replace HP := hide (HP.out (p : Int))
      rw [show parentZ T (p : Int) = parZ (parentN T p) by unfold parentZ; rw [if_neg (by omega), Int.toNat_natCast]] at HP
      replace HWI := hide (HWI.out p c)
      clear HHO
      cases hpp : parentN T p with
      | none =>
        rw [hpp, parZ_none] at HP
        simp only []
        go_enter Try.func37, Try.ntmps37
        go_wp2_with fail
        refine (HI1.out _ (HT.out.below B1.out)).mono ?_
        rintro e x1 ⟨rfl, b1⟩
        replace B1 := hide (B1.out.trans (b1.mono B1.out.size))
        replace K1 := hide (K1.out.below b1)
        replace Z1 := hide (Z1.out.below b1)
        have q0 : x1.cell? ⟨w.heap.size, 0, none⟩ = some (.slice (some ⟨b, o, none⟩) T.length cap) := K1.out.1 0
        have q0f : x1.frozen? ⟨w.heap.size, 0, none⟩ = false := K1.out.2 0
        have z0 : x1.cell? ⟨w.heap.size + 1, 0, none⟩ = some (.slice none 0 0) := by have := Z1.out.1 0; simpa using this
        have z1 : x1.frozen? ⟨w.heap.size + 1, 0, none⟩ = false := by have := Z1.out.2 0; simpa using this
        have hz2 : w.heap.size + 1 < x1.heap.size := by have := Z1.out.lt; simpa using this
        clear b1
        go_wp2_with fail
        refine (HI2.out _ (HT.out.below B1.out)).mono ?_
        rintro e x2 ⟨rfl, b1⟩
        replace B1 := hide (B1.out.trans (b1.mono B1.out.size))
        replace K1 := hide (K1.out.below b1)
        replace Z1 := hide (Z1.out.below b1)
        clear q0 q0f z0 z1 hz2
        have q0 : x2.cell? ⟨w.heap.size, 0, none⟩ = some (.slice (some ⟨b, o, none⟩) T.length cap) := K1.out.1 0
        have q0f : x2.frozen? ⟨w.heap.size, 0, none⟩ = false := K1.out.2 0
        have z0 : x2.cell? ⟨w.heap.size + 1, 0, none⟩ = some (.slice none 0 0) := by have := Z1.out.1 0; simpa using this
        have z1 : x2.frozen? ⟨w.heap.size + 1, 0, none⟩ = false := by have := Z1.out.2 0; simpa using this
        have hz2 : w.heap.size + 1 < x2.heap.size := by have := Z1.out.lt; simpa using this
        clear b1
        go_wp2_with fail
        refine (HP.out _ (HT.out.below B1.out)).mono ?_
        rintro e x3 ⟨rfl, b1⟩
        replace B1 := hide (B1.out.trans (b1.mono B1.out.size))
        replace K1 := hide (K1.out.below b1)
        replace Z1 := hide (Z1.out.below b1)
        clear q0 q0f z0 z1 hz2
        have q0 : x3.cell? ⟨w.heap.size, 0, none⟩ = some (.slice (some ⟨b, o, none⟩) T.length cap) := K1.out.1 0
        have q0f : x3.frozen? ⟨w.heap.size, 0, none⟩ = false := K1.out.2 0
        have z0 : x3.cell? ⟨w.heap.size + 1, 0, none⟩ = some (.slice none 0 0) := by have := Z1.out.1 0; simpa using this
        have z1 : x3.frozen? ⟨w.heap.size + 1, 0, none⟩ = false := by have := Z1.out.2 0; simpa using this
        have hz2 : w.heap.size + 1 < x3.heap.size := by have := Z1.out.lt; simpa using this
        clear b1
        go_wp2_with fail
        have hb2 := B1.out.setCell (p := ⟨w.heap.size + 1, 0, none⟩) (by simp only; omega) (.slice (some ⟨b, o, none⟩) T.length cap)
        refine bodyPost_ret (v := .tuple #[.agg #[.slice (some ⟨b, o, none⟩) T.length cap], .int .i64 1]) ?_ rfl ⟨⟨_, (HT0.out.below hb2).mono fun k h => .inl h, ⟨_, _, _, rfl⟩, rfl⟩, hb2⟩
        rw [results_cell_tmp rfl]
        go_simp
      | some u =>
        rw [hpp, show parZ (some u) = (u : Int) from rfl] at HP
        simp only []
        have hul := kidsAt_lt (parent_some hpp)
        have hui : (u : Int) < T.length := by omega
        have hun : ¬ (u : Int) < 0 := by omega
        by_cases hc0 : c = 0
        · subst hc0
          rw [if_neg (by simp)]
          go_enter Try.func37, Try.ntmps37
          go_wp2_with fail
          refine (HI1.out _ (HT.out.below B1.out)).mono ?_
          rintro e x4 ⟨rfl, b1⟩
          replace B1 := hide (B1.out.trans (b1.mono B1.out.size))
          replace K1 := hide (K1.out.below b1)
          replace Z1 := hide (Z1.out.below b1)
          have q0 : x4.cell? ⟨w.heap.size, 0, none⟩ = some (.slice (some ⟨b, o, none⟩) T.length cap) := K1.out.1 0
          have q0f : x4.frozen? ⟨w.heap.size, 0, none⟩ = false := K1.out.2 0
          have z0 : x4.cell? ⟨w.heap.size + 1, 0, none⟩ = some (.slice none 0 0) := by have := Z1.out.1 0; simpa using this
          have z1 : x4.frozen? ⟨w.heap.size + 1, 0, none⟩ = false := by have := Z1.out.2 0; simpa using this
          have hz2 : w.heap.size + 1 < x4.heap.size := by have := Z1.out.lt; simpa using this
          clear b1
          go_wp2_with fail
          refine (HI2.out _ (HT.out.below B1.out)).mono ?_
          rintro e x5 ⟨rfl, b1⟩
          replace B1 := hide (B1.out.trans (b1.mono B1.out.size))
          replace K1 := hide (K1.out.below b1)
          replace Z1 := hide (Z1.out.below b1)
          clear q0 q0f z0 z1 hz2
          have q0 : x5.cell? ⟨w.heap.size, 0, none⟩ = some (.slice (some ⟨b, o, none⟩) T.length cap) := K1.out.1 0
          have q0f : x5.frozen? ⟨w.heap.size, 0, none⟩ = false := K1.out.2 0
          have z0 : x5.cell? ⟨w.heap.size + 1, 0, none⟩ = some (.slice none 0 0) := by have := Z1.out.1 0; simpa using this
          have z1 : x5.frozen? ⟨w.heap.size + 1, 0, none⟩ = false := by have := Z1.out.2 0; simpa using this
          have hz2 : w.heap.size + 1 < x5.heap.size := by have := Z1.out.lt; simpa using this
          clear b1
          go_wp2_with fail
          refine (HP.out _ (HT.out.below B1.out)).mono ?_
          rintro e x6 ⟨rfl, b1⟩
          replace B1 := hide (B1.out.trans (b1.mono B1.out.size))
          replace K1 := hide (K1.out.below b1)
          replace Z1 := hide (Z1.out.below b1)
          clear q0 q0f z0 z1 hz2
          have q0 : x6.cell? ⟨w.heap.size, 0, none⟩ = some (.slice (some ⟨b, o, none⟩) T.length cap) := K1.out.1 0
          have q0f : x6.frozen? ⟨w.heap.size, 0, none⟩ = false := K1.out.2 0
          have z0 : x6.cell? ⟨w.heap.size + 1, 0, none⟩ = some (.slice none 0 0) := by have := Z1.out.1 0; simpa using this
          have z1 : x6.frozen? ⟨w.heap.size + 1, 0, none⟩ = false := by have := Z1.out.2 0; simpa using this
          have hz2 : w.heap.size + 1 < x6.heap.size := by have := Z1.out.lt; simpa using this
          clear b1
          go_wp2_with fail
          have hb2 := B1.out.setCell (p := ⟨w.heap.size + 1, 0, none⟩) (by simp only; omega) (.slice (some ⟨b, o, none⟩) T.length cap)
          refine bodyPost_ret (v := .tuple #[.agg #[.slice (some ⟨b, o, none⟩) T.length cap], .int .i64 1]) ?_ rfl ⟨⟨_, (HT0.out.below hb2).mono fun k h => .inl h, ⟨_, _, _, rfl⟩, rfl⟩, hb2⟩
          rw [results_cell_tmp rfl]
          go_simp
        · have hc0' : ¬ (c : Int) = 0 := by omega
          have hc0b : ((c : Int) == 0) = false := beq_eq_false_iff_ne.2 hc0'
          rw [hc0b, Bool.not_false, Bool.true_and]
          cases hw : withinL T p c with
          | true =>
            rw [hw] at HWI
            rw [Bool.not_true, if_neg (by decide)]
            go_enter Try.func37, Try.ntmps37
            go_wp2_with fail
            refine (HI1.out _ (HT.out.below B1.out)).mono ?_
            rintro e x7 ⟨rfl, b1⟩
            replace B1 := hide (B1.out.trans (b1.mono B1.out.size))
            replace K1 := hide (K1.out.below b1)
            replace Z1 := hide (Z1.out.below b1)
            have q0 : x7.cell? ⟨w.heap.size, 0, none⟩ = some (.slice (some ⟨b, o, none⟩) T.length cap) := K1.out.1 0
            have q0f : x7.frozen? ⟨w.heap.size, 0, none⟩ = false := K1.out.2 0
            have z0 : x7.cell? ⟨w.heap.size + 1, 0, none⟩ = some (.slice none 0 0) := by have := Z1.out.1 0; simpa using this
            have z1 : x7.frozen? ⟨w.heap.size + 1, 0, none⟩ = false := by have := Z1.out.2 0; simpa using this
            have hz2 : w.heap.size + 1 < x7.heap.size := by have := Z1.out.lt; simpa using this
            clear b1
            go_wp2_with fail
            refine (HI2.out _ (HT.out.below B1.out)).mono ?_
            rintro e x8 ⟨rfl, b1⟩
            replace B1 := hide (B1.out.trans (b1.mono B1.out.size))
            replace K1 := hide (K1.out.below b1)
            replace Z1 := hide (Z1.out.below b1)
            clear q0 q0f z0 z1 hz2
            have q0 : x8.cell? ⟨w.heap.size, 0, none⟩ = some (.slice (some ⟨b, o, none⟩) T.length cap) := K1.out.1 0
            have q0f : x8.frozen? ⟨w.heap.size, 0, none⟩ = false := K1.out.2 0
            have z0 : x8.cell? ⟨w.heap.size + 1, 0, none⟩ = some (.slice none 0 0) := by have := Z1.out.1 0; simpa using this
            have z1 : x8.frozen? ⟨w.heap.size + 1, 0, none⟩ = false := by have := Z1.out.2 0; simpa using this
            have hz2 : w.heap.size + 1 < x8.heap.size := by have := Z1.out.lt; simpa using this
            clear b1
            go_wp2_with fail
            refine (HP.out _ (HT.out.below B1.out)).mono ?_
            rintro e x9 ⟨rfl, b1⟩
            replace B1 := hide (B1.out.trans (b1.mono B1.out.size))
            replace K1 := hide (K1.out.below b1)
            replace Z1 := hide (Z1.out.below b1)
            clear q0 q0f z0 z1 hz2
            have q0 : x9.cell? ⟨w.heap.size, 0, none⟩ = some (.slice (some ⟨b, o, none⟩) T.length cap) := K1.out.1 0
            have q0f : x9.frozen? ⟨w.heap.size, 0, none⟩ = false := K1.out.2 0
            have z0 : x9.cell? ⟨w.heap.size + 1, 0, none⟩ = some (.slice none 0 0) := by have := Z1.out.1 0; simpa using this
            have z1 : x9.frozen? ⟨w.heap.size + 1, 0, none⟩ = false := by have := Z1.out.2 0; simpa using this
            have hz2 : w.heap.size + 1 < x9.heap.size := by have := Z1.out.lt; simpa using this
            clear b1
            go_wp2_with fail
            refine (HWI.out _ (HT.out.below B1.out)).mono ?_
            rintro e x10 ⟨rfl, b1⟩
            replace B1 := hide (B1.out.trans (b1.mono B1.out.size))
            replace K1 := hide (K1.out.below b1)
            replace Z1 := hide (Z1.out.below b1)
            clear q0 q0f z0 z1 hz2
            have q0 : x10.cell? ⟨w.heap.size, 0, none⟩ = some (.slice (some ⟨b, o, none⟩) T.length cap) := K1.out.1 0
            have q0f : x10.frozen? ⟨w.heap.size, 0, none⟩ = false := K1.out.2 0
            have z0 : x10.cell? ⟨w.heap.size + 1, 0, none⟩ = some (.slice none 0 0) := by have := Z1.out.1 0; simpa using this
            have z1 : x10.frozen? ⟨w.heap.size + 1, 0, none⟩ = false := by have := Z1.out.2 0; simpa using this
            have hz2 : w.heap.size + 1 < x10.heap.size := by have := Z1.out.lt; simpa using this
            clear b1
            go_wp2_with fail
            have hb2 := B1.out.setCell (p := ⟨w.heap.size + 1, 0, none⟩) (by simp only; omega) (.slice (some ⟨b, o, none⟩) T.length cap)
            refine bodyPost_ret (v := .tuple #[.agg #[.slice (some ⟨b, o, none⟩) T.length cap], .int .i64 1]) ?_ rfl ⟨⟨_, (HT0.out.below hb2).mono fun k h => .inl h, ⟨_, _, _, rfl⟩, rfl⟩, hb2⟩
            rw [results_cell_tmp rfl]
            go_simp
          | false =>
            rw [hw] at HWI
            rw [Bool.not_false, if_pos rfl]
            unfold beforeL
            generalize hlk : kidsAt (outL T c) u = l
            have hl3 : l.length ≤ 100000 := by
              rw [← hlk, kids_out hWF]
              exact Nat.le_trans (List.length_filter_le _ _) (hkl u)
            go_enter Try.func37, Try.ntmps37
            go_wp2_with fail
            refine (HI1.out _ (HT.out.below B1.out)).mono ?_
            rintro e x11 ⟨rfl, b1⟩
            replace B1 := hide (B1.out.trans (b1.mono B1.out.size))
            replace K1 := hide (K1.out.below b1)
            replace Z1 := hide (Z1.out.below b1)
            have q0 : x11.cell? ⟨w.heap.size, 0, none⟩ = some (.slice (some ⟨b, o, none⟩) T.length cap) := K1.out.1 0
            have q0f : x11.frozen? ⟨w.heap.size, 0, none⟩ = false := K1.out.2 0
            have z0 : x11.cell? ⟨w.heap.size + 1, 0, none⟩ = some (.slice none 0 0) := by have := Z1.out.1 0; simpa using this
            have z1 : x11.frozen? ⟨w.heap.size + 1, 0, none⟩ = false := by have := Z1.out.2 0; simpa using this
            have hz2 : w.heap.size + 1 < x11.heap.size := by have := Z1.out.lt; simpa using this
            clear b1
            go_wp2_with fail
            refine (HI2.out _ (HT.out.below B1.out)).mono ?_
            rintro e x12 ⟨rfl, b1⟩
            replace B1 := hide (B1.out.trans (b1.mono B1.out.size))
            replace K1 := hide (K1.out.below b1)
            replace Z1 := hide (Z1.out.below b1)
            clear q0 q0f z0 z1 hz2
            have q0 : x12.cell? ⟨w.heap.size, 0, none⟩ = some (.slice (some ⟨b, o, none⟩) T.length cap) := K1.out.1 0
            have q0f : x12.frozen? ⟨w.heap.size, 0, none⟩ = false := K1.out.2 0
            have z0 : x12.cell? ⟨w.heap.size + 1, 0, none⟩ = some (.slice none 0 0) := by have := Z1.out.1 0; simpa using this
            have z1 : x12.frozen? ⟨w.heap.size + 1, 0, none⟩ = false := by have := Z1.out.2 0; simpa using this
            have hz2 : w.heap.size + 1 < x12.heap.size := by have := Z1.out.lt; simpa using this
            clear b1
            go_wp2_with fail
            refine (HP.out _ (HT.out.below B1.out)).mono ?_
            rintro e x13 ⟨rfl, b1⟩
            replace B1 := hide (B1.out.trans (b1.mono B1.out.size))
            replace K1 := hide (K1.out.below b1)
            replace Z1 := hide (Z1.out.below b1)
            clear q0 q0f z0 z1 hz2
            have q0 : x13.cell? ⟨w.heap.size, 0, none⟩ = some (.slice (some ⟨b, o, none⟩) T.length cap) := K1.out.1 0
            have q0f : x13.frozen? ⟨w.heap.size, 0, none⟩ = false := K1.out.2 0
            have z0 : x13.cell? ⟨w.heap.size + 1, 0, none⟩ = some (.slice none 0 0) := by have := Z1.out.1 0; simpa using this
            have z1 : x13.frozen? ⟨w.heap.size + 1, 0, none⟩ = false := by have := Z1.out.2 0; simpa using this
            have hz2 : w.heap.size + 1 < x13.heap.size := by have := Z1.out.lt; simpa using this
            clear b1
            go_wp2_with fail
            refine (HWI.out _ (HT.out.below B1.out)).mono ?_
            rintro e x14 ⟨rfl, b1⟩
            replace B1 := hide (B1.out.trans (b1.mono B1.out.size))
            replace K1 := hide (K1.out.below b1)
            replace Z1 := hide (Z1.out.below b1)
            clear q0 q0f z0 z1 hz2
            have q0 : x14.cell? ⟨w.heap.size, 0, none⟩ = some (.slice (some ⟨b, o, none⟩) T.length cap) := K1.out.1 0
            have q0f : x14.frozen? ⟨w.heap.size, 0, none⟩ = false := K1.out.2 0
            have z0 : x14.cell? ⟨w.heap.size + 1, 0, none⟩ = some (.slice none 0 0) := by have := Z1.out.1 0; simpa using this
            have z1 : x14.frozen? ⟨w.heap.size + 1, 0, none⟩ = false := by have := Z1.out.2 0; simpa using this
            have hz2 : w.heap.size + 1 < x14.heap.size := by have := Z1.out.lt; simpa using this
            clear b1
            go_wp2_with fail
            refine (HO.out c _ (fun k h => by have := HBB.out k h; omega) (HT0.out.below B1.out)).mono ?_
            rintro e y1 ⟨⟨v3, h3, ⟨va, vm, vc, rfl⟩, rfl⟩, b1⟩
            have h3' := h3.mono (C := andNew B (w.heap.size + 2)) (by
              rintro k (h | h)
              · exact .inl h
              · exact .inr (by omega))
            replace B1 := hide (B1.out.trans (b1.mono B1.out.size))
            replace K1 := hide (K1.out.below b1)
            replace Z1 := hide (Z1.out.below b1)
            clear q0 q0f z0 z1 hz2 h3 b1
            have q0 : y1.cell? ⟨w.heap.size, 0, none⟩ = some (.slice (some ⟨b, o, none⟩) T.length cap) := K1.out.1 0
            have q0f : y1.frozen? ⟨w.heap.size, 0, none⟩ = false := K1.out.2 0
            have hz2 : w.heap.size + 1 < y1.heap.size := by have := Z1.out.lt; simpa using this
            have h3W : IsTB (andNew B (w.heap.size + 2)) (y1.setCell ⟨w.heap.size, 0, none⟩ (.slice va vm vc)) (.slice va vm vc) (outL T c) := h3'.keep (fun k h => Below.heap_setCell _ _ _ _ (by
              simp only
              rcases h with h | h
              · have := HBB.out k h
                omega
              · omega))
            have BW3 := hide (B1.out.setCell (p := ⟨w.heap.size, 0, none⟩) (Nat.le_refl _) (.slice va vm vc))
            have HTW := hide h3W
            have huo : u < (outL T c).length := by rw [out_len]; exact hul
            obtain ⟨b3, o3, cap3, aa3, ac3, ka3, kc3, hv3, _, hcs3⟩ := h3W.item u huo
            rw [hlk] at hcs3
            obtain ⟨_, _, _, hv3', _, hit3⟩ := h3W.isT
            rw [hv3] at hv3'
            have hI3 : IsI (y1.setCell ⟨w.heap.size, 0, none⟩ (.slice va vm vc)) (.slice ka3 l.length kc3) l := by
              injection hv3' with e1 _ _
              injection e1 with e1
              injection e1 with e1 e2
              obtain ⟨av, kv, _, h2, h6⟩ := hit3 u huo
              have h66 := h6 6 (by omega)
              rw [← e1, ← e2, hcs3 6 (by omega)] at h66
              have : kv = .slice ka3 l.length kc3 := by injection h66 with h; exact h.symm
              rw [← kidsAt_get huo, hlk, this] at h2
              exact h2
            clear hv3' hit3
            injection hv3 with e1 e2 e3
            subst e1 e2 e3
            have c6 : (y1.setCell ⟨w.heap.size, 0, none⟩ (.slice (some ⟨b3, o3, none⟩) (outL T c).length vc)).cell? ⟨b3, o3 + u * 7 + 6, none⟩ = some (.slice ka3 l.length kc3) := hcs3 6 (by omega)
            have t3 : (y1.setCell ⟨w.heap.size, 0, none⟩ (.slice (some ⟨b3, o3, none⟩) (outL T c).length vc)).cell? ⟨w.heap.size, 0, none⟩ = some (.slice (some ⟨b3, o3, none⟩) (outL T c).length vc) := World.cell?_setCell_same _ _ _ (by rw [q0])
            have z3 : (y1.setCell ⟨w.heap.size, 0, none⟩ (.slice (some ⟨b3, o3, none⟩) (outL T c).length vc)).cell? ⟨w.heap.size + 1, 0, none⟩ = some (.slice none 0 0) := by
              rw [World.cell?_setCell_other _ _ _ _ (by intro he; injection he with he _ _; omega)]
              have := Z1.out.1 0
              simpa using this
            have z3f : (y1.setCell ⟨w.heap.size, 0, none⟩ (.slice (some ⟨b3, o3, none⟩) (outL T c).length vc)).frozen? ⟨w.heap.size + 1, 0, none⟩ = false := by
              rw [World.frozen?_setCell]
              have := Z1.out.2 0
              simpa using this
            have hsz3 : (y1.setCell ⟨w.heap.size, 0, none⟩ (.slice (some ⟨b3, o3, none⟩) (outL T c).length vc)).heap.size = y1.heap.size := by simp
            have hown0 : ((y1.setCell ⟨w.heap.size, 0, none⟩ (.slice (some ⟨b3, o3, none⟩) (outL T c).length vc)).alloc (.cells #[] 3)).ownsRow y1.heap.size 3 1 (.slice (some ⟨y1.heap.size, 0, none⟩) 0 0) 0 [] := by
              have := World.ownsRow_made (base := y1.heap.size) (e := 3) (size := 1) (y1.setCell ⟨w.heap.size, 0, none⟩ (.slice (some ⟨b3, o3, none⟩) (outL T c).length vc)) #[] 0 (by rw [hsz3]; exact Nat.le_refl _) (by unfold maxLen; omega) (by simp)
              rw [hsz3] at this
              exact this
            have HOWN := hide hown0
            have HB4 := hide (below_alloc (y1.setCell ⟨w.heap.size, 0, none⟩ (.slice (some ⟨b3, o3, none⟩) (outL T c).length vc)) (.cells #[] 3))
            have HC6 := hide c6
            have HT3 := hide t3
            have HZ3 := hide z3
            have HZF := hide z3f
            have HI3 := hide hI3
            have HSET := hide (fun kv ks => set_any (andNew B (w.heap.size + 2)) (.slice (some ⟨b3, o3, none⟩) (outL T c).length vc) (outL T c) u kv ks huo (by rw [out_len]; omega))
            have huoi : (u : Int) < (outL T c).length := by omega
            clear hown0 c6 t3 z3 z3f hI3 h3' h3W hcs3 HP HWI HO HI1 HI2 hWF hkl
            go_wp2_with fail
            generalize hW3 : y1.setCell ⟨w.heap.size, 0, none⟩ (.slice (some ⟨b3, o3, none⟩) (outL T c).length vc) = W3 at *
            generalize W3.alloc (.cells #[] 3) = W4 at *
            clear hW3 q0 q0f
            go_loopw [9, 10] (fun vk vi wr => ∃ k : Nat, vi = .int .i64 (k : Int) ∧ k ≤ l.length ∧ wr.ownsRow y1.heap.size 3 1 vk (aheadL p c (l.take k)).length (intCells (aheadL p c (l.take k))) ∧ Below y1.heap.size W3 wr) (fun _ vi _ => l.length - (intOf vi).toNat)
            case atStart => exact ⟨0, rfl, by omega, HOWN.out, HB4.out.mono (by omega)⟩
            case round =>
              obtain ⟨k, rfl, hkk, hown, bw⟩ := hrel
              obtain ⟨la, lc, rfl⟩ := owns_form hown
              have BW := hide bw
              have t3 : wr.cell? ⟨w.heap.size, 0, none⟩ = some (.slice (some ⟨b3, o3, none⟩) (outL T c).length vc) := (bw.cell (p := ⟨w.heap.size, 0, none⟩) (by simp only; omega)).trans HT3.out
              have c6 : wr.cell? ⟨b3, o3 + u * 7 + 6, none⟩ = some (.slice ka3 l.length kc3) := by rw [bw.cell (by have := cell_lt HC6.out; omega)]; exact HC6.out
              have HOW := hide hown
              have hall : (aheadL p c (l.take k)).length ≤ 300000 := by
                have := ahead_len p c (l.take k)
                rw [List.length_take] at this
                omega
              clear hown
              by_cases hlt : k < l.length
              · have hlt2 : (k : Int) < l.length := by omega
                obtain ⟨kb, ko, rfl, hkc⟩ := (HI3.out.below (bw.mono (by omega))).at (by omega)
                have ck := hkc k hlt
                clear hkc bw
                have hst : aheadL p c (l.take (k + 1)) = aheadL p c (l.take k) ++ (if l[k] = p then [c, l[k]] else [l[k]]) := by
                  unfold aheadL
                  rw [List.take_succ_eq_append_getElem hlt, List.flatMap_append]
                  simp
                have hyw : y1.heap.size ≤ wr.heap.size := Nat.le_trans (by omega) BW.out.size
                by_cases he : l[k] = p
                · rw [if_pos he, he] at hst
                  have he2 : (l[k] : Int) = (p : Int) := by omega
                  have he3 : ((l[k] : Int) == (p : Int)) = true := beq_iff_eq.2 he2
                  obtain ⟨v2, w2, hr, ho2, hb2⟩ := append_int wr y1.heap.size _ _ _ c HOW.out (by omega) hyw
                  obtain ⟨a2, c2, rfl⟩ := owns_form ho2
                  obtain ⟨v4, w4, hr4, ho4, hb4⟩ := append_int w2 y1.heap.size _ _ _ p ho2 (by omega) (Nat.le_trans hyw hb2.size)
                  have HST : Hid (w4.ownsRow y1.heap.size 3 1 v4 (aheadL p c (l.take (k + 1))).length (intCells (aheadL p c (l.take (k + 1))))) := hide (by
                    rw [hst, List.length_append, show aheadL p c (l.take k) ++ [c, p] = (aheadL p c (l.take k) ++ [c]) ++ [p] by simp]
                    exact ho4)
                  have HBB4 := hide (BW.out.trans (hb2.trans hb4))
                  have t2 : w2.cell? ⟨w.heap.size, 0, none⟩ = some (.slice (some ⟨b3, o3, none⟩) (outL T c).length vc) := (hb2.cell (p := ⟨w.heap.size, 0, none⟩) (by simp only; omega)).trans t3
                  have c62 : w2.cell? ⟨b3, o3 + u * 7 + 6, none⟩ = some (.slice (some ⟨kb, ko, none⟩) l.length kc3) := (hb2.cell (p := ⟨b3, o3 + u * 7 + 6, none⟩) (by have := cell_lt HC6.out; simp only at this ⊢; omega)).trans c6
                  have hkbl : kb < y1.heap.size := by
                    obtain ⟨kb', ko', e, hh⟩ := HI3.out.at (by omega)
                    injection e with e
                    injection e with e
                    have := cell_lt (hh k hlt)
                    simp only at this
                    omega
                  have ck2 : w2.cell? ⟨kb, ko + k, none⟩ = some (.int .i64 (l[k] : Int)) := (hb2.cell (p := ⟨kb, ko + k, none⟩) (by simp only; omega)).trans ck
                  have HR := hide hr
                  have HR4 := hide hr4
                  clear hst he hr hr4 ho2 ho4 hb2 hb4
                  generalize l[k] = x at *
                  generalize (aheadL p c (l.take k)).length = m at *
                  go_wp2_with (first | with_reducible refine wpList_append_run rfl _ _ 44 rfl (.slice la m lc) (.slice (some ⟨wr.heap.size, 0, none⟩) 1 1) _ w2 rfl rfl HR.out ?_ | with_reducible refine wpList_append_run rfl _ _ 44 rfl (.slice a2 (m + 1) c2) (.slice (some ⟨w2.heap.size, 0, none⟩) 1 1) _ w4 rfl rfl HR4.out ?_ | fail)
                  go_roundw
                  case rel => exact ⟨k + 1, by go_num, by omega, HST.out, HBB4.out⟩
                  case measure => simp [intOf]; omega
                · rw [if_neg he] at hst
                  have he2 : ¬ (l[k] : Int) = (p : Int) := by omega
                  have he3 : ((l[k] : Int) == (p : Int)) = false := beq_eq_false_iff_ne.2 he2
                  obtain ⟨v4, w4, hr4, ho4, hb4⟩ := append_int wr y1.heap.size _ _ _ l[k] HOW.out (by omega) hyw
                  have HST : Hid (w4.ownsRow y1.heap.size 3 1 v4 (aheadL p c (l.take (k + 1))).length (intCells (aheadL p c (l.take (k + 1))))) := hide (by
                    rw [hst, List.length_append]
                    exact ho4)
                  have HBB4 := hide (BW.out.trans hb4)
                  have HR4 := hide hr4
                  clear hst he hr4 ho4 hb4
                  generalize l[k] = x at *
                  generalize (aheadL p c (l.take k)).length = m at *
                  go_wp2_with (first | with_reducible refine wpList_append_run rfl _ _ 44 rfl (.slice la m lc) (.slice (some ⟨wr.heap.size, 0, none⟩) 1 1) _ w4 rfl rfl HR4.out ?_ | fail)
                  go_roundw
                  case rel => exact ⟨k + 1, by go_num, by omega, HST.out, HBB4.out⟩
                  case measure => simp [intOf]; omega
              · have hlt2 : ¬ (k : Int) < l.length := by omega
                have hke : l.take k = l := List.take_of_length_le (by omega)
                have hown := HOW.out
                rw [hke] at hown
                have HTR := hide (HTW.out.below (bw.mono (by omega)))
                have HIB : Hid (IsIB (andNew B (w.heap.size + 2)) wr (.slice la (aheadL p c (l.take k)).length lc) (aheadL p c l)) := hide (by
                  rw [hke]
                  exact ⟨owns_isI hown, .inr fun k hk => .inr (by have := (hown.lt k hk).1; omega)⟩)
                have B6 := hide (BW3.out.trans (bw.mono (by omega)))
                have z6 : wr.cell? ⟨w.heap.size + 1, 0, none⟩ = some (.slice none 0 0) := (bw.cell (p := ⟨w.heap.size + 1, 0, none⟩) (by simp only; omega)).trans HZ3.out
                have z6f : wr.frozen? ⟨w.heap.size + 1, 0, none⟩ = false := (bw.frozen (p := ⟨w.heap.size + 1, 0, none⟩) (by simp only; omega)).trans HZF.out
                have hw6 : w.heap.size + 1 < wr.heap.size := cell_lt z6
                clear hown hke bw
                generalize (aheadL p c (l.take k)).length = m at *
                go_wp2_with fail
                refine (HSET.out _ _ _ HTR.out HIB.out).mono ?_
                rintro e w7 ⟨⟨v7, h7, ⟨va7, vm7, vc7, rfl⟩, rfl⟩, b7⟩
                have B7 := hide (B6.out.trans (b7.mono (by omega)))
                have H7 := hide (h7.mono (C := andNew B (w.heap.size + 2)) (by
                  rintro k ((h | h) | h)
                  · exact .inl h
                  · exact .inr h
                  · exact .inr (by omega)))
                have z7 : w7.cell? ⟨w.heap.size + 1, 0, none⟩ = some (.slice none 0 0) := by rw [b7.cell (cell_lt z6)]; exact z6
                have z7f : w7.frozen? ⟨w.heap.size + 1, 0, none⟩ = false := by rw [b7.frozen (p := ⟨w.heap.size + 1, 0, none⟩) hw6]; exact z6f
                clear h7 b7 z6 z6f t3 c6
                go_wp2
                have hb2 := B7.out.setCell (p := ⟨w.heap.size + 1, 0, none⟩) (by simp only; omega) (.slice va7 vm7 vc7)
                refine bodyPost_ret (v := .tuple #[.agg #[.slice va7 vm7 vc7], .int .i64 0]) ?_ rfl ⟨⟨_, (H7.out.keep (fun k h => Below.heap_setCell _ _ _ _ ?_)).mono ?_, ⟨_, _, _, rfl⟩, rfl⟩, hb2⟩
                · rw [results_cell_tmp rfl]
                  go_simp
                · simp only
                  rcases h with h | h
                  · have := HBB.out k h
                    omega
                  · omega
                · rintro k (h | h)
                  · exact .inl h
                  · exact .inr (by omega)
    · rw [show decide (0 ≤ zc ∧ zc < T.length) = false from decide_eq_false hc] at HI2
      rw [if_neg (fun h => hc h.2)]
      go_enter Try.func37, Try.ntmps37
      go_wp2_with fail
      refine (HI1.out _ (HT.out.below B1.out)).mono ?_
      rintro e x15 ⟨rfl, b1⟩
      replace B1 := hide (B1.out.trans (b1.mono B1.out.size))
      replace K1 := hide (K1.out.below b1)
      replace Z1 := hide (Z1.out.below b1)
      have q0 : x15.cell? ⟨w.heap.size, 0, none⟩ = some (.slice (some ⟨b, o, none⟩) T.length cap) := K1.out.1 0
      have q0f : x15.frozen? ⟨w.heap.size, 0, none⟩ = false := K1.out.2 0
      have z0 : x15.cell? ⟨w.heap.size + 1, 0, none⟩ = some (.slice none 0 0) := by have := Z1.out.1 0; simpa using this
      have z1 : x15.frozen? ⟨w.heap.size + 1, 0, none⟩ = false := by have := Z1.out.2 0; simpa using this
      have hz2 : w.heap.size + 1 < x15.heap.size := by have := Z1.out.lt; simpa using this
      clear b1
      go_wp2_with fail
      refine (HI2.out _ (HT.out.below B1.out)).mono ?_
      rintro e x16 ⟨rfl, b1⟩
      replace B1 := hide (B1.out.trans (b1.mono B1.out.size))
      replace K1 := hide (K1.out.below b1)
      replace Z1 := hide (Z1.out.below b1)
      clear q0 q0f z0 z1 hz2
      have q0 : x16.cell? ⟨w.heap.size, 0, none⟩ = some (.slice (some ⟨b, o, none⟩) T.length cap) := K1.out.1 0
      have q0f : x16.frozen? ⟨w.heap.size, 0, none⟩ = false := K1.out.2 0
      have z0 : x16.cell? ⟨w.heap.size + 1, 0, none⟩ = some (.slice none 0 0) := by have := Z1.out.1 0; simpa using this
      have z1 : x16.frozen? ⟨w.heap.size + 1, 0, none⟩ = false := by have := Z1.out.2 0; simpa using this
      have hz2 : w.heap.size + 1 < x16.heap.size := by have := Z1.out.lt; simpa using this
      clear b1
      go_wp2_with fail
      have hb2 := B1.out.setCell (p := ⟨w.heap.size + 1, 0, none⟩) (by simp only; omega) (.slice (some ⟨b, o, none⟩) T.length cap)
      refine bodyPost_ret (v := .tuple #[.agg #[.slice (some ⟨b, o, none⟩) T.length cap], .int .i64 2]) ?_ rfl ⟨⟨_, (HT0.out.below hb2).mono fun k h => .inl h, ⟨_, _, _, rfl⟩, rfl⟩, hb2⟩
      rw [results_cell_tmp rfl]
      go_simp
  · rw [show decide (0 ≤ zr ∧ zr < T.length) = false from decide_eq_false hp] at HI1
    rw [if_neg (fun h => hp h.1)]
    go_enter Try.func37, Try.ntmps37
    go_wp2_with fail
    refine (HI1.out _ (HT.out.below B1.out)).mono ?_
    rintro e x17 ⟨rfl, b1⟩
    replace B1 := hide (B1.out.trans (b1.mono B1.out.size))
    replace K1 := hide (K1.out.below b1)
    replace Z1 := hide (Z1.out.below b1)
    have q0 : x17.cell? ⟨w.heap.size, 0, none⟩ = some (.slice (some ⟨b, o, none⟩) T.length cap) := K1.out.1 0
    have q0f : x17.frozen? ⟨w.heap.size, 0, none⟩ = false := K1.out.2 0
    have z0 : x17.cell? ⟨w.heap.size + 1, 0, none⟩ = some (.slice none 0 0) := by have := Z1.out.1 0; simpa using this
    have z1 : x17.frozen? ⟨w.heap.size + 1, 0, none⟩ = false := by have := Z1.out.2 0; simpa using this
    have hz2 : w.heap.size + 1 < x17.heap.size := by have := Z1.out.lt; simpa using this
    clear b1
    go_wp2_with fail
    have hb2 := B1.out.setCell (p := ⟨w.heap.size + 1, 0, none⟩) (by simp only; omega) (.slice (some ⟨b, o, none⟩) T.length cap)
    refine bodyPost_ret (v := .tuple #[.agg #[.slice (some ⟨b, o, none⟩) T.length cap], .int .i64 2]) ?_ rfl ⟨⟨_, (HT0.out.below hb2).mono fun k h => .inl h, ⟨_, _, _, rfl⟩, rfl⟩, hb2⟩
    rw [results_cell_tmp rfl]
    go_simp
end Go.Proofs.Ytjgklemhlmgheaa
