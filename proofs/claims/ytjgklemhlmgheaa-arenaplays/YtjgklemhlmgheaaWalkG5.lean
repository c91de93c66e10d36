/- What the document's own Append answers; nothing that was there is written. -/
import Derived.Test.YtjgklemhlmgheaaWalkF5
import Derived.Deep.AppendSrc
set_option linter.unusedVariables false
set_option linter.unusedSimpArgs false
namespace Go.Proofs.Ytjgklemhlmgheaa
open Go.RowKit

/-- A list of numbers, copied behind an empty one. -/
theorem copy_ints (W : World) (v : Value) (l : List Nat) (hI : IsI W v l) (hl : l.length ≤ 1000000) :
    ∃ v' w', (Builtin.append_ #[44, 44] 44 #[.slice (some ⟨W.heap.size, 0, none⟩) 0 0, v]).run Try.prog (W.alloc (.cells #[] 3)) = .ok v' w' ∧ w'.ownsRow W.heap.size 3 1 v' l.length (intCells l) ∧ Below W.heap.size W w' := by
  have b0 := below_alloc W (.cells #[] 3)
  have hown : (W.alloc (.cells #[] 3)).ownsRow W.heap.size 3 1 (.slice (some ⟨W.heap.size, 0, none⟩) 0 0) 0 [] := World.ownsRow_made W #[] 0 (Nat.le_refl _) (by unfold maxLen; omega) (by simp)
  have hblk : ∀ k, (Value.slice (some ⟨W.heap.size, 0, none⟩) 0 0).ownBlock = some k → W.heap.size ≤ k := fun k hk => by
    have : W.heap.size = k := by simpa [Value.ownBlock] using hk
    omega
  rcases hI with ⟨rfl, rfl⟩ | ⟨b, o, cap, rfl, hc, hcs⟩
  · have hr := run_append_room_src (P := Try.prog) (W.alloc (.cells #[] 3)) 44 44 44 3 Try.t3 Try.underlying44 (by kernel_rfl) W.heap.size 0 0 0 (.slice none 0 0) 0 [] (Src.ofNil _ Try.underlying44 0) (by omega) (by simp) (by simp)
    exact ⟨_, _, hr, hown, b0⟩
  · obtain ⟨v', w', hr, ho, hg, _⟩ := run_append_own (P := Try.prog) (W.alloc (.cells #[] 3)) W.heap.size 44 44 3 Try.t3 _ 1 8 Try.underlying44 (by kernel_rfl) rfl (by kernel_rfl) (by kernel_rfl) (by kernel_rfl) (by omega)
      (.slice (some ⟨W.heap.size, 0, none⟩) 0 0) 0 [] hown ⟨b, o, none⟩ l.length cap (intCells l) (by simp [intCells])
      (by
        intro j u hu
        unfold intCells at hu
        rw [List.getElem?_map] at hu
        rcases Nat.lt_or_ge j l.length with hj | hj
        · rw [List.getElem?_eq_getElem hj] at hu
          have h1 := hcs j hj
          have hu2 : u = .int .i64 (l[j] : Int) := by simpa using hu.symm
          rw [show (⟨b, o, none⟩ : Addr).add j = ⟨b, o + j, none⟩ by unfold Addr.add; split <;> simp_all, b0.cell (cell_lt h1), hu2]
          exact h1
        · rw [List.getElem?_eq_none hj] at hu
          cases hu)
      (by
        intro u hu
        unfold intCells at hu
        obtain ⟨x, _, rfl⟩ := List.mem_map.1 hu
        rfl) (by unfold maxLen; omega) (by omega) (by simp)
    rw [Nat.zero_add] at ho
    exact ⟨v', w', hr, ho, b0.grown hg (by simp) hblk⟩
/-! Append. -/
def appendZ (T : TR) (zp zc : Int) : TR × Int := if inT T zp ∧ inT T zc then (if holdsL T zp.toNat && (!(zc == 0) && !(withinL T zp.toNat zc.toNat)) then (appendL T zp.toNat zc.toNat, 0) else (T, 1)) else (T, 2)
set_option maxRecDepth 10000 in
set_option maxHeartbeats 2000000 in
theorem append_any (v : Value) (T : TR) (zp zc : Int) (hl : T.length ≤ 1000000) (hk : ∀ i (h : i < T.length), T[i].2.length ≤ 1000000) (hk2 : ∀ i, (kidsAt T i).length ≤ 999999) (hWF : WF T) (B : Nat → Prop) (w : World) (hB : ∀ k, B k → k < w.heap.size) (hT : IsTB B w v T) :
    Calls Try.prog 36 #[.agg #[v], .int .i64 zp, .int .i64 zc] w fun e w' => TreeN B w w' e (appendZ T zp zc) ∧ Below w.heap.size w w' := by
  have HT0 := hide hT
  have HBB := hide hB
  have HT := hide hT.isT
  have HI1 := hide (is_any v T zp)
  have HI2 := hide (is_any v T zc)
  have HHO := hide (fun n hn => holds_any v T n hn)
  have HWI := hide (fun n m => within_any v T n m hl hk)
  have HO := hide (fun n => out_any v T n hl hk B)
  replace hT := hT.isT
  obtain ⟨b, o, cap, rfl, hcap, hit⟩ := hT
  have bA0 := below_alloc w (.cells #[.slice (some ⟨b, o, none⟩) T.length cap] 27)
  have B1 := hide (bA0.alloc bA0.size (.cells #[.slice none 0 0] 27))
  have K1 := hide ((Kept.new w [.slice (some ⟨b, o, none⟩) T.length cap] 27).alloc (.cells #[.slice none 0 0] 27))
  have Z1 := hide (Kept.new (w.alloc (.cells #[.slice (some ⟨b, o, none⟩) T.length cap] 27)) [.slice none 0 0] 27)
  clear hit bA0 hk hB
  unfold appendZ
  by_cases hp : inT T zp
  · rw [show decide (0 ≤ zp ∧ zp < T.length) = true from decide_eq_true hp] at HI1
    by_cases hc : inT T zc
    · rw [show decide (0 ≤ zc ∧ zc < T.length) = true from decide_eq_true hc] at HI2
      rw [if_pos ⟨hp, hc⟩]
      obtain ⟨p, rfl⟩ : ∃ p : Nat, zp = (p : Int) := ⟨zp.toNat, by unfold inT at hp; omega⟩
      obtain ⟨c, rfl⟩ : ∃ c : Nat, zc = (c : Int) := ⟨zc.toNat, by unfold inT at hc; omega⟩
      have hpl : p < T.length := by unfold inT at hp; omega
      have hcl : c < T.length := by unfold inT at hc; omega
      rw [Int.toNat_natCast, Int.toNat_natCast]
      clear hp hc
      replace HHO := hide (HHO.out p hpl)
      replace HWI := hide (HWI.out p c)
      cases hh : holdsL T p with
      | false =>
        rw [hh] at HHO
        rw [Bool.false_and, if_neg (by decide)]
        go_enter Try.func36, Try.ntmps36
        go_wp2_with fail
        refine (HI1.out _ (HT.out.below B1.out)).mono ?_
        rintro e x1 ⟨rfl, b1⟩
        replace B1 := hide (B1.out.trans (b1.mono B1.out.size))
        replace K1 := hide (K1.out.below b1)
        replace Z1 := hide (Z1.out.below b1)
        have q0 : x1.cell? ⟨w.heap.size, 0, none⟩ = some (.slice (some ⟨b, o, none⟩) T.length cap) := K1.out.1 0
        have q0f : x1.frozen? ⟨w.heap.size, 0, none⟩ = false := K1.out.2 0
        have z0 : x1.cell? ⟨w.heap.size + 1, 0, none⟩ = some (.slice none 0 0) := by have := Z1.out.1 0; simpa using this
        have z1 : x1.frozen? ⟨w.heap.size + 1, 0, none⟩ = false := by have := Z1.out.2 0; simpa using this
        have hz2 : w.heap.size + 1 < x1.heap.size := by have := Z1.out.lt; simpa using this
        clear b1
        go_wp2_with fail
        refine (HI2.out _ (HT.out.below B1.out)).mono ?_
        rintro e x2 ⟨rfl, b1⟩
        replace B1 := hide (B1.out.trans (b1.mono B1.out.size))
        replace K1 := hide (K1.out.below b1)
        replace Z1 := hide (Z1.out.below b1)
        clear q0 q0f z0 z1 hz2
        have q0 : x2.cell? ⟨w.heap.size, 0, none⟩ = some (.slice (some ⟨b, o, none⟩) T.length cap) := K1.out.1 0
        have q0f : x2.frozen? ⟨w.heap.size, 0, none⟩ = false := K1.out.2 0
        have z0 : x2.cell? ⟨w.heap.size + 1, 0, none⟩ = some (.slice none 0 0) := by have := Z1.out.1 0; simpa using this
        have z1 : x2.frozen? ⟨w.heap.size + 1, 0, none⟩ = false := by have := Z1.out.2 0; simpa using this
        have hz2 : w.heap.size + 1 < x2.heap.size := by have := Z1.out.lt; simpa using this
        clear b1
        go_wp2_with fail
        refine (HHO.out _ (HT.out.below B1.out)).mono ?_
        rintro e x3 ⟨rfl, b1⟩
        replace B1 := hide (B1.out.trans (b1.mono B1.out.size))
        replace K1 := hide (K1.out.below b1)
        replace Z1 := hide (Z1.out.below b1)
        clear q0 q0f z0 z1 hz2
        have q0 : x3.cell? ⟨w.heap.size, 0, none⟩ = some (.slice (some ⟨b, o, none⟩) T.length cap) := K1.out.1 0
        have q0f : x3.frozen? ⟨w.heap.size, 0, none⟩ = false := K1.out.2 0
        have z0 : x3.cell? ⟨w.heap.size + 1, 0, none⟩ = some (.slice none 0 0) := by have := Z1.out.1 0; simpa using this
        have z1 : x3.frozen? ⟨w.heap.size + 1, 0, none⟩ = false := by have := Z1.out.2 0; simpa using this
        have hz2 : w.heap.size + 1 < x3.heap.size := by have := Z1.out.lt; simpa using this
        clear b1
        go_wp2_with fail
        have hb2 := B1.out.setCell (p := ⟨w.heap.size + 1, 0, none⟩) (by simp only; omega) (.slice (some ⟨b, o, none⟩) T.length cap)
        refine bodyPost_ret (v := .tuple #[.agg #[.slice (some ⟨b, o, none⟩) T.length cap], .int .i64 1]) ?_ rfl ⟨⟨_, (HT0.out.below hb2).mono fun k h => .inl h, ⟨_, _, _, rfl⟩, rfl⟩, hb2⟩
        rw [results_cell_tmp rfl]
        go_simp
      | true =>
        rw [hh] at HHO
        rw [Bool.true_and]
        by_cases hc0 : c = 0
        · subst hc0
          rw [if_neg (by simp)]
          go_enter Try.func36, Try.ntmps36
          go_wp2_with fail
          refine (HI1.out _ (HT.out.below B1.out)).mono ?_
          rintro e x4 ⟨rfl, b1⟩
          replace B1 := hide (B1.out.trans (b1.mono B1.out.size))
          replace K1 := hide (K1.out.below b1)
          replace Z1 := hide (Z1.out.below b1)
          have q0 : x4.cell? ⟨w.heap.size, 0, none⟩ = some (.slice (some ⟨b, o, none⟩) T.length cap) := K1.out.1 0
          have q0f : x4.frozen? ⟨w.heap.size, 0, none⟩ = false := K1.out.2 0
          have z0 : x4.cell? ⟨w.heap.size + 1, 0, none⟩ = some (.slice none 0 0) := by have := Z1.out.1 0; simpa using this
          have z1 : x4.frozen? ⟨w.heap.size + 1, 0, none⟩ = false := by have := Z1.out.2 0; simpa using this
          have hz2 : w.heap.size + 1 < x4.heap.size := by have := Z1.out.lt; simpa using this
          clear b1
          go_wp2_with fail
          refine (HI2.out _ (HT.out.below B1.out)).mono ?_
          rintro e x5 ⟨rfl, b1⟩
          replace B1 := hide (B1.out.trans (b1.mono B1.out.size))
          replace K1 := hide (K1.out.below b1)
          replace Z1 := hide (Z1.out.below b1)
          clear q0 q0f z0 z1 hz2
          have q0 : x5.cell? ⟨w.heap.size, 0, none⟩ = some (.slice (some ⟨b, o, none⟩) T.length cap) := K1.out.1 0
          have q0f : x5.frozen? ⟨w.heap.size, 0, none⟩ = false := K1.out.2 0
          have z0 : x5.cell? ⟨w.heap.size + 1, 0, none⟩ = some (.slice none 0 0) := by have := Z1.out.1 0; simpa using this
          have z1 : x5.frozen? ⟨w.heap.size + 1, 0, none⟩ = false := by have := Z1.out.2 0; simpa using this
          have hz2 : w.heap.size + 1 < x5.heap.size := by have := Z1.out.lt; simpa using this
          clear b1
          go_wp2_with fail
          refine (HHO.out _ (HT.out.below B1.out)).mono ?_
          rintro e x6 ⟨rfl, b1⟩
          replace B1 := hide (B1.out.trans (b1.mono B1.out.size))
          replace K1 := hide (K1.out.below b1)
          replace Z1 := hide (Z1.out.below b1)
          clear q0 q0f z0 z1 hz2
          have q0 : x6.cell? ⟨w.heap.size, 0, none⟩ = some (.slice (some ⟨b, o, none⟩) T.length cap) := K1.out.1 0
          have q0f : x6.frozen? ⟨w.heap.size, 0, none⟩ = false := K1.out.2 0
          have z0 : x6.cell? ⟨w.heap.size + 1, 0, none⟩ = some (.slice none 0 0) := by have := Z1.out.1 0; simpa using this
          have z1 : x6.frozen? ⟨w.heap.size + 1, 0, none⟩ = false := by have := Z1.out.2 0; simpa using this
          have hz2 : w.heap.size + 1 < x6.heap.size := by have := Z1.out.lt; simpa using this
          clear b1
          go_wp2_with fail
          have hb2 := B1.out.setCell (p := ⟨w.heap.size + 1, 0, none⟩) (by simp only; omega) (.slice (some ⟨b, o, none⟩) T.length cap)
          refine bodyPost_ret (v := .tuple #[.agg #[.slice (some ⟨b, o, none⟩) T.length cap], .int .i64 1]) ?_ rfl ⟨⟨_, (HT0.out.below hb2).mono fun k h => .inl h, ⟨_, _, _, rfl⟩, rfl⟩, hb2⟩
          rw [results_cell_tmp rfl]
          go_simp
        · have hc0' : ¬ (c : Int) = 0 := by omega
          rw [show ((c : Int) == 0) = false from beq_eq_false_iff_ne.2 hc0', Bool.not_false, Bool.true_and]
          cases hw : withinL T p c with
          | true =>
            rw [hw] at HWI
            rw [Bool.not_true, if_neg (by decide)]
            go_enter Try.func36, Try.ntmps36
            go_wp2_with fail
            refine (HI1.out _ (HT.out.below B1.out)).mono ?_
            rintro e x7 ⟨rfl, b1⟩
            replace B1 := hide (B1.out.trans (b1.mono B1.out.size))
            replace K1 := hide (K1.out.below b1)
            replace Z1 := hide (Z1.out.below b1)
            have q0 : x7.cell? ⟨w.heap.size, 0, none⟩ = some (.slice (some ⟨b, o, none⟩) T.length cap) := K1.out.1 0
            have q0f : x7.frozen? ⟨w.heap.size, 0, none⟩ = false := K1.out.2 0
            have z0 : x7.cell? ⟨w.heap.size + 1, 0, none⟩ = some (.slice none 0 0) := by have := Z1.out.1 0; simpa using this
            have z1 : x7.frozen? ⟨w.heap.size + 1, 0, none⟩ = false := by have := Z1.out.2 0; simpa using this
            have hz2 : w.heap.size + 1 < x7.heap.size := by have := Z1.out.lt; simpa using this
            clear b1
            go_wp2_with fail
            refine (HI2.out _ (HT.out.below B1.out)).mono ?_
            rintro e x8 ⟨rfl, b1⟩
            replace B1 := hide (B1.out.trans (b1.mono B1.out.size))
            replace K1 := hide (K1.out.below b1)
            replace Z1 := hide (Z1.out.below b1)
            clear q0 q0f z0 z1 hz2
            have q0 : x8.cell? ⟨w.heap.size, 0, none⟩ = some (.slice (some ⟨b, o, none⟩) T.length cap) := K1.out.1 0
            have q0f : x8.frozen? ⟨w.heap.size, 0, none⟩ = false := K1.out.2 0
            have z0 : x8.cell? ⟨w.heap.size + 1, 0, none⟩ = some (.slice none 0 0) := by have := Z1.out.1 0; simpa using this
            have z1 : x8.frozen? ⟨w.heap.size + 1, 0, none⟩ = false := by have := Z1.out.2 0; simpa using this
            have hz2 : w.heap.size + 1 < x8.heap.size := by have := Z1.out.lt; simpa using this
            clear b1
            go_wp2_with fail
            refine (HHO.out _ (HT.out.below B1.out)).mono ?_
            rintro e x9 ⟨rfl, b1⟩
            replace B1 := hide (B1.out.trans (b1.mono B1.out.size))
            replace K1 := hide (K1.out.below b1)
            replace Z1 := hide (Z1.out.below b1)
            clear q0 q0f z0 z1 hz2
            have q0 : x9.cell? ⟨w.heap.size, 0, none⟩ = some (.slice (some ⟨b, o, none⟩) T.length cap) := K1.out.1 0
            have q0f : x9.frozen? ⟨w.heap.size, 0, none⟩ = false := K1.out.2 0
            have z0 : x9.cell? ⟨w.heap.size + 1, 0, none⟩ = some (.slice none 0 0) := by have := Z1.out.1 0; simpa using this
            have z1 : x9.frozen? ⟨w.heap.size + 1, 0, none⟩ = false := by have := Z1.out.2 0; simpa using this
            have hz2 : w.heap.size + 1 < x9.heap.size := by have := Z1.out.lt; simpa using this
            clear b1
            go_wp2_with fail
            refine (HWI.out _ (HT.out.below B1.out)).mono ?_
            rintro e x10 ⟨rfl, b1⟩
            replace B1 := hide (B1.out.trans (b1.mono B1.out.size))
            replace K1 := hide (K1.out.below b1)
            replace Z1 := hide (Z1.out.below b1)
            clear q0 q0f z0 z1 hz2
            have q0 : x10.cell? ⟨w.heap.size, 0, none⟩ = some (.slice (some ⟨b, o, none⟩) T.length cap) := K1.out.1 0
            have q0f : x10.frozen? ⟨w.heap.size, 0, none⟩ = false := K1.out.2 0
            have z0 : x10.cell? ⟨w.heap.size + 1, 0, none⟩ = some (.slice none 0 0) := by have := Z1.out.1 0; simpa using this
            have z1 : x10.frozen? ⟨w.heap.size + 1, 0, none⟩ = false := by have := Z1.out.2 0; simpa using this
            have hz2 : w.heap.size + 1 < x10.heap.size := by have := Z1.out.lt; simpa using this
            clear b1
            go_wp2_with fail
            have hb2 := B1.out.setCell (p := ⟨w.heap.size + 1, 0, none⟩) (by simp only; omega) (.slice (some ⟨b, o, none⟩) T.length cap)
            refine bodyPost_ret (v := .tuple #[.agg #[.slice (some ⟨b, o, none⟩) T.length cap], .int .i64 1]) ?_ rfl ⟨⟨_, (HT0.out.below hb2).mono fun k h => .inl h, ⟨_, _, _, rfl⟩, rfl⟩, hb2⟩
            rw [results_cell_tmp rfl]
            go_simp
          | false =>
            rw [hw] at HWI
            rw [Bool.not_false, if_pos rfl]
            unfold appendL
            generalize hlk : kidsAt (outL T c) p = l
            go_enter Try.func36, Try.ntmps36
            go_wp2_with fail
            refine (HI1.out _ (HT.out.below B1.out)).mono ?_
            rintro e x11 ⟨rfl, b1⟩
            replace B1 := hide (B1.out.trans (b1.mono B1.out.size))
            replace K1 := hide (K1.out.below b1)
            replace Z1 := hide (Z1.out.below b1)
            have q0 : x11.cell? ⟨w.heap.size, 0, none⟩ = some (.slice (some ⟨b, o, none⟩) T.length cap) := K1.out.1 0
            have q0f : x11.frozen? ⟨w.heap.size, 0, none⟩ = false := K1.out.2 0
            have z0 : x11.cell? ⟨w.heap.size + 1, 0, none⟩ = some (.slice none 0 0) := by have := Z1.out.1 0; simpa using this
            have z1 : x11.frozen? ⟨w.heap.size + 1, 0, none⟩ = false := by have := Z1.out.2 0; simpa using this
            have hz2 : w.heap.size + 1 < x11.heap.size := by have := Z1.out.lt; simpa using this
            clear b1
            go_wp2_with fail
            refine (HI2.out _ (HT.out.below B1.out)).mono ?_
            rintro e x12 ⟨rfl, b1⟩
            replace B1 := hide (B1.out.trans (b1.mono B1.out.size))
            replace K1 := hide (K1.out.below b1)
            replace Z1 := hide (Z1.out.below b1)
            clear q0 q0f z0 z1 hz2
            have q0 : x12.cell? ⟨w.heap.size, 0, none⟩ = some (.slice (some ⟨b, o, none⟩) T.length cap) := K1.out.1 0
            have q0f : x12.frozen? ⟨w.heap.size, 0, none⟩ = false := K1.out.2 0
            have z0 : x12.cell? ⟨w.heap.size + 1, 0, none⟩ = some (.slice none 0 0) := by have := Z1.out.1 0; simpa using this
            have z1 : x12.frozen? ⟨w.heap.size + 1, 0, none⟩ = false := by have := Z1.out.2 0; simpa using this
            have hz2 : w.heap.size + 1 < x12.heap.size := by have := Z1.out.lt; simpa using this
            clear b1
            go_wp2_with fail
            refine (HHO.out _ (HT.out.below B1.out)).mono ?_
            rintro e x13 ⟨rfl, b1⟩
            replace B1 := hide (B1.out.trans (b1.mono B1.out.size))
            replace K1 := hide (K1.out.below b1)
            replace Z1 := hide (Z1.out.below b1)
            clear q0 q0f z0 z1 hz2
            have q0 : x13.cell? ⟨w.heap.size, 0, none⟩ = some (.slice (some ⟨b, o, none⟩) T.length cap) := K1.out.1 0
            have q0f : x13.frozen? ⟨w.heap.size, 0, none⟩ = false := K1.out.2 0
            have z0 : x13.cell? ⟨w.heap.size + 1, 0, none⟩ = some (.slice none 0 0) := by have := Z1.out.1 0; simpa using this
            have z1 : x13.frozen? ⟨w.heap.size + 1, 0, none⟩ = false := by have := Z1.out.2 0; simpa using this
            have hz2 : w.heap.size + 1 < x13.heap.size := by have := Z1.out.lt; simpa using this
            clear b1
            go_wp2_with fail
            refine (HWI.out _ (HT.out.below B1.out)).mono ?_
            rintro e x14 ⟨rfl, b1⟩
            replace B1 := hide (B1.out.trans (b1.mono B1.out.size))
            replace K1 := hide (K1.out.below b1)
            replace Z1 := hide (Z1.out.below b1)
            clear q0 q0f z0 z1 hz2
            have q0 : x14.cell? ⟨w.heap.size, 0, none⟩ = some (.slice (some ⟨b, o, none⟩) T.length cap) := K1.out.1 0
            have q0f : x14.frozen? ⟨w.heap.size, 0, none⟩ = false := K1.out.2 0
            have z0 : x14.cell? ⟨w.heap.size + 1, 0, none⟩ = some (.slice none 0 0) := by have := Z1.out.1 0; simpa using this
            have z1 : x14.frozen? ⟨w.heap.size + 1, 0, none⟩ = false := by have := Z1.out.2 0; simpa using this
            have hz2 : w.heap.size + 1 < x14.heap.size := by have := Z1.out.lt; simpa using this
            clear b1
            go_wp2_with fail
            refine (HO.out c _ (fun k h => by have := HBB.out k h; omega) (HT0.out.below B1.out)).mono ?_
            rintro e y1 ⟨⟨v3, h3, ⟨va, vm, vc, rfl⟩, rfl⟩, b1⟩
            have h3' := h3.mono (C := andNew B (w.heap.size + 2)) (by
              rintro k (h | h)
              · exact .inl h
              · exact .inr (by omega))
            replace B1 := hide (B1.out.trans (b1.mono B1.out.size))
            replace K1 := hide (K1.out.below b1)
            replace Z1 := hide (Z1.out.below b1)
            clear q0 q0f z0 z1 hz2 h3 b1
            have q0 : y1.cell? ⟨w.heap.size, 0, none⟩ = some (.slice (some ⟨b, o, none⟩) T.length cap) := K1.out.1 0
            have q0f : y1.frozen? ⟨w.heap.size, 0, none⟩ = false := K1.out.2 0
            have hz2 : w.heap.size + 1 < y1.heap.size := by have := Z1.out.lt; simpa using this
            have h3W : IsTB (andNew B (w.heap.size + 2)) (y1.setCell ⟨w.heap.size, 0, none⟩ (.slice va vm vc)) (.slice va vm vc) (outL T c) := h3'.keep (fun k h => Below.heap_setCell _ _ _ _ (by
              simp only
              rcases h with h | h
              · have := HBB.out k h
                omega
              · omega))
            have BW3 := hide (B1.out.setCell (p := ⟨w.heap.size, 0, none⟩) (Nat.le_refl _) (.slice va vm vc))
            have HTW := hide h3W
            obtain ⟨b3, o3, cap3, ps3, hv3, hcap3, hps3, hB3, hok3, hcs3⟩ := h3W
            injection hv3 with e1 e2 e3
            subst e1 e2 e3
            have hpo : p < (outL T c).length := by rw [out_len]; exact hpl
            have hlen3 : ps3.length = (outL T c).length := by rw [← hps3, List.length_map]
            have hp3 : p < ps3.length := by omega
            have hTp : (outL T c)[p] = ps3[p].1 := by simp [← hps3]
            have hkl : l = ps3[p].1.2 := by rw [← hlk, kidsAt_get hpo, hTp]
            have hI3 := (hok3 ps3[p] (List.getElem_mem hp3)).2.1
            obtain ⟨ka3, kc3, hkv⟩ := isI_form hI3
            have hc6 : (y1.setCell ⟨w.heap.size, 0, none⟩ (.slice (some ⟨b3, o3, none⟩) (outL T c).length vc)).cell? ⟨b3, o3 + p * 7 + 6, none⟩ = some ps3[p].2.2 := by
              have hr := rowCells_get ps3 p hp3 6 (by omega)
              have := hcs3 _ _ (hr.trans rfl)
              rw [show o3 + p * 7 + 6 = o3 + (p * 7 + 6) by omega]
              exact this
            rw [hkv] at hc6 hI3
            rw [← hkl] at hc6 hI3
            have hl3 : l.length ≤ 999999 := by
              rw [← hlk, kids_out hWF]
              exact Nat.le_trans (List.length_filter_le _ _) (hk2 p)
            have hb3 : ¬ w.heap.size = b3 := by
              rcases hB3 with h | h
              · have := HBB.out b3 h
                omega
              · omega
            obtain ⟨v5, w5, hr1, ho5, hb5⟩ := copy_ints _ _ _ hI3 (by omega)
            obtain ⟨v6, w6, hr2, ho6, hb6⟩ := append_int w5 _ _ v5 _ c ho5 (by omega) (by simpa using hb5.size)
            obtain ⟨a5, c5, rfl⟩ := owns_form ho5
            obtain ⟨a6, c6, rfl⟩ := owns_form ho6
            have hsz3 : (y1.setCell ⟨w.heap.size, 0, none⟩ (.slice (some ⟨b3, o3, none⟩) (outL T c).length vc)).heap.size = y1.heap.size := by simp
            rw [hsz3] at hr1
            have HR1 := hide hr1
            have HR2 := hide hr2
            have bb := hb5.trans hb6
            have t6 : w6.cell? ⟨w.heap.size, 0, none⟩ = some (.slice (some ⟨b3, o3, none⟩) (outL T c).length vc) := by
              rw [bb.cell (p := ⟨w.heap.size, 0, none⟩) (by rw [hsz3]; simp only; omega)]
              exact World.cell?_setCell_same _ _ _ (by rw [q0])
            have z6 : w6.cell? ⟨w.heap.size + 1, 0, none⟩ = some (.slice none 0 0) := by
              rw [bb.cell (p := ⟨w.heap.size + 1, 0, none⟩) (by rw [hsz3]; simp only; omega), World.cell?_setCell_other _ _ _ _ (by intro he; injection he with he _ _; omega)]
              have := Z1.out.1 0
              simpa using this
            have z6f : w6.frozen? ⟨w.heap.size + 1, 0, none⟩ = false := by
              rw [bb.frozen (p := ⟨w.heap.size + 1, 0, none⟩) (by rw [hsz3]; simp only; omega), World.frozen?_setCell]
              have := Z1.out.2 0
              simpa using this
            have hw6 : w.heap.size + 1 < w6.heap.size := by have := bb.size; rw [hsz3] at this; omega
            have B6 := hide (BW3.out.trans (bb.mono (by rw [hsz3]; omega)))
            have HT6 := hide (HTW.out.below bb)
            have HI6 : Hid (IsIB (andNew B (w.heap.size + 2)) w6 (.slice a6 (l.length + 1) c6) (l ++ [c])) := hide ⟨by have h := owns_isI ho6; exact h, .inr fun k hk => .inr (by have := (ho6.lt k hk).1; rw [hsz3] at this; omega)⟩
            have HSET := hide (fun kv ks => set_any (andNew B (w.heap.size + 2)) (.slice (some ⟨b3, o3, none⟩) (outL T c).length vc) (outL T c) p kv ks hpo (by rw [out_len]; omega))
            have t3 : (y1.setCell ⟨w.heap.size, 0, none⟩ (.slice (some ⟨b3, o3, none⟩) (outL T c).length vc)).cell? ⟨w.heap.size, 0, none⟩ = some (.slice (some ⟨b3, o3, none⟩) (outL T c).length vc) := World.cell?_setCell_same _ _ _ (by rw [q0])
            have t3a : ((y1.setCell ⟨w.heap.size, 0, none⟩ (.slice (some ⟨b3, o3, none⟩) (outL T c).length vc)).alloc (.cells #[] 3)).cell? ⟨w.heap.size, 0, none⟩ = some (.slice (some ⟨b3, o3, none⟩) (outL T c).length vc) := by rw [(below_alloc (y1.setCell ⟨w.heap.size, 0, none⟩ (.slice (some ⟨b3, o3, none⟩) (outL T c).length vc)) _).cell (cell_lt t3)]; exact t3
            have c6a : ((y1.setCell ⟨w.heap.size, 0, none⟩ (.slice (some ⟨b3, o3, none⟩) (outL T c).length vc)).alloc (.cells #[] 3)).cell? ⟨b3, o3 + p * 7 + 6, none⟩ = some (.slice ka3 l.length kc3) := by rw [(below_alloc (y1.setCell ⟨w.heap.size, 0, none⟩ (.slice (some ⟨b3, o3, none⟩) (outL T c).length vc)) _).cell (cell_lt hc6)]; exact hc6
            have hpi : (p : Int) < (outL T c).length := by omega
            clear hr1 hr2 ho5 ho6 hb5 hb6 bb hok3 hcs3 hI3 hkv h3' hps3 hTp hkl hlk
            go_wp2_with (first | with_reducible refine wpList_append_run rfl _ _ 44 rfl (.slice (some ⟨y1.heap.size, 0, none⟩) 0 0) (.slice ka3 l.length kc3) _ w5 rfl rfl HR1.out ?_ | with_reducible refine wpList_append_run rfl _ _ 44 rfl (.slice a5 l.length c5) (.slice (some ⟨w5.heap.size, 0, none⟩) 1 1) _ w6 rfl rfl HR2.out ?_ | fail)
            refine (HSET.out _ _ _ HT6.out HI6.out).mono ?_
            rintro e w7 ⟨⟨v7, h7, ⟨va7, vm7, vc7, rfl⟩, rfl⟩, b7⟩
            have B7 := hide (B6.out.trans (b7.mono (by omega)))
            have H7 := hide (h7.mono (C := andNew B (w.heap.size + 2)) (by
              rintro k ((h | h) | h)
              · exact .inl h
              · exact .inr h
              · exact .inr (by omega)))
            have z7 : w7.cell? ⟨w.heap.size + 1, 0, none⟩ = some (.slice none 0 0) := by rw [b7.cell (cell_lt z6)]; exact z6
            have z7f : w7.frozen? ⟨w.heap.size + 1, 0, none⟩ = false := by rw [b7.frozen (p := ⟨w.heap.size + 1, 0, none⟩) hw6]; exact z6f
            clear h7 b7 z6 z6f t6
            go_wp2
            have hb2 := B7.out.setCell (p := ⟨w.heap.size + 1, 0, none⟩) (by simp only; omega) (.slice va7 vm7 vc7)
            refine bodyPost_ret (v := .tuple #[.agg #[.slice va7 vm7 vc7], .int .i64 0]) ?_ rfl ⟨⟨_, (H7.out.keep (fun k h => Below.heap_setCell _ _ _ _ ?_)).mono ?_, ⟨_, _, _, rfl⟩, rfl⟩, hb2⟩
            · rw [results_cell_tmp rfl]
              go_simp
            · simp only
              rcases h with h | h
              · have := HBB.out k h
                omega
              · omega
            · rintro k (h | h)
              · exact .inl h
              · exact .inr (by omega)
    · rw [show decide (0 ≤ zc ∧ zc < T.length) = false from decide_eq_false hc] at HI2
      rw [if_neg (fun h => hc h.2)]
      go_enter Try.func36, Try.ntmps36
      go_wp2_with fail
      refine (HI1.out _ (HT.out.below B1.out)).mono ?_
      rintro e x15 ⟨rfl, b1⟩
      replace B1 := hide (B1.out.trans (b1.mono B1.out.size))
      replace K1 := hide (K1.out.below b1)
      replace Z1 := hide (Z1.out.below b1)
      have q0 : x15.cell? ⟨w.heap.size, 0, none⟩ = some (.slice (some ⟨b, o, none⟩) T.length cap) := K1.out.1 0
      have q0f : x15.frozen? ⟨w.heap.size, 0, none⟩ = false := K1.out.2 0
      have z0 : x15.cell? ⟨w.heap.size + 1, 0, none⟩ = some (.slice none 0 0) := by have := Z1.out.1 0; simpa using this
      have z1 : x15.frozen? ⟨w.heap.size + 1, 0, none⟩ = false := by have := Z1.out.2 0; simpa using this
      have hz2 : w.heap.size + 1 < x15.heap.size := by have := Z1.out.lt; simpa using this
      clear b1
      go_wp2_with fail
      refine (HI2.out _ (HT.out.below B1.out)).mono ?_
      rintro e x16 ⟨rfl, b1⟩
      replace B1 := hide (B1.out.trans (b1.mono B1.out.size))
      replace K1 := hide (K1.out.below b1)
      replace Z1 := hide (Z1.out.below b1)
      clear q0 q0f z0 z1 hz2
      have q0 : x16.cell? ⟨w.heap.size, 0, none⟩ = some (.slice (some ⟨b, o, none⟩) T.length cap) := K1.out.1 0
      have q0f : x16.frozen? ⟨w.heap.size, 0, none⟩ = false := K1.out.2 0
      have z0 : x16.cell? ⟨w.heap.size + 1, 0, none⟩ = some (.slice none 0 0) := by have := Z1.out.1 0; simpa using this
      have z1 : x16.frozen? ⟨w.heap.size + 1, 0, none⟩ = false := by have := Z1.out.2 0; simpa using this
      have hz2 : w.heap.size + 1 < x16.heap.size := by have := Z1.out.lt; simpa using this
      clear b1
      go_wp2_with fail
      have hb2 := B1.out.setCell (p := ⟨w.heap.size + 1, 0, none⟩) (by simp only; omega) (.slice (some ⟨b, o, none⟩) T.length cap)
      refine bodyPost_ret (v := .tuple #[.agg #[.slice (some ⟨b, o, none⟩) T.length cap], .int .i64 2]) ?_ rfl ⟨⟨_, (HT0.out.below hb2).mono fun k h => .inl h, ⟨_, _, _, rfl⟩, rfl⟩, hb2⟩
      rw [results_cell_tmp rfl]
      go_simp
  · rw [show decide (0 ≤ zp ∧ zp < T.length) = false from decide_eq_false hp] at HI1
    rw [if_neg (fun h => hp h.1)]
    go_enter Try.func36, Try.ntmps36
    go_wp2_with fail
    refine (HI1.out _ (HT.out.below B1.out)).mono ?_
    rintro e x17 ⟨rfl, b1⟩
    replace B1 := hide (B1.out.trans (b1.mono B1.out.size))
    replace K1 := hide (K1.out.below b1)
    replace Z1 := hide (Z1.out.below b1)
    have q0 : x17.cell? ⟨w.heap.size, 0, none⟩ = some (.slice (some ⟨b, o, none⟩) T.length cap) := K1.out.1 0
    have q0f : x17.frozen? ⟨w.heap.size, 0, none⟩ = false := K1.out.2 0
    have z0 : x17.cell? ⟨w.heap.size + 1, 0, none⟩ = some (.slice none 0 0) := by have := Z1.out.1 0; simpa using this
    have z1 : x17.frozen? ⟨w.heap.size + 1, 0, none⟩ = false := by have := Z1.out.2 0; simpa using this
    have hz2 : w.heap.size + 1 < x17.heap.size := by have := Z1.out.lt; simpa using this
    clear b1
    go_wp2_with fail
    have hb2 := B1.out.setCell (p := ⟨w.heap.size + 1, 0, none⟩) (by simp only; omega) (.slice (some ⟨b, o, none⟩) T.length cap)
    refine bodyPost_ret (v := .tuple #[.agg #[.slice (some ⟨b, o, none⟩) T.length cap], .int .i64 2]) ?_ rfl ⟨⟨_, (HT0.out.below hb2).mono fun k h => .inl h, ⟨_, _, _, rfl⟩, rfl⟩, hb2⟩
    rw [results_cell_tmp rfl]
    go_simp
end Go.Proofs.Ytjgklemhlmgheaa
