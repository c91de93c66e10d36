/- What the document's own Remove answers; nothing that was there is written. -/
import Derived.Test.YtjgklemhlmgheaaWalkE5
set_option linter.unusedVariables false
set_option linter.unusedSimpArgs false
namespace Go.Proofs.Ytjgklemhlmgheaa
open Go.RowKit

/-- A tree and a number as the answer of a call. -/
def TreeN (B : Nat → Prop) (w w' : World) (e : Ending) (R : TR × Int) : Prop := ∃ v', IsTB (andNew B w.heap.size) w' v' R.1 ∧ (∃ a m c, v' = .slice a m c) ∧ e = .returned (.tuple #[.agg #[v'], .int .i64 R.2])
abbrev inT (T : TR) (z : Int) : Prop := 0 ≤ z ∧ z < T.length
def removeZ (T : TR) (z : Int) : TR × Int := if inT T z then (if (parentN T z.toNat).isSome then (outL T z.toNat, 0) else (T, 1)) else (T, 2)
set_option maxRecDepth 10000 in
set_option maxHeartbeats 1000000 in
theorem remove_any (v : Value) (T : TR) (z : Int) (hl : T.length ≤ 1000000) (hk : ∀ i (h : i < T.length), T[i].2.length ≤ 1000000) (B : Nat → Prop) (w : World) (hB : ∀ k, B k → k < w.heap.size) (hT : IsTB B w v T) :
    Calls Try.prog 38 #[.agg #[v], .int .i64 z] w fun e w' => TreeN B w w' e (removeZ T z) ∧ Below w.heap.size w w' := by
  have HIS := hide (is_any v T z)
  have HP := hide (parent_any v T z hl hk)
  have HT0 := hide hT
  have HBB := hide hB
  have HT := hide hT.isT
  have HO := hide (fun n => out_any v T n hl hk B)
  replace hT := hT.isT
  obtain ⟨b, o, cap, rfl, hcap, hit⟩ := hT
  have bA0 := below_alloc w (.cells #[.slice (some ⟨b, o, none⟩) T.length cap] 27)
  have BA := hide (bA0.alloc bA0.size (.cells #[.slice none 0 0] 27))
  have KO := hide ((Kept.new w [.slice (some ⟨b, o, none⟩) T.length cap] 27).alloc (.cells #[.slice none 0 0] 27))
  have KZ := hide (Kept.new (w.alloc (.cells #[.slice (some ⟨b, o, none⟩) T.length cap] 27)) [.slice none 0 0] 27)
  clear hit bA0 hk hB
  unfold removeZ
  by_cases hz : inT T z
  · rw [if_pos hz]
    rw [show decide (0 ≤ z ∧ z < T.length) = true from decide_eq_true hz] at HIS
    obtain ⟨n, rfl⟩ : ∃ n : Nat, z = (n : Int) := ⟨z.toNat, by unfold inT at hz; omega⟩
    rw [Int.toNat_natCast]
    have hpz : parentZ T (n : Int) = parZ (parentN T n) := by unfold parentZ; rw [if_neg (by omega), Int.toNat_natCast]
    rw [hpz] at HP
    clear hz hpz
    cases hp : parentN T n with
    | none =>
      rw [hp] at HP
      rw [parZ_none] at HP
      rw [show (none : Option Nat).isSome = false from rfl, if_neg (by decide)]
      go_enter Try.func38, Try.ntmps38
      go_wp2_with fail
      refine (HIS.out _ (HT.out.below BA.out)).mono ?_
      rintro e w1 ⟨rfl, b1⟩
      have B1 := hide (BA.out.trans (b1.mono BA.out.size))
      have K1 := hide (KO.out.below b1)
      have Z1 := hide (KZ.out.below b1)
      have q0 : w1.cell? ⟨w.heap.size, 0, none⟩ = some (.slice (some ⟨b, o, none⟩) T.length cap) := K1.out.1 0
      clear b1 KO KZ BA HIS
      go_wp2_with fail
      refine (HP.out _ (HT.out.below B1.out)).mono ?_
      rintro e w2 ⟨rfl, b1⟩
      replace B1 := hide (B1.out.trans (b1.mono B1.out.size))
      replace K1 := hide (K1.out.below b1)
      replace Z1 := hide (Z1.out.below b1)
      clear q0
      have q0 : w2.cell? ⟨w.heap.size, 0, none⟩ = some (.slice (some ⟨b, o, none⟩) T.length cap) := K1.out.1 0
      have z0 : w2.cell? ⟨w.heap.size + 1, 0, none⟩ = some (.slice none 0 0) := by have := Z1.out.1 0; simpa using this
      have z1 : w2.frozen? ⟨w.heap.size + 1, 0, none⟩ = false := by have := Z1.out.2 0; simpa using this
      have hz2 : w.heap.size + 1 < w2.heap.size := by have := Z1.out.lt; simpa using this
      clear b1 HP
      go_wp2
      have hb2 := B1.out.setCell (p := ⟨w.heap.size + 1, 0, none⟩) (by simp only; omega) (.slice (some ⟨b, o, none⟩) T.length cap)
      refine bodyPost_ret (v := .tuple #[.agg #[.slice (some ⟨b, o, none⟩) T.length cap], .int .i64 1]) ?_ rfl ⟨⟨_, (HT0.out.below hb2).mono fun k h => .inl h, ⟨_, _, _, rfl⟩, rfl⟩, hb2⟩
      rw [results_cell_tmp rfl]
      go_simp
    | some p =>
      rw [hp] at HP
      rw [show parZ (some p) = (p : Int) from rfl] at HP
      rw [show (some p).isSome = true from rfl, if_pos rfl]
      go_enter Try.func38, Try.ntmps38
      go_wp2_with fail
      refine (HIS.out _ (HT.out.below BA.out)).mono ?_
      rintro e w1 ⟨rfl, b1⟩
      have B1 := hide (BA.out.trans (b1.mono BA.out.size))
      have K1 := hide (KO.out.below b1)
      have Z1 := hide (KZ.out.below b1)
      have q0 : w1.cell? ⟨w.heap.size, 0, none⟩ = some (.slice (some ⟨b, o, none⟩) T.length cap) := K1.out.1 0
      clear b1 KO KZ BA HIS
      go_wp2_with fail
      refine (HP.out _ (HT.out.below B1.out)).mono ?_
      rintro e w2 ⟨rfl, b1⟩
      replace B1 := hide (B1.out.trans (b1.mono B1.out.size))
      replace K1 := hide (K1.out.below b1)
      replace Z1 := hide (Z1.out.below b1)
      clear q0
      have q0 : w2.cell? ⟨w.heap.size, 0, none⟩ = some (.slice (some ⟨b, o, none⟩) T.length cap) := K1.out.1 0
      have z0 : w2.cell? ⟨w.heap.size + 1, 0, none⟩ = some (.slice none 0 0) := by have := Z1.out.1 0; simpa using this
      have z1 : w2.frozen? ⟨w.heap.size + 1, 0, none⟩ = false := by have := Z1.out.2 0; simpa using this
      have hz2 : w.heap.size + 1 < w2.heap.size := by have := Z1.out.lt; simpa using this
      clear b1 HP
      go_wp2_with fail
      refine (HO.out n _ (fun k h => by have := HBB.out k h; omega) (HT0.out.below B1.out)).mono ?_
      rintro e w3 ⟨⟨v3, h3, ⟨va, vm, vc, rfl⟩, rfl⟩, b1⟩
      have B3 := hide (B1.out.trans (b1.mono B1.out.size))
      have H3 := hide h3
      have y0 : w3.cell? ⟨w.heap.size + 1, 0, none⟩ = some (.slice none 0 0) := by rw [b1.cell (cell_lt z0)]; exact z0
      have y1 : w3.frozen? ⟨w.heap.size + 1, 0, none⟩ = false := by rw [b1.frozen (p := ⟨w.heap.size + 1, 0, none⟩) hz2]; exact z1
      clear h3 b1 z0 z1 q0
      go_wp2
      have hb2 := B3.out.setCell (p := ⟨w.heap.size + 1, 0, none⟩) (by simp only; omega) (.slice va vm vc)
      refine bodyPost_ret (v := .tuple #[.agg #[.slice va vm vc], .int .i64 0]) ?_ rfl ⟨⟨_, (H3.out.keep (fun k h => Below.heap_setCell _ _ _ _ ?_)).mono ?_, ⟨_, _, _, rfl⟩, rfl⟩, hb2⟩
      · rw [results_cell_tmp rfl]
        go_simp
      · simp only
        rcases h with h | h
        · have := HBB.out k h
          omega
        · omega
      · rintro k (h | h)
        · exact .inl h
        · exact .inr (by omega)
  · rw [if_neg hz]
    rw [show decide (0 ≤ z ∧ z < T.length) = false from decide_eq_false hz] at HIS
    clear hz
    go_enter Try.func38, Try.ntmps38
    go_wp2_with fail
    refine (HIS.out _ (HT.out.below BA.out)).mono ?_
    rintro e w1 ⟨rfl, b1⟩
    have B1 := hide (BA.out.trans (b1.mono BA.out.size))
    have q0 : w1.cell? ⟨w.heap.size, 0, none⟩ = some (.slice (some ⟨b, o, none⟩) T.length cap) := (KO.out.below b1).1 0
    have z0 : w1.cell? ⟨w.heap.size + 1, 0, none⟩ = some (.slice none 0 0) := by have := (KZ.out.below b1).1 0; simpa using this
    have z1 : w1.frozen? ⟨w.heap.size + 1, 0, none⟩ = false := by have := (KZ.out.below b1).2 0; simpa using this
    clear b1
    go_wp2
    have hb2 := B1.out.setCell (p := ⟨w.heap.size + 1, 0, none⟩) (by simp only; omega) (.slice (some ⟨b, o, none⟩) T.length cap)
    refine bodyPost_ret (v := .tuple #[.agg #[.slice (some ⟨b, o, none⟩) T.length cap], .int .i64 2]) ?_ rfl ⟨⟨_, (HT0.out.below hb2).mono fun k h => .inl h, ⟨_, _, _, rfl⟩, rfl⟩, hb2⟩
    rw [results_cell_tmp rfl]
    go_simp
end Go.Proofs.Ytjgklemhlmgheaa
