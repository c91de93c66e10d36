/- What the document's own Copy and Add answer; nothing that was there is written. -/
import Derived.Test.YtjgklemhlmgheaaWalkI5
import Derived.Test.YtjgklemhlmgheaaOps5
set_option linter.unusedVariables false
set_option linter.unusedSimpArgs false
namespace Go.Proofs.Ytjgklemhlmgheaa
open Go.RowKit

def copyD (T : TR) (z : Int) : TR × Int := if inT T z ∧ (nodeAt T z.toNat).kind = 1 then makeL T (nodeAt T z.toNat) else (T, -1)
theorem rowCells_set : ∀ (ps : List IV) (j : Nat) (hj : j < ps.length) (o : Nat) (ho : o < 7) (r' : IV) (v : Value), ivC r' = (ivC ps[j]).set o v → rowCells (ps.set j r') = (rowCells ps).set (j * 7 + o) v
  | p :: r, 0, _, o, ho, r', v, he => by
    simp only [List.set_cons_zero, rowCells, Nat.zero_mul, Nat.zero_add, List.getElem_cons_zero] at he ⊢
    rw [he, List.set_append_left _ _ (by simpa [ivC, itC] using ho)]
  | p :: r, j + 1, hj, o, ho, r', v, he => by
    have h := rowCells_set r j (by simpa using hj) o ho r' v (by simpa using he)
    simp only [List.set_cons_succ, rowCells]
    rw [h, List.set_append_right _ _ (by simp [ivC, itC]; omega), show (j + 1) * 7 + o - (ivC p).length = j * 7 + o by simp [ivC, itC]; omega]
theorem owns_isTB {B : Nat → Prop} {w : World} {B0 n : Nat} {v : Value} {ps : List IV} (h : w.ownsRow B0 71 7 v n (rowCells ps)) (hn : 0 < ps.length) (hok : ∀ p ∈ ps, IvB B w p) (hB : ∀ k, v.ownBlock = some k → B k) : IsTB B w v (ps.map (·.1)) := by
  have hl := h.1
  rw [rowCells_len] at hl
  have hnn : n = ps.length := by omega
  subst hnn
  rcases h.2 with ⟨_, h0⟩ | ⟨g, cap, cur, rfl, hbg, hg, hnc, _⟩
  · omega
  · refine ⟨g, 0, cap, ps, by rw [List.length_map], by rw [List.length_map]; exact hnc, rfl, hB g rfl, hok, fun j u hu => ?_⟩
    have := h.cells (g := g) rfl j u hu
    rw [addr_add] at this
    rw [Nat.zero_add]
    exact this
/-- One item of the document's arena. -/
theorem IsTB.item {B : Nat → Prop} {w : World} {v : Value} {T : TR} (h : IsTB B w v T) (n : Nat) (hn : n < T.length) : ∃ b o cap aa ac ka kc, v = .slice (some ⟨b, o, none⟩) T.length cap ∧ IsA w (.slice aa (nodeAt T n).attrs.length ac) (nodeAt T n).attrs ∧ ∀ i, i < 7 → w.cell? ⟨b, o + n * 7 + i, none⟩ = (itC (nodeAt T n) (.slice aa (nodeAt T n).attrs.length ac) (.slice ka (kidsAt T n).length kc))[i]? := by
  obtain ⟨b, o, cap, rfl, hcap, hit⟩ := h.isT
  obtain ⟨av, kv, h1, h2, h3⟩ := hit n hn
  have hnd : T[n].1 = nodeAt T n := by unfold nodeAt; rw [List.getElem?_eq_getElem hn]; rfl
  have hkd : T[n].2 = kidsAt T n := (kidsAt_get hn).symm
  rw [hnd] at h1 h3
  rw [hkd] at h2
  obtain ⟨aa, ac, rfl⟩ := isA_form h1
  obtain ⟨ka, kc, rfl⟩ := isI_form h2
  exact ⟨b, o, cap, aa, ac, ka, kc, rfl, h1, h3⟩
set_option maxRecDepth 10000 in
set_option maxHeartbeats 4000000 in
theorem copy_any (v : Value) (T : TR) (z : Int) (hl : T.length ≤ 1000000) (ha : ∀ i, (nodeAt T i).attrs.length ≤ 1000000) (B : Nat → Prop) (w : World) (hB : ∀ k, B k → k < w.heap.size) (hT : IsTB B w v T) :
    Calls Try.prog 34 #[.agg #[v], .int .i64 z] w fun e w' => TreeN B w w' e (copyD T z) ∧ Below w.heap.size w w' := by
  have HT0 := hide hT
  have HBB := hide hB
  have HIS := hide (is_any v T z)
  unfold copyD
  by_cases hz : inT T z
  · rw [show decide (0 ≤ z ∧ z < T.length) = true from decide_eq_true hz] at HIS
    obtain ⟨n, rfl⟩ : ∃ n : Nat, z = (n : Int) := ⟨z.toNat, by unfold inT at hz; omega⟩
    have hn : n < T.length := by unfold inT at hz; omega
    have hni : (n : Int) < T.length := by omega
    rw [Int.toNat_natCast]
    obtain ⟨b, o, cap, aa, ac, ka, kc, rfl, hA, hcs⟩ := hT.item n hn
    have b0 := below_alloc w (.cells #[.slice (some ⟨b, o, none⟩) T.length cap] 27)
    have B1 := hide (b0.alloc b0.size (.cells #[.slice none 0 0] 27))
    have K1 := hide ((Kept.new w [.slice (some ⟨b, o, none⟩) T.length cap] 27).alloc (.cells #[.slice none 0 0] 27))
    have Z1 := hide (Kept.new (w.alloc (.cells #[.slice (some ⟨b, o, none⟩) T.length cap] 27)) [.slice none 0 0] 27)
    have HCS := hide hcs
    have HM := hide (fun W (hb : Below w.heap.size w W) => make_any (.slice (some ⟨b, o, none⟩) T.length cap) T (nodeAt T n) (.slice aa (nodeAt T n).attrs.length ac) (.slice none 0 0) ⟨_, _, _, rfl⟩ hl (ha n) B W (fun k hk => Nat.lt_of_lt_of_le (HBB.out k hk) hb.size) (HT0.out.below hb) (.inl (hA.below hb)))
    clear b0 hA hcs ha hB
    generalize hkd : (nodeAt T n).kind = kd at *
    by_cases hk : kd = 1
    · subst hk
      rw [if_pos ⟨hz, rfl⟩]
      clear hz
      unfold itC at HCS
      rw [hkd] at HCS
      generalize makeL T (nodeAt T n) = M at *
      clear hkd
      generalize (nodeAt T n).space = nsp at *
      generalize (nodeAt T n).name = nnm at *
      generalize (nodeAt T n).attrs.length = nal at *
      generalize (nodeAt T n).text = ntx at *
      generalize (kidsAt T n).length = nkl at *
      go_enter Try.func34, Try.ntmps34
      go_wp2_with fail
      refine (HIS.out _ (HT0.out.below B1.out).isT).mono ?_
      rintro e w1 ⟨rfl, b1⟩
      replace B1 := hide (B1.out.trans (b1.mono B1.out.size))
      replace K1 := hide (K1.out.below b1)
      replace Z1 := hide (Z1.out.below b1)
      clear b1
      have q0 : w1.cell? ⟨w.heap.size, 0, none⟩ = some (.slice (some ⟨b, o, none⟩) T.length cap) := K1.out.1 0
      have z0 : w1.cell? ⟨w.heap.size + 1, 0, none⟩ = some (.slice none 0 0) := by have := Z1.out.1 0; simpa using this
      have z1 : w1.frozen? ⟨w.heap.size + 1, 0, none⟩ = false := by have := Z1.out.2 0; simpa using this
      have hz2 : w.heap.size + 1 < w1.heap.size := by have := Z1.out.lt; simpa using this
      have gg : ∀ i v, w.cell? ⟨b, o + n * 7 + i, none⟩ = some v → w1.cell? ⟨b, o + n * 7 + i, none⟩ = some v := fun i v hv => by rw [B1.out.cell (cell_lt hv)]; exact hv
      have d0 : w1.cell? ⟨b, o + n * 7, none⟩ = some (.int .i64 1) := gg 0 _ (HCS.out 0 (by omega))
      have d1 : w1.cell? ⟨b, o + n * 7 + 1, none⟩ = some (.int .i64 nsp) := gg 1 _ (HCS.out 1 (by omega))
      have d2 : w1.cell? ⟨b, o + n * 7 + 2, none⟩ = some (.string ⟨nnm.toArray⟩) := gg 2 _ (HCS.out 2 (by omega))
      have d3 : w1.cell? ⟨b, o + n * 7 + 3, none⟩ = some (.slice aa nal ac) := gg 3 _ (HCS.out 3 (by omega))
      have d4 : w1.cell? ⟨b, o + n * 7 + 4, none⟩ = some (.string ⟨ntx.toArray⟩) := gg 4 _ (HCS.out 4 (by omega))
      have d5 : w1.cell? ⟨b, o + n * 7 + 5, none⟩ = some (.slice none 0 0) := gg 5 _ (HCS.out 5 (by omega))
      have HD := hide (B1.out.drew)
      have HFIN : Hid (∀ e w3, TreeN B w1.drew w3 e M ∧ Below w1.drew.heap.size w1.drew w3 → ∃ va vm vc, e = .returned (.tuple #[.agg #[.slice va vm vc], .int .i64 M.2]) ∧ w3.cell? ⟨w.heap.size + 1, 0, none⟩ = some (.slice none 0 0) ∧ w3.frozen? ⟨w.heap.size + 1, 0, none⟩ = false ∧ Hid (IsTB (andNew B w.heap.size) (w3.setCell ⟨w.heap.size + 1, 0, none⟩ (.slice va vm vc)) (.slice va vm vc) M.1 ∧ Below w.heap.size w (w3.setCell ⟨w.heap.size + 1, 0, none⟩ (.slice va vm vc)))) := hide (by
        rintro e w3 ⟨⟨v3, h3, ⟨va, vm, vc, rfl⟩, rfl⟩, b3⟩
        have hB3 : Below w.heap.size w w3 := HD.out.trans (b3.mono HD.out.size)
        refine ⟨va, vm, vc, rfl, (b3.cell (p := ⟨w.heap.size + 1, 0, none⟩) hz2).trans z0, (b3.frozen (p := ⟨w.heap.size + 1, 0, none⟩) hz2).trans z1, hide ⟨(h3.keep (fun k h => Below.heap_setCell _ _ _ _ ?_)).mono ?_, hB3.setCell (p := ⟨w.heap.size + 1, 0, none⟩) (by simp only; omega) _⟩⟩
        · simp only
          have hs1 : w1.drew.heap.size = w1.heap.size := rfl
          rcases h with h | h
          · have := HBB.out k h
            omega
          · omega
        · have hs1 : w1.drew.heap.size = w1.heap.size := rfl
          rintro k (h | h)
          · exact .inl h
          · exact .inr (by omega))
      clear gg
      go_wp2_with fail
      go_region_with (go_at_call 33; refine (HM.out _ HD.out).mono ?_; intro e w3 hh; obtain ⟨va, vm, vc, rfl, y0, y1, HF⟩ := HFIN.out e w3 hh; clear hh)
      all_goals
        go_wp2
        refine bodyPost_ret (v := .tuple #[.agg #[.slice va vm vc], .int .i64 M.2]) ?_ rfl ⟨⟨_, HF.out.1, ⟨_, _, _, rfl⟩, rfl⟩, HF.out.2⟩
        rw [results_cell_tmp rfl]
        go_simp
    · rw [if_neg (fun h => hk h.2)]
      have hkb : (kd != 1) = true := bne_iff_ne.2 hk
      have HC0 : Hid (w.cell? ⟨b, o + n * 7, none⟩ = some (.int .i64 kd)) := hide (by rw [← hkd]; exact HCS.out 0 (by omega))
      clear hz hkd
      go_enter Try.func34, Try.ntmps34
      go_wp2_with fail
      refine (HIS.out _ (HT0.out.below B1.out).isT).mono ?_
      rintro e w1 ⟨rfl, b1⟩
      replace B1 := hide (B1.out.trans (b1.mono B1.out.size))
      replace K1 := hide (K1.out.below b1)
      replace Z1 := hide (Z1.out.below b1)
      clear b1
      have q0 : w1.cell? ⟨w.heap.size, 0, none⟩ = some (.slice (some ⟨b, o, none⟩) T.length cap) := K1.out.1 0
      have z0 : w1.cell? ⟨w.heap.size + 1, 0, none⟩ = some (.slice none 0 0) := by have := Z1.out.1 0; simpa using this
      have z1 : w1.frozen? ⟨w.heap.size + 1, 0, none⟩ = false := by have := Z1.out.2 0; simpa using this
      have hz2 : w.heap.size + 1 < w1.heap.size := by have := Z1.out.lt; simpa using this
      have d0 : w1.cell? ⟨b, o + n * 7, none⟩ = some (.int .i64 kd) := by rw [B1.out.cell (cell_lt HC0.out)]; exact HC0.out
      go_wp2
      have hb2 := B1.out.setCell (p := ⟨w.heap.size + 1, 0, none⟩) (by simp only; omega) (.slice (some ⟨b, o, none⟩) T.length cap)
      refine bodyPost_ret (v := .tuple #[.agg #[.slice (some ⟨b, o, none⟩) T.length cap], .int .i64 (-1)]) ?_ rfl ⟨⟨_, (HT0.out.below hb2).mono fun k h => .inl h, ⟨_, _, _, rfl⟩, rfl⟩, hb2⟩
      rw [results_cell_tmp rfl]
      go_simp
  · rw [if_neg (fun h => hz h.1)]
    rw [show decide (0 ≤ z ∧ z < T.length) = false from decide_eq_false hz] at HIS
    obtain ⟨b, o, cap, rfl, _⟩ := hT.isT
    have b0 := below_alloc w (.cells #[.slice (some ⟨b, o, none⟩) T.length cap] 27)
    have B1 := hide (b0.alloc b0.size (.cells #[.slice none 0 0] 27))
    have K1 := hide ((Kept.new w [.slice (some ⟨b, o, none⟩) T.length cap] 27).alloc (.cells #[.slice none 0 0] 27))
    have Z1 := hide (Kept.new (w.alloc (.cells #[.slice (some ⟨b, o, none⟩) T.length cap] 27)) [.slice none 0 0] 27)
    clear hz b0 hB hT ha
    go_enter Try.func34, Try.ntmps34
    go_wp2_with fail
    refine (HIS.out _ (HT0.out.below B1.out).isT).mono ?_
    rintro e w1 ⟨rfl, b1⟩
    replace B1 := hide (B1.out.trans (b1.mono B1.out.size))
    replace K1 := hide (K1.out.below b1)
    replace Z1 := hide (Z1.out.below b1)
    clear b1
    have q0 : w1.cell? ⟨w.heap.size, 0, none⟩ = some (.slice (some ⟨b, o, none⟩) T.length cap) := K1.out.1 0
    have z0 : w1.cell? ⟨w.heap.size + 1, 0, none⟩ = some (.slice none 0 0) := by have := Z1.out.1 0; simpa using this
    have z1 : w1.frozen? ⟨w.heap.size + 1, 0, none⟩ = false := by have := Z1.out.2 0; simpa using this
    have hz2 : w.heap.size + 1 < w1.heap.size := by have := Z1.out.lt; simpa using this
    go_wp2
    have hb2 := B1.out.setCell (p := ⟨w.heap.size + 1, 0, none⟩) (by simp only; omega) (.slice (some ⟨b, o, none⟩) T.length cap)
    refine bodyPost_ret (v := .tuple #[.agg #[.slice (some ⟨b, o, none⟩) T.length cap], .int .i64 (-1)]) ?_ rfl ⟨⟨_, (HT0.out.below hb2).mono fun k h => .inl h, ⟨_, _, _, rfl⟩, rfl⟩, hb2⟩
    rw [results_cell_tmp rfl]
    go_simp
end Go.Proofs.Ytjgklemhlmgheaa
