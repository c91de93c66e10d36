/- What the program's Insert answers: a list in new memory; nothing that was there is written. -/
import Derived.Test.YtihpjalbdkiecaaPJ7
import Derived.Deep.RegionHeld2
set_option linter.unusedVariables false
set_option linter.unusedSimpArgs false
namespace Go.Proofs.Ytihpjalbdkiecaa
open Go.RowKit

set_option maxHeartbeats 1000000 in
theorem insert_p (v : Value) (l : List MV) (hs : SmallM l) (z : Int) (m : MV) (hma : m.aa.length ≤ 1000) (w : World) (hM : RowM w v l) (hOk : OkM w l) (hm : IsQ w m.av m.aa) :
    Calls Try.prog 19 #[v, .int .i64 z, .agg #[.int .i64 m.id, .string m.nm, m.av]] w fun e w' => (∃ v', e = .returned v' ∧ NewM w.heap.size w' v' (insertL l z m)) ∧ Below w.heap.size w w' := by
  have hl : l.length ≤ 1000 := hs.1
  have hk : atN l z ≤ l.length := Nat.min_le_right _ _
  have hz : min (max z 0) (l.length : Int) = (atN l z : Int) := by unfold atN; omega
  have hz1 : max z 0 = (z.toNat : Int) := by omega
  obtain ⟨a, c, rfl⟩ := rowM_form hM
  obtain ⟨am, cm, hmv⟩ := isQ_form hm
  obtain ⟨hs1, r1⟩ := cut_to hM (atN l z) hk
  obtain ⟨a2, c2, hs2, r2⟩ := cut_from hM (atN l z) hk
  have HG := hide (fun W (b : Below w.heap.size w W) => grown_p _ (l.take (atN l z)) (by rw [List.length_take]; omega) m W (r1.below b) (hm.below b))
  have HJ := hide (fun W (b : Below w.heap.size w W) v1 (h1 : RowM W v1 (l.take (atN l z) ++ [m])) => joined_p v1 _ (l.take (atN l z) ++ [m]) (l.drop (atN l z)) (by rw [List.length_append, List.length_take]; simp; omega) (by rw [List.length_drop]; omega) W h1 (r2.below b) (fun x hx => by
    rcases List.mem_append.1 hx with hx | hx
    · exact (hOk.below b) x (List.mem_of_mem_take hx)
    · obtain rfl := List.mem_singleton.1 hx
      exact hm.below b) ((hOk.below b).drop _))
  have hI : insertL l z m = l.take (atN l z) ++ [m] ++ l.drop (atN l z) := by simp [insertL]
  rw [hI]
  generalize l.take (atN l z) ++ [m] ++ l.drop (atN l z) = L at *
  generalize l.take (atN l z) ++ [m] = L1 at *
  clear hM hOk hs hm r1 r2 hI
  generalize l.length = N at *
  generalize atN l z = k at *
  generalize N - k = M at *
  obtain ⟨id, nm, aa, av⟩ := m
  simp only [] at hmv hma HG HJ ⊢
  subst hmv
  generalize aa.length = ml at *
  have HB : Hid (∀ W0, w.alloc (.cells #[.int .i64 id, .string nm, .slice am ml cm] 27) = W0 → Below w.heap.size w W0 ∧ w.heap.size < W0.heap.size ∧ W0.cell? ⟨w.heap.size, 0, none⟩ = some (.int .i64 id) ∧ W0.cell? ⟨w.heap.size, 1, none⟩ = some (.string nm) ∧ W0.cell? ⟨w.heap.size, 2, none⟩ = some (.slice am ml cm)) := hide fun W0 e => by
    obtain ⟨c0, c1, c2⟩ := boxW_cells w id nm (.slice am ml cm) (w1 := W0) (by rw [← e]; exact Below.refl _ _)
    exact ⟨by rw [← e]; exact below_alloc w _, by rw [← e]; simp, c0, c1, c2⟩
  by_cases h1 : z < 0
  · obtain rfl : k = 0 := by omega
    have h2 : ¬ (N : Int) < 0 := by omega
    simp only [Int.natCast_zero] at hs1 hs2
    clear hz hz1 hk
    go_enter Try.func19, Try.ntmps19
    go_wp2_with fail
    generalize hW0 : w.alloc (.cells #[.int .i64 id, .string nm, .slice am ml cm] 27) = W0
    obtain ⟨b0, s0, c0, c1, c2⟩ := HB.out W0 hW0
    have B0 := hide b0.drew
    have HK : Hid (∀ W, Below W0.heap.size W0 W → W.cell? ⟨w.heap.size, 0, none⟩ = some (.int .i64 id) ∧ W.cell? ⟨w.heap.size, 1, none⟩ = some (.string nm) ∧ W.cell? ⟨w.heap.size, 2, none⟩ = some (.slice am ml cm)) := hide fun W b => ⟨by rw [b.cell s0]; exact c0, by rw [b.cell s0]; exact c1, by rw [b.cell s0]; exact c2⟩
    have DD := hide (Below.refl W0.heap.size W0).drew
    clear hW0 HB b0 c0 c1 c2
    go_region_held2 (fun W' => W'.cell? ⟨w.heap.size, 0, none⟩ = some (.int .i64 id) ∧ W'.cell? ⟨w.heap.size, 1, none⟩ = some (.string nm) ∧ W'.cell? ⟨w.heap.size, 2, none⟩ = some (.slice am ml cm)) (first | with_reducible exact HK.out _ DD.out | with_reducible exact HK.out _ B1.out | with_reducible exact HK.out _ B2.out) (first | (go_at_call 34; refine (HG.out _ B0.out).mono ?_; rintro e w1 ⟨⟨v1, rfl, hN⟩, b1⟩; obtain ⟨a4, c4, rfl⟩ := new_form hN; have H1 := hide hN.row; have B1 := hide (DD.out.trans b1); have B3 := hide (B0.out.trans (b1.mono B0.out.size)); clear hN b1) | (go_at_call 41; refine (HJ.out _ B3.out _ H1.out).mono ?_; rintro e w2 ⟨⟨v2, rfl, hN⟩, b2⟩; obtain ⟨a5, c5, rfl⟩ := new_form hN; have H2 := hide (hN.mono B3.out.size); have B2 := hide (B1.out.trans (b2.mono B1.out.size)); have B4 := hide (B3.out.trans (b2.mono B3.out.size)); clear hN b2))
    go_wp2
    go_ret
    exact ⟨⟨_, rfl, H2.out⟩, B4.out⟩
  · by_cases h2 : (N : Int) < z
    · obtain rfl : k = N := by omega
      clear hz hz1 hk
      go_enter Try.func19, Try.ntmps19
      go_wp2_with fail
      generalize hW0 : w.alloc (.cells #[.int .i64 id, .string nm, .slice am ml cm] 27) = W0
      obtain ⟨b0, s0, c0, c1, c2⟩ := HB.out W0 hW0
      have B0 := hide b0.drew
      have HK : Hid (∀ W, Below W0.heap.size W0 W → W.cell? ⟨w.heap.size, 0, none⟩ = some (.int .i64 id) ∧ W.cell? ⟨w.heap.size, 1, none⟩ = some (.string nm) ∧ W.cell? ⟨w.heap.size, 2, none⟩ = some (.slice am ml cm)) := hide fun W b => ⟨by rw [b.cell s0]; exact c0, by rw [b.cell s0]; exact c1, by rw [b.cell s0]; exact c2⟩
      have DD := hide (Below.refl W0.heap.size W0).drew
      clear hW0 HB b0 c0 c1 c2
      go_region_held2 (fun W' => W'.cell? ⟨w.heap.size, 0, none⟩ = some (.int .i64 id) ∧ W'.cell? ⟨w.heap.size, 1, none⟩ = some (.string nm) ∧ W'.cell? ⟨w.heap.size, 2, none⟩ = some (.slice am ml cm)) (first | with_reducible exact HK.out _ DD.out | with_reducible exact HK.out _ B1.out | with_reducible exact HK.out _ B2.out) (first | (go_at_call 34; refine (HG.out _ B0.out).mono ?_; rintro e w1 ⟨⟨v1, rfl, hN⟩, b1⟩; obtain ⟨a4, c4, rfl⟩ := new_form hN; have H1 := hide hN.row; have B1 := hide (DD.out.trans b1); have B3 := hide (B0.out.trans (b1.mono B0.out.size)); clear hN b1) | (go_at_call 41; refine (HJ.out _ B3.out _ H1.out).mono ?_; rintro e w2 ⟨⟨v2, rfl, hN⟩, b2⟩; obtain ⟨a5, c5, rfl⟩ := new_form hN; have H2 := hide (hN.mono B3.out.size); have B2 := hide (B1.out.trans (b2.mono B1.out.size)); have B4 := hide (B3.out.trans (b2.mono B3.out.size)); clear hN b2))
      go_wp2
      go_ret
      exact ⟨⟨_, rfl, H2.out⟩, B4.out⟩
    · obtain rfl : z = (k : Int) := by omega
      have h3 : ¬ (N : Int) < (k : Int) := h2
      clear hz hz1 h1
      go_enter Try.func19, Try.ntmps19
      go_wp2_with fail
      generalize hW0 : w.alloc (.cells #[.int .i64 id, .string nm, .slice am ml cm] 27) = W0
      obtain ⟨b0, s0, c0, c1, c2⟩ := HB.out W0 hW0
      have B0 := hide b0.drew
      have HK : Hid (∀ W, Below W0.heap.size W0 W → W.cell? ⟨w.heap.size, 0, none⟩ = some (.int .i64 id) ∧ W.cell? ⟨w.heap.size, 1, none⟩ = some (.string nm) ∧ W.cell? ⟨w.heap.size, 2, none⟩ = some (.slice am ml cm)) := hide fun W b => ⟨by rw [b.cell s0]; exact c0, by rw [b.cell s0]; exact c1, by rw [b.cell s0]; exact c2⟩
      have DD := hide (Below.refl W0.heap.size W0).drew
      clear hW0 HB b0 c0 c1 c2
      go_region_held2 (fun W' => W'.cell? ⟨w.heap.size, 0, none⟩ = some (.int .i64 id) ∧ W'.cell? ⟨w.heap.size, 1, none⟩ = some (.string nm) ∧ W'.cell? ⟨w.heap.size, 2, none⟩ = some (.slice am ml cm)) (first | with_reducible exact HK.out _ DD.out | with_reducible exact HK.out _ B1.out | with_reducible exact HK.out _ B2.out) (first | (go_at_call 34; refine (HG.out _ B0.out).mono ?_; rintro e w1 ⟨⟨v1, rfl, hN⟩, b1⟩; obtain ⟨a4, c4, rfl⟩ := new_form hN; have H1 := hide hN.row; have B1 := hide (DD.out.trans b1); have B3 := hide (B0.out.trans (b1.mono B0.out.size)); clear hN b1) | (go_at_call 41; refine (HJ.out _ B3.out _ H1.out).mono ?_; rintro e w2 ⟨⟨v2, rfl, hN⟩, b2⟩; obtain ⟨a5, c5, rfl⟩ := new_form hN; have H2 := hide (hN.mono B3.out.size); have B2 := hide (B1.out.trans (b2.mono B1.out.size)); have B4 := hide (B3.out.trans (b2.mono B3.out.size)); clear hN b2))
      go_wp2
      go_ret
      exact ⟨⟨_, rfl, H2.out⟩, B4.out⟩
end Go.Proofs.Ytihpjalbdkiecaa
