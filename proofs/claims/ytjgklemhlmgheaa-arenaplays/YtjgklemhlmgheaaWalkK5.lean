/- What the document's own Add answers; nothing that was there is written. -/
import Derived.Test.YtjgklemhlmgheaaWalkJ5
set_option linter.unusedVariables false
set_option linter.unusedSimpArgs false
namespace Go.Proofs.Ytjgklemhlmgheaa
open Go.RowKit

set_option maxRecDepth 10000 in
set_option maxHeartbeats 4000000 in
theorem add_any (v : Value) (T : TR) (z : Int) (s : ByteArray) (hs : s.size ≤ 1000000000) (htl : ∀ i, (nodeAt T i).text.length ≤ 1000000000) (hl : T.length ≤ 1000000) (B : Nat → Prop) (w : World) (hB : ∀ k, B k → k < w.heap.size) (hT : IsTB B w v T) :
    Calls Try.prog 35 #[.agg #[v], .int .i64 z, .string s] w fun e w' => TreeN B w w' e (addZ T z s.data.toList) ∧ Below w.heap.size w w' := by
  have HT0 := hide hT
  have HBB := hide hB
  have HIS := hide (is_any v T z)
  unfold addZ
  by_cases hz : inT T z
  · rw [if_pos hz]
    rw [show decide (0 ≤ z ∧ z < T.length) = true from decide_eq_true hz] at HIS
    obtain ⟨n, rfl⟩ : ∃ n : Nat, z = (n : Int) := ⟨z.toNat, by unfold inT at hz; omega⟩
    have hn : n < T.length := by unfold inT at hz; omega
    have hni : (n : Int) < T.length := by omega
    rw [Int.toNat_natCast]
    obtain ⟨b, o, cap, aa, ac, ka, kc, rfl, hA, hcs⟩ := hT.item n hn
    have b0 := below_alloc w (.cells #[.slice (some ⟨b, o, none⟩) T.length cap] 27)
    have B1 := hide (b0.alloc b0.size (.cells #[.slice none 0 0] 27))
    have K1 := hide ((Kept.new w [.slice (some ⟨b, o, none⟩) T.length cap] 27).alloc (.cells #[.slice none 0 0] 27))
    have Z1 := hide (Kept.new (w.alloc (.cells #[.slice (some ⟨b, o, none⟩) T.length cap] 27)) [.slice none 0 0] 27)
    have HC0 : Hid (w.cell? ⟨b, o + n * 7, none⟩ = some (.int .i64 (nodeAt T n).kind)) := hide (hcs 0 (by omega))
    have HTL := hide (htl n)
    clear b0 hA hcs hB hz htl
    by_cases hk : (nodeAt T n).kind = 2
    · rw [if_pos hk]
      rw [hk] at HC0
      clear hk
      go_enter Try.func35, Try.ntmps35
      go_wp2_with fail
      refine (HIS.out _ (HT0.out.below B1.out).isT).mono ?_
      rintro e w1 ⟨rfl, b1⟩
      replace B1 := hide (B1.out.trans (b1.mono B1.out.size))
      replace K1 := hide (K1.out.below b1)
      replace Z1 := hide (Z1.out.below b1)
      clear b1
      have q0 : w1.cell? ⟨w.heap.size, 0, none⟩ = some (.slice (some ⟨b, o, none⟩) T.length cap) := K1.out.1 0
      have z0 : w1.cell? ⟨w.heap.size + 1, 0, none⟩ = some (.slice none 0 0) := by have := Z1.out.1 0; simpa using this
      have z1 : w1.frozen? ⟨w.heap.size + 1, 0, none⟩ = false := by have := Z1.out.2 0; simpa using this
      have hz2 : w.heap.size + 1 < w1.heap.size := by have := Z1.out.lt; simpa using this
      have d0 : w1.cell? ⟨b, o + n * 7, none⟩ = some (.int .i64 2) := by rw [B1.out.cell (cell_lt HC0.out)]; exact HC0.out
      obtain ⟨b', o', cap', ps, hv', hcap', hps, hBb, hok, hcs⟩ := HT0.out
      injection hv' with e1 _ e3
      injection e1 with e1
      injection e1 with e1 e2
      subst e1 e2 e3
      have hlen : ps.length = T.length := by rw [← hps, List.length_map]
      have hn2 : n < ps.length := by omega
      have hTn : T[n] = ps[n].1 := by simp [← hps]
      have hnd : nodeAt T n = ps[n].1.1 := by unfold nodeAt; rw [List.getElem?_eq_getElem hn, hTn]; rfl
      have hkd : kidsAt T n = ps[n].1.2 := by rw [kidsAt_get hn, hTn]
      obtain ⟨v3, w3, hr3, ho3, hb3⟩ := copy_row w1 b o cap ps (fun p hp => ((hok p hp).below B1.out).ok) (fun j u hu => by rw [B1.out.cell (cell_lt (hcs j u hu))]; exact hcs j u hu) (by omega)
      have bE := below_alloc w1 (.cells #[] 71)
      have t0 : (w1.alloc (.cells #[] 71)).cell? ⟨w.heap.size, 0, none⟩ = some (.slice (some ⟨b, o, none⟩) T.length cap) := by rw [bE.cell (cell_lt q0)]; exact q0
      obtain ⟨g3, c3, rfl⟩ : ∃ g3 c3, v3 = .slice (some ⟨g3, 0, none⟩) ps.length c3 := by
        rcases ho3.2 with ⟨_, h0⟩ | ⟨g3, c3, cur, hv, _⟩
        · omega
        · exact ⟨g3, c3, hv⟩
      have hg3 := (ho3.lt g3 rfl).1
      obtain ⟨X, hX⟩ : ∃ X : ByteArray, X = ⟨(nodeAt T n).text.toArray⟩ := ⟨_, rfl⟩
      have hXl : X.data.toList = (nodeAt T n).text := by rw [hX]
      have hXs : X.size ≤ 1000000000 := by rw [size_list, hXl]; exact HTL.out
      have x4 : w3.cell? ⟨g3, n * 7 + 4, none⟩ = some (.string X) := by
        rw [ho3.cellAt (n * 7 + 4) (by omega), rowCells_get ps n hn2 4 (by omega), hX, hnd]
        rfl
      have x4f : w3.frozen? ⟨g3, n * 7 + 4, none⟩ = false := ho3.frozenAt _
      have hXS : (⟨((nodeAt T n).text ++ s.data.toList).toArray⟩ : ByteArray) = X ++ s := (str_of _ _ (str_app X s _ _ hXl rfl)).symm
      have ho4 := (ho3.stored (n * 7 + 4) (.string (X ++ s))).1
      rw [← rowCells_set ps n hn2 4 (by omega) (({ ps[n].1.1 with text := (nodeAt T n).text ++ s.data.toList }, ps[n].1.2), ps[n].2.1, ps[n].2.2) (.string (X ++ s)) (by rw [← hXS]; rfl)] at ho4
      have BB3 : Below w.heap.size w w3 := B1.out.trans (hb3.mono B1.out.size)
      have BB4 := BB3.setCell (p := ⟨g3, n * 7 + 4, none⟩) (by simp only; omega) (.string (X ++ s))
      have BB5 := BB4.setCell (p := ⟨w.heap.size + 1, 0, none⟩) (by simp only; omega) (.slice (some ⟨g3, 0, none⟩) ps.length c3)
      have y0 : w3.cell? ⟨w.heap.size + 1, 0, none⟩ = some (.slice none 0 0) := (hb3.cell (p := ⟨w.heap.size + 1, 0, none⟩) hz2).trans z0
      have y1 : w3.frozen? ⟨w.heap.size + 1, 0, none⟩ = false := (hb3.frozen (p := ⟨w.heap.size + 1, 0, none⟩) hz2).trans z1
      have y0' : (w3.setCell ⟨g3, n * 7 + 4, none⟩ (.string (X ++ s))).cell? ⟨w.heap.size + 1, 0, none⟩ = some (.slice none 0 0) := by rw [World.cell?_setCell_other _ _ _ _ (by intro e; injection e with e _ _; omega)]; exact y0
      have HTREE : Hid (IsTB (andNew B w.heap.size) ((w3.setCell ⟨g3, n * 7 + 4, none⟩ (.string (X ++ s))).setCell ⟨w.heap.size + 1, 0, none⟩ (.slice (some ⟨g3, 0, none⟩) ps.length c3)) (.slice (some ⟨g3, 0, none⟩) ps.length c3) (addL T n s.data.toList)) := hide (by
        have hmap : (ps.set n (({ ps[n].1.1 with text := (nodeAt T n).text ++ s.data.toList }, ps[n].1.2), ps[n].2.1, ps[n].2.2)).map (·.1) = addL T n s.data.toList := by
          rw [List.map_set, hps]
          unfold addL
          rw [← hnd, hkd]
        rw [← hmap]
        refine owns_isTB (B0 := w1.heap.size) (n := ps.length) (ownsRow_keep ho4 fun k e => ?_) (by rw [List.length_set]; omega) (fun p hp => ?_) (fun k e => .inr ?_)
        · have : g3 = k := by simpa [Value.ownBlock] using e
          exact Below.heap_setCell _ _ _ _ (by simp only; omega)
        · have hok5 : ∀ p ∈ ps, IvB (andNew B w.heap.size) ((w3.setCell ⟨g3, n * 7 + 4, none⟩ (.string (X ++ s))).setCell ⟨w.heap.size + 1, 0, none⟩ (.slice (some ⟨g3, 0, none⟩) ps.length c3)) p := fun p hp => ((hok p hp).below BB5).mono fun k h => Or.inl h
          rcases List.mem_or_eq_of_mem_set hp with hp | rfl
          · exact hok5 p hp
          · exact hok5 ps[n] (List.getElem_mem hn2)
        · have : g3 = k := by simpa [Value.ownBlock] using e
          omega)
      have HBF := hide BB5
      have HR3 := hide hr3
      rw [hlen] at HR3 HTREE HBF
      clear hr3 ho3 ho4 hb3 BB3 BB4 BB5 bE hok hcs hps HT0 hBb hTn hnd hkd hXS hXl hX K1 Z1 B1
      go_wp2_with (with_reducible refine wpList_append_run rfl _ _ 25 rfl (.slice (some ⟨w1.heap.size, 0, none⟩) 0 0) (.slice (some ⟨b, o, none⟩) T.length cap) _ w3 rfl rfl HR3.out ?_)
      refine bodyPost_ret (v := .tuple #[.agg #[.slice (some ⟨g3, 0, none⟩) T.length c3], .int .i64 0]) ?_ rfl ⟨⟨_, HTREE.out, ⟨_, _, _, rfl⟩, rfl⟩, HBF.out⟩
      rw [results_cell_tmp rfl]
      go_simp
    · rw [if_neg hk]
      generalize (nodeAt T n).kind = kd at *
      have hkb : (kd != 2) = true := bne_iff_ne.2 hk
      go_enter Try.func35, Try.ntmps35
      go_wp2_with fail
      refine (HIS.out _ (HT0.out.below B1.out).isT).mono ?_
      rintro e w1 ⟨rfl, b1⟩
      replace B1 := hide (B1.out.trans (b1.mono B1.out.size))
      replace K1 := hide (K1.out.below b1)
      replace Z1 := hide (Z1.out.below b1)
      clear b1
      have q0 : w1.cell? ⟨w.heap.size, 0, none⟩ = some (.slice (some ⟨b, o, none⟩) T.length cap) := K1.out.1 0
      have z0 : w1.cell? ⟨w.heap.size + 1, 0, none⟩ = some (.slice none 0 0) := by have := Z1.out.1 0; simpa using this
      have z1 : w1.frozen? ⟨w.heap.size + 1, 0, none⟩ = false := by have := Z1.out.2 0; simpa using this
      have d0 : w1.cell? ⟨b, o + n * 7, none⟩ = some (.int .i64 kd) := by rw [B1.out.cell (cell_lt HC0.out)]; exact HC0.out
      go_wp2
      have hb2 := B1.out.setCell (p := ⟨w.heap.size + 1, 0, none⟩) (by simp only; omega) (.slice (some ⟨b, o, none⟩) T.length cap)
      refine bodyPost_ret (v := .tuple #[.agg #[.slice (some ⟨b, o, none⟩) T.length cap], .int .i64 1]) ?_ rfl ⟨⟨_, (HT0.out.below hb2).mono fun k h => .inl h, ⟨_, _, _, rfl⟩, rfl⟩, hb2⟩
      rw [results_cell_tmp rfl]
      go_simp
  · rw [if_neg hz]
    rw [show decide (0 ≤ z ∧ z < T.length) = false from decide_eq_false hz] at HIS
    obtain ⟨b, o, cap, rfl, _⟩ := hT.isT
    have b0 := below_alloc w (.cells #[.slice (some ⟨b, o, none⟩) T.length cap] 27)
    have B1 := hide (b0.alloc b0.size (.cells #[.slice none 0 0] 27))
    have K1 := hide ((Kept.new w [.slice (some ⟨b, o, none⟩) T.length cap] 27).alloc (.cells #[.slice none 0 0] 27))
    have Z1 := hide (Kept.new (w.alloc (.cells #[.slice (some ⟨b, o, none⟩) T.length cap] 27)) [.slice none 0 0] 27)
    clear hz b0 hB hT htl
    go_enter Try.func35, Try.ntmps35
    go_wp2_with fail
    refine (HIS.out _ (HT0.out.below B1.out).isT).mono ?_
    rintro e w1 ⟨rfl, b1⟩
    replace B1 := hide (B1.out.trans (b1.mono B1.out.size))
    replace K1 := hide (K1.out.below b1)
    replace Z1 := hide (Z1.out.below b1)
    clear b1
    have q0 : w1.cell? ⟨w.heap.size, 0, none⟩ = some (.slice (some ⟨b, o, none⟩) T.length cap) := K1.out.1 0
    have z0 : w1.cell? ⟨w.heap.size + 1, 0, none⟩ = some (.slice none 0 0) := by have := Z1.out.1 0; simpa using this
    have z1 : w1.frozen? ⟨w.heap.size + 1, 0, none⟩ = false := by have := Z1.out.2 0; simpa using this
    go_wp2
    have hb2 := B1.out.setCell (p := ⟨w.heap.size + 1, 0, none⟩) (by simp only; omega) (.slice (some ⟨b, o, none⟩) T.length cap)
    refine bodyPost_ret (v := .tuple #[.agg #[.slice (some ⟨b, o, none⟩) T.length cap], .int .i64 2]) ?_ rfl ⟨⟨_, (HT0.out.below hb2).mono fun k h => .inl h, ⟨_, _, _, rfl⟩, rfl⟩, hb2⟩
    rw [results_cell_tmp rfl]
    go_simp
end Go.Proofs.Ytjgklemhlmgheaa
