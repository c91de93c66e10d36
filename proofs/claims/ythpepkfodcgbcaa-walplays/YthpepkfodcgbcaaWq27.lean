import Derived.Test.YthpepkfodcgbcaaWq26
/- What the program's write does: cells are laid into the disk, block by block. -/
set_option linter.unusedVariables false
set_option linter.unusedSimpArgs false
set_option maxRecDepth 40000
namespace Go.Proofs.Ythpepkfodcgbcaa
open Go.RowKit

/-- So many of the cells have been written. -/
structure PutS (d0 : DM) (A : Nat) (xs : List Bs) (RES : DM × Int) (k : Nat) (D : DM) : Prop where
  safe : D.safe.length = d0.safe.length
  fit : Fit D
  len : D.l.length ≤ d0.l.length + 4 * k
  le : k ≤ xs.length
  al : k < xs.length → k = 0 ∨ (A + k) % 4 = 0
  agree : k < xs.length → ∀ i, (A + k) / 4 * 4 ≤ i → (nowD D)[i]? = (nowD d0)[i]?
  rest : k < xs.length → writesW (laidW (nowD d0) A xs) D ((A + xs.length - 1) / 4 + 1 - (A + k) / 4) ((A + k) / 4) = RES
  done : k = xs.length → RES = (D, 0)
theorem puts_start {d0 : DM} {A : Nat} {xs : List Bs} (hF : Fit d0) (h0 : 0 < xs.length) : PutS d0 A xs (writesW (laidW (nowD d0) A xs) d0 ((A + xs.length - 1) / 4 + 1 - A / 4) (A / 4)) 0 d0 :=
  ⟨rfl, hF, Nat.le_refl _, Nat.zero_le _, fun _ => .inl rfl, fun _ _ _ => rfl, fun _ => rfl, fun h => by omega⟩
theorem blk_same {d0 D : DM} {A k : Nat} {xs : List Bs} {RES : DM × Int} (h : PutS d0 A xs RES k D) (hk : k < xs.length) (hin : A + xs.length ≤ d0.safe.length) (h4 : d0.safe.length % 4 = 0) :
    blkL D ((A + k) / 4) ((A + k) % 4) ((xs.drop k).take (min (4 - (A + k) % 4) (xs.length - k))) = blkW (laidW (nowD d0) A xs) ((A + k) / 4) := by
  unfold blkL blkW
  congr 1
  have hnl := now_len d0
  have hnD := now_len D
  have hsD := h.safe
  have hal := h.al hk
  have hyl : ((xs.drop k).take (min (4 - (A + k) % 4) (xs.length - k))).length = min (4 - (A + k) % 4) (xs.length - k) := by rw [List.length_take, List.length_drop]; omega
  have hL4 : (((nowD D).drop ((A + k) / 4 * 4)).take 4).length = 4 := by rw [List.length_take, List.length_drop]; omega
  have hfit : (A + k) % 4 + ((xs.drop k).take (min (4 - (A + k) % 4) (xs.length - k))).length ≤ (((nowD D).drop ((A + k) / 4 * 4)).take 4).length := by rw [hyl, hL4]; omega
  apply List.ext_getElem?
  intro j
  by_cases hj : j < 4
  · rw [List.getElem?_take, if_pos hj, List.getElem?_drop]
    by_cases h1 : (A + k) % 4 ≤ j ∧ j < (A + k) % 4 + min (4 - (A + k) % 4) (xs.length - k)
    · obtain ⟨i, rfl⟩ : ∃ i, j = (A + k) % 4 + i := ⟨j - (A + k) % 4, by omega⟩
      rw [laidW_in _ _ _ hfit i (by rw [hyl]; omega), List.getElem?_take, if_pos (by omega), List.getElem?_drop]
      rw [show (A + k) / 4 * 4 + ((A + k) % 4 + i) = A + (k + i) by omega, laidW_in _ _ _ (by omega) (k + i) (by omega)]
    · rw [laidW_out _ _ _ hfit j (by rw [hyl]; omega), List.getElem?_take, if_pos hj, List.getElem?_drop, h.agree hk _ (by omega), laidW_out _ _ _ (by omega) _ (by omega)]
  · rw [List.getElem?_eq_none (by rw [laidW_len _ _ _ hfit, hL4]; omega), List.getElem?_eq_none (by rw [List.length_take]; omega)]
theorem PutS.step {d0 D : DM} {A k : Nat} {xs : List Bs} {RES : DM × Int} (h : PutS d0 A xs RES k D) (hok : OkD d0) (hx : ∀ x ∈ xs, x.length = 64) (hk : k < xs.length) (hin : A + xs.length ≤ d0.safe.length) (hl : d0.l.length ≤ 90000) (hxl : xs.length ≤ 1000) {W : DM × Int} (hW : W = writeD D (((A + k) / 4 : Nat) : Int) (blkL D ((A + k) / 4) ((A + k) % 4) ((xs.drop k).take (min (4 - (A + k) % 4) (xs.length - k))))) :
    (W.2 = 0 → PutS d0 A xs RES (k + min (4 - (A + k) % 4) (xs.length - k)) W.1) ∧ (W.2 ≠ 0 → RES = W) := by
  have h4 := hok.four
  have hnl := now_len d0
  have hbs := blk_same h hk hin h4
  rw [hbs] at hW
  have h64 : ∀ x ∈ laidW (nowD d0) A xs, x.length = 64 := by
    intro x hx2
    have hn := now_64' hok
    unfold laidW at hx2
    rcases List.mem_append.1 hx2 with hx2 | hx2
    · exact hn x (List.mem_of_mem_take hx2)
    · rcases List.mem_append.1 hx2 with hx2 | hx2
      · exact hx x hx2
      · exact hn x (List.mem_of_mem_drop hx2)
  have hsl : (laidW (nowD d0) A xs).length = d0.safe.length := by rw [laidW_len _ _ _ (by omega), hnl]
  have hsD := h.safe
  have hln := h.len
  have hrest := h.rest hk
  have hal := h.al hk
  obtain ⟨r, hr⟩ : ∃ r, (A + xs.length - 1) / 4 + 1 - (A + k) / 4 = r + 1 := ⟨(A + xs.length - 1) / 4 - (A + k) / 4, by omega⟩
  rw [hr, writes_succ, ← hW] at hrest
  obtain ⟨ws1, ws2⟩ := write_size D (((A + k) / 4 : Nat) : Int) (blkW (laidW (nowD d0) A xs) ((A + k) / 4))
  have hfw := h.fit.write (by omega) (((A + k) / 4 : Nat) : Int) (blkW (laidW (nowD d0) A xs) ((A + k) / 4))
  have hwi := write_in (d := D) (n := (A + k) / 4) (b := blkW (laidW (nowD d0) A xs) ((A + k) / 4)) (by omega) (blkW_len h64 (by omega))
  rw [← hW] at ws1 ws2 hfw hwi
  refine ⟨fun h0 => ?_, fun h0 => ?_⟩
  · rw [if_pos h0] at hrest
    refine ⟨by rw [ws1]; exact hsD, hfw, by omega, by omega, fun _ => .inr (by omega), fun hk2 i hi => ?_, fun hk2 => ?_, fun hk2 => ?_⟩
    · obtain ⟨e1, e2⟩ := sp_lists D
      have hsp : (spendD D).2 = true := by
        cases hs : (spendD D).2
        · rw [hs] at hwi
          rw [hwi] at h0
          cases h0
        · rfl
      rw [hsp, if_pos rfl] at hwi
      have hnow : nowD W.1 = nowL (nowD D) (piecesL ((A + k) / 4) (blkW (laidW (nowD d0) A xs) ((A + k) / 4))) := by
        rw [hwi]
        show nowL (spendD D).1.safe ((spendD D).1.l ++ _) = _
        rw [e1, e2, now_app]
        rfl
      rw [hnow, (now_put (laidW (nowD d0) A xs) _ (nowD D) (by rw [now_len, hsD, hsl]) (fun p hp => (blk_piece h64 (by omega) hp).1) i).2 fun p hp e => by
        have := (blk_piece h64 (by omega) hp).2
        omega]
      exact h.agree hk i (by omega)
    · rw [← hrest]
      congr 1
      · omega
      · omega
    · have hr0 : r = 0 := by omega
      subst hr0
      have e3 : writesW (laidW (nowD d0) A xs) W.1 0 ((A + k) / 4 + 1) = (W.1, 0) := rfl
      rw [← hrest, e3]
  · rw [if_neg h0] at hrest
    exact hrest.symm
theorem KR.then {A : Nat → Prop} {w w1 w2 : World} {v : Value} {d d' : DM} (h : KR IsK A w v d w1) (k : ∀ A', IsK A' w1 v d → KR IsK A' w1 v d' w2) : KR IsK A w v d' w2 := by
  obtain ⟨A1, h1, h2, h3⟩ := h
  obtain ⟨A2, k1, k2, k3⟩ := k A1 h1
  refine ⟨A2, k1, h2.trans k2 h3.size, h3.trans k3 fun j hj ha => ?_⟩
  rcases h2 j ha with h | h
  · exact h
  · omega
theorem subL_h (W : World) (g o n c j : Nat) (h1 : j ≤ n) (h2 : n ≤ c) : (Instr.slice 69 (.slice (some ⟨g, o, none⟩) n c) none (some (.int .i64 (j : Int))) none).run Try.prog W = .ok (.slice (some ⟨g, o, none⟩) j c) W := by
  have h5 : (j : Int) ≤ c := by omega
  have h6 : j ≤ c := by omega
  simp [Instr.slice, run_underlying Try.underlying69, Instr.sliceBounds, Instr.sliceBound, asIntOf, Try.sizeOf90, addr_addo, h5, h6]
theorem subL_l (g o n c i : Nat) (h1 : i ≤ n) (h2 : n ≤ c) : ∃ o' c', (∀ W : World, (Instr.slice 69 (.slice (some ⟨g, o, none⟩) n c) (some (.int .i64 (i : Int))) none none).run Try.prog W = .ok (.slice (some ⟨g, o', none⟩) (n - i) c') W) ∧ n - i ≤ c' ∧ (i < n → o' = o + i * 5) := by
  have h4 : ¬ (n : Int) < i := by omega
  have h5 : (n : Int) ≤ c := by omega
  by_cases hi : i = c
  · subst hi
    obtain rfl : n = i := by omega
    refine ⟨o, 0, fun W => ?_, by omega, fun h => by omega⟩
    simp [Instr.slice, run_underlying Try.underlying69, Instr.sliceBounds, Instr.sliceBound, asIntOf, Try.sizeOf90, addr_addo]
  · refine ⟨o + i * 5, c - i, fun W => ?_, by omega, fun _ => rfl⟩
    have h6 : ¬ c = i := fun e => hi e.symm
    simp [Instr.slice, run_underlying Try.underlying69, Instr.sliceBounds, Instr.sliceBound, asIntOf, Try.sizeOf90, addr_addo, h1, h2, h4, h5, h6]
theorem subL_lh (g o n c i j : Nat) (h1 : i ≤ j) (h2 : j ≤ n) (h3 : n ≤ c) : ∃ o' c', (∀ W : World, (Instr.slice 69 (.slice (some ⟨g, o, none⟩) n c) (some (.int .i64 (i : Int))) (some (.int .i64 (j : Int))) none).run Try.prog W = .ok (.slice (some ⟨g, o', none⟩) (j - i) c') W) ∧ (i < j → o' = o + i * 5) := by
  have h4 : ¬ (j : Int) < i := by omega
  have h5 : (j : Int) ≤ c := by omega
  have h7 : j ≤ c := by omega
  by_cases hi : i = c
  · subst hi
    obtain rfl : j = i := by omega
    refine ⟨o, 0, fun W => ?_, fun h => by omega⟩
    simp [Instr.slice, run_underlying Try.underlying69, Instr.sliceBounds, Instr.sliceBound, asIntOf, Try.sizeOf90, addr_addo]
  · refine ⟨o + i * 5, c - i, fun W => ?_, fun _ => rfl⟩
    have h6 : ¬ c = i := fun e => hi e.symm
    simp [Instr.slice, run_underlying Try.underlying69, Instr.sliceBounds, Instr.sliceBound, asIntOf, Try.sizeOf90, addr_addo, h1, h4, h5, h6, h7]
/-- A part of a list of cells. -/
theorem IsL.part {w : World} {g o n c : Nat} {l : List (CL × Value)} (h : IsL w (.slice (some ⟨g, o, none⟩) n c) l) (i j o' c' : Nat) (hij : i ≤ j) (hj : j ≤ l.length) (ho : i < j → o' = o + i * 5) : IsL w (.slice (some ⟨g, o', none⟩) (j - i) c') ((l.drop i).take (j - i)) := by
  have hlen : ((l.drop i).take (j - i)).length = j - i := by rw [List.length_take, List.length_drop]; omega
  refine ⟨?_, fun x hx => h.2 x (List.mem_of_mem_drop (List.mem_of_mem_take hx))⟩
  by_cases hij2 : i = j
  · subst hij2
    refine .inl ⟨List.eq_nil_of_length_eq_zero (by omega), _, _, by rw [Nat.sub_self]⟩
  · have ho2 := ho (by omega)
    subst ho2
    refine .inr ⟨g, o + i * 5, c', by rw [hlen], fun k hk => ?_⟩
    rw [hlen] at hk
    rcases h.1 with ⟨e, _⟩ | ⟨b, o2, cap, e, hc⟩
    · rw [e] at hj
      simp at hj
      omega
    · injection e with e1 e2 e3
      injection e1 with e1
      injection e1 with e1 e4
      subst e1 e4
      have h1 := hc (i + k) (by omega)
      rw [show o + (i + k) * 5 = o + i * 5 + k * 5 by omega] at h1
      have e5 : ((l.drop i).take (j - i))[k]'(by rw [hlen]; exact hk) = l[i + k]'(by omega) := by rw [List.getElem_take, List.getElem_drop]
      rw [e5]
      exact h1
end Go.Proofs.Ythpepkfodcgbcaa
