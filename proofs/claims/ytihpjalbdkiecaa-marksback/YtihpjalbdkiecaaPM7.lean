/- What slices.Compact of attributes answers: in a row of one's own; nothing else is written. -/
import Derived.Test.YtihpjalbdkiecaaPC7
set_option linter.unusedVariables false
set_option linter.unusedSimpArgs false
namespace Go.Proofs.Ytihpjalbdkiecaa
open Go.RowKit Go.Sort

/-- Of the first m those that stay lie at the head, from the one ahead of m on all as it was; all may be written. -/
def HalfA (w : World) (b : Nat) (l : AttrL) (m : Nat) : Prop :=
  (∀ j (hj : j < (onceK l m).length), w.cell? ⟨b, j * 2, none⟩ = some (.string ⟨(onceK l m)[j].1.toArray⟩) ∧ w.cell? ⟨b, j * 2 + 1, none⟩ = some (.string ⟨(onceK l m)[j].2.toArray⟩)) ∧
  (∀ j (hj : j < l.length), m ≤ j + 1 → w.cell? ⟨b, j * 2, none⟩ = some (.string ⟨l[j].1.toArray⟩) ∧ w.cell? ⟨b, j * 2 + 1, none⟩ = some (.string ⟨l[j].2.toArray⟩)) ∧
  (∀ i, i < l.length * 2 → (w.cell? ⟨b, i, none⟩).isSome = true ∧ w.frozen? ⟨b, i, none⟩ = false)
theorem HalfA.start {w : World} {b : Nat} {l : AttrL} (h : RowA w b l) (k : Nat) (hk : k + 1 < l.length) (hf : ∀ i, 0 < i → i < k + 1 → l[i]? ≠ l[i - 1]?) (he : l[k + 1]? = l[k]?) : HalfA w b l (k + 2) ∧ (onceK l (k + 2)).length = k + 1 := by
  have e : onceK l (k + 2) = l.take (k + 1) := by
    rw [once_old l (k + 1) (by simpa using he), once_first l (k + 1) (by omega) hf]
  unfold HalfA
  rw [e]
  refine ⟨⟨fun j hj => ?_, fun j hj _ => (h j hj).1, fun i hi => ?_⟩, by rw [List.length_take]; omega⟩
  · rw [List.length_take] at hj
    simp only [List.getElem_take]
    exact (h j (by omega)).1
  · obtain ⟨⟨h0, h1⟩, f0, f1⟩ := h (i / 2) (by omega)
    rcases (by omega : i = i / 2 * 2 ∨ i = i / 2 * 2 + 1) with e | e
    · rw [e]
      exact ⟨by rw [h0]; rfl, f0⟩
    · rw [e]
      exact ⟨by rw [h1]; rfl, f1⟩
theorem HalfA.same {w : World} {b : Nat} {l : AttrL} {m : Nat} (h : HalfA w b l m) (hm : 0 < m) (he : l[m]? = l[m - 1]?) : HalfA w b l (m + 1) ∧ onceK l (m + 1) = onceK l m := by
  have e := once_old l m (by rw [not_or]; exact ⟨by omega, by simpa using he⟩)
  unfold HalfA
  rw [e]
  exact ⟨⟨h.1, fun j hj hm => h.2.1 j hj (by omega), h.2.2⟩, rfl⟩
theorem HalfA.put {w : World} {b : Nat} {l : AttrL} {m : Nat} (h : HalfA w b l m) (hm : m < l.length) (hK : (onceK l m).length < m) (hne : l[m]? ≠ l[m - 1]?) (K : Nat) (hKK : K = (onceK l m).length) :
    HalfA ((w.setCell ⟨b, K * 2, none⟩ (.string ⟨l[m].1.toArray⟩)).setCell ⟨b, K * 2 + 1, none⟩ (.string ⟨l[m].2.toArray⟩)) b l (m + 1) ∧ onceK l (m + 1) = onceK l m ++ [l[m]] := by
  subst hKK
  have e := once_new l m hm (.inr hne)
  obtain ⟨h1, h2, h3⟩ := h
  have hlast : ∀ W : World, W = (w.setCell ⟨b, (onceK l m).length * 2, none⟩ (.string ⟨l[m].1.toArray⟩)).setCell ⟨b, (onceK l m).length * 2 + 1, none⟩ (.string ⟨l[m].2.toArray⟩) → (∀ j, j ≠ (onceK l m).length → W.cell? ⟨b, j * 2, none⟩ = w.cell? ⟨b, j * 2, none⟩ ∧ W.cell? ⟨b, j * 2 + 1, none⟩ = w.cell? ⟨b, j * 2 + 1, none⟩) ∧ W.cell? ⟨b, (onceK l m).length * 2, none⟩ = some (.string ⟨l[m].1.toArray⟩) ∧ W.cell? ⟨b, (onceK l m).length * 2 + 1, none⟩ = some (.string ⟨l[m].2.toArray⟩) := by
    rintro W rfl
    obtain ⟨u0, hu0⟩ := Option.isSome_iff_exists.1 (h3 ((onceK l m).length * 2) (by omega)).1
    obtain ⟨u1, hu1⟩ := Option.isSome_iff_exists.1 (h3 ((onceK l m).length * 2 + 1) (by omega)).1
    refine ⟨fun j hj => ⟨?_, ?_⟩, ?_, ?_⟩
    · rw [World.cell?_setCell_other _ _ _ _ (fun e => by injection e with _ e; omega), World.cell?_setCell_other _ _ _ _ (fun e => by injection e with _ e; omega)]
    · rw [World.cell?_setCell_other _ _ _ _ (fun e => by injection e with _ e; omega), World.cell?_setCell_other _ _ _ _ (fun e => by injection e with _ e; omega)]
    · rw [World.cell?_setCell_other _ _ _ _ (by simp), World.cell?_setCell_same _ _ _ hu0]
    · exact World.cell?_setCell_same (w.setCell _ _) _ _ (by rw [World.cell?_setCell_other _ _ _ _ (by simp)]; exact hu1)
  obtain ⟨ho, g0, g1⟩ := hlast _ rfl
  refine ⟨?_, e⟩
  unfold HalfA
  rw [e]
  refine ⟨fun j hj => ?_, fun j hj hmj => ?_, fun i hi => ?_⟩
  · rw [List.length_append] at hj
    by_cases hjk : j < (onceK l m).length
    · rw [(ho j (by omega)).1, (ho j (by omega)).2]
      simp only [List.getElem_append_left hjk]
      exact h1 j hjk
    · obtain rfl : j = (onceK l m).length := by simp at hj; omega
      simp only [List.getElem_append_right (Nat.le_refl _), Nat.sub_self, List.getElem_cons_zero]
      exact ⟨g0, g1⟩
  · rw [(ho j (by omega)).1, (ho j (by omega)).2]
    exact h2 j hj (by omega)
  · rw [World.frozen?_setCell, World.frozen?_setCell]
    refine ⟨?_, (h3 i hi).2⟩
    by_cases hj : i / 2 = (onceK l m).length
    · rcases (by omega : i = (onceK l m).length * 2 ∨ i = (onceK l m).length * 2 + 1) with rfl | rfl
      · rw [g0]; rfl
      · rw [g1]; rfl
    · rcases (by omega : i = i / 2 * 2 ∨ i = i / 2 * 2 + 1) with e2 | e2
      · have := (ho (i / 2) hj).1
        rw [← e2] at this
        rw [this]
        exact (h3 i hi).1
      · have := (ho (i / 2) hj).2
        rw [← e2] at this
        rw [this]
        exact (h3 i hi).1
theorem zero_1c (n : Nat) : ∀ v ∈ (Builtin.zeroCells #[.string ⟨#[]⟩, .string ⟨#[]⟩] n).toList, v.oneCell' = true := by
  intro v hv
  simp only [Builtin.zeroCells, Array.toList_map, List.mem_map] at hv
  obtain ⟨i, -, rfl⟩ := hv
  rcases (by have : i % 2 < 2 := Nat.mod_lt _ (by omega); omega : i % 2 = 0 ∨ i % 2 = 1) with h | h <;> simp [h] <;> rfl
/-- clear of the end of a row. -/
theorem clear_run (B : Nat) (w : World) (b o n c : Nat) (ty : TypeId) (hB : B ≤ b) (hn : 0 < n) (h : ∀ i, i < n * 2 → (w.cell? ⟨b, o * 2 + i, none⟩).isSome = true ∧ w.frozen? ⟨b, o * 2 + i, none⟩ = false) :
    ∃ w', (Builtin.clear_ #[22] ty #[.slice (some ⟨b, o * 2, none⟩) n c]).run Try.prog w = .ok (.tuple #[]) w' ∧ (∀ i, i < o * 2 → w'.cell? ⟨b, i, none⟩ = w.cell? ⟨b, i, none⟩) ∧ Below B w w' := by
  have hv : (zeroValue 43).run Try.prog w = .ok (.agg #[.string ⟨#[]⟩, .string ⟨#[]⟩]) w := Try.zeroValue43 w
  have hz : (Value.agg #[.string ⟨#[]⟩, .string ⟨#[]⟩]).cells = #[.string ⟨#[]⟩, .string ⟨#[]⟩] := by kernel_rfl
  have hlen : (Builtin.zeroCells #[.string ⟨#[]⟩, .string ⟨#[]⟩] n).toList.length = n * 2 := by simp [Builtin.zeroCells]
  have hst := run_storeCells_cells (P := Try.prog) b (o * 2) (Builtin.zeroCells #[.string ⟨#[]⟩, .string ⟨#[]⟩] n).toList 0 w (by rw [hlen]; simpa using fun j hj => (h j hj).1) (by rw [hlen]; simpa using fun j hj => (h j hj).2) (zero_1c n)
  simp only [Nat.add_zero] at hst
  refine ⟨_, ?_, fun i hi => ?_, below_setCells b hB (Builtin.zeroCells #[.string ⟨#[]⟩, .string ⟨#[]⟩] n).toList (o * 2) (Below.refl _ _)⟩
  · obtain ⟨m, rfl⟩ : ∃ m, n = m + 1 := ⟨n - 1, by omega⟩
    simp [Builtin.clear_, run_underlying Try.underlying22, hv, hz, hst]
  · exact World.cell?_setCells_out b _ _ _ _ (fun _ _ => .inl hi)

set_option maxHeartbeats 1000000 in
theorem compact_one (a : Option Addr) (n c : Nat) (hn : n < 2) (w : World) :
    Calls Try.prog 52 #[.slice a n c] w fun e w' => e = .returned (.slice a n c) ∧ w' = w := by
  have h : (n : Int) < 2 := by omega
  go_enter Try.func52, Try.ntmps52
  go_wp2
  go_ret
  exact ⟨rfl, rfl⟩

set_option maxHeartbeats 2000000 in
theorem compact_p (B : Nat) (l : AttrL) (hl : l.length ≤ 1000000) (hn : 2 ≤ l.length) (b c : Nat) (hc : l.length ≤ c) (w : World) (hB : B ≤ b) (hR : RowA w b l) :
    Calls Try.prog 52 #[.slice (some ⟨b, 0, none⟩) l.length c] w fun e w' => (∃ c', e = .returned (.slice (some ⟨b, 0, none⟩) (onceK l l.length).length c') ∧ IsQ w' (.slice (some ⟨b, 0, none⟩) (onceK l l.length).length c') (onceK l l.length)) ∧ Below B w w' := by
  obtain ⟨N, hN⟩ : ∃ N, N = l.length := ⟨_, rfl⟩
  have HN := hide hN
  have hR2 : RowA w b l := hR
  have HR := hide hR
  have HQ := hide (fun (W : World) (h : RowA W b l) => rowA_q h c)
  rw [← hN] at hl hn hc HQ ⊢
  clear hN hR hR2
  have hge : ¬ (N : Int) < 2 := by omega
  have HS : Hid (∀ (k : Nat), k < c → k ≤ N → ∀ W, (Instr.slice 22 (.slice (some ⟨b, 0, none⟩) N c) (some (.int .i64 (k : Int))) none none).run Try.prog W = .ok (.slice (some ⟨b, k * 2, none⟩) (N - k) (c - k)) W) := hide fun k hk hkN W => by
    have h1 : ¬ c = k := by omega
    simp [Instr.slice, run_underlying Try.underlying22, Instr.sliceBounds, Instr.sliceBound, asIntOf, hkN, Try.sizeOf43, h1, addr_add]
  have HT : Hid (∀ (k : Nat), k ≤ c → ∀ W, (Instr.slice 22 (.slice (some ⟨b, 0, none⟩) N c) none (some (.int .i64 (k : Int))) none).run Try.prog W = .ok (.slice (some ⟨b, 0, none⟩) k c) W) := hide fun k hk W => by
    simp [Instr.slice, run_underlying Try.underlying22, Instr.sliceBounds, Instr.sliceBound, asIntOf, hk, addr_zero]
  have HD : Hid (∀ k (h : k + 1 < l.length), (l[k + 1]? = l[k]?) ↔ ((l[k + 1].1 == l[k].1 && l[k + 1].2 == l[k].2) = true)) := hide fun k h => by
    rw [List.getElem?_eq_getElem h, List.getElem?_eq_getElem (by omega), Bool.and_eq_true, beq_iff_eq, beq_iff_eq, Option.some_inj]
    exact ⟨fun e => by rw [e]; exact ⟨rfl, rfl⟩, fun e => Prod.ext e.1 e.2⟩
  have HB := hide (fun k (h : k + 1 < l.length) => And.intro (str_beq l[k + 1].1 l[k].1) (str_beq l[k + 1].2 l[k].2))
  generalize hV : onceK l N = V
  have HV := hide hV
  clear hV
  go_enter Try.func52, Try.ntmps52
  go_wp2
  go_loopw [3] (fun i wr => ∃ k : Nat, k + 1 ≤ N ∧ i = .int .i64 ((k + 1 : Nat) : Int) ∧ Hid (RowA wr b l) ∧ Hid (Below B w wr) ∧ Hid (∀ i, 0 < i → i < k + 1 → l[i]? ≠ l[i - 1]?)) (fun i _ => N - (intOf i).toNat)
  case atStart => exact ⟨0, by omega, by simp, HR, hide (Below.refl _ _), hide fun i h1 h2 => by omega⟩
  case round =>
    obtain ⟨k, hk, rfl, HW, BW, HF⟩ := hrel
    by_cases hlt : k + 1 < N
    · have hkl : k + 1 < l.length := by rw [← HN.out]; exact hlt
      obtain ⟨⟨x0, x1⟩, -⟩ := HW.out (k + 1) hkl
      obtain ⟨⟨y0, y1⟩, -⟩ := HW.out k (by omega)
      obtain ⟨s1, s2⟩ := HB.out k hkl
      have hd := HD.out k hkl
      generalize (⟨l[k + 1].1.toArray⟩ : ByteArray) = X at *
      generalize (⟨l[k + 1].2.toArray⟩ : ByteArray) = Y at *
      generalize (⟨l[k].1.toArray⟩ : ByteArray) = P at *
      generalize (⟨l[k].2.toArray⟩ : ByteArray) = Q at *
      rw [← s1, ← s2] at hd
      have hlt2 : ((k + 1 : Nat) : Int) < N := by omega
      have hlt3 : (k : Int) < N := by omega
      have e1 : IntKind.i64.wrap (((k + 1 : Nat) : Int) - 1) = (k : Int) := by rw [IntKind.wrap_i64]; omega
      have HKL := hide hkl
      clear s1 s2 hkl
      have hnext : ¬ (l[k + 1]? = l[k]?) → Hid (∀ i, 0 < i → i < k + 1 + 1 → l[i]? ≠ l[i - 1]?) := fun hne => hide fun i h1 h2 => by
        by_cases hi : i = k + 1
        · subst hi; exact hne
        · exact HF.out i h1 (by omega)
      have HNX := hide hnext
      clear hnext
      by_cases q1 : (X.toList == P.toList) = true
      · by_cases q2 : (Y.toList == Q.toList) = true
        · have HE := hide (hd.2 (by rw [q1, q2]; rfl))
          obtain ⟨hH, hKl⟩ := HalfA.start HW.out k HKL.out HF.out HE.out
          have HH := hide hH
          have HKl := hide hKl
          have hsl := HS.out (k + 1) (by omega) (by omega)
          clear hd HNX hH hKl
          go_wp2_with fail
          go_region
          go_wp2
          clear x0 x1 y0 y1 hsl q1 q2 e1
          obtain ⟨M, hM⟩ : ∃ M, M = N - (k + 1) := ⟨_, rfl⟩
          rw [← hM]
          have HM := hide hM
          clear hM
          go_loopw [3, 5] (fun kk i wr2 => ∃ q K : Nat, q + 1 ≤ M ∧ i = .int .i64 ((q + 1 : Nat) : Int) ∧ kk = .int .i64 (K : Int) ∧ K + 1 ≤ k + 2 + q ∧ Hid (K = (onceK l (k + 2 + q)).length) ∧ Hid (HalfA wr2 b l (k + 2 + q)) ∧ Hid (Below B w wr2)) (fun _ i _ => M - (intOf i).toNat)
          case atStart => exact ⟨0, k + 1, by have := HM.out; omega, by simp, rfl, by omega, hide HKl.out.symm, HH, hide BW.out.drew⟩
          case round =>
            generalize wr = wr0 at *
            obtain ⟨q, K, hq, rfl, rfl, hK, HKK, HA, BA⟩ := hrel
            by_cases hq2 : q + 1 < M
            · have hmN : k + 2 + q < N := by have := HM.out; omega
              have hml : k + 2 + q < l.length := by rw [← HN.out]; exact hmN
              obtain ⟨x0, x1⟩ := HA.out.2.1 (k + 2 + q) hml (by omega)
              obtain ⟨y0, y1⟩ := HA.out.2.1 (k + 1 + q) (by omega) (by omega)
              have hix : k + 2 + q = k + 1 + q + 1 := by omega
              obtain ⟨s1, s2⟩ := HB.out (k + 1 + q) (by omega)
              have hd := HD.out (k + 1 + q) (by omega)
              have hpt := HalfA.put HA.out hml (by rw [← HKK.out]; omega)
              have HSM := hide (fun h => HalfA.same HA.out (by omega) h)
              have em1 : k + 2 + q - 1 = k + 1 + q := by omega
              rw [em1] at HSM hpt
              simp only [← hix] at s1 s2 hd
              have f0 := (HA.out.2.2 (K * 2) (by omega)).2
              have f1 := (HA.out.2.2 (K * 2 + 1) (by omega)).2
              obtain ⟨z0, hz0⟩ := Option.isSome_iff_exists.1 (HA.out.2.2 (K * 2) (by omega)).1
              obtain ⟨z1, hz1⟩ := Option.isSome_iff_exists.1 (HA.out.2.2 (K * 2 + 1) (by omega)).1
              have HP : Hid (¬ l[k + 2 + q]? = l[k + 1 + q]? → HalfA ((wr0.setCell ⟨b, K * 2, none⟩ (.string ⟨l[k + 2 + q].1.toArray⟩)).setCell ⟨b, K * 2 + 1, none⟩ (.string ⟨l[k + 2 + q].2.toArray⟩)) b l (k + 2 + q + 1) ∧ (onceK l (k + 2 + q + 1)).length = K + 1) := hide fun hne => ⟨(hpt hne K HKK.out).1, by rw [(hpt hne K HKK.out).2, List.length_append, ← HKK.out]; rfl⟩
              clear hpt
              generalize hXe : (⟨l[k + 2 + q].1.toArray⟩ : ByteArray) = X1 at *
              generalize hYe : (⟨l[k + 2 + q].2.toArray⟩ : ByteArray) = Y1 at *
              generalize (⟨l[k + 1 + q].1.toArray⟩ : ByteArray) = P1 at *
              generalize (⟨l[k + 1 + q].2.toArray⟩ : ByteArray) = Q1 at *
              rw [← s1, ← s2] at hd
              rw [show (k + 2 + q) * 2 = (k + 1) * 2 + (q + 1) * 2 by omega] at x0 x1
              rw [show (k + 1 + q) * 2 = (k + 1) * 2 + q * 2 by omega] at y0 y1
              have hlt4 : ((q + 1 : Nat) : Int) < M := by omega
              have hlt5 : (q : Int) < M := by omega
              have hlt6 : (K : Int) < N := by omega
              have e1 : IntKind.i64.wrap (((q + 1 : Nat) : Int) - 1) = (q : Int) := by rw [IntKind.wrap_i64]; omega
              clear s1 s2 hXe hYe hq2 hix em1 hml
              by_cases q1 : (X1.toList == P1.toList) = true
              · by_cases q2 : (Y1.toList == Q1.toList) = true
                · obtain ⟨hA2, hO2⟩ := HSM.out (hd.2 (by rw [q1, q2]; rfl))
                  have HA2 := hide hA2
                  have HO2 := hide hO2
                  clear hd HSM HP hA2 hO2
                  go_wp2_with fail
                  go_region
                  all_goals (try go_wp2)
                  all_goals go_roundw
                  case rel => exact ⟨q + 1, K, by omega, by go_num, rfl, by omega, hide (by rw [show k + 2 + (q + 1) = k + 2 + q + 1 by omega, HO2.out]; exact HKK.out), HA2, hide BA.out.drew⟩
                  case measure => simp [intOf]; omega
                · have q2 := Bool.eq_false_iff.2 q2
                  have HD2 := hide (HP.out (fun h => by have := hd.1 h; rw [q1, q2] at this; exact Bool.false_ne_true this))
                  clear hd HSM HP
                  go_wp2_with fail
                  go_region
                  all_goals (try go_wp2)
                  all_goals go_roundw
                  case rel => exact ⟨q + 1, K + 1, by omega, by go_num, by go_num, by omega, hide (by rw [show k + 2 + (q + 1) = k + 2 + q + 1 by omega]; exact HD2.out.2.symm), hide HD2.out.1, hide ((BA.out.drew.setCell (p := ⟨b, K * 2, none⟩) hB _).setCell (p := ⟨b, K * 2 + 1, none⟩) hB _)⟩
                  case measure => simp [intOf]; omega
              · have q1 := Bool.eq_false_iff.2 q1
                have HD2 := hide (HP.out (fun h => by have := hd.1 h; rw [q1] at this; exact Bool.false_ne_true this))
                clear hd HSM HP
                go_wp2_with fail
                go_region
                all_goals (try go_wp2)
                all_goals go_roundw
                case rel => exact ⟨q + 1, K + 1, by omega, by go_num, by go_num, by omega, hide (by rw [show k + 2 + (q + 1) = k + 2 + q + 1 by omega]; exact HD2.out.2.symm), hide HD2.out.1, hide ((BA.out.drew.setCell (p := ⟨b, K * 2, none⟩) hB _).setCell (p := ⟨b, K * 2 + 1, none⟩) hB _)⟩
                case measure => simp [intOf]; omega
            · have hmN : k + 2 + q = N := by have := HM.out; omega
              have hKN : K < N := by omega
              have hsl := HS.out K (by omega) (by omega)
              have hst := HT.out K (by omega)
              rw [hmN] at HKK HA
              rw [HV.out] at HKK
              obtain ⟨w2, hcl, hkeep, bcl⟩ := clear_run B wr0 b K (N - K) (c - K) 0 hB (by omega) (fun i hi => HA.out.2.2 (K * 2 + i) (by rw [← HN.out]; omega))
              have HRES : Hid (IsQ w2 (.slice (some ⟨b, 0, none⟩) K c) V) := hide (by
                refine .inr ⟨b, 0, c, by rw [HKK.out], fun j hj => ?_⟩
                have h1 := HA.out.1
                rw [HV.out] at h1
                have h2 := h1 j hj
                rw [← HKK.out] at hj
                rw [Nat.zero_add, hkeep (j * 2) (by omega), hkeep (j * 2 + 1) (by omega)]
                exact h2)
              have B2 := hide (BA.out.trans bcl)
              have hlt4 : ¬ ((q + 1 : Nat) : Int) < M := by omega
              clear hkeep bcl hq2
              go_wp2
              go_ret
              refine ⟨⟨c, ?_, ?_⟩, B2.out⟩
              · rw [← HKK.out]; rfl
              · rw [← HKK.out]; exact HRES.out
        · have q2 := Bool.eq_false_iff.2 q2
          have HF2 := HNX.out (fun h => by have := hd.1 h; rw [q1, q2] at this; exact Bool.false_ne_true this)
          clear hd HNX
          go_wp2_with fail
          go_region
          all_goals (try go_wp2)
          all_goals go_roundw
          case rel => exact ⟨k + 1, by omega, by go_num, HW, hide BW.out.drew, HF2⟩
          case measure => simp [intOf]; omega
      · have q1 := Bool.eq_false_iff.2 q1
        have HF2 := HNX.out (fun h => by have := hd.1 h; rw [q1] at this; exact Bool.false_ne_true this)
        clear hd HNX
        go_wp2_with fail
        go_region
        all_goals (try go_wp2)
        all_goals go_roundw
        case rel => exact ⟨k + 1, by omega, by go_num, HW, hide BW.out.drew, HF2⟩
        case measure => simp [intOf]; omega
    · obtain rfl : N = k + 1 := by omega
      have HV2 : Hid (V = l) := hide (by
        rw [← HV.out, once_first l (k + 1) (by rw [← HN.out]; omega) HF.out, HN.out, List.take_length])
      have hlen : V.length = k + 1 := by rw [HV2.out, ← HN.out]
      have HQ2 := hide (HQ.out wr HW.out)
      have HRES : Hid (IsQ wr (.slice (some ⟨b, 0, none⟩) V.length c) V) := hide (by rw [HV2.out, ← HN.out]; exact HQ2.out)
      have HL := hide hlen
      clear hlt hlen HQ2
      go_wp2
      go_ret
      rw [HL.out] at HRES
      refine ⟨⟨c, ?_, ?_⟩, BW.out⟩
      · rw [HL.out]; rfl
      · rw [HL.out]; exact HRES.out
end Go.Proofs.Ytihpjalbdkiecaa
