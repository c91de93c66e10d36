/- What the document's Only answers. -/
import Derived.Test.YtkopfigagnagoaaSb18
set_option linter.unusedVariables false
set_option linter.unusedSimpArgs false
set_option maxRecDepth 40000
namespace Go.Proofs.Ytkopfigagnagoaa
open Go.RowKit

theorem only_step (n : Nat) (of : List Int) (i : Nat) (z : Int) (o : SL) (h : of[i]? = some z) : onlyF n (of.drop i) o = if decide (0 ≤ z) && (decide (z < (n : Int)) && !o.getD z.toNat false) then onlyF n (of.drop (i + 1)) (o.set z.toNat true) else none := by
  obtain ⟨hi, rfl⟩ := List.getElem?_eq_some_iff.1 h
  rw [List.drop_eq_getElem_cons hi]
  rfl
theorem only_end (n : Nat) (of : List Int) (i : Nat) (o : SL) (h : of.length ≤ i) : onlyF n (of.drop i) o = some o := by
  rw [List.drop_of_length_le h]
  rfl
/-- A row of bools of one's own, one of them turned. -/
theorem own_setS {W : World} {B n g c : Nat} {o : SL} (h : W.ownsRow B 4 1 (.slice (some ⟨g, 0, none⟩) n c) n (boolsV o)) (ho : o.length = n) (k : Nat) (hk : k < n) :
    W.cell? ⟨g, k, none⟩ = some (.bool (o.getD k false)) ∧ W.frozen? ⟨g, k, none⟩ = false ∧ (W.setCell ⟨g, k, none⟩ (.bool true)).ownsRow B 4 1 (.slice (some ⟨g, 0, none⟩) n c) n (boolsV (o.set k true)) ∧ Below B W (W.setCell ⟨g, k, none⟩ (.bool true)) := by
  have hk' : k < o.length := by omega
  have hs := (h.stored k (.bool true)).1
  have e4 : (boolsV o).set k (.bool true) = boolsV (o.set k true) := by unfold boolsV; rw [List.map_set]
  rw [e4] at hs
  refine ⟨?_, h.frozenAt k, hs, (Below.refl B W).setCell (p := ⟨g, k, none⟩) (h.lt g rfl).1 _⟩
  rw [List.getD_eq_getElem?_getD, List.getElem?_eq_getElem hk', Option.getD_some]
  exact (h.cellAt k (by omega)).trans (boolsV_get o k hk')
set_option maxHeartbeats 8000000 in
theorem ronly_any (v : Value) (l : SL) (zv : Value) (of : List Int) (w : World) (hF : IsF w v l) (hl : l.length ≤ 1000000) (hZ : IsZ w zv of) (hz : of.length ≤ 9223372036854775807) : Calls Try.prog 13 #[v, zv] w fun e w' => ∃ u, e = .returned (.tuple #[u, .int .i64 (onlyS l of).2]) ∧ ToldF w w' v u (onlyS l of).1 := by
  obtain ⟨va, vc, rfl⟩ := hF.form
  obtain ⟨za, zc, rfl⟩ := hZ.form
  obtain ⟨w1, hm, ho, hb⟩ := make_bools w l.length hl
  have HA : Hid (∀ i, i < of.length → ∃ z b o, of[i]? = some z ∧ za = some ⟨b, o, none⟩ ∧ ∀ W, Below w.heap.size w W → W.cell? ⟨b, o + i, none⟩ = some (.int .i64 z)) := hide (fun i hi => by
    obtain ⟨b, o, e, hc⟩ := hZ.at_ i _ (List.getElem?_eq_getElem hi)
    exact ⟨_, b, o, List.getElem?_eq_getElem hi, e, hc⟩)
  have HNO : Hid (onlyF l.length of (List.replicate l.length false) = none → onlyS l of = (l, 1)) := hide (fun h => by unfold onlyS; rw [h])
  have HYE : Hid (∀ o, onlyF l.length of (List.replicate l.length false) = some o → onlyS l of = (o, 0)) := hide (fun o h => by unfold onlyS; rw [h])
  have HST := hide (only_step l.length of)
  have HEN := hide (only_end l.length of)
  have HSM : Hid (∀ x, Below w.heap.size w x → ToldF w x (.slice va l.length vc) (.slice va l.length vc) l) := hide (fun x hx => ⟨hF.below hx, .inl rfl, hx⟩)
  have HW0 : Hid (w1.ownsRow w.heap.size 4 1 (.slice (some ⟨w.heap.size, 0, none⟩) l.length l.length) l.length (boolsV (List.replicate l.length false))) := hide ho
  have HL0 : Hid (onlyF l.length (of.drop 0) (List.replicate l.length false) = onlyF l.length of (List.replicate l.length false) ∧ (List.replicate l.length false).length = l.length) := hide ⟨rfl, List.length_replicate⟩
  have HB0 := hide hb
  generalize hR : onlyF l.length of (List.replicate l.length false) = R at *
  clear hR
  generalize hT : onlyS l of = T at *
  clear hT hF hZ ho hb
  obtain ⟨O0, hO0⟩ : ∃ O, List.replicate l.length false = O := ⟨_, rfl⟩
  rw [hO0] at HW0 HL0
  clear hO0
  generalize l.length = n at *
  generalize of.length = m at *
  go_enter Try.func13, Try.ntmps13
  go_wp2
  go_loopw [7] (fun vi wr => ∃ (i : Nat) (o : SL), vi = .int .i64 (i : Int) ∧ i ≤ m ∧ Hid (wr.ownsRow w.heap.size 4 1 (.slice (some ⟨w.heap.size, 0, none⟩) n n) n (boolsV o)) ∧ Hid (onlyF n (of.drop i) o = R ∧ o.length = n) ∧ Hid (Below w.heap.size w wr)) (fun vi _ => m - (intOf vi).toNat)
  case atStart => exact ⟨0, O0, rfl, Nat.zero_le _, HW0, HL0, HB0⟩
  case round =>
    clear HW0 HL0 HB0
    obtain ⟨i, o, rfl, hi, HW, HL, HB⟩ := hrel
    by_cases hlt : i < m
    · have hlt2 : (i : Int) < m := by omega
      obtain ⟨z, b, p, hz2, rfl, hc⟩ := HA.out i hlt
      have hcell := hc wr HB.out
      have hst := HST.out i z o hz2
      rw [HL.out.1] at hst
      have HS := hide hst
      clear hst hz2 hc
      by_cases h0 : 0 ≤ z
      · by_cases h1 : z < (n : Int)
        · obtain ⟨k, rfl⟩ : ∃ k : Nat, z = (k : Int) := ⟨z.toNat, by omega⟩
          have hk : k < n := by omega
          obtain ⟨c1, c2, c3, c4⟩ := own_setS HW.out HL.out.2 k hk
          have hS := HS.out
          rw [decide_eq_true h0, decide_eq_true h1, Int.toNat_natCast] at hS
          have g0 : ¬ (k : Int) < 0 := by omega
          have g1 : ¬ (n : Int) ≤ (k : Int) := by omega
          cases hgo : o.getD k false
          · rw [hgo] at hS c1
            have hS2 : R = onlyF n (of.drop (i + 1)) (o.set k true) := hS
            have HW2 := hide c3
            have HL2 : Hid (onlyF n (of.drop (i + 1)) (o.set k true) = R ∧ (o.set k true).length = n) := hide ⟨hS2.symm, by rw [List.length_set]; exact HL.out.2⟩
            have HB2 := hide (HB.out.trans c4)
            clear hS hS2 HS HW HL c3 c4 HB hgo
            go_wp2
            go_roundw
            case rel => exact ⟨i + 1, _, by go_num, by omega, HW2, HL2, HB2⟩
            case measure => simp [intOf]; omega
          · rw [hgo] at hS c1
            have hS2 : R = none := hS
            have hT := HNO.out hS2
            subst hT
            have HF := hide (HSM.out wr HB.out)
            clear hS hS2 HS HW HL c3 c4 HB hgo HSM HYE HNO HST HEN HA
            go_wp2
            go_ret2
            exact ⟨_, rfl, HF.out⟩
        · have hS := HS.out
          rw [decide_eq_true h0, decide_eq_false h1] at hS
          have hS2 : R = none := hS
          have hT := HNO.out hS2
          subst hT
          have HF := hide (HSM.out wr HB.out)
          have g0 : ¬ z < 0 := by omega
          have g1 : (n : Int) ≤ z := by omega
          clear hS hS2 HS HW HL HB HSM HYE HNO HST HEN HA h0 h1
          go_wp2
          go_ret2
          exact ⟨_, rfl, HF.out⟩
      · have hS := HS.out
        rw [decide_eq_false h0] at hS
        have hS2 : R = none := hS
        have hT := HNO.out hS2
        subst hT
        have HF := hide (HSM.out wr HB.out)
        have g0 : z < 0 := by omega
        clear hS hS2 HS HW HL HB HSM HYE HNO HST HEN HA h0
        go_wp2
        go_ret2
        exact ⟨_, rfl, HF.out⟩
    · have hlt2 : ¬ (i : Int) < m := by omega
      have hN := HEN.out i o (by omega)
      rw [HL.out.1] at hN
      have hT := HYE.out o hN
      subst hT
      have HF : Hid (ToldF w wr (.slice va n vc) (.slice (some ⟨w.heap.size, 0, none⟩) n n) o) := hide ⟨by
        have h9 := HW.out
        rw [← HL.out.2] at h9 ⊢
        exact owns_isF h9, .inr (owns_newF HW.out), HB.out⟩
      clear hN HW HL HB HSM HYE HNO HST HEN HA
      go_wp2
      go_ret2
      exact ⟨_, rfl, HF.out⟩
end Go.Proofs.Ytkopfigagnagoaa
