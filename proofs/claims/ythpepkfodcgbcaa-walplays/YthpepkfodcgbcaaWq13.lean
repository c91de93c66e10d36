import Derived.Test.YthpepkfodcgbcaaWq12
import Derived.Test.YthpepkfodcgbcaaWq09
import Derived.BigQuiet
/- What the program's joins answers. -/
set_option linter.unusedVariables false
set_option linter.unusedSimpArgs false
set_option maxRecDepth 40000
namespace Go.Proofs.Ythpepkfodcgbcaa
open Go.RowKit

def JoinsR (w : World) (l : List CL) (e : Ending) (w' : World) : Prop := Below w.heap.size w w' ∧ ((e = .returned (.bool true) ∧ JoinsC l) ∨ (e = .returned (.bool false) ∧ ¬ JoinsC l))
theorem below_drewN {n : Nat} {w w' : World} (h : Below n w w') (m : Nat) : Below n w (w'.drewN m) := ⟨h.os, h.tape, h.output, h.size, h.block⟩
theorem joins_all {L : List CL} {n : Nat} {h0 : CL} (hn : L.length = n) (hl : n ≤ 65535) (hh0 : L[0]? = some h0) (h : ∀ i c, L[i]? = some c → CellAt h0.ep h0.li n i c) : JoinsC L := by
  cases L with
  | nil => cases hh0
  | cons c r =>
    simp at hh0
    subst hh0
    subst hn
    exact ⟨c, r, rfl, hl, fun i hi => h i _ (List.getElem?_eq_getElem hi)⟩
theorem joins_not {L : List CL} {n i : Nat} {h0 c : CL} (hn : L.length = n) (hh0 : L[0]? = some h0) (hc : L[i]? = some c) (hnot : ¬ CellAt h0.ep h0.li n i c) : ¬ JoinsC L := by
  rintro ⟨c0, r, rfl, _, ha⟩
  simp at hh0
  subst hh0
  obtain ⟨hi, rfl⟩ := List.getElem?_eq_some_iff.1 hc
  subst hn
  exact hnot (ha i hi)
set_option maxHeartbeats 4000000 in
theorem pjoins_none (lv : Value) (w : World) (hL : IsL w lv []) : Calls Try.prog 75 #[lv] w (JoinsR w []) := by
  have HF : Hid (JoinsR w [] (.returned (.bool false)) w) := hide ⟨Below.refl _ _, .inr ⟨rfl, fun ⟨c, r, h, _⟩ => by cases h⟩⟩
  obtain ⟨a, c, rfl⟩ := hL.form
  clear hL
  go_enter Try.func75, Try.ntmps75
  go_wp2
  go_ret
  exact HF.out
set_option maxHeartbeats 8000000 in
theorem pjoins_some (lv : Value) (l : List (CL × Value)) (w : World) (hL : IsL w lv l) (hl : l.length ≤ 1000) (hn : 0 < l.length) : Calls Try.prog 75 #[lv] w (JoinsR w (l.map Prod.fst)) := by
  obtain ⟨a, cap, rfl⟩ := hL.form
  have hlm : (l.map Prod.fst).length = l.length := List.length_map ..
  obtain ⟨h0, hh0⟩ : ∃ h0 : CL, (l.map Prod.fst)[0]? = some h0 := ⟨_, List.getElem?_eq_getElem (by omega)⟩
  have HLL : Hid ((l.map Prod.fst).length = l.length) := hide hlm
  have HT : Hid ((∀ i c, (l.map Prod.fst)[i]? = some c → CellAt h0.ep h0.li l.length i c) → ∀ x, Below w.heap.size w x → JoinsR w (l.map Prod.fst) (.returned (.bool true)) x) := hide (fun h x hb => ⟨hb, .inl ⟨rfl, joins_all hlm (by omega) hh0 h⟩⟩)
  have HN : Hid (∀ i c, (l.map Prod.fst)[i]? = some c → ¬ CellAt h0.ep h0.li l.length i c → ∀ x, Below w.heap.size w x → JoinsR w (l.map Prod.fst) (.returned (.bool false)) x) := hide (fun i c hc hnot x hb => ⟨hb, .inr ⟨rfl, joins_not hlm hh0 hc hnot⟩⟩)
  have HA : Hid (∀ i, i < l.length → ∃ b o, a = some ⟨b, o, none⟩ ∧ ∃ c : CL, ∃ xa xc, (l.map Prod.fst)[i]? = some c ∧ ∀ x, Below w.heap.size w x → (x.cell? ⟨b, o + i * 5, none⟩ = some (.int .u64 (c.ep : Int)) ∧ x.cell? ⟨b, o + i * 5 + 1, none⟩ = some (.int .u64 (c.li : Int)) ∧ x.cell? ⟨b, o + i * 5 + 2, none⟩ = some (.int .i64 c.part) ∧ x.cell? ⟨b, o + i * 5 + 3, none⟩ = some (.int .i64 c.of) ∧ x.cell? ⟨b, o + i * 5 + 4, none⟩ = some (.slice xa c.data.length xc))) := hide (fun i hi => by
    obtain ⟨b, o, e, hc, hi2⟩ := hL.at_ i hi
    obtain ⟨xa, xc, ex⟩ := hi2.d.form
    rw [ex] at hc
    exact ⟨b, o, e, l[i].1, xa, xc, by rw [List.getElem?_map, List.getElem?_eq_getElem hi]; rfl, hc⟩)
  have HB0 := hide (Below.refl w.heap.size w)
  obtain ⟨hb0, ho0, e0, hc0, ha0, hcc0, hed, hcell0⟩ := HA.out 0 hn
  rw [hh0] at hed
  injection hed with hed
  subst hed
  subst e0
  obtain ⟨e0, l0, p0, o0, d0⟩ := h0
  have HC0 := hide hcell0
  have H0 : Hid ((l.map Prod.fst)[0]? = some ⟨e0, l0, p0, o0, d0⟩) := hide hh0
  clear hcell0 hh0 hL
  simp only [Nat.zero_mul, Nat.add_zero] at HC0
  generalize hL1 : l.map Prod.fst = L at *
  clear hL1
  generalize hlen : l.length = n at *
  clear hlen hlm
  have hn0 : ¬ n = 0 := by omega
  have hn2 : ¬ (65535 : Int) < (n : Int) := by omega
  have hn1 : wrap64 ((n : Int) - 1) = (n : Int) - 1 := by unfold wrap64; omega
  go_enter Try.func75, Try.ntmps75
  go_wp2
  clear hn2 hn0
  go_loopw [16] (fun iv wr => ∃ (i : Nat), iv = .int .i64 (i : Int) ∧ i ≤ n ∧ Hid (Below w.heap.size w wr) ∧ Hid (∀ j c, j < i → L[j]? = some c → CellAt e0 l0 n j c)) (fun iv _ => n - (intOf iv).toNat)
  case atStart => exact ⟨0, rfl, Nat.zero_le _, HB0, hide (fun j c hj _ => absurd hj (Nat.not_lt_zero _))⟩
  case round =>
    clear HB0
    obtain ⟨i, rfl, hi, HB, HS⟩ := hrel
    by_cases hlt : i < n
    · have hlt2 : (i : Int) < (n : Int) := by omega
      obtain ⟨b1, o1, e1, ⟨ep, li, p, o, d⟩, xa, xc, hLi, hcell⟩ := HA.out i hlt
      injection e1 with e1
      injection e1 with e1 e2
      subst e1 e2
      simp only [] at hcell
      have hbox := fun ob => below_alloc wr ob
      have hwA : ∀ ob, Below w.heap.size w (wr.alloc ob) := fun ob => HB.out.trans ((hbox ob).mono HB.out.size)
      have c1 := hcell wr HB.out
      obtain ⟨k0, k1, k2, k3, k4⟩ := c1
      have q0 : ∀ ob, (wr.alloc ob).cell? ⟨hb0, ho0, none⟩ = some (.int .u64 (e0 : Int)) := fun ob => (HC0.out _ (hwA ob)).1
      have q1 : ∀ ob, (wr.alloc ob).cell? ⟨hb0, ho0 + 1, none⟩ = some (.int .u64 (l0 : Int)) := fun ob => (HC0.out _ (hwA ob)).2.1
      have HWA := hide (fun ob m => below_drewN (hwA ob) m)
      have HLI := hide hLi
      have HCA : Hid (CellAt e0 l0 n i ⟨ep, li, p, o, d⟩ ↔ (ep = e0 ∧ li = l0 ∧ p = (i : Int) ∧ o = (n : Int) ∧ (if i + 1 = n then 1 else 39) ≤ d.length ∧ d.length ≤ 39)) := hide Iff.rfl
      have hNN : ∀ ob m, ¬ CellAt e0 l0 n i ⟨ep, li, p, o, d⟩ → JoinsR w L (.returned (.bool false)) ((wr.alloc ob).drewN m) := fun ob m hnot => HN.out i _ hLi hnot _ (below_drewN (hwA ob) m)
      have HNN := hide hNN
      generalize hdl : d.length = dl at *
      obtain ⟨ls, hls, hcase⟩ : ∃ ls : Nat, (if i + 1 = n then 1 else 39) = ls ∧ ((ls = 1 ∧ ((i : Int) == (n : Int) - 1) = true) ∨ (ls = 39 ∧ ((i : Int) == (n : Int) - 1) = false)) := by
        by_cases h1 : i + 1 = n
        · exact ⟨1, if_pos h1, .inl ⟨rfl, by rw [beq_iff_eq]; omega⟩⟩
        · exact ⟨39, if_neg h1, .inr ⟨rfl, by rw [beq_eq_false_iff_ne]; omega⟩⟩
      have HLS := hide hls
      clear hcell hbox hwA hLi hNN hdl hls
      rcases hcase with ⟨rfl, hq⟩ | ⟨rfl, hq⟩
      · by_cases g0 : ep = e0
        · have g0t : ((ep : Int) != (e0 : Int)) = false := by rw [bne_eq_false_iff_eq]; omega
          by_cases g1 : li = l0
          · have g1t : ((li : Int) != (l0 : Int)) = false := by rw [bne_eq_false_iff_eq]; omega
            by_cases g2 : p = (i : Int)
            · have g2t : (p != (i : Int)) = false := by rw [bne_eq_false_iff_eq]; omega
              by_cases g3 : o = (n : Int)
              · have g3t : (o != (n : Int)) = false := by rw [bne_eq_false_iff_eq]; omega
                have hls : (if i + 1 = n then 1 else 39) = 1 := HLS.out
                by_cases g4 : 1 ≤ dl
                · have g4t : ¬ (dl : Int) < 1 := by omega
                  by_cases g5 : dl ≤ 39
                  · have g5t : ¬ (39 : Int) < (dl : Int) := by omega
                    have HS2 : Hid (∀ j c, j < i + 1 → L[j]? = some c → CellAt e0 l0 n j c) := hide (fun j c hj hc => by
                      by_cases hji : j = i
                      · subst hji
                        have hc2 := HLI.out
                        rw [hc] at hc2
                        injection hc2 with hc2
                        subst hc2
                        exact HCA.out.2 ⟨g0, g1, g2, g3, by rw [hls]; exact g4, g5⟩
                      · exact HS.out j c (by omega) hc)
                    clear HNN HCA HN HT HA HS HLS HC0 g0 g1 g2 g3 g4 g5 hls HLI
                    go_wp2_with fail
                    go_quiet (fail)
                    go_wp2
                    go_roundw
                    case rel => exact ⟨i + 1, by go_num, by omega, hide (HWA.out _ _), HS2⟩
                    case measure => simp [intOf]; omega
                  · have g5t : (39 : Int) < (dl : Int) := by omega
                    have HG := hide (fun ob m => HNN.out ob m (fun h => g5 (HCA.out.1 h).2.2.2.2.2))
                    clear HNN HCA HN HT HA HS HLS HC0 g0 g1 g2 g3 g4 g5 hls
                    go_wp2_with fail
                    go_quiet (fail)
                    go_wp2
                    go_ret
                    exact HG.out _ _
                · have g4t : (dl : Int) < 1 := by omega
                  have HG := hide (fun ob m => HNN.out ob m (fun h => g4 (by have h5 := (HCA.out.1 h).2.2.2.2.1; rw [hls] at h5; exact h5)))
                  clear HNN HCA HN HT HA HS HLS HC0 g0 g1 g2 g3 g4 hls
                  go_wp2_with fail
                  go_quiet (fail)
                  go_wp2
                  go_ret
                  exact HG.out _ _
              · have g3t : (o != (n : Int)) = true := by rw [bne_iff_ne]; omega
                have HG := hide (fun ob m => HNN.out ob m (fun h => g3 (HCA.out.1 h).2.2.2.1))
                clear HNN HCA HN HT HA HS HLS HC0 g0 g1 g2 g3
                go_wp2_with fail
                go_quiet (fail)
                go_wp2
                go_ret
                exact HG.out _ _
            · have g2t : (p != (i : Int)) = true := by rw [bne_iff_ne]; omega
              have HG := hide (fun ob m => HNN.out ob m (fun h => g2 (HCA.out.1 h).2.2.1))
              clear HNN HCA HN HT HA HS HLS HC0 g0 g1 g2
              go_wp2_with fail
              go_quiet (fail)
              go_wp2
              go_ret
              exact HG.out _ _
          · have g1t : ((li : Int) != (l0 : Int)) = true := by rw [bne_iff_ne]; omega
            have HG := hide (fun ob m => HNN.out ob m (fun h => g1 (HCA.out.1 h).2.1))
            clear HNN HCA HN HT HA HS HLS HC0 g0 g1
            go_wp2_with fail
            go_quiet (fail)
            go_wp2
            go_ret
            exact HG.out _ _
        · have g0t : ((ep : Int) != (e0 : Int)) = true := by rw [bne_iff_ne]; omega
          have HG := hide (fun ob m => HNN.out ob m (fun h => g0 (HCA.out.1 h).1))
          clear HNN HCA HN HT HA HS HLS HC0 g0
          go_wp2_with fail
          go_quiet (fail)
          go_wp2
          go_ret
          exact HG.out _ _
      · by_cases g0 : ep = e0
        · have g0t : ((ep : Int) != (e0 : Int)) = false := by rw [bne_eq_false_iff_eq]; omega
          by_cases g1 : li = l0
          · have g1t : ((li : Int) != (l0 : Int)) = false := by rw [bne_eq_false_iff_eq]; omega
            by_cases g2 : p = (i : Int)
            · have g2t : (p != (i : Int)) = false := by rw [bne_eq_false_iff_eq]; omega
              by_cases g3 : o = (n : Int)
              · have g3t : (o != (n : Int)) = false := by rw [bne_eq_false_iff_eq]; omega
                have hls : (if i + 1 = n then 1 else 39) = 39 := HLS.out
                by_cases g4 : 39 ≤ dl
                · have g4t : ¬ (dl : Int) < 39 := by omega
                  by_cases g5 : dl ≤ 39
                  · have g5t : ¬ (39 : Int) < (dl : Int) := by omega
                    have HS2 : Hid (∀ j c, j < i + 1 → L[j]? = some c → CellAt e0 l0 n j c) := hide (fun j c hj hc => by
                      by_cases hji : j = i
                      · subst hji
                        have hc2 := HLI.out
                        rw [hc] at hc2
                        injection hc2 with hc2
                        subst hc2
                        exact HCA.out.2 ⟨g0, g1, g2, g3, by rw [hls]; exact g4, g5⟩
                      · exact HS.out j c (by omega) hc)
                    clear HNN HCA HN HT HA HS HLS HC0 g0 g1 g2 g3 g4 g5 hls HLI
                    go_wp2_with fail
                    go_quiet (fail)
                    go_wp2
                    go_roundw
                    case rel => exact ⟨i + 1, by go_num, by omega, hide (HWA.out _ _), HS2⟩
                    case measure => simp [intOf]; omega
                  · have g5t : (39 : Int) < (dl : Int) := by omega
                    have HG := hide (fun ob m => HNN.out ob m (fun h => g5 (HCA.out.1 h).2.2.2.2.2))
                    clear HNN HCA HN HT HA HS HLS HC0 g0 g1 g2 g3 g4 g5 hls
                    go_wp2_with fail
                    go_quiet (fail)
                    go_wp2
                    go_ret
                    exact HG.out _ _
                · have g4t : (dl : Int) < 39 := by omega
                  have HG := hide (fun ob m => HNN.out ob m (fun h => g4 (by have h5 := (HCA.out.1 h).2.2.2.2.1; rw [hls] at h5; exact h5)))
                  clear HNN HCA HN HT HA HS HLS HC0 g0 g1 g2 g3 g4 hls
                  go_wp2_with fail
                  go_quiet (fail)
                  go_wp2
                  go_ret
                  exact HG.out _ _
              · have g3t : (o != (n : Int)) = true := by rw [bne_iff_ne]; omega
                have HG := hide (fun ob m => HNN.out ob m (fun h => g3 (HCA.out.1 h).2.2.2.1))
                clear HNN HCA HN HT HA HS HLS HC0 g0 g1 g2 g3
                go_wp2_with fail
                go_quiet (fail)
                go_wp2
                go_ret
                exact HG.out _ _
            · have g2t : (p != (i : Int)) = true := by rw [bne_iff_ne]; omega
              have HG := hide (fun ob m => HNN.out ob m (fun h => g2 (HCA.out.1 h).2.2.1))
              clear HNN HCA HN HT HA HS HLS HC0 g0 g1 g2
              go_wp2_with fail
              go_quiet (fail)
              go_wp2
              go_ret
              exact HG.out _ _
          · have g1t : ((li : Int) != (l0 : Int)) = true := by rw [bne_iff_ne]; omega
            have HG := hide (fun ob m => HNN.out ob m (fun h => g1 (HCA.out.1 h).2.1))
            clear HNN HCA HN HT HA HS HLS HC0 g0 g1
            go_wp2_with fail
            go_quiet (fail)
            go_wp2
            go_ret
            exact HG.out _ _
        · have g0t : ((ep : Int) != (e0 : Int)) = true := by rw [bne_iff_ne]; omega
          have HG := hide (fun ob m => HNN.out ob m (fun h => g0 (HCA.out.1 h).1))
          clear HNN HCA HN HT HA HS HLS HC0 g0
          go_wp2_with fail
          go_quiet (fail)
          go_wp2
          go_ret
          exact HG.out _ _
    · have hlt2 : ¬ (i : Int) < (n : Int) := by omega
      obtain rfl : i = n := by omega
      have HF := hide (HT.out (fun j c hc => HS.out j c (by
        have h1 := (List.getElem?_eq_some_iff.1 hc).1
        have h2 := HLL.out
        omega) hc) wr HB.out)
      clear HN HT HA HS HC0 H0
      go_wp2
      go_ret
      exact HF.out
end Go.Proofs.Ythpepkfodcgbcaa
