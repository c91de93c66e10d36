/- The program's alone: a node without what is within it. -/
import Derived.Test.YtjgklemhlmgheaaSm5
import Derived.Test.YtjgklemhlmgheaaPQ5
import Derived.Deep.RegionLaw
import Derived.Deep.RegionHeld
import Derived.Lib.RuneBytes
set_option linter.unusedVariables false
set_option linter.unusedSimpArgs false
namespace Go.Proofs.Ytjgklemhlmgheaa
open Go.RowKit

theorem OwnB.conv {w : World} {a : Option Addr} {n c : Nat} {l : List UInt8} (h : OwnB w (.slice a n c) l) (hn : n = l.length) : (convert 64 9 (.slice a n c)).run Try.prog w = .ok (.string ⟨l.toArray⟩) w := by
  subst hn
  cases l with
  | nil =>
    cases a with
    | none => exact run_convert_bytes_nil w 64 5 Try.underlying64 Try.underlying5 0 c 9 Try.underlying9
    | some a => exact run_convert_bytes_back w 64 9 5 a c [] Try.underlying64 Try.underlying5 Try.underlying9 (by simp)
  | cons x r =>
    obtain ⟨g, e, _⟩ := h.cells 0 (by simp)
    subst e
    refine run_convert_bytes_back w 64 9 5 ⟨g, 0, none⟩ c (x :: r) Try.underlying64 Try.underlying5 Try.underlying9 ?_
    intro j hj
    obtain ⟨g', e', hc⟩ := h.cells j hj
    injection e' with e'
    injection e' with e'
    subst e'
    rw [addr_add]
    exact hc
set_option maxRecDepth 10000 in
set_option maxHeartbeats 4000000 in
theorem alone_p {A : Nat → Prop} {w : World} {pb g cap : Nat} {rs : List RV} (h : PV A w pb g cap rs) (n : Nat) (hn : n < rs.length) (ha : rs[n].rn.nd.attrs.length ≤ 1000000) :
    Calls Try.prog 43 #[.pointer (some ⟨g, n * 7, none⟩)] w fun e w' => (∃ av', e = .returned (.agg #[.int .i64 rs[n].rn.nd.kind, .int .i64 rs[n].rn.nd.space, .string ⟨rs[n].rn.nd.name.toArray⟩, av', .string ⟨rs[n].rn.nd.text.toArray⟩, .slice none 0 0]) ∧ IsA w' av' rs[n].rn.nd.attrs ∧ (∀ k, av'.ownBlock = some k → w.heap.size ≤ k) ∧ ∃ a n c, av' = .slice a n c) ∧ Below w.heap.size w w' := by
  have b0 := below_alloc w (.cells #[.int .i64 0, .int .i64 0, .string ⟨#[]⟩, .slice none 0 0, .string ⟨#[]⟩, .slice none 0 0] 41)
  have K0 := Kept.new w [.int .i64 0, .int .i64 0, .string ⟨#[]⟩, .slice none 0 0, .string ⟨#[]⟩, .slice none 0 0] 41
  have hW : Below w.heap.size w (w.alloc (.cells #[.int .i64 0, .int .i64 0, .string ⟨#[]⟩, .slice none 0 0, .string ⟨#[]⟩, .slice none 0 0] 41)).drew := b0.drew
  have hs0 : (w.alloc (.cells #[.int .i64 0, .int .i64 0, .string ⟨#[]⟩, .slice none 0 0, .string ⟨#[]⟩, .slice none 0 0] 41)).heap.size = w.heap.size + 1 := by simp
  have hcc : ∀ o, o < 7 → w.cell? ⟨g, n * 7 + o, none⟩ = (rvC rs[n])[o]? := fun o ho => h.cellAt n hn o ho
  have hat := h.att n hn
  have htx := h.txt n hn
  obtain ⟨ka, kc, ek⟩ := owns_form (h.kid n hn)
  obtain ⟨aa, ac, ea⟩ := isA_form hat
  obtain ⟨ta, tc, et⟩ := htx.form
  unfold rvC at hcc
  rw [ek, ea, et] at hcc
  rw [ea] at hat
  rw [et] at htx
  have HTX := hide htx
  have HC := hide (copyA_p (.slice aa rs[n].rn.nd.attrs.length ac) rs[n].rn.nd.attrs ha _ (hat.below hW))
  have htl : ∀ k, (Value.slice ta rs[n].rn.nd.text.length tc).ownBlock = some k → k < w.heap.size := htx.lt
  have HCV : Hid (∀ W, Below w.heap.size w W → (convert 64 9 (.slice ta rs[n].rn.nd.text.length tc)).run Try.prog W = .ok (.string ⟨rs[n].rn.nd.text.toArray⟩) W) := hide fun W hb => (htx.keep fun k e => hb.block k (htl k e)).conv rfl
  have HCC := hide hcc
  have HISA : Hid (∀ W v, W.ownsRow (w.heap.size + 1) 80 2 v rs[n].rn.nd.attrs.length (attrCells rs[n].rn.nd.attrs) → IsA W v rs[n].rn.nd.attrs) := hide fun W v ho => owns_isA ho
  clear h hat htx ek ea et hcc htl
  generalize hkl : rs[n].rn.kids.length = kl at *
  generalize rs[n].rn.par = pr at *
  generalize rs[n].rn.nd = d at *
  obtain ⟨kd, sp, nm, att, tx⟩ := d
  simp only at *
  generalize hal : att.length = al at *
  generalize tx.length = tl at *
  generalize (⟨nm.toArray⟩ : ByteArray) = NM at *
  generalize (⟨tx.toArray⟩ : ByteArray) = TX at *
  obtain ⟨W0, hW0⟩ : ∃ W0, W0 = w.alloc (.cells #[.int .i64 0, .int .i64 0, .string ⟨#[]⟩, .slice none 0 0, .string ⟨#[]⟩, .slice none 0 0] 41) := ⟨_, rfl⟩
  have gg : ∀ W, Below w.heap.size w W → ∀ o v, w.cell? ⟨g, n * 7 + o, none⟩ = some v → W.cell? ⟨g, n * 7 + o, none⟩ = some v := fun W hb o v hv => by rw [hb.cell (cell_lt hv)]; exact hv
  rw [← hW0] at hW b0 K0 hs0 HC
  have d0 : W0.cell? ⟨g, n * 7, none⟩ = some (.int .i64 kd) := gg W0 b0 0 _ (HCC.out 0 (by omega))
  have d3 : W0.cell? ⟨g, n * 7 + 3, none⟩ = some (.int .i64 sp) := gg W0 b0 3 _ (HCC.out 3 (by omega))
  have d4 : W0.cell? ⟨g, n * 7 + 4, none⟩ = some (.string NM) := gg W0 b0 4 _ (HCC.out 4 (by omega))
  have d5 : W0.cell? ⟨g, n * 7 + 5, none⟩ = some (.slice aa al ac) := gg W0 b0 5 _ (HCC.out 5 (by omega))
  have d6 : W0.cell? ⟨g, n * 7 + 6, none⟩ = some (.slice ta tl tc) := gg W0 b0 6 _ (HCC.out 6 (by omega))
  have hcv := HCV.out W0.drew hW
  have HPOST : Hid (∀ e x1, (∃ v', e = Ending.returned v' ∧ x1.ownsRow W0.drew.heap.size 80 2 v' al (attrCells att)) ∧ Below W0.drew.heap.size W0.drew x1 → ∃ a2 c2, e = .returned (.slice a2 al c2) ∧ x1.cell? ⟨g, n * 7, none⟩ = some (.int .i64 kd) ∧ x1.cell? ⟨g, n * 7 + 3, none⟩ = some (.int .i64 sp) ∧ x1.cell? ⟨g, n * 7 + 4, none⟩ = some (.string NM) ∧ x1.cell? ⟨g, n * 7 + 6, none⟩ = some (.slice ta tl tc) ∧ (convert 64 9 (.slice ta tl tc)).run Try.prog x1 = .ok (.string TX) x1 ∧ Kept x1 w.heap.size [.int .i64 0, .int .i64 0, .string ⟨#[]⟩, .slice none 0 0, .string ⟨#[]⟩, .slice none 0 0] ∧ Hid (IsA x1 (.slice a2 al c2) att ∧ (∀ k, (Value.slice a2 al c2).ownBlock = some k → w.heap.size + 1 ≤ k) ∧ Below w.heap.size w x1)) := hide (by
    rintro e x1 ⟨⟨v', rfl, ho⟩, b1⟩
    obtain ⟨a2, c2, rfl⟩ := owns_form ho
    have hs1 : W0.drew.heap.size = w.heap.size + 1 := hs0
    rw [hs1] at ho
    have hB : Below w.heap.size w x1 := hW.trans (b1.mono hW.size)
    exact ⟨a2, c2, rfl, gg x1 hB 0 _ (HCC.out 0 (by omega)), gg x1 hB 3 _ (HCC.out 3 (by omega)), gg x1 hB 4 _ (HCC.out 4 (by omega)), gg x1 hB 6 _ (HCC.out 6 (by omega)), HCV.out x1 hB, Kept.keep K0 (b1.block w.heap.size (by rw [hs1]; omega)), hide ⟨HISA.out x1 _ ho, fun k e => (ho.lt k e).1, hB⟩⟩)
  have HK0 := hide K0
  have HS : Hid (∀ W', Below w.heap.size w W' → W'.cell? ⟨g, n * 7, none⟩ = some (.int .i64 kd) ∧ W'.cell? ⟨g, n * 7 + 3, none⟩ = some (.int .i64 sp) ∧ W'.cell? ⟨g, n * 7 + 4, none⟩ = some (.string NM) ∧ W'.cell? ⟨g, n * 7 + 5, none⟩ = some (.slice aa al ac) ∧ W'.cell? ⟨g, n * 7 + 6, none⟩ = some (.slice ta tl tc) ∧ (convert 64 9 (.slice ta tl tc)).run Try.prog W' = .ok (.string TX) W') := hide fun W' hB => ⟨gg W' hB 0 _ (HCC.out 0 (by omega)), gg W' hB 3 _ (HCC.out 3 (by omega)), gg W' hB 4 _ (HCC.out 4 (by omega)), gg W' hB 5 _ (HCC.out 5 (by omega)), gg W' hB 6 _ (HCC.out 6 (by omega)), HCV.out W' hB⟩
  clear HCV HISA HCC gg K0 HTX hal hkl
  go_enter Try.func43, Try.ntmps43
  go_wp2_with fail
  rw [← hW0]
  clear hW0
  go_region_held (fun W' => W'.cell? ⟨g, n * 7, none⟩ = some (.int .i64 kd) ∧ W'.cell? ⟨g, n * 7 + 3, none⟩ = some (.int .i64 sp) ∧ W'.cell? ⟨g, n * 7 + 4, none⟩ = some (.string NM) ∧ W'.cell? ⟨g, n * 7 + 5, none⟩ = some (.slice aa al ac) ∧ W'.cell? ⟨g, n * 7 + 6, none⟩ = some (.slice ta tl tc) ∧ (convert 64 9 (.slice ta tl tc)).run Try.prog W' = .ok (.string TX) W') (first | with_reducible exact HS.out _ hW | with_reducible exact HS.out _ HF.out.2.2 | exact HS.out _ (set6_below HF.out.2.2 (Nat.le_refl _) _ _ _ _ _ _)) (first | (go_at_call 52; refine HC.out.mono ?_; intro e x1 hh; obtain ⟨a2, c2, rfl, u0, u3, u4, u6, ucv, uK, HF⟩ := HPOST.out e x1 hh; have k0 := uK.1 0; have k1 := uK.1 1; have k2 := uK.1 2; have k3 := uK.1 3; have k4 := uK.1 4; have k5 := uK.1 5; have kf := uK.2; simp only [List.getElem?_cons_zero, List.getElem?_cons_succ] at k0 k1 k2 k3 k4 k5; clear hh uK))
  all_goals
    go_wp2
    refine bodyPost_ret (v := .agg #[.int .i64 kd, .int .i64 sp, .string NM, .slice a2 al c2, .string TX, .slice none 0 0]) ?_ rfl ⟨⟨.slice a2 al c2, rfl, isA_keep HF.out.1 fun k e => set6_other x1 w.heap.size _ _ _ _ _ _ k (by have := HF.out.2.1 k e; omega), fun k e => by have := HF.out.2.1 k e; omega, ⟨_, _, _, rfl⟩⟩, set6_below HF.out.2.2 (Nat.le_refl _) _ _ _ _ _ _⟩
    rw [results_cell_one rfl]
    go_simp
end Go.Proofs.Ytjgklemhlmgheaa
