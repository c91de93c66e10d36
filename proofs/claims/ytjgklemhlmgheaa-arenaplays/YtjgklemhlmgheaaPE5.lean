/- The program's more. -/
import Derived.Test.YtjgklemhlmgheaaPD5
set_option linter.unusedVariables false
set_option linter.unusedSimpArgs false
namespace Go.Proofs.Ytjgklemhlmgheaa
open Go.RowKit

theorem rv1c {r : RV} {a1 a2 a3 : Option Addr} {n1 n2 n3 c1 c2 c3 : Nat} (h1 : r.kv = .slice a1 n1 c1) (h2 : r.av = .slice a2 n2 c2) (h3 : r.tv = .slice a3 n3 c3) : ∀ u ∈ rvC r, u.oneCell' = true := by
  intro u hu
  simp only [rvC, h1, h2, h3, List.mem_cons, List.not_mem_nil, or_false] at hu
  rcases hu with rfl | rfl | rfl | rfl | rfl | rfl | rfl <;> rfl
set_option maxRecDepth 10000 in
set_option maxHeartbeats 4000000 in
theorem more_p {A : Nat → Prop} {w : World} {pb : Nat} {R : List RN} (hl0 : 0 < R.length) (hl : R.length < 2000) (d : ND) (q0 : Int) (av tv : Value) (hA : IsA w av d.attrs) (hT : OwnB w tv d.text)
    (hav : ∀ k, av.ownBlock = some k → ¬ A k ∧ k < w.heap.size) (htv : ∀ k, tv.ownBlock = some k → ¬ A k ∧ k < w.heap.size) (hor : av.ownBlock = none ∨ tv.ownBlock = none) (h : PA A w pb R) :
    Calls Try.prog 51 #[.pointer (some ⟨pb, 0, none⟩), .agg #[.int .i64 d.kind, .int .i64 q0, .slice none 0 0, .int .i64 d.space, .string ⟨d.name.toArray⟩, av, tv]] w fun e w' => e = .returned (.int .i64 (R.length : Int)) ∧ PA (andTwo A av tv w.heap.size) w' pb (R ++ [⟨d, -1, []⟩]) ∧ ButA A w w' := by
  obtain ⟨aa, ac, hav2⟩ := isA_form hA
  obtain ⟨ta, tc, htv2⟩ := hT.form
  have bA := below_alloc w (.cells #[.int .i64 d.kind, .int .i64 q0, .slice none 0 0, .int .i64 d.space, .string ⟨d.name.toArray⟩, av, tv] 66)
  have BA := hide bA
  have HL := hide (fun W (hW : PA A W pb R) => len_p hW)
  have HPA := hide (h.below bA)
  have HPA0 := hide h
  have KO := hide (Kept.new w [.int .i64 d.kind, .int .i64 q0, .slice none 0 0, .int .i64 d.space, .string ⟨d.name.toArray⟩, av, tv] 66)
  have hli : (R.length : Int) < 2000 := by omega
  have hl0i : ¬ (R.length : Int) = 0 := by omega
  have hl0b : ((R.length : Int) == 0) = false := beq_eq_false_iff_ne.2 hl0i
  have HA := hide hA
  have HTX := hide hT
  clear bA h hA hT
  rw [hav2, htv2] at KO HPA BA ⊢
  go_enter Try.func51, Try.ntmps51
  go_wp2_with fail
  refine (HL.out _ HPA.out).mono ?_
  rintro e w1 ⟨rfl, b1⟩
  have K1 := hide (KO.out.below b1)
  have P1 := hide (HPA.out.below b1)
  have B1 := hide (BA.out.trans (b1.mono BA.out.size))
  have y1 : w1.cell? ⟨w.heap.size, 1, none⟩ = some (.int .i64 q0) := K1.out.1 1
  have yf : w1.frozen? ⟨w.heap.size, 1, none⟩ = false := K1.out.2 1
  clear b1
  go_wp2_with fail
  have hK2 : Kept (w1.setCell ⟨w.heap.size, 1, none⟩ (.int .i64 (-1))) w.heap.size [.int .i64 d.kind, .int .i64 (-1), .slice none 0 0, .int .i64 d.space, .string ⟨d.name.toArray⟩, .slice aa d.attrs.length ac, .slice ta d.text.length tc] := by
    refine ⟨fun o => ?_, fun o => by rw [World.frozen?_setCell]; exact K1.out.2 o⟩
    by_cases ho : o = 1
    · subst ho
      exact World.cell?_setCell_same _ _ _ y1
    · rw [World.cell?_setCell_other _ _ _ _ (by intro e; injection e with _ e _; exact ho e.symm), K1.out.1 o]
      match o, ho with
      | 0, _ => rfl
      | 1, h => exact absurd rfl h
      | (o + 2), _ => rfl
  have hB2 : Below w.heap.size w (w1.setCell ⟨w.heap.size, 1, none⟩ (.int .i64 (-1))) := B1.out.setCell (Nat.le_refl _) _
  have hP2 : PA A (w1.setCell ⟨w.heap.size, 1, none⟩ (.int .i64 (-1))) pb R := by
    obtain ⟨g, cap, rs, hR, hP⟩ := HPA0.out
    exact ⟨g, cap, rs, hR, hP.below hB2⟩
  clear y1 yf K1 P1 B1 HL HPA BA KO
  generalize w1.setCell ⟨w.heap.size, 1, none⟩ (.int .i64 (-1)) = W2 at *
  clear w1
  have k0 : W2.cell? ⟨w.heap.size, 0, none⟩ = some (.int .i64 d.kind) := hK2.1 0
  have k1 : W2.cell? ⟨w.heap.size, 1, none⟩ = some (.int .i64 (-1)) := hK2.1 1
  have k2 : W2.cell? ⟨w.heap.size, 2, none⟩ = some (.slice none 0 0) := hK2.1 2
  have k3 : W2.cell? ⟨w.heap.size, 3, none⟩ = some (.int .i64 d.space) := hK2.1 3
  have k4 : W2.cell? ⟨w.heap.size, 4, none⟩ = some (.string ⟨d.name.toArray⟩) := hK2.1 4
  have k5 : W2.cell? ⟨w.heap.size, 5, none⟩ = some (.slice aa d.attrs.length ac) := hK2.1 5
  have k6 : W2.cell? ⟨w.heap.size, 6, none⟩ = some (.slice ta d.text.length tc) := hK2.1 6
  have hw2 : w.heap.size < W2.heap.size := hK2.lt
  obtain ⟨g, cap, rs, hR, hP⟩ := hP2
  have hlr := map_len hR
  have c0 := hP.tree
  rw [hlr] at c0
  have cF := hP.treeF
  have hpb : pb < W2.heap.size := cell_lt c0
  -- the new row of one
  have bO := below_alloc W2 (.cells #[.int .i64 d.kind, .int .i64 (-1), .slice none 0 0, .int .i64 d.space, .string ⟨d.name.toArray⟩, .slice aa d.attrs.length ac, .slice ta d.text.length tc] 66)
  have c0a : (W2.alloc (.cells #[.int .i64 d.kind, .int .i64 (-1), .slice none 0 0, .int .i64 d.space, .string ⟨d.name.toArray⟩, .slice aa d.attrs.length ac, .slice ta d.text.length tc] 66)).cell? ⟨pb, 0, none⟩ = some (.slice (some ⟨g, 0, none⟩) R.length cap) := by rw [bO.cell (cell_lt c0)]; exact c0
  have hPO := (hP.below bO).keep (W := (W2.alloc (.cells #[.int .i64 d.kind, .int .i64 (-1), .slice none 0 0, .int .i64 d.space, .string ⟨d.name.toArray⟩, .slice aa d.attrs.length ac, .slice ta d.text.length tc] 66)).drew) (Nat.le_refl _) (fun _ _ _ => rfl)
  have hrow := hPO.row
  rw [hlr] at hrow
  have hnl : ([.int .i64 d.kind, .int .i64 (-1), .slice none 0 0, .int .i64 d.space, .string ⟨d.name.toArray⟩, .slice aa d.attrs.length ac, .slice ta d.text.length tc] : List Value).length = 1 * 7 := rfl
  have hnews : ∀ j u, ([.int .i64 d.kind, .int .i64 (-1), .slice none 0 0, .int .i64 d.space, .string ⟨d.name.toArray⟩, .slice aa d.attrs.length ac, .slice ta d.text.length tc] : List Value)[j]? = some u → (W2.alloc (.cells #[.int .i64 d.kind, .int .i64 (-1), .slice none 0 0, .int .i64 d.space, .string ⟨d.name.toArray⟩, .slice aa d.attrs.length ac, .slice ta d.text.length tc] 66)).drew.cell? ((⟨W2.heap.size, 0, none⟩ : Addr).add j) = some u := by
    intro j u hu
    rw [addr_add]
    refine (World.cell?_alloc_mark W2 _ _ _ j).trans ?_
    simpa using hu
  have h1c : ∀ u ∈ ([.int .i64 d.kind, .int .i64 (-1), .slice none 0 0, .int .i64 d.space, .string ⟨d.name.toArray⟩, .slice aa d.attrs.length ac, .slice ta d.text.length tc] : List Value), u.oneCell' = true := rv1c (r := ⟨⟨d, -1, []⟩, .slice none 0 0, .slice aa d.attrs.length ac, .slice ta d.text.length tc⟩) rfl rfl rfl
  obtain ⟨v', w', hr, ho, hgw, _⟩ := run_append_own (P := Try.prog) _ 0 67 67 66 Try.t66 _ 7 112 Try.underlying67 (by kernel_rfl) rfl (by kernel_rfl) (by kernel_rfl) (by kernel_rfl) (by omega)
    _ _ _ hrow ⟨W2.heap.size, 0, none⟩ 1 1 _ hnl hnews h1c (by unfold maxLen; omega) (by omega) (Nat.zero_le _)
  have hwh := append_where (P := Try.prog) _ 67 67 67 66 Try.t66 _ 7 Try.underlying67 (by kernel_rfl) rfl (by kernel_rfl) _ _ _ hrow _ 1 _ (Src.ofSlice _ Try.underlying67 ⟨W2.heap.size, 0, none⟩ 1 1 _ hnl hnews h1c) (by unfold maxLen; omega) (by show _ * 112 ≤ _; omega) (by intro e; cases e) v' w' hr
  obtain ⟨g', cap', rfl⟩ : ∃ g' cap', v' = .slice (some ⟨g', 0, none⟩) (R.length + 1) cap' := by
    rcases ho.2 with ⟨_, h0⟩ | ⟨g', cap', cur, hv, _⟩
    · omega
    · exact ⟨g', cap', hv⟩
  have hszO : (W2.alloc (.cells #[.int .i64 d.kind, .int .i64 (-1), .slice none 0 0, .int .i64 d.space, .string ⟨d.name.toArray⟩, .slice aa d.attrs.length ac, .slice ta d.text.length tc] 66)).drew.heap.size = W2.heap.size + 1 := by simp
  have hgg : g' = g ∨ W2.heap.size ≤ g' := by
    rcases hwh g' rfl with h1 | h1
    · left
      have : some g = some g' := h1
      injection this with this
      exact this.symm
    · right; omega
  have hkk : ∀ k, k < W2.heap.size → k ≠ g → w'.heap[k]? = W2.heap[k]? := fun k hk hne => by
    rw [hgw.block k (by rw [hszO]; omega) (by intro e; apply hne; injection e)]
    exact bO.block k hk
  have hszw : W2.heap.size ≤ w'.heap.size := by have := hgw.size; rw [hszO] at this; omega
  have hpg : pb ≠ g := fun e => by have := hP.sep .tree .row pb rfl (by rw [e]; rfl); cases this
  have cw : w'.cell? ⟨pb, 0, none⟩ = some (.slice (some ⟨g, 0, none⟩) R.length cap) := cell_same (hkk pb hpb hpg) c0
  have cwF : w'.frozen? ⟨pb, 0, none⟩ = false := by rw [World.frozen?_of_block (a := ⟨pb, 0, none⟩) (hkk pb hpb hpg)]; exact cF
  have hfin := hP.push (w1 := w') (g' := g') (cap' := cap') d (.slice aa d.attrs.length ac) (.slice ta d.text.length tc) (by rw [← hav2]; exact HA.out.below hB2) (by rw [← htv2]; exact HTX.out.keep fun k e => hB2.block k (htv k e).2) (fun k e => ⟨(hav k (by rw [hav2]; exact e)).1, by have := (hav k (by rw [hav2]; exact e)).2; omega⟩) (fun k e => ⟨(htv k (by rw [htv2]; exact e)).1, by have := (htv k (by rw [htv2]; exact e)).2; omega⟩) (by rw [← hav2, ← htv2]; exact hor)
    (by
      rw [hlr, rvCells_app]
      exact ho) hgg hszw hkk
  rw [hlr] at hfin
  have HF : Hid (PA (andTwo A (.slice aa d.attrs.length ac) (.slice ta d.text.length tc) w.heap.size) (w'.setCell ⟨pb, 0, none⟩ (.slice (some ⟨g', 0, none⟩) (R.length + 1) cap')) pb (R ++ [⟨d, -1, []⟩])) := hide ⟨g', cap', _, by rw [List.map_append, hR]; rfl, hfin.mono (by
    rintro k (h | h | h | h)
    · exact .inl h
    · exact .inr (.inl h)
    · exact .inr (.inr (.inl h))
    · exact .inr (.inr (.inr (by omega))))⟩
  have hgA : A g := hP.inA .row g rfl
  have HBT : Hid (ButA A w (w'.setCell ⟨pb, 0, none⟩ (.slice (some ⟨g', 0, none⟩) (R.length + 1) cap'))) := hide (by
    refine ButA.setCell ⟨hgw.os.trans hB2.os, hgw.tape.trans hB2.tape, hgw.output.trans hB2.output, by have := hB2.size; omega, fun k hk hn => ?_⟩ (.inl (hP.inA .tree pb rfl)) _
    rw [hkk k (by omega) (by rintro rfl; exact hn hgA)]
    exact hB2.block k hk)
  have HR := hide hr
  clear hr ho hgw hwh hfin hkk hrow hPO hP hR hnews h1c hnl HA HTX HPA0 hav htv hor bO hK2 hB2 cF hgA hgg hlr
  go_region_law (refine step_append_run rfl (.tmp 20) (.tmp 22) 67 67 rfl (.slice (some ⟨g, 0, none⟩) R.length cap) (.slice (some ⟨W2.heap.size, 0, none⟩) 1 1) (by simp [Act.eval, Act.put]) (by simp [Act.eval, Act.put]) HR.out ?_)
  all_goals
    go_wp2
    go_ret
    exact ⟨rfl, HF.out, HBT.out⟩
end Go.Proofs.Ytjgklemhlmgheaa
