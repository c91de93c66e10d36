import Derived.Test.YtfohijnkeefcfaaGreatDoorKn19
import Derived.Deep.RegionLaw
import Derived.Deep.RegionHeld
import Derived.Lib.RuneBytes
set_option linter.unusedVariables false
set_option linter.unusedSimpArgs false
set_option maxRecDepth 100000
set_option maxHeartbeats 8000000
namespace Go.Proofs.YtfohijnkeefcfaaGreatDoor.S5
open Go.RowKit
theorem OwnB.conv {w : World} {a : Option Addr} {n c : Nat} {l : List UInt8} (h : OwnB w (.slice a n c) l) (hn : n = l.length) : (convert 60 9 (.slice a n c)).run Tryz.prog w = .ok (.string ⟨l.toArray⟩) w := by
  subst hn
  cases l with
  | nil =>
    cases a with
    | none => exact run_convert_bytes_nil w 60 5 Tryz.underlying60 Tryz.underlying5 0 c 9 Tryz.underlying9
    | some a => exact run_convert_bytes_back w 60 9 5 a c [] Tryz.underlying60 Tryz.underlying5 Tryz.underlying9 (by simp)
  | cons x r =>
    obtain ⟨g, e, _⟩ := h.cells 0 (by simp)
    subst e
    refine run_convert_bytes_back w 60 9 5 ⟨g, 0, none⟩ c (x :: r) Tryz.underlying60 Tryz.underlying5 Tryz.underlying9 ?_
    intro j hj
    obtain ⟨g', e', hc⟩ := h.cells j hj
    injection e' with e'
    injection e' with e'
    subst e'
    rw [addr_add]
    exact hc
theorem alone_p {A : Nat -> Prop} {w : World} {pb g cap : Nat} {rs : List RV} (h : PV A w pb g cap rs) (n : Nat) (hn : n < rs.length) (ha : rs[n].rn.nd.attrs.length <= 1000000) :
    Calls Tryz.prog 35 #[.pointer (some ⟨g, n * 7, none⟩)] w fun e w' => (∃ av', e = .returned (.agg #[.int .i64 rs[n].rn.nd.kind, .int .i64 rs[n].rn.nd.space, .string ⟨rs[n].rn.nd.name.toArray⟩, av', .string ⟨rs[n].rn.nd.text.toArray⟩, .slice none 0 0]) /\ IsA w' av' rs[n].rn.nd.attrs /\ (∀ k, av'.ownBlock = some k -> w.heap.size <= k) /\ ∃ a n c, av' = .slice a n c) /\ Below w.heap.size w w' := by
  have b0 := below_alloc w (.cells #[.int .i64 0, .int .i64 0, .string ⟨#[]⟩, .slice none 0 0, .string ⟨#[]⟩, .slice none 0 0] 45)
  have K0 := Kept.new w [.int .i64 0, .int .i64 0, .string ⟨#[]⟩, .slice none 0 0, .string ⟨#[]⟩, .slice none 0 0] 45
  have hW : Below w.heap.size w (w.alloc (.cells #[.int .i64 0, .int .i64 0, .string ⟨#[]⟩, .slice none 0 0, .string ⟨#[]⟩, .slice none 0 0] 45)).drew := b0.drew
  have hs0 : (w.alloc (.cells #[.int .i64 0, .int .i64 0, .string ⟨#[]⟩, .slice none 0 0, .string ⟨#[]⟩, .slice none 0 0] 45)).heap.size = w.heap.size + 1 := by simp
  have hcc : ∀ o, o < 7 -> w.cell? ⟨g, n * 7 + o, none⟩ = (rvC rs[n])[o]? := fun o ho => h.cellAt n hn o ho
  have hat := h.att n hn
  have htx := h.txt n hn
  obtain ⟨ka, kc, ek⟩ := owns_form (h.kid n hn)
  obtain ⟨aa, ac, ea⟩ := isA_form hat
  obtain ⟨ta, tc, et⟩ := htx.form
  unfold rvC at hcc
  rw [ek, ea, et] at hcc
  rw [ea] at hat
  rw [et] at htx
  have HTX := hide htx
  have HC := hide (copyA_p (.slice aa rs[n].rn.nd.attrs.length ac) rs[n].rn.nd.attrs ha _ (hat.below hW))
  have htl : ∀ k, (Value.slice ta rs[n].rn.nd.text.length tc).ownBlock = some k -> k < w.heap.size := htx.lt
  have HCV : Hid (∀ W, Below w.heap.size w W -> (convert 60 9 (.slice ta rs[n].rn.nd.text.length tc)).run Tryz.prog W = .ok (.string ⟨rs[n].rn.nd.text.toArray⟩) W) := hide fun W hb => (htx.keep fun k e => hb.block k (htl k e)).conv rfl
  have HCC := hide hcc
  have HISA : Hid (∀ W v, W.ownsRow (w.heap.size + 1) 62 2 v rs[n].rn.nd.attrs.length (attrCells rs[n].rn.nd.attrs) -> IsA W v rs[n].rn.nd.attrs) := hide fun W v ho => owns_isA ho
  clear h hat htx ek ea et hcc htl
  generalize hkl : rs[n].rn.kids.length = kl at *
  generalize rs[n].rn.par = pr at *
  generalize rs[n].rn.nd = d at *
  obtain ⟨kd, sp, nm, att, tx⟩ := d
  simp only at *
  generalize hal : att.length = al at *
  generalize tx.length = tl at *
  generalize (⟨nm.toArray⟩ : ByteArray) = NM at *
  generalize (⟨tx.toArray⟩ : ByteArray) = TX at *
  obtain ⟨W0, hW0⟩ : ∃ W0, W0 = w.alloc (.cells #[.int .i64 0, .int .i64 0, .string ⟨#[]⟩, .slice none 0 0, .string ⟨#[]⟩, .slice none 0 0] 45) := ⟨_, rfl⟩
  have gg : ∀ W, Below w.heap.size w W -> ∀ o v, w.cell? ⟨g, n * 7 + o, none⟩ = some v -> W.cell? ⟨g, n * 7 + o, none⟩ = some v := fun W hb o v hv => by rw [hb.cell (cell_lt hv)]; exact hv
  rw [<- hW0] at hW b0 K0 hs0 HC
  have d0 : W0.cell? ⟨g, n * 7, none⟩ = some (.int .i64 kd) := gg W0 b0 0 _ (HCC.out 0 (by omega))
  have d3 : W0.cell? ⟨g, n * 7 + 3, none⟩ = some (.int .i64 sp) := gg W0 b0 3 _ (HCC.out 3 (by omega))
  have d4 : W0.cell? ⟨g, n * 7 + 4, none⟩ = some (.string NM) := gg W0 b0 4 _ (HCC.out 4 (by omega))
  have d5 : W0.cell? ⟨g, n * 7 + 5, none⟩ = some (.slice aa al ac) := gg W0 b0 5 _ (HCC.out 5 (by omega))
  have d6 : W0.cell? ⟨g, n * 7 + 6, none⟩ = some (.slice ta tl tc) := gg W0 b0 6 _ (HCC.out 6 (by omega))
  have hcv := HCV.out W0.drew hW
  have HPOST : Hid (∀ e x1, (∃ v', e = Ending.returned v' /\ x1.ownsRow W0.drew.heap.size 62 2 v' al (attrCells att)) /\ Below W0.drew.heap.size W0.drew x1 -> ∃ a2 c2, e = .returned (.slice a2 al c2) /\ x1.cell? ⟨g, n * 7, none⟩ = some (.int .i64 kd) /\ x1.cell? ⟨g, n * 7 + 3, none⟩ = some (.int .i64 sp) /\ x1.cell? ⟨g, n * 7 + 4, none⟩ = some (.string NM) /\ x1.cell? ⟨g, n * 7 + 6, none⟩ = some (.slice ta tl tc) /\ (convert 60 9 (.slice ta tl tc)).run Tryz.prog x1 = .ok (.string TX) x1 /\ Kept x1 w.heap.size [.int .i64 0, .int .i64 0, .string ⟨#[]⟩, .slice none 0 0, .string ⟨#[]⟩, .slice none 0 0] /\ Hid (IsA x1 (.slice a2 al c2) att /\ (∀ k, (Value.slice a2 al c2).ownBlock = some k -> w.heap.size + 1 <= k) /\ Below w.heap.size w x1)) := hide (by
    rintro e x1 ⟨⟨v', rfl, ho⟩, b1⟩
    obtain ⟨a2, c2, rfl⟩ := owns_form ho
    have hs1 : W0.drew.heap.size = w.heap.size + 1 := hs0
    rw [hs1] at ho
    have hB : Below w.heap.size w x1 := hW.trans (b1.mono hW.size)
    exact ⟨a2, c2, rfl, gg x1 hB 0 _ (HCC.out 0 (by omega)), gg x1 hB 3 _ (HCC.out 3 (by omega)), gg x1 hB 4 _ (HCC.out 4 (by omega)), gg x1 hB 6 _ (HCC.out 6 (by omega)), HCV.out x1 hB, Kept.keep K0 (b1.block w.heap.size (by rw [hs1]; omega)), hide ⟨HISA.out x1 _ ho, fun k e => (ho.lt k e).1, hB⟩⟩)
  have HK0 := hide K0
  have HS : Hid (∀ W', Below w.heap.size w W' -> W'.cell? ⟨g, n * 7, none⟩ = some (.int .i64 kd) /\ W'.cell? ⟨g, n * 7 + 3, none⟩ = some (.int .i64 sp) /\ W'.cell? ⟨g, n * 7 + 4, none⟩ = some (.string NM) /\ W'.cell? ⟨g, n * 7 + 5, none⟩ = some (.slice aa al ac) /\ W'.cell? ⟨g, n * 7 + 6, none⟩ = some (.slice ta tl tc) /\ (convert 60 9 (.slice ta tl tc)).run Tryz.prog W' = .ok (.string TX) W') := hide fun W' hB => ⟨gg W' hB 0 _ (HCC.out 0 (by omega)), gg W' hB 3 _ (HCC.out 3 (by omega)), gg W' hB 4 _ (HCC.out 4 (by omega)), gg W' hB 5 _ (HCC.out 5 (by omega)), gg W' hB 6 _ (HCC.out 6 (by omega)), HCV.out W' hB⟩
  clear HCV HISA HCC gg K0 HTX hal hkl
  go_enter Tryz.func35, Tryz.ntmps35
  go_wp2_with fail
  rw [<- hW0]
  clear hW0
  go_region_held (fun W' => W'.cell? ⟨g, n * 7, none⟩ = some (.int .i64 kd) /\ W'.cell? ⟨g, n * 7 + 3, none⟩ = some (.int .i64 sp) /\ W'.cell? ⟨g, n * 7 + 4, none⟩ = some (.string NM) /\ W'.cell? ⟨g, n * 7 + 5, none⟩ = some (.slice aa al ac) /\ W'.cell? ⟨g, n * 7 + 6, none⟩ = some (.slice ta tl tc) /\ (convert 60 9 (.slice ta tl tc)).run Tryz.prog W' = .ok (.string TX) W') (first | with_reducible exact HS.out _ hW | with_reducible exact HS.out _ HF.out.2.2 | exact HS.out _ (set6_below HF.out.2.2 (Nat.le_refl _) _ _ _ _ _ _)) (first | (go_at_call 55; refine HC.out.mono ?_; intro e x1 hh; obtain ⟨a2, c2, rfl, u0, u3, u4, u6, ucv, uK, HF⟩ := HPOST.out e x1 hh; have k0 := uK.1 0; have k1 := uK.1 1; have k2 := uK.1 2; have k3 := uK.1 3; have k4 := uK.1 4; have k5 := uK.1 5; have kf := uK.2; simp only [List.getElem?_cons_zero, List.getElem?_cons_succ] at k0 k1 k2 k3 k4 k5; clear hh uK))
  all_goals
    go_wp2
    refine bodyPost_ret (v := .agg #[.int .i64 kd, .int .i64 sp, .string NM, .slice a2 al c2, .string TX, .slice none 0 0]) ?_ rfl ⟨⟨.slice a2 al c2, rfl, isA_keep HF.out.1 fun k e => set6_other x1 w.heap.size _ _ _ _ _ _ k (by have := HF.out.2.1 k e; omega), fun k e => by have := HF.out.2.1 k e; omega, ⟨_, _, _, rfl⟩⟩, set6_below HF.out.2.2 (Nat.le_refl _) _ _ _ _ _ _⟩
    rw [results_cell_one rfl]
    go_simp
end Go.Proofs.YtfohijnkeefcfaaGreatDoor.S5
namespace Go.Proofs.YtfohijnkeefcfaaGreatDoor.S5
open Go.RowKit
theorem step_call_enter {P : Program} {ops : Array Oper} {o : Oper} {a : Act} {w : World} {K : Act -> World -> Prop} {Q : Exit -> Act -> World -> Prop} {E : Prop}
    (hg : o.guard = none) (f : FuncId) (vs : Array Value) (hx : (execOp a.eval o).run P w = .ok (.enter f vs) w) {R : Ending -> World -> Prop} (hC : Calls P f vs w R) (hK : ∀ e w', R e w' -> ∃ v, e = .returned v /\ K (a.put o.dst v) w') :
    if Region.wanted o (yielded ops a.tmps) = true then Oper.wp P o a w K Q else E := by
  have hw : Region.wanted o (yielded ops a.tmps) = true := by simp [Region.wanted, hg]
  rw [if_pos hw]
  unfold Oper.wp
  rw [hx, Oper.upon_enter]
  refine hC.mono ?_
  intro e w' h
  obtain ⟨v, rfl, hk⟩ := hK e w' h
  exact hk
def zeroC6 : List Value := [.int .i64 0, .int .i64 0, .string ⟨#[]⟩, .slice none 0 0, .string ⟨#[]⟩, .slice none 0 0]
theorem IsN.tight {B : Nat -> Prop} {w : World} : ∀ {k : Nat} (t : NT k) (vs : List Value), IsN B w t vs -> IsN (fun k => B k /\ k < w.heap.size) w t vs
  | 0, t, _, _ => t.none
  | k + 1, t, vs, h => by
    obtain ⟨av, kv, h1, h2, h3⟩ := h
    refine ⟨av, kv, h1, h2.tight, ?_⟩
    rcases h3 with h3 | ⟨b, o, cap, e1, e2, e3, e4⟩
    · exact .inl h3
    · refine .inr ⟨b, o, cap, e1, e2, ?_, ?_⟩
      · rcases e3 with e3 | e3
        · exact .inl e3
        · by_cases hk : t.kids = []
          · exact .inl hk
          · right
            refine ⟨e3, ?_⟩
            have hl : 0 < t.kids.length := by
              cases hks : t.kids with
              | nil => exact absurd hks hk
              | cons a r => simp
            obtain ⟨vs', g1, g2⟩ := IsNs.get o t.kids e4 0 hl
            have hl6 := isN_len g2
            have := g1 0 (by omega)
            rw [List.getElem?_eq_getElem (by omega)] at this
            exact cell_lt this
      · have := RowG.keep (W := w) (Q := fun x us => IsN (fun k => B k /\ k < w.heap.size) w x us) id rfl (fun x us hx => IsN.tight x us hx) o t.kids e4
        rwa [List.map_id] at this
structure VS (w : World) (p : Nat) (d : ND) (av kvv : Value) {j : Nat} (ts : List (NT j)) (wr : World) : Prop where
  bel : Below w.heap.size w wr
  kp : Kept wr p (nodeC d av kvv)
  kq : Kept wr w.heap.size zeroC6
  hat : IsAB (fun k => w.heap.size < k /\ k ≠ p /\ kvv.ownBlock ≠ some k) wr av d.attrs
  row : RowN (fun k => w.heap.size < k /\ k ≠ p /\ kvv.ownBlock ≠ some k) (p + 1) wr kvv ts
  hp : w.heap.size < p
theorem VS.lt {w : World} {p : Nat} {d : ND} {av kvv : Value} {j : Nat} {ts : List (NT j)} {wr : World} (h : VS w p d av kvv ts wr) : p < wr.heap.size := cell_lt (h.kp.1 0)
theorem VS.step {w : World} {p : Nat} {d : ND} {av kvv : Value} {j : Nat} {ts : List (NT j)} {wr y1 : World} {t : NT j} {vs : List Value} (h : VS w p d av kvv ts wr) (hb : Below wr.heap.size wr y1) (hN : IsN (fun k => wr.heap.size <= k) y1 t vs) (hts : ts.length <= 1000000) :
    ∃ v' w', (Builtin.append_ #[23, 23] 23 #[kvv, .slice (some ⟨y1.heap.size, 0, none⟩) 1 1]).run Tryz.prog (y1.alloc (.cells vs.toArray 45)) = .ok v' w' /\ w'.cell? ⟨p, 5, none⟩ = some kvv /\ w'.frozen? ⟨p, 5, none⟩ = false /\ (∃ a n c, v' = .slice a n c) /\ VS w p d av v' (ts ++ [t]) (w'.setCell ⟨p, 5, none⟩ v') := by
  obtain ⟨cs, hcl, hown, hcN⟩ := h.row.ex
  have hpl := h.lt
  have hvl : vs.length = 6 := isN_len hN
  have hs1 := hb.size
  have bF := below_alloc y1 (.cells vs.toArray 45)
  have hbF : Below wr.heap.size wr (y1.alloc (.cells vs.toArray 45)) := hb.trans (bF.mono hs1)
  have hsz : (y1.alloc (.cells vs.toArray 45)).heap.size = y1.heap.size + 1 := by simp
  have hownF := owns_below hown hbF
  have h1c : ∀ u ∈ vs, u.oneCell' = true := by
    obtain ⟨q1, q2, q3, q4, q5, q6, q7, q8, q9, q10, rfl⟩ := hN.form
    intro u hu
    simp only [List.mem_cons, List.not_mem_nil, or_false] at hu
    rcases hu with rfl | rfl | rfl | rfl | rfl | rfl <;> rfl
  have hnews : ∀ j u, vs[j]? = some u -> (y1.alloc (.cells vs.toArray 45)).cell? ((⟨y1.heap.size, 0, none⟩ : Addr).add j) = some u := by
    intro j u hu
    rw [addr_add, World.cell?_alloc_mark]
    simpa using hu
  obtain ⟨v', w', hr, ho, hg, _⟩ := run_append_own (P := Tryz.prog) _ (p + 1) 23 23 45 Tryz.t45 _ 6 96 Tryz.underlying23 (by kernel_rfl) rfl (by kernel_rfl) (by kernel_rfl) (by kernel_rfl) (by omega)
    _ _ _ hownF ⟨y1.heap.size, 0, none⟩ 1 1 vs (by rw [hvl]) hnews h1c (by unfold maxLen; omega) (by omega) (by omega)
  have hown0 : (y1.alloc (.cells vs.toArray 45)).ownsRow 0 45 6 kvv ts.length cs.flatten := by
    refine ⟨hownF.1, ?_⟩
    rcases hownF.2 with h2 | ⟨g', cap', cur', e1, e2, e3⟩
    · exact .inl h2
    · exact .inr ⟨g', cap', cur', e1, Nat.zero_le _, e3⟩
  have hwh := append_where (P := Tryz.prog) _ 23 23 23 45 Tryz.t45 _ 6 Tryz.underlying23 (by kernel_rfl) rfl (by kernel_rfl) kvv ts.length cs.flatten hown0 _ 1 vs (Src.ofSlice _ Tryz.underlying23 ⟨y1.heap.size, 0, none⟩ 1 1 vs (by rw [hvl]) hnews h1c) (by unfold maxLen; omega) (by show _ * 96 <= _; omega) (fun _ => by omega) v' w' hr
  have hgp : ∀ k, kvv.ownBlock = some k -> p + 1 <= k /\ k < wr.heap.size := fun k e => hown.lt k e
  have hgp' : ∀ k, v'.ownBlock = some k -> p + 1 <= k := fun k e => (ho.lt k e).1
  -- what stays: blocks that are neither p nor the old row's
  have hkeep : ∀ k, k < y1.heap.size + 1 -> kvv.ownBlock ≠ some k -> k ≠ p -> (w'.setCell ⟨p, 5, none⟩ v').heap[k]? = (y1.alloc (.cells vs.toArray 45)).heap[k]? := fun k h1 h2 h3 => by
    rw [Below.heap_setCell _ _ _ _ h3]
    exact hg.block k (by rw [hsz]; exact h1) (fun e => h2 e.symm)
  have hpw : w'.heap[p]? = wr.heap[p]? := by
    rw [hg.block p (by rw [hsz]; omega) (fun e => by have := (hgp p e.symm).1; omega)]
    exact hbF.block p hpl
  have hqw : (w'.setCell ⟨p, 5, none⟩ v').heap[w.heap.size]? = wr.heap[w.heap.size]? := by
    have hp := h.hp
    rw [Below.heap_setCell _ _ _ _ (by simp only; omega), hg.block w.heap.size (by rw [hsz]; omega) (fun e => by have := (hgp _ e.symm).1; omega)]
    exact hbF.block _ (by omega)
  have hB' : ∀ k, (w.heap.size < k /\ k ≠ p /\ kvv.ownBlock ≠ some k) -> k < wr.heap.size -> (w'.setCell ⟨p, 5, none⟩ v').heap[k]? = wr.heap[k]? := fun k hk h2 => by
    rw [hkeep k (by omega) hk.2.2 hk.2.1]
    exact hbF.block k h2
  have hnew : ∀ k, k < wr.heap.size -> kvv.ownBlock ≠ some k -> v'.ownBlock ≠ some k := fun k h1 h2 e => by
    rcases hwh k e with h3 | h3
    · exact h2 h3
    · rw [hsz] at h3; omega
  obtain ⟨a2, c2, hform⟩ := owns_form ho
  have hp0 := h.hp
  refine ⟨v', w', hr, ?_, ?_, ⟨_, _, _, hform⟩, ⟨?_, ?_, h.kq.keep hqw, ?_, ⟨⟨cs ++ [vs], by simp [hcl], ?_, ?_⟩⟩, hp0⟩⟩
  · rw [World.cell?_of_block (a := ⟨p, 5, none⟩) hpw]
    exact h.kp.1 5
  · rw [World.frozen?_of_block (a := ⟨p, 5, none⟩) hpw]
    exact h.kp.2 5
  · have hw' : Below w.heap.size w w' := by
      refine (h.bel.trans (hbF.mono h.bel.size)).grown hg ?_ fun k e => ?_
      · have := h.bel.size; rw [hsz]; omega
      · have := (hgp k e).1; omega
    exact hw'.setCell (p := ⟨p, 5, none⟩) (by simp only; omega) v'
  · exact (Kept.keep h.kp hpw).set 5 (by simp [nodeC]) v'
  · exact (h.hat.tight.keep (fun k hk => hB' k hk.1 hk.2)).mono fun k hk => ⟨hk.1.1, hk.1.2.1, hnew k hk.2 hk.1.2.2⟩
  · rw [List.length_append, List.flatten_append]
    refine ownsRow_keep (by simpa using ho) fun k e => Below.heap_setCell _ _ _ _ (by have := hgp' k e; simp only; omega)
  · intro j h1 h2
    by_cases hj : j < cs.length
    · rw [List.getElem_append_left hj, List.getElem_append_left (by omega)]
      exact IsN.keep (fun k hk => hB' k hk.1 hk.2) (fun k hk => ⟨hk.1.1, hk.1.2.1, hnew k hk.2 hk.1.2.2⟩) _ _ (IsN.tight _ _ (hcN j hj (by omega)))
    · have hje : j = cs.length := by simp at h1; omega
      subst hje
      have e1 : (cs ++ [vs])[cs.length] = vs := by simp
      have e2 : (ts ++ [t])[cs.length] = t := by simp [hcl]
      rw [e1, e2]
      refine IsN.keep (fun k hk => ?_) (fun k hk => ?_) _ _ (IsN.tight _ _ hN)
      · rw [hkeep k (by omega) (fun e => by have := (hgp k e).2; omega) (by omega)]
        exact bF.block k hk.2
      · refine ⟨by have := h.bel.size; omega, by omega, fun e => ?_⟩
        rcases hwh k e with h3 | h3
        · have := (hgp k h3).2; omega
        · rw [hsz] at h3; omega
theorem VS.start {w x2 : World} {j : Nat} {p : Nat} {d : ND} {av : Value} (hp : p = x2.heap.size) (hb : Below w.heap.size w x2) (kq : Kept x2 w.heap.size zeroC6) (hA : IsA x2 av d.attrs) (hav : ∀ k, av.ownBlock = some k -> w.heap.size < k /\ k < x2.heap.size) : VS (j := j) w p d av (.slice none 0 0) [] (x2.alloc (.cells (nodeC d av (.slice none 0 0)).toArray 45)) := by
  subst hp
  have hq : w.heap.size < x2.heap.size := cell_lt (kq.1 0)
  have b := below_alloc x2 (.cells (nodeC d av (.slice none 0 0)).toArray 45)
  refine ⟨hb.trans (b.mono hb.size), Kept.new x2 _ _, kq.keep (b.block _ hq), ⟨hA.below b, .inr fun k e => ⟨(hav k e).1, by have := (hav k e).2; omega, by intro h; cases h⟩⟩, ⟨⟨[], rfl, World.ownsRow_nil _ _ _ _, by intro j h1; simp at h1⟩⟩, hq⟩
theorem VS.done {w : World} {p : Nat} {d : ND} {av kvv : Value} {j : Nat} {ts : List (NT j)} {wr : World} (h : VS w p d av kvv ts wr) : IsN (fun k => w.heap.size <= k) (set6 wr w.heap.size (.int .i64 d.kind) (.int .i64 d.space) (.string ⟨d.name.toArray⟩) av (.string ⟨d.text.toArray⟩) kvv) (NT.mk d ts) (nodeC d av kvv) /\ Below w.heap.size w (set6 wr w.heap.size (.int .i64 d.kind) (.int .i64 d.space) (.string ⟨d.name.toArray⟩) av (.string ⟨d.text.toArray⟩) kvv) := by
  refine ⟨?_, set6_below h.bel (Nat.le_refl _) _ _ _ _ _ _⟩
  have h1 : IsN (fun k => w.heap.size < k) wr (NT.mk d ts) (nodeC d av kvv) := by
    rw [isN_iff]
    obtain ⟨cs, e1, e2, e3⟩ := h.row.ex
    have hrow : RowN (fun k => w.heap.size < k) (p + 1) wr kvv ts := ⟨⟨cs, e1, e2, fun j h1 h2 => (e3 j h1 h2).mono fun k hk => hk.1⟩⟩
    exact ⟨av, kvv, rfl, h.hat.mono fun k hk => hk.1, hrow.isK fun k hk => by have := h.hp; omega⟩
  exact IsN.keep (fun k hk => set6_other _ _ _ _ _ _ _ _ k (by omega)) (fun k hk => Nat.le_of_lt hk) _ _ h1
end Go.Proofs.YtfohijnkeefcfaaGreatDoor.S5
namespace Go.Proofs.YtfohijnkeefcfaaGreatDoor.S5
open Go.RowKit
def ValP (T : TR) (pb n : Nat) : Prop := ∀ (A : Nat -> Prop) (w : World), PT A w pb T -> Calls Tryz.prog 19 #[.pointer (some ⟨pb, 0, none⟩), .int .i64 (n : Int)] w fun e w' => (∃ vs, e = .returned (.agg vs.toArray) /\ IsN (fun k => w.heap.size <= k) w' (valueL T n) vs) /\ Below w.heap.size w w'
theorem value_step {T : TR} (hW : WF T) (hz : T.length <= 1000000) (ha : ∀ i, (nodeAt T i).attrs.length <= 1000000) (pb n : Nat) (hn : n < T.length) (ih : ∀ x ∈ kidsAt T n, ValP T pb x) : ValP T pb n := by
  intro A w h
  have HVE := hide (hW.value_eq hn)
  have HIH := hide ih
  have b0 := below_alloc w (.cells #[.int .i64 0, .int .i64 0, .string ⟨#[]⟩, .slice none 0 0, .string ⟨#[]⟩, .slice none 0 0] 45)
  have HB0 := hide b0
  have HK0 : Hid (Kept (w.alloc (.cells #[.int .i64 0, .int .i64 0, .string ⟨#[]⟩, .slice none 0 0, .string ⟨#[]⟩, .slice none 0 0] 45)) w.heap.size zeroC6) := hide (Kept.new w zeroC6 45)
  have HH := hide (has_p (n : Int) (h.below b0))
  rw [raw_len, decide_eq_true (⟨by omega, by omega⟩ : 0 <= (n : Int) /\ (n : Int) < T.length)] at HH
  have HPT := hide h
  obtain ⟨g, cap, rs, hR, hP⟩ := h
  have hlr := map_len hR
  rw [raw_len] at hlr
  have hn2 : n < rs.length := by omega
  have hrn := map_get hR n hn2 (by rw [raw_len]; exact hn)
  rw [raw_get] at hrn
  have hnd : rs[n].rn.nd = nodeAt T n := by rw [hrn]; rfl
  have hkd : rs[n].rn.kids = kidsAt T n := by rw [hrn]; rfl
  have HPV := hide hP
  have HAL := hide (fun W (hb : Below w.heap.size w W) => alone_p (hP.below hb) n hn2 (by rw [hnd]; exact ha n))
  rw [hnd] at HAL
  have hki := hP.kid n hn2
  rw [hkd] at hki
  have HC2 : Hid (w.cell? ⟨g, n * 7 + 2, none⟩ = some rs[n].kv) := hide (hP.cellAt n hn2 2 (by omega))
  obtain ⟨ka, kc, ek⟩ := owns_form hki
  rw [ek] at HC2 hki
  have HKI := hide (owns_isI hki)
  have HKL : Hid (∀ k, (Value.slice ka (kidsAt T n).length kc).ownBlock = some k -> k < w.heap.size) := hide fun k e => (hki.lt k e).2
  have hkl : (kidsAt T n).length <= 1000000 := by have := hW.kids_len n; omega
  have hni : (n : Int) < T.length := by omega
  clear hP hR hrn hnd hkd hki ek b0 ih ha hW
  generalize hks : kidsAt T n = ks at *
  generalize nodeAt T n = d at *
  clear hks
  go_enter Tryz.func19, Tryz.ntmps19
  go_wp2_with fail
  refine HH.out.mono ?_
  rintro e x1 ⟨rfl, b1⟩
  have B1 := hide (HB0.out.trans (b1.mono HB0.out.size))
  have K1 := hide (Kept.below (v := .int .i64 0) (cs := [.int .i64 0, .string ⟨#[]⟩, .slice none 0 0, .string ⟨#[]⟩, .slice none 0 0]) HK0.out b1)
  have c0 := (HPV.out.below B1.out).tree
  rw [hlr] at c0
  clear b1
  go_wp2_with fail
  refine (HAL.out _ B1.out).mono ?_
  rintro e x2 ⟨⟨av, rfl, hA2, hav, ⟨aa, an, ac, rfl⟩⟩, b2⟩
  have B2 := hide (B1.out.trans (b2.mono B1.out.size))
  have K2 : Kept x2 w.heap.size zeroC6 := Kept.below (v := .int .i64 0) (cs := [.int .i64 0, .string ⟨#[]⟩, .slice none 0 0, .string ⟨#[]⟩, .slice none 0 0]) K1.out b2
  have hx1 : w.heap.size < x1.heap.size := cell_lt (K1.out.1 0)
  have hx12 := b2.size
  have hVS : VS (j := T.length + 1) w x2.heap.size d (.slice aa an ac) (.slice none 0 0) [] (x2.alloc (.cells #[.int .i64 d.kind, .int .i64 d.space, .string ⟨d.name.toArray⟩, .slice aa an ac, .string ⟨d.text.toArray⟩, .slice none 0 0] 45)) := by
    by_cases hae : d.attrs = []
    · refine ⟨B2.out.trans ((below_alloc x2 _).mono B2.out.size), Kept.new x2 _ _, K2.keep ((below_alloc x2 _).block _ (by omega)), ⟨hA2.below (below_alloc x2 _), .inl hae⟩, ⟨⟨[], rfl, World.ownsRow_nil _ _ _ _, by intro j h1; simp at h1⟩⟩, by omega⟩
    · refine VS.start rfl B2.out K2 hA2 fun k e => ⟨by have := hav k e; omega, ?_⟩
      rcases hA2 with ⟨_, h0⟩ | ⟨bb, oo, cc, e1, _, hcs⟩
      · exact absurd h0 hae
      · have hl0 : 0 < d.attrs.length := by
          cases hd : d.attrs with
          | nil => exact absurd hd hae
          | cons x y => simp
        rw [e1] at e
        have : bb = k := by simpa [Value.ownBlock] using e
        rw [<- this]
        exact cell_lt (hcs 0 hl0).1
  have c02 : x2.cell? ⟨pb, 0, none⟩ = some (.slice (some ⟨g, 0, none⟩) T.length cap) := (b2.cell (cell_lt c0)).trans c0
  have hpb : pb < x2.heap.size := cell_lt c02
  have c0a : (x2.alloc (.cells #[.int .i64 d.kind, .int .i64 d.space, .string ⟨d.name.toArray⟩, .slice aa an ac, .string ⟨d.text.toArray⟩, .slice none 0 0] 45)).cell? ⟨pb, 0, none⟩ = some (.slice (some ⟨g, 0, none⟩) T.length cap) := ((below_alloc x2 _).cell (cell_lt c02)).trans c02
  have c2a : (x2.alloc (.cells #[.int .i64 d.kind, .int .i64 d.space, .string ⟨d.name.toArray⟩, .slice aa an ac, .string ⟨d.text.toArray⟩, .slice none 0 0] 45)).cell? ⟨g, n * 7 + 2, none⟩ = some (.slice ka ks.length kc) := by
    have h2 : x2.cell? ⟨g, n * 7 + 2, none⟩ = some (.slice ka ks.length kc) := (B2.out.cell (cell_lt HC2.out)).trans HC2.out
    exact ((below_alloc x2 _).cell (cell_lt h2)).trans h2
  have HVS := hide hVS
  clear hVS hA2 hav b2 c0 c02 K1 K2
  go_wp2_with fail
  generalize x2.alloc (.cells #[.int .i64 d.kind, .int .i64 d.space, .string ⟨d.name.toArray⟩, .slice aa an ac, .string ⟨d.text.toArray⟩, .slice none 0 0] 45) = W3 at *
  clear c0a c2a hpb hx12 hx1 B2
  generalize x2.heap.size = p at *
  go_loopw [7, 30] (fun v7 vi wr => ∃ (i : Nat) (kvv : Value), vi = .int .i64 (i : Int) /\ i <= ks.length /\ Hid (VS w p d (.slice aa an ac) kvv ((ks.take i).map (valueL T)) wr /\ ∃ a n c, kvv = .slice a n c)) (fun _ vi _ => ks.length - (intOf vi).toNat)
  case atStart => exact ⟨0, .slice none 0 0, rfl, by omega, hide ⟨HVS.out, _, _, _, rfl⟩⟩
  case round =>
    clear HVS
    obtain ⟨i, kvv, rfl, hi, HV⟩ := hrel
    obtain ⟨hV, qa, qn, qc, rfl⟩ := HV.out
    have k0 : wr.cell? ⟨p, 0, none⟩ = some (.int .i64 d.kind) := hV.kp.1 0
    have k1 : wr.cell? ⟨p, 1, none⟩ = some (.int .i64 d.space) := hV.kp.1 1
    have k2 : wr.cell? ⟨p, 2, none⟩ = some (.string ⟨d.name.toArray⟩) := hV.kp.1 2
    have k3 : wr.cell? ⟨p, 3, none⟩ = some (.slice aa an ac) := hV.kp.1 3
    have k4 : wr.cell? ⟨p, 4, none⟩ = some (.string ⟨d.text.toArray⟩) := hV.kp.1 4
    have k5 : wr.cell? ⟨p, 5, none⟩ = some (.slice qa qn qc) := hV.kp.1 5
    by_cases hlt : i < ks.length
    · have hlt2 : (i : Int) < ks.length := by omega
      have hIr : IsI wr (.slice ka ks.length kc) ks := by
        have hIB : IsIB (fun k => k < w.heap.size) w (.slice ka ks.length kc) ks := ⟨HKI.out, .inr HKL.out⟩
        exact (hIB.keep fun k hk => hV.bel.block k hk).1
      obtain ⟨kb, ko, rfl, hkc⟩ := hIr.at (by omega)
      have ck := hkc i hlt
      have HD := hide (Below.refl wr.heap.size wr).drew
      have HVAL := hide (HIH.out ks[i] (List.getElem_mem hlt) A wr.drew ((HPT.out.below hV.bel).below (Below.refl wr.heap.size wr).drew))
      have HTK : Hid ((ks.take (i + 1)).map (valueL T) = (ks.take i).map (valueL T) ++ [valueL T ks[i]]) := hide (by rw [List.take_succ_eq_append_getElem hlt, List.map_append]; rfl)
      have hmi : ((ks.take i).map (valueL T)).length <= 1000000 := by rw [List.length_map, List.length_take]; omega
      have HPOST : Hid (∀ e y1, ((∃ vs, e = Ending.returned (.agg vs.toArray) /\ IsN (fun k => wr.drew.heap.size <= k) y1 (valueL T ks[i]) vs) /\ Below wr.drew.heap.size wr.drew y1) -> ∃ (q1 q2 : Int) (q3 : ByteArray) (q4 : Option Addr) (q5 q6 : Nat) (q7 : ByteArray) (q8 : Option Addr) (q9 q10 : Nat) (ra : Option Addr) (rn rc : Nat) (w' : World), e = .returned (.agg #[.int .i64 q1, .int .i64 q2, .string q3, .slice q4 q5 q6, .string q7, .slice q8 q9 q10]) /\ y1.cell? ⟨p, 5, none⟩ = some (.slice qa qn qc) /\ (y1.alloc (.cells #[.int .i64 q1, .int .i64 q2, .string q3, .slice q4 q5 q6, .string q7, .slice q8 q9 q10] 45)).cell? ⟨p, 5, none⟩ = some (.slice qa qn qc) /\ Hid ((Builtin.append_ #[23, 23] 23 #[.slice qa qn qc, .slice (some ⟨y1.heap.size, 0, none⟩) 1 1]).run Tryz.prog (y1.alloc (.cells #[.int .i64 q1, .int .i64 q2, .string q3, .slice q4 q5 q6, .string q7, .slice q8 q9 q10] 45)) = .ok (.slice ra rn rc) w') /\ w'.cell? ⟨p, 5, none⟩ = some (.slice qa qn qc) /\ w'.frozen? ⟨p, 5, none⟩ = false /\ Hid (VS w p d (.slice aa an ac) (.slice ra rn rc) ((ks.take (i + 1)).map (valueL T)) (w'.setCell ⟨p, 5, none⟩ (.slice ra rn rc)))) := hide (by
        rintro e y1 ⟨⟨vs, rfl, hN⟩, b1⟩
        have hb : Below wr.heap.size wr y1 := HD.out.trans b1
        obtain ⟨v', w', hr, u1, u2, ⟨ra, rn, rc, rfl⟩, hV'⟩ := hV.step hb hN hmi
        obtain ⟨q1, q2, q3, q4, q5, q6, q7, q8, q9, q10, rfl⟩ := hN.form
        have hc5 : y1.cell? ⟨p, 5, none⟩ = some (.slice qa qn qc) := (hb.cell (cell_lt k5)).trans k5
        refine ⟨q1, q2, q3, q4, q5, q6, q7, q8, q9, q10, ra, rn, rc, w', rfl, hc5, ((below_alloc y1 _).cell (cell_lt hc5)).trans hc5, hide hr, u1, u2, hide ?_⟩
        rw [HTK.out]
        exact hV')
      have HVV := HV
      clear hIr hkc hV HV HTK hmi
      generalize valueL T ks[i] = tv at *
      generalize ks[i] = x at *
      go_wp2_with fail
      go_region_law (first | (refine step_append_run rfl (.tmp 35) (.tmp 39) 23 23 rfl (.slice qa qn qc) (.slice (some ⟨y1.heap.size, 0, none⟩) 1 1) (by simp [Act.eval, Act.put]) (by simp [Act.eval, Act.put]) HR.out ?_) | (refine step_call_enter rfl 19 #[.pointer (some ⟨pb, 0, none⟩), .int .i64 (x : Int)] ?_ HVAL.out ?_; go_simp; intro e y1 hh; obtain ⟨q1, q2, q3, q4, q5, q6, q7, q8, q9, q10, ra, rn, rc, w', rfl, z5, z5a, HR, z6, z6f, HVN⟩ := HPOST.out e y1 hh; refine ⟨_, rfl, ?_⟩; clear hh))
      all_goals
        go_wp2
        go_roundw
        case rel => exact ⟨i + 1, .slice ra rn rc, by go_num, by omega, hide ⟨HVN.out, _, _, _, rfl⟩⟩
        case measure => simp [intOf]; omega
    · have hlt2 : ¬ (i : Int) < ks.length := by omega
      have hke : ks.take i = ks := List.take_of_length_le (by omega)
      rw [hke] at hV
      obtain ⟨hN, hB⟩ := hV.done
      rw [<- HVE.out] at hN; replace hN := IsN.lift _ _ hN
      have HF := hide (And.intro hN hB)
      have j0 : wr.cell? ⟨w.heap.size, 0, none⟩ = some (.int .i64 0) := hV.kq.1 0
      have j1 : wr.cell? ⟨w.heap.size, 1, none⟩ = some (.int .i64 0) := hV.kq.1 1
      have j2 : wr.cell? ⟨w.heap.size, 2, none⟩ = some (.string ⟨#[]⟩) := hV.kq.1 2
      have j3 : wr.cell? ⟨w.heap.size, 3, none⟩ = some (.slice none 0 0) := hV.kq.1 3
      have j4 : wr.cell? ⟨w.heap.size, 4, none⟩ = some (.string ⟨#[]⟩) := hV.kq.1 4
      have j5 : wr.cell? ⟨w.heap.size, 5, none⟩ = some (.slice none 0 0) := hV.kq.1 5
      have jf := hV.kq.2
      clear hN hB hV HV hke
      go_wp2
      refine bodyPost_ret (v := .agg #[.int .i64 d.kind, .int .i64 d.space, .string ⟨d.name.toArray⟩, .slice aa an ac, .string ⟨d.text.toArray⟩, .slice qa qn qc]) ?_ rfl ⟨⟨_, rfl, HF.out.1⟩, HF.out.2⟩
      rw [results_cell_one rfl]
      go_simp
end Go.Proofs.YtfohijnkeefcfaaGreatDoor.S5
namespace Go.Proofs.YtfohijnkeefcfaaGreatDoor.S5
open Go.RowKit
theorem value_all {T : TR} (hW : WF T) (hz : T.length <= 1000000) (ha : ∀ i, (nodeAt T i).attrs.length <= 1000000) (pb n : Nat) (hn : n < T.length) : ValP T pb n := by
  obtain ⟨r, hr, hb⟩ := hW.ranked
  have main : ∀ f n, n < T.length -> T.length <= r n + f -> ValP T pb n := by
    intro f
    induction f with
    | zero =>
      intro n hn hf
      have := hb n hn
      omega
    | succ f ih =>
      intro n hn hf
      refine value_step hW hz ha pb n hn fun x hx => ih x (hW.inb n x hx).2 ?_
      have := hr n x hx
      omega
  exact main T.length n hn (by omega)
def valueZ (T : TR) (z : Int) : NT (T.length + 1) := if inT T z then valueL T z.toNat else .mk {} []
theorem zero_isN6 (B : Nat -> Prop) (w : World) {k : Nat} : IsN B w (NT.mk (k := k) {} []) zeroC6 := by
  rw [isN_iff]
  exact ⟨_, _, rfl, ⟨.inl ⟨rfl, rfl⟩, .inl rfl⟩, .inl ⟨rfl, rfl⟩⟩
theorem valueZ_p {T : TR} (hW : WF T) (hz : T.length <= 1000000) (ha : ∀ i, (nodeAt T i).attrs.length <= 1000000) (pb : Nat) (z : Int) {A : Nat -> Prop} {w : World} (h : PT A w pb T) : Calls Tryz.prog 19 #[.pointer (some ⟨pb, 0, none⟩), .int .i64 z] w fun e w' => (∃ vs, e = .returned (.agg vs.toArray) /\ IsN (fun k => w.heap.size <= k) w' (valueZ T z) vs) /\ Below w.heap.size w w' := by
  unfold valueZ
  by_cases hi : inT T z
  · rw [if_pos hi]
    obtain ⟨h1, h2⟩ := inT_nat hi
    have := value_all hW hz ha pb z.toNat h1 A w h
    rw [<- h2] at this
    exact this
  · rw [if_neg hi]
    have b0 := below_alloc w (.cells #[.int .i64 0, .int .i64 0, .string ⟨#[]⟩, .slice none 0 0, .string ⟨#[]⟩, .slice none 0 0] 45)
    have HH := hide (has_p z (h.below b0))
    rw [raw_len, show decide (0 <= z /\ z < T.length) = false from decide_eq_false hi] at HH
    have B0 := hide b0
    have K0 : Hid (Kept (w.alloc (.cells #[.int .i64 0, .int .i64 0, .string ⟨#[]⟩, .slice none 0 0, .string ⟨#[]⟩, .slice none 0 0] 45)) w.heap.size zeroC6) := hide (Kept.new w zeroC6 45)
    clear b0 hi h hW ha
    go_enter Tryz.func19, Tryz.ntmps19
    go_wp2_with fail
    refine HH.out.mono ?_
    rintro e x1 ⟨rfl, b1⟩
    have q := Kept.below (v := .int .i64 0) (cs := [.int .i64 0, .string ⟨#[]⟩, .slice none 0 0, .string ⟨#[]⟩, .slice none 0 0]) K0.out b1
    have k0 : x1.cell? ⟨w.heap.size, 0, none⟩ = some (.int .i64 0) := q.1 0
    have k1 : x1.cell? ⟨w.heap.size, 1, none⟩ = some (.int .i64 0) := q.1 1
    have k2 : x1.cell? ⟨w.heap.size, 2, none⟩ = some (.string ⟨#[]⟩) := q.1 2
    have k3 : x1.cell? ⟨w.heap.size, 3, none⟩ = some (.slice none 0 0) := q.1 3
    have k4 : x1.cell? ⟨w.heap.size, 4, none⟩ = some (.string ⟨#[]⟩) := q.1 4
    have k5 : x1.cell? ⟨w.heap.size, 5, none⟩ = some (.slice none 0 0) := q.1 5
    have kf := q.2
    have B1 := hide (B0.out.trans (b1.mono B0.out.size))
    clear b1 q
    go_wp2
    refine bodyPost_ret (v := .agg zeroC6.toArray) ?_ rfl ⟨⟨_, rfl, zero_isN6 _ _⟩, set6_below B1.out (Nat.le_refl _) _ _ _ _ _ _⟩
    rw [results_cell_one rfl]
    unfold zeroC6
    go_simp
end Go.Proofs.YtfohijnkeefcfaaGreatDoor.S5
