/- The program's Value: a node with all that is within it. -/
import Derived.Test.YtjgklemhlmgheaaVP5
set_option linter.unusedVariables false
set_option linter.unusedSimpArgs false
namespace Go.Proofs.Ytjgklemhlmgheaa
open Go.RowKit

theorem step_call_enter {P : Program} {ops : Array Oper} {o : Oper} {a : Act} {w : World} {K : Act → World → Prop} {Q : Exit → Act → World → Prop} {E : Prop}
    (hg : o.guard = none) (f : FuncId) (vs : Array Value) (hx : (execOp a.eval o).run P w = .ok (.enter f vs) w) {R : Ending → World → Prop} (hC : Calls P f vs w R) (hK : ∀ e w', R e w' → ∃ v, e = .returned v ∧ K (a.put o.dst v) w') :
    if Region.wanted o (yielded ops a.tmps) = true then Oper.wp P o a w K Q else E := by
  have hw : Region.wanted o (yielded ops a.tmps) = true := by simp [Region.wanted, hg]
  rw [if_pos hw]
  unfold Oper.wp
  rw [hx, Oper.upon_enter]
  refine hC.mono ?_
  intro e w' h
  obtain ⟨v, rfl, hk⟩ := hK e w' h
  exact hk
def zeroC6 : List Value := [.int .i64 0, .int .i64 0, .string ⟨#[]⟩, .slice none 0 0, .string ⟨#[]⟩, .slice none 0 0]
theorem IsN.tight {B : Nat → Prop} {w : World} : ∀ {k : Nat} (t : NT k) (vs : List Value), IsN B w t vs → IsN (fun k => B k ∧ k < w.heap.size) w t vs
  | 0, t, _, _ => t.none
  | k + 1, t, vs, h => by
    obtain ⟨av, kv, h1, h2, h3⟩ := h
    refine ⟨av, kv, h1, h2.tight, ?_⟩
    rcases h3 with h3 | ⟨b, o, cap, e1, e2, e3, e4⟩
    · exact .inl h3
    · refine .inr ⟨b, o, cap, e1, e2, ?_, ?_⟩
      · rcases e3 with e3 | e3
        · exact .inl e3
        · by_cases hk : t.kids = []
          · exact .inl hk
          · right
            refine ⟨e3, ?_⟩
            have hl : 0 < t.kids.length := by
              cases hks : t.kids with
              | nil => exact absurd hks hk
              | cons a r => simp
            obtain ⟨vs', g1, g2⟩ := IsNs.get o t.kids e4 0 hl
            have hl6 := isN_len g2
            have := g1 0 (by omega)
            rw [List.getElem?_eq_getElem (by omega)] at this
            exact cell_lt this
      · have := RowG.keep (W := w) (Q := fun x us => IsN (fun k => B k ∧ k < w.heap.size) w x us) id rfl (fun x us hx => IsN.tight x us hx) o t.kids e4
        rwa [List.map_id] at this
/-- What stands while a node's kids are laid. -/
structure VS (w : World) (p : Nat) (d : ND) (av kvv : Value) {j : Nat} (ts : List (NT j)) (wr : World) : Prop where
  bel : Below w.heap.size w wr
  kp : Kept wr p (nodeC d av kvv)
  kq : Kept wr w.heap.size zeroC6
  hat : IsAB (fun k => w.heap.size < k ∧ k ≠ p ∧ kvv.ownBlock ≠ some k) wr av d.attrs
  row : RowN (fun k => w.heap.size < k ∧ k ≠ p ∧ kvv.ownBlock ≠ some k) (p + 1) wr kvv ts
  hp : w.heap.size < p
theorem VS.lt {w : World} {p : Nat} {d : ND} {av kvv : Value} {j : Nat} {ts : List (NT j)} {wr : World} (h : VS w p d av kvv ts wr) : p < wr.heap.size := cell_lt (h.kp.1 0)
theorem VS.step {w : World} {p : Nat} {d : ND} {av kvv : Value} {j : Nat} {ts : List (NT j)} {wr y1 : World} {t : NT j} {vs : List Value} (h : VS w p d av kvv ts wr) (hb : Below wr.heap.size wr y1) (hN : IsN (fun k => wr.heap.size ≤ k) y1 t vs) (hts : ts.length ≤ 1000000) :
    ∃ v' w', (Builtin.append_ #[39, 39] 39 #[kvv, .slice (some ⟨y1.heap.size, 0, none⟩) 1 1]).run Try.prog (y1.alloc (.cells vs.toArray 41)) = .ok v' w' ∧ w'.cell? ⟨p, 5, none⟩ = some kvv ∧ w'.frozen? ⟨p, 5, none⟩ = false ∧ (∃ a n c, v' = .slice a n c) ∧ VS w p d av v' (ts ++ [t]) (w'.setCell ⟨p, 5, none⟩ v') := by
  obtain ⟨cs, hcl, hown, hcN⟩ := h.row.ex
  have hpl := h.lt
  have hvl : vs.length = 6 := isN_len hN
  have hs1 := hb.size
  have bF := below_alloc y1 (.cells vs.toArray 41)
  have hbF : Below wr.heap.size wr (y1.alloc (.cells vs.toArray 41)) := hb.trans (bF.mono hs1)
  have hsz : (y1.alloc (.cells vs.toArray 41)).heap.size = y1.heap.size + 1 := by simp
  have hownF := owns_below hown hbF
  have h1c : ∀ u ∈ vs, u.oneCell' = true := by
    obtain ⟨q1, q2, q3, q4, q5, q6, q7, q8, q9, q10, rfl⟩ := hN.form
    intro u hu
    simp only [List.mem_cons, List.not_mem_nil, or_false] at hu
    rcases hu with rfl | rfl | rfl | rfl | rfl | rfl <;> rfl
  have hnews : ∀ j u, vs[j]? = some u → (y1.alloc (.cells vs.toArray 41)).cell? ((⟨y1.heap.size, 0, none⟩ : Addr).add j) = some u := by
    intro j u hu
    rw [addr_add, World.cell?_alloc_mark]
    simpa using hu
  obtain ⟨v', w', hr, ho, hg, _⟩ := run_append_own (P := Try.prog) _ (p + 1) 39 39 41 Try.t41 _ 6 96 Try.underlying39 (by kernel_rfl) rfl (by kernel_rfl) (by kernel_rfl) (by kernel_rfl) (by omega)
    _ _ _ hownF ⟨y1.heap.size, 0, none⟩ 1 1 vs (by rw [hvl]) hnews h1c (by unfold maxLen; omega) (by omega) (by omega)
  have hown0 : (y1.alloc (.cells vs.toArray 41)).ownsRow 0 41 6 kvv ts.length cs.flatten := by
    refine ⟨hownF.1, ?_⟩
    rcases hownF.2 with h2 | ⟨g', cap', cur', e1, e2, e3⟩
    · exact .inl h2
    · exact .inr ⟨g', cap', cur', e1, Nat.zero_le _, e3⟩
  have hwh := append_where (P := Try.prog) _ 39 39 39 41 Try.t41 _ 6 Try.underlying39 (by kernel_rfl) rfl (by kernel_rfl) kvv ts.length cs.flatten hown0 _ 1 vs (Src.ofSlice _ Try.underlying39 ⟨y1.heap.size, 0, none⟩ 1 1 vs (by rw [hvl]) hnews h1c) (by unfold maxLen; omega) (by show _ * 96 ≤ _; omega) (fun _ => by omega) v' w' hr
  have hgp : ∀ k, kvv.ownBlock = some k → p + 1 ≤ k ∧ k < wr.heap.size := fun k e => hown.lt k e
  have hgp' : ∀ k, v'.ownBlock = some k → p + 1 ≤ k := fun k e => (ho.lt k e).1
  -- what stays: blocks that are neither p nor the old row's
  have hkeep : ∀ k, k < y1.heap.size + 1 → kvv.ownBlock ≠ some k → k ≠ p → (w'.setCell ⟨p, 5, none⟩ v').heap[k]? = (y1.alloc (.cells vs.toArray 41)).heap[k]? := fun k h1 h2 h3 => by
    rw [Below.heap_setCell _ _ _ _ h3]
    exact hg.block k (by rw [hsz]; exact h1) (fun e => h2 e.symm)
  have hpw : w'.heap[p]? = wr.heap[p]? := by
    rw [hg.block p (by rw [hsz]; omega) (fun e => by have := (hgp p e.symm).1; omega)]
    exact hbF.block p hpl
  have hqw : (w'.setCell ⟨p, 5, none⟩ v').heap[w.heap.size]? = wr.heap[w.heap.size]? := by
    have hp := h.hp
    rw [Below.heap_setCell _ _ _ _ (by simp only; omega), hg.block w.heap.size (by rw [hsz]; omega) (fun e => by have := (hgp _ e.symm).1; omega)]
    exact hbF.block _ (by omega)
  have hB' : ∀ k, (w.heap.size < k ∧ k ≠ p ∧ kvv.ownBlock ≠ some k) → k < wr.heap.size → (w'.setCell ⟨p, 5, none⟩ v').heap[k]? = wr.heap[k]? := fun k hk h2 => by
    rw [hkeep k (by omega) hk.2.2 hk.2.1]
    exact hbF.block k h2
  have hnew : ∀ k, k < wr.heap.size → kvv.ownBlock ≠ some k → v'.ownBlock ≠ some k := fun k h1 h2 e => by
    rcases hwh k e with h3 | h3
    · exact h2 h3
    · rw [hsz] at h3; omega
  obtain ⟨a2, c2, hform⟩ := owns_form ho
  have hp0 := h.hp
  refine ⟨v', w', hr, ?_, ?_, ⟨_, _, _, hform⟩, ⟨?_, ?_, h.kq.keep hqw, ?_, ⟨⟨cs ++ [vs], by simp [hcl], ?_, ?_⟩⟩, hp0⟩⟩
  · rw [World.cell?_of_block (a := ⟨p, 5, none⟩) hpw]
    exact h.kp.1 5
  · rw [World.frozen?_of_block (a := ⟨p, 5, none⟩) hpw]
    exact h.kp.2 5
  · have hw' : Below w.heap.size w w' := by
      refine (h.bel.trans (hbF.mono h.bel.size)).grown hg ?_ fun k e => ?_
      · have := h.bel.size; rw [hsz]; omega
      · have := (hgp k e).1; omega
    exact hw'.setCell (p := ⟨p, 5, none⟩) (by simp only; omega) v'
  · exact (Kept.keep h.kp hpw).set 5 (by simp [nodeC]) v'
  · exact (h.hat.tight.keep (fun k hk => hB' k hk.1 hk.2)).mono fun k hk => ⟨hk.1.1, hk.1.2.1, hnew k hk.2 hk.1.2.2⟩
  · rw [List.length_append, List.flatten_append]
    refine ownsRow_keep (by simpa using ho) fun k e => Below.heap_setCell _ _ _ _ (by have := hgp' k e; simp only; omega)
  · intro j h1 h2
    by_cases hj : j < cs.length
    · rw [List.getElem_append_left hj, List.getElem_append_left (by omega)]
      exact IsN.keep (fun k hk => hB' k hk.1 hk.2) (fun k hk => ⟨hk.1.1, hk.1.2.1, hnew k hk.2 hk.1.2.2⟩) _ _ (IsN.tight _ _ (hcN j hj (by omega)))
    · have hje : j = cs.length := by simp at h1; omega
      subst hje
      have e1 : (cs ++ [vs])[cs.length] = vs := by simp
      have e2 : (ts ++ [t])[cs.length] = t := by simp [hcl]
      rw [e1, e2]
      refine IsN.keep (fun k hk => ?_) (fun k hk => ?_) _ _ (IsN.tight _ _ hN)
      · rw [hkeep k (by omega) (fun e => by have := (hgp k e).2; omega) (by omega)]
        exact bF.block k hk.2
      · refine ⟨by have := h.bel.size; omega, by omega, fun e => ?_⟩
        rcases hwh k e with h3 | h3
        · have := (hgp k h3).2; omega
        · rw [hsz] at h3; omega
theorem VS.start {w x2 : World} {j : Nat} {p : Nat} {d : ND} {av : Value} (hp : p = x2.heap.size) (hb : Below w.heap.size w x2) (kq : Kept x2 w.heap.size zeroC6) (hA : IsA x2 av d.attrs) (hav : ∀ k, av.ownBlock = some k → w.heap.size < k ∧ k < x2.heap.size) : VS (j := j) w p d av (.slice none 0 0) [] (x2.alloc (.cells (nodeC d av (.slice none 0 0)).toArray 41)) := by
  subst hp
  have hq : w.heap.size < x2.heap.size := cell_lt (kq.1 0)
  have b := below_alloc x2 (.cells (nodeC d av (.slice none 0 0)).toArray 41)
  refine ⟨hb.trans (b.mono hb.size), Kept.new x2 _ _, kq.keep (b.block _ hq), ⟨hA.below b, .inr fun k e => ⟨(hav k e).1, by have := (hav k e).2; omega, by intro h; cases h⟩⟩, ⟨⟨[], rfl, World.ownsRow_nil _ _ _ _, by intro j h1; simp at h1⟩⟩, hq⟩
theorem VS.done {w : World} {p : Nat} {d : ND} {av kvv : Value} {j : Nat} {ts : List (NT j)} {wr : World} (h : VS w p d av kvv ts wr) : IsN (fun k => w.heap.size ≤ k) (set6 wr w.heap.size (.int .i64 d.kind) (.int .i64 d.space) (.string ⟨d.name.toArray⟩) av (.string ⟨d.text.toArray⟩) kvv) (NT.mk d ts) (nodeC d av kvv) ∧ Below w.heap.size w (set6 wr w.heap.size (.int .i64 d.kind) (.int .i64 d.space) (.string ⟨d.name.toArray⟩) av (.string ⟨d.text.toArray⟩) kvv) := by
  refine ⟨?_, set6_below h.bel (Nat.le_refl _) _ _ _ _ _ _⟩
  have h1 : IsN (fun k => w.heap.size < k) wr (NT.mk d ts) (nodeC d av kvv) := by
    rw [isN_iff]
    obtain ⟨cs, e1, e2, e3⟩ := h.row.ex
    have hrow : RowN (fun k => w.heap.size < k) (p + 1) wr kvv ts := ⟨⟨cs, e1, e2, fun j h1 h2 => (e3 j h1 h2).mono fun k hk => hk.1⟩⟩
    exact ⟨av, kvv, rfl, h.hat.mono fun k hk => hk.1, hrow.isK fun k hk => by have := h.hp; omega⟩
  exact IsN.keep (fun k hk => set6_other _ _ _ _ _ _ _ _ k (by omega)) (fun k hk => Nat.le_of_lt hk) _ _ h1
end Go.Proofs.Ytjgklemhlmgheaa
