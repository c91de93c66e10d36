import Derived.Test.YthpepkfodcgbcaaWq05
import Derived.Test.YthpepkfodcgbcaaWq12
import Derived.Test.YthpepkfodcgbcaaWq07
import Derived.ProofKit
import Derived.Test.YthpepkfodcgbcaaWq04
import Derived.Deep.SlicePairs
import Derived.Deep.Slices
import Derived.OpenShut
import Derived.Lib.SmallJoins
import Derived.Test.YthpepkfodcgbcaaWq02
/- Records as the program reads them: out of cells, with a cell of nothing for a sector that is none. No program in it. -/
set_option linter.unusedVariables false
set_option linter.unusedSimpArgs false
namespace Go.Proofs.Ythpepkfodcgbcaa

def cellO (s : Bs) : CL := (decC s).getD zeroC
theorem cellO_some {s : Bs} {c : CL} (h : decC s = some c) : cellO s = c := by unfold cellO; rw [h]; rfl
theorem cellO_none {s : Bs} (h : decC s = none) : cellO s = zeroC := by unfold cellO; rw [h]; rfl
theorem cellsP_some : ∀ {l : List Bs} {cs : List CL}, cellsL l = some cs → l.map cellO = cs
  | [], cs, h => by cases h; rfl
  | s :: r, cs, h => by
    unfold cellsL at h
    split at h
    · cases h
    · next c hc =>
      split at h
      · cases h
      · next ds hd =>
        cases h
        rw [List.map_cons, cellO_some hc, cellsP_some hd]
theorem cellsP_none : ∀ {l : List Bs}, cellsL l = none → zeroC ∈ l.map cellO
  | [], h => by cases h
  | s :: r, h => by
    unfold cellsL at h
    split at h
    · next hc => rw [List.map_cons, cellO_none hc]; exact List.mem_cons_self ..
    · split at h
      · next hd => exact List.mem_cons_of_mem _ (cellsP_none hd)
      · cases h
theorem join_zero {l : List CL} (h : zeroC ∈ l) : joinC l = none := by
  refine join_no ?_
  rintro ⟨c, r, rfl, _, ha⟩
  obtain ⟨i, hi, e⟩ := List.getElem_of_mem h
  have h1 := (ha i hi).2.2.2.1
  rw [e] at h1
  have h2 : (0 : Int) = ((c :: r).length : Int) := h1
  rw [List.length_cons] at h2
  omega
theorem join_map (l : List Bs) : joinC (l.map cellO) = (match cellsL l with | none => none | some cs => joinC cs) := by
  cases h : cellsL l with
  | none => exact join_zero (cellsP_none h)
  | some cs => rw [cellsP_some h]
/-- The record that begins here, as the program finds it. -/
def recP (ep : Nat) (cs : List CL) (least : Nat) : Option (Bs × Nat × Nat) :=
  match cs with
  | [] => none
  | c :: _ => if c.ep = ep ∧ least ≤ c.li ∧ c.of ≤ cs.length then
      match joinC (cs.take c.of.toNat) with
      | none => none
      | some b => some (b, c.li, c.of.toNat)
    else none
theorem recP_is (ep : Nat) (l : List Bs) (least : Nat) : recP ep (l.map cellO) least = (match recL ep l with | none => none | some (b, li, n) => if least ≤ li then some (b, li, n) else none) := by
  cases l with
  | nil => rfl
  | cons s r =>
    cases hc : decC s with
    | none =>
      have e1 : recL ep (s :: r) = none := by unfold recL; simp only [hc]
      have e2 : recP ep ((s :: r).map cellO) least = none := by
        rw [List.map_cons, cellO_none hc]
        unfold recP
        simp only
        split
        · rfl
        · rfl
      rw [e1, e2]
    | some c =>
      have hm := (enc_dec hc).2.1
      have e1 : recL ep (s :: r) = if c.ep = ep ∧ c.part = 0 ∧ c.of.toNat ≤ (s :: r).length then
        match cellsL ((s :: r).take c.of.toNat) with
        | none => none
        | some cs => match joinC cs with
          | none => none
          | some b => some (b, c.li, c.of.toNat)
        else none := by
        rw [recL]
        simp only [hc]
        rfl
      have e2 : recP ep ((s :: r).map cellO) least = if c.ep = ep ∧ least ≤ c.li ∧ c.of ≤ (s :: r).length then
        match joinC (((s :: r).take c.of.toNat).map cellO) with
        | none => none
        | some b => some (b, c.li, c.of.toNat)
        else none := by
        rw [List.map_cons, cellO_some hc]
        unfold recP
        simp only [List.length_cons, List.length_map]
        rw [show (c :: List.map cellO r).take c.of.toNat = ((s :: r).take c.of.toNat).map cellO by rw [List.map_take, List.map_cons, cellO_some hc]]
      have hpart : c.part ≠ 0 → joinC (((s :: r).take c.of.toNat).map cellO) = none := by
        intro hp
        refine join_no ?_
        rintro ⟨d, t, e, _, ha⟩
        obtain ⟨k, hk⟩ : ∃ k, c.of.toNat = k + 1 := ⟨c.of.toNat - 1, by have := hm.1; have := hm.2.1; omega⟩
        rw [hk, List.take_succ_cons, List.map_cons, cellO_some hc] at e
        have h0 := ha 0 (by rw [hk, List.take_succ_cons, List.map_cons, List.length_cons]; omega)
        have h1 := h0.2.2.1
        simp only [hk, List.take_succ_cons, List.map_cons, List.getElem_cons_zero, cellO_some hc] at h1
        exact hp h1
      rw [e1, e2, join_map]
      by_cases h1 : c.ep = ep
      · by_cases h2 : c.of ≤ (s :: r).length
        · have h2' : c.of.toNat ≤ (s :: r).length := by omega
          by_cases h3 : c.part = 0
          · by_cases h4 : least ≤ c.li
            · rw [if_pos ⟨h1, h4, h2⟩, if_pos ⟨h1, h3, h2'⟩]
              cases cellsL ((s :: r).take c.of.toNat) with
              | none => rfl
              | some cs => cases hj : joinC cs with
                | none => simp only [hj]
                | some b => simp only [hj, if_pos h4]
            · rw [if_neg (fun h : c.ep = ep ∧ least ≤ c.li ∧ c.of ≤ (s :: r).length => h4 h.2.1), if_pos ⟨h1, h3, h2'⟩]
              cases cellsL ((s :: r).take c.of.toNat) with
              | none => rfl
              | some cs => cases hj : joinC cs with
                | none => simp only [hj]
                | some b => simp only [hj, if_neg h4]
          · rw [if_neg (fun h : c.ep = ep ∧ c.part = 0 ∧ c.of.toNat ≤ (s :: r).length => h3 h.2.1)]
            have h5 := hpart h3
            rw [join_map] at h5
            rw [h5]
            split
            · rfl
            · rfl
        · rw [if_neg (fun h : c.ep = ep ∧ least ≤ c.li ∧ c.of ≤ (s :: r).length => h2 h.2.2), if_neg (fun h : c.ep = ep ∧ c.part = 0 ∧ c.of.toNat ≤ (s :: r).length => h2 (by have := h.2.2; omega))]
      · rw [if_neg (fun h : c.ep = ep ∧ least ≤ c.li ∧ c.of ≤ (s :: r).length => h1 h.1), if_neg (fun h : c.ep = ep ∧ c.part = 0 ∧ c.of.toNat ≤ (s :: r).length => h1 h.1)]
/-- What the program has read stands ahead of what is left. -/
structure ReadP (ep : Nat) (l : List Bs) (rs : List (Bs × Nat × Nat)) : Prop where
  le : sumP rs ≤ l.length
  path : PathB ep l 0 rs
theorem last_app (a : List (Bs × Nat × Nat)) (b : Bs) (li n : Nat) : ∀ least, lastP least (a ++ [(b, li, n)]) = li := by
  induction a with
  | nil => intro least; rfl
  | cons x a ih => intro least; exact ih _
theorem sumP_app (a : List (Bs × Nat × Nat)) (b : Bs) (li n : Nat) : sumP (a ++ [(b, li, n)]) = sumP a + n := by
  induction a with
  | nil => show n + 0 = 0 + n; omega
  | cons x a ih =>
    show x.2.2 + sumP (a ++ [(b, li, n)]) = x.2.2 + sumP a + n
    rw [ih]; omega
/-- The rest of the reading, from a place on. -/
structure RestP (ep : Nat) (l : List Bs) (rs : List (Bs × Nat × Nat)) (k : Nat) : Prop where
  kk : (l.drop (sumP rs)).length ≤ k
  le : sumP rs ≤ l.length
  eq : readL ep l.length l 0 = rs ++ readL ep k (l.drop (sumP rs)) (lastP 0 rs)
theorem rest0 (ep : Nat) (l : List Bs) : RestP ep l [] l.length := ⟨by show (l.drop 0).length ≤ _; rw [List.drop_zero]; exact Nat.le_refl _, Nat.zero_le _, by show _ = readL ep l.length (l.drop 0) 0; rw [List.drop_zero]⟩
theorem RestP.step {ep : Nat} {l : List Bs} {rs : List (Bs × Nat × Nat)} {k : Nat} (h : RestP ep l rs k) {b : Bs} {li n : Nat} (hr : recP ep ((l.drop (sumP rs)).map cellO) (lastP 0 rs) = some (b, li, n)) :
    RestP ep l (rs ++ [(b, li, n)]) (k - 1) ∧ RecOk b ∧ li < 2 ^ 64 ∧ n = (b.length + 38) / 39 ∧ 0 < n ∧ sumP rs + n ≤ l.length := by
  rw [recP_is] at hr
  cases hL : recL ep (l.drop (sumP rs)) with
  | none => rw [hL] at hr; cases hr
  | some p =>
    obtain ⟨b', li', n'⟩ := p
    rw [hL] at hr
    simp only at hr
    split at hr
    · next hle =>
      injection hr with hr
      injection hr with e1 e2
      injection e2 with e2 e3
      subst e1 e2 e3
      obtain ⟨g1, g2, g3, g4, g5, g6, _⟩ := rec_some hL
      rw [List.length_drop] at g6
      have hkk := h.kk
      rw [List.length_drop] at hkk
      obtain ⟨k', rfl⟩ : ∃ k', k = k' + 1 := ⟨k - 1, by omega⟩
      refine ⟨⟨?_, ?_, ?_⟩, g1, g2, g4, g5, by omega⟩
      · rw [sumP_app, List.length_drop]; omega
      · rw [sumP_app]; omega
      · rw [h.eq, last_app, sumP_app, readL]
        simp only [hL, if_pos hle]
        rw [List.append_assoc, List.drop_drop]
        rfl
    · cases hr
theorem RestP.stop {ep : Nat} {l : List Bs} {rs : List (Bs × Nat × Nat)} {k : Nat} (h : RestP ep l rs k) (hr : recP ep ((l.drop (sumP rs)).map cellO) (lastP 0 rs) = none) : readL ep l.length l 0 = rs := by
  rw [h.eq]
  rw [recP_is] at hr
  cases k with
  | zero => exact List.append_nil _
  | succ k =>
    rw [readL]
    cases hL : recL ep (l.drop (sumP rs)) with
    | none => exact List.append_nil _
    | some p =>
      obtain ⟨b', li', n'⟩ := p
      rw [hL] at hr
      simp only at hr
      split at hr
      · cases hr
      · next hle => simp only [if_neg hle]; exact List.append_nil _
theorem RestP.all {ep : Nat} {l : List Bs} {rs : List (Bs × Nat × Nat)} {k : Nat} (h : RestP ep l rs k) (he : l.length ≤ sumP rs) : readL ep l.length l 0 = rs := by
  refine h.stop ?_
  rw [List.drop_of_length_le he]
  rfl
theorem life_foldl (l : List Bs) : lifeW l = (l.map cellO).foldl (fun m c => max m c.li) 0 := by
  unfold lifeW
  suffices ∀ (l : List Bs) (a : Nat), l.foldl (fun m x => match decC x with | some c => max m c.li | none => m) a = (l.map cellO).foldl (fun m c => max m c.li) a by exact this l 0
  intro l
  induction l with
  | nil => intro a; rfl
  | cons x l ih =>
    intro a
    rw [List.foldl_cons, List.map_cons, List.foldl_cons, ih]
    congr 1
    cases h : decC x with
    | none => rw [cellO_none h]; exact (Nat.max_zero a).symm
    | some c => rw [cellO_some h]
end Go.Proofs.Ythpepkfodcgbcaa
/- What the live question asks, over lists. No program in it. -/
set_option linter.unusedVariables false
set_option linter.unusedSimpArgs false
set_option maxRecDepth 100000
namespace Go.Proofs.Ythpepkfodcgbcaa

def wm0 : LM := ⟨0, 1, 5, 1, 0, [], false⟩
def wab : Bs := [97, 98]
def wap : LM × DM × Int := appendW wm0 (newD 1) wab
def wsy : LM × DM × Int := syncW wap.1 wap.2.1
def wm1 : LM := ⟨0, 1, 5, 2, 1, [wab], false⟩
theorem w_open : openW (newD 1) 0 1 5 = (some wm0, 0) := by kernel_rfl
theorem w_room : roomW wm0 = 156 := by kernel_rfl
theorem w_append : wap.2.2 = 0 := by kernel_rfl
theorem w_sync : wsy.2.2 = 0 := by kernel_rfl
theorem w_again : openW wsy.2.1 0 1 5 = (some wm1, 0) := by kernel_rfl
theorem w_room1 : roomW wm1 = 117 := by kernel_rfl
end Go.Proofs.Ythpepkfodcgbcaa
/- How bytes come in: from the row's reading to what the walks ask. -/
set_option linter.unusedVariables false
set_option linter.unusedSimpArgs false
set_option maxRecDepth 100000
namespace Go.Proofs.Ythpepkfodcgbcaa
open Go.RowKit Go.ChangeShapes Go.WideShapes Go.Deep

end Go.Proofs.Ythpepkfodcgbcaa
/- How a cell, and a list of cells, come in: from the row's reading to what the walks ask. -/
set_option linter.unusedVariables false
set_option linter.unusedSimpArgs false
set_option maxRecDepth 100000
namespace Go.Proofs.Ythpepkfodcgbcaa
open Go.RowKit Go.ChangeShapes Go.WideShapes Go.Deep Go.WideElems Go.Joins

theorem array5 {α : Type} {cs : Array α} (h : cs.size = 5) : ∃ c0 c1 c2 c3 c4, cs = #[c0, c1, c2, c3, c4] := by
  obtain ⟨l⟩ := cs
  match l, h with
  | [c0, c1, c2, c3, c4], _ => exact ⟨c0, c1, c2, c3, c4, rfl⟩
theorem trod_struct5 {H : Type} {enc : TypeId × Value → H} {P : Program} {w : World} {base : Nat} {spare : Nat → Bool} {held : Bool} {t : TypeId} {f0 f1 f2 f3 f4 : Field} {fuel : Nat} {cs : List Value} {x : DataW H × List MemPlace} (ht : P.underlying t = some (.struct #[f0, f1, f2, f3, f4])) (h : DataW.trod enc P w base spare held fuel t cs = some x) :
    ∃ y0 y1 y2 y3 y4 n, x = (.agg [y0.1, y1.1, y2.1, y3.1, y4.1], y0.2 ++ (y1.2 ++ (y2.2 ++ (y3.2 ++ y4.2)))) ∧ DataW.trod enc P w base spare held n f0.type ((cs.drop f0.offset).take (P.cellsOf f0.type)) = some y0 ∧
      DataW.trod enc P w base spare held n f1.type ((cs.drop f1.offset).take (P.cellsOf f1.type)) = some y1 ∧ DataW.trod enc P w base spare held n f2.type ((cs.drop f2.offset).take (P.cellsOf f2.type)) = some y2 ∧
      DataW.trod enc P w base spare held n f3.type ((cs.drop f3.offset).take (P.cellsOf f3.type)) = some y3 ∧ DataW.trod enc P w base spare held n f4.type ((cs.drop f4.offset).take (P.cellsOf f4.type)) = some y4 := by
  obtain ⟨xs, n, _, rfl, hl, hlen, hf⟩ := DataW.trod_struct ht h
  match xs, hlen with
  | [y0, y1, y2, y3, y4], _ => exact ⟨y0, y1, y2, y3, y4, n, by simp, by simpa using hf 0 f0 rfl, by simpa using hf 1 f1 rfl, by simpa using hf 2 f2 rfl, by simpa using hf 3 f3 rfl, by simpa using hf 4 f4 rfl⟩
theorem open_agg5 {H : Type} {enc : TypeId × Value → H} {P : Program} {w : World} {base : Nat} {spare : Nat → Bool} {held : Bool} {r : Reach} {b0 : Nat} {t : TypeId} {f0 f1 f2 f3 f4 : Field} {v : Value} {d : DataW H} {p : List MemPlace} (hs : P.underlying t = some (.struct #[f0, f1, f2, f3, f4])) (hone : Deep.oneCellFields P #[f0, f1, f2, f3, f4] = true) (hC : P.cellsOf t = 5)
    (hv : Value.okWide P w r b0 t v) (h : DataW.Trod enc P w base spare held t v d p) :
    ∃ (v0 v1 v2 v3 v4 : Value) (y0 y1 y2 y3 y4 : DataW H × List MemPlace) (n : Nat), v = .agg #[v0, v1, v2, v3, v4] ∧ d = .agg [y0.1, y1.1, y2.1, y3.1, y4.1] ∧ p = y0.2 ++ (y1.2 ++ (y2.2 ++ (y3.2 ++ y4.2))) ∧
      DataW.trod enc P w base spare held n f0.type [v0] = some y0 ∧ DataW.trod enc P w base spare held n f1.type [v1] = some y1 ∧ DataW.trod enc P w base spare held n f2.type [v2] = some y2 ∧ DataW.trod enc P w base spare held n f3.type [v3] = some y3 ∧ DataW.trod enc P w base spare held n f4.type [v4] = some y4 := by
  obtain ⟨cs, rfl, hsz⟩ := okWide_struct hs hv
  obtain ⟨c0, c1, c2, c3, c4, rfl⟩ := array5 (hsz.trans hC)
  obtain ⟨fuel, hf⟩ := h
  obtain ⟨y0, y1, y2, y3, y4, n, hx, h0, h1, h2, h3, h4⟩ := trod_struct5 hs hf
  obtain ⟨o0, k0⟩ := hone_of hone 0 f0 rfl
  obtain ⟨o1, k1⟩ := hone_of hone 1 f1 rfl
  obtain ⟨o2, k2⟩ := hone_of hone 2 f2 rfl
  obtain ⟨o3, k3⟩ := hone_of hone 3 f3 rfl
  obtain ⟨o4, k4⟩ := hone_of hone 4 f4 rfl
  simp only [Prod.mk.injEq] at hx
  exact ⟨c0, c1, c2, c3, c4, y0, y1, y2, y3, y4, n, rfl, hx.1, hx.2, by simpa [Value.cells, o0, k0] using h0, by simpa [Value.cells, o1, k1] using h1, by simpa [Value.cells, o2, k2] using h2, by simpa [Value.cells, o3, k3] using h3, by simpa [Value.cells, o4, k4] using h4⟩
theorem cell_in {H : Type} {enc : TypeId × Value → H} {W : World} {m : Nat} {c0 c1 c2 c3 c4 : Value} {y0 y1 y2 y3 y4 : DataW H × List MemPlace} (g0 : DataW.trod enc Try.prog W 0 (fun _ => true) true m 37 [c0] = some y0) (g1 : DataW.trod enc Try.prog W 0 (fun _ => true) true m 37 [c1] = some y1) (g2 : DataW.trod enc Try.prog W 0 (fun _ => true) true m 3 [c2] = some y2) (g3 : DataW.trod enc Try.prog W 0 (fun _ => true) true m 3 [c3] = some y3) (g4 : DataW.trod enc Try.prog W 0 (fun _ => true) true m 43 [c4] = some y4) :
    ∃ c : CL, c0 = .int .u64 (c.ep : Int) ∧ c1 = .int .u64 (c.li : Int) ∧ c2 = .int .i64 c.part ∧ c3 = .int .i64 c.of ∧ IsC W c c4 ∧ c.data.length ≤ 9223372036854775807 := by
  obtain ⟨z0, e0, _, w0⟩ := DataW.trod_int Try.underlying37 g0
  obtain ⟨z1, e1, _, w1⟩ := DataW.trod_int Try.underlying37 g1
  obtain ⟨z2, e2, _, w2⟩ := DataW.trod_int Try.underlying3 g2
  obtain ⟨z3, e3, _, w3⟩ := DataW.trod_int Try.underlying3 g3
  obtain ⟨bs, hY, hYl⟩ := bytes_in g4
  simp only [List.cons.injEq, and_true] at e0 e1 e2 e3
  subst e0 e1 e2 e3
  have h0 := wf_int w0
  have h1 := wf_int w1
  have h2 := wf_int w2
  have h3 := wf_int w3
  rw [show IntKind.u64.min = 0 from rfl, show IntKind.u64.max = 18446744073709551615 from rfl] at h0 h1
  rw [show IntKind.i64.min = -9223372036854775808 from rfl, show IntKind.i64.max = 9223372036854775807 from rfl] at h2 h3
  have e0 : ((z0.toNat : Nat) : Int) = z0 := by omega
  have e1 : ((z1.toNat : Nat) : Int) = z1 := by omega
  exact ⟨⟨z0.toNat, z1.toNat, z2, z3, bs⟩, by rw [e0], by rw [e1], rfl, rfl, ⟨by show z0.toNat < _; omega, by show z1.toNat < _; omega, h2, h3, hY⟩, hYl⟩
theorem cells_in {H : Type} {enc : TypeId × Value → H} {W : World} {fuel : Nat} {v : Value} {x : DataW H × List MemPlace} (h : DataW.trod enc Try.prog W 0 (fun _ => true) true fuel 69 [v] = some x) :
    ∃ l : List (CL × Value), IsL W v l ∧ l.length ≤ 9223372036854775807 := by
  rcases Deep.open_slice Try.underlying69 h with ⟨hcs, _⟩ | ⟨a, len, cap, m, n, D, Pl, hcs, hb, hl, hm, hmm, _, hx⟩
  · obtain rfl : v = .slice none 0 0 := by simpa using hcs
    exact ⟨[], ⟨.inl ⟨rfl, _, _, rfl⟩, fun x hx => by cases hx⟩, by decide⟩
  · obtain rfl : v = .slice (some a) len cap := by simpa using hcs
    by_cases h0 : len = 0
    · subst h0
      exact ⟨[], ⟨.inl ⟨rfl, _, _, rfl⟩, fun x hx => by cases hx⟩, by decide⟩
    · have hlm : len ≤ m := by rw [hmm]; split <;> omega
      have each : ∀ i, i < len → ∃ y : CL × Value, (W.cell? (a.add (i * 5)) = some (.int .u64 (y.1.ep : Int)) ∧ W.cell? (a.add (i * 5 + 1)) = some (.int .u64 (y.1.li : Int)) ∧ W.cell? (a.add (i * 5 + 2)) = some (.int .i64 y.1.part) ∧ W.cell? (a.add (i * 5 + 3)) = some (.int .i64 y.1.of) ∧ W.cell? (a.add (i * 5 + 4)) = some y.2) ∧ IsC W y.1 y.2 := by
        intro i hi
        obtain ⟨cs', h1, h2⟩ := hx i (by omega)
        rw [show Try.prog.cellsOf 90 = 5 by kernel_rfl] at h1
        obtain ⟨_, hlen, hcell⟩ := World.cells?_some h1
        obtain ⟨xs, k, hk, hxy, _, hxl, hf⟩ := DataW.trod_struct Try.underlying90 h2
        match cs', hlen with
        | [v0, v1, v2, v3, v4], _ =>
          have g0 := hf 0 _ rfl
          have g1 := hf 1 _ rfl
          have g2 := hf 2 _ rfl
          have g3 := hf 3 _ rfl
          have g4 := hf 4 _ rfl
          have cU : Try.prog.cellsOf 37 = 1 := by kernel_rfl
          have cI : Try.prog.cellsOf 3 = 1 := by kernel_rfl
          have cB : Try.prog.cellsOf 43 = 1 := by kernel_rfl
          match xs, hxl with
          | [y0, y1, y2, y3, y4], _ =>
            have g0' : DataW.trod enc Try.prog W 0 (fun _ => true) true k 37 [v0] = some y0 := by simpa [cU] using g0
            have g1' : DataW.trod enc Try.prog W 0 (fun _ => true) true k 37 [v1] = some y1 := by simpa [cU] using g1
            have g2' : DataW.trod enc Try.prog W 0 (fun _ => true) true k 3 [v2] = some y2 := by simpa [cI] using g2
            have g3' : DataW.trod enc Try.prog W 0 (fun _ => true) true k 3 [v3] = some y3 := by simpa [cI] using g3
            have g4' : DataW.trod enc Try.prog W 0 (fun _ => true) true k 43 [v4] = some y4 := by simpa [cB] using g4
            obtain ⟨c, rfl, rfl, rfl, rfl, hc, hcl⟩ := cell_in g0' g1' g2' g3' g4'
            have f0 := hcell 0 (by omega)
            have f1 := hcell 1 (by omega)
            have f2 := hcell 2 (by omega)
            have f3 := hcell 3 (by omega)
            have f4 := hcell 4 (by omega)
            rw [add_add] at f0 f1 f2 f3 f4
            exact ⟨(c, v4), ⟨by rw [Nat.add_zero] at f0; exact f0, f1, f2, f3, f4⟩, hc⟩
      obtain ⟨f, hf⟩ := @Deep.choose_lt (CL × Value) ⟨(⟨0, 0, 0, 0, []⟩, .bool false)⟩ _ _ each
      obtain ⟨b, o, sp⟩ := a
      have hsp : sp = none := by
        have h1 := (hf 0 (by omega)).1.1
        rw [Nat.zero_mul] at h1
        exact sub_none h1 rfl
      subst hsp
      refine ⟨(List.range len).map f, ⟨.inr ⟨b, o, cap, by simp, fun j hj => ?_⟩, fun x hx => ?_⟩, by simp; unfold maxLen at hm; omega⟩
      · have hj2 : j < len := by simpa using hj
        obtain ⟨⟨h1, h2, h3, h4, h5⟩, -⟩ := hf j hj2
        rw [addr_addo] at h1 h2 h3 h4 h5
        simp only [List.getElem_map, List.getElem_range]
        exact ⟨h1, by rw [Nat.add_assoc]; exact h2, by rw [Nat.add_assoc]; exact h3, by rw [Nat.add_assoc]; exact h4, by rw [Nat.add_assoc]; exact h5⟩
      · obtain ⟨j, hj, rfl⟩ := List.mem_map.1 hx
        exact (hf j (List.mem_range.1 hj)).2
end Go.Proofs.Ythpepkfodcgbcaa
/- How a script of acts on a log comes in: from the row's reading to what the walks ask. -/
set_option linter.unusedVariables false
set_option linter.unusedSimpArgs false
set_option maxRecDepth 100000
namespace Go.Proofs.Ythpepkfodcgbcaa
open Go.RowKit Go.ChangeShapes Go.WideShapes Go.Deep

/-- An act, and where its bytes and its bools lie. -/
structure AW where
  kind : Int
  n : Int
  b : Bs
  keep : List Bool
  bv : Value
  kv : Value
/-- A script lies there. -/
def IsA (w : World) (v : Value) (l : List AW) : Prop := ((l = [] ∧ ∃ a c, v = .slice a 0 c) ∨ ∃ b o cap, v = .slice (some ⟨b, o, none⟩) l.length cap ∧ ∀ j (hj : j < l.length), w.cell? ⟨b, o + j * 4, none⟩ = some (.int .i64 l[j].kind) ∧ w.cell? ⟨b, o + j * 4 + 1, none⟩ = some (.int .i64 l[j].n) ∧ w.cell? ⟨b, o + j * 4 + 2, none⟩ = some l[j].bv ∧ w.cell? ⟨b, o + j * 4 + 3, none⟩ = some l[j].kv) ∧ ∀ a ∈ l, IsY w a.bv a.b ∧ IsF w a.kv a.keep
structure OkW (a : AW) : Prop where
  n : -9223372036854775808 ≤ a.n ∧ a.n ≤ 9223372036854775807
  b : a.b.length ≤ 9223372036854775807
  k : a.keep.length ≤ 9223372036854775807
theorem script17_in {H : Type} {enc : TypeId × Value → H} {W : World} {fuel : Nat} {v : Value} {x : DataW H × List MemPlace} (h : DataW.trod enc Try.prog W 0 (fun _ => true) true fuel 22 [v] = some x) :
    ∃ l : List AW, IsA W v l ∧ (∀ a ∈ l, OkW a) ∧ l.length ≤ 9223372036854775807 := by
  rcases Deep.open_slice Try.underlying22 h with ⟨hcs, _⟩ | ⟨a, len, cap, m, n, D, Pl, hcs, hb, hl, hm, hmm, _, hx⟩
  · obtain rfl : v = .slice none 0 0 := by simpa using hcs
    exact ⟨[], ⟨.inl ⟨rfl, _, _, rfl⟩, fun x hx => by cases hx⟩, fun x hx => (by cases hx), by decide⟩
  · obtain rfl : v = .slice (some a) len cap := by simpa using hcs
    by_cases h0 : len = 0
    · subst h0
      exact ⟨[], ⟨.inl ⟨rfl, _, _, rfl⟩, fun x hx => by cases hx⟩, fun x hx => (by cases hx), by decide⟩
    · have hlm : len ≤ m := by rw [hmm]; split <;> omega
      have each : ∀ i, i < len → ∃ y : AW, (W.cell? (a.add (i * 4)) = some (.int .i64 y.kind) ∧ W.cell? (a.add (i * 4 + 1)) = some (.int .i64 y.n) ∧ W.cell? (a.add (i * 4 + 2)) = some y.bv ∧ W.cell? (a.add (i * 4 + 3)) = some y.kv) ∧ (IsY W y.bv y.b ∧ IsF W y.kv y.keep) ∧ OkW y := by
        intro i hi
        obtain ⟨cs', h1, h2⟩ := hx i (by omega)
        rw [show Try.prog.cellsOf 46 = 4 by kernel_rfl] at h1
        obtain ⟨_, hlen, hcell⟩ := World.cells?_some h1
        obtain ⟨xs, k, hk, hxy, _, hxl, hf⟩ := DataW.trod_struct Try.underlying46 h2
        match cs', hlen with
        | [v0, v1, v2, v3], _ =>
          have g0 := hf 0 _ rfl
          have g1 := hf 1 _ rfl
          have g2 := hf 2 _ rfl
          have g3 := hf 3 _ rfl
          have cI : Try.prog.cellsOf 3 = 1 := by kernel_rfl
          have cB : Try.prog.cellsOf 43 = 1 := by kernel_rfl
          have cF : Try.prog.cellsOf 44 = 1 := by kernel_rfl
          match xs, hxl with
          | [y0, y1, y2, y3], _ =>
            have g0' : DataW.trod enc Try.prog W 0 (fun _ => true) true k 3 [v0] = some y0 := by simpa [cI] using g0
            have g1' : DataW.trod enc Try.prog W 0 (fun _ => true) true k 3 [v1] = some y1 := by simpa [cI] using g1
            have g2' : DataW.trod enc Try.prog W 0 (fun _ => true) true k 43 [v2] = some y2 := by simpa [cB] using g2
            have g3' : DataW.trod enc Try.prog W 0 (fun _ => true) true k 44 [v3] = some y3 := by simpa [cF] using g3
            obtain ⟨z0, e0, _, w0⟩ := DataW.trod_int Try.underlying3 g0'
            obtain ⟨z1, e1, _, w1⟩ := DataW.trod_int Try.underlying3 g1'
            obtain ⟨bs, hY, hYl⟩ := bytes_in g2'
            obtain ⟨fs, hF, hFl⟩ := bools_in g3'
            simp only [List.cons.injEq, and_true] at e0 e1
            subst e0 e1
            have f0 := hcell 0 (by omega)
            have f1 := hcell 1 (by omega)
            have f2 := hcell 2 (by omega)
            have f3 := hcell 3 (by omega)
            rw [add_add] at f0 f1 f2 f3
            have hn : -9223372036854775808 ≤ z1 ∧ z1 ≤ 9223372036854775807 := by
              have hh := wf_int w1
              rw [show IntKind.i64.min = -9223372036854775808 from rfl, show IntKind.i64.max = 9223372036854775807 from rfl] at hh
              exact hh
            exact ⟨⟨z0, z1, bs, fs, v2, v3⟩, ⟨by rw [Nat.add_zero] at f0; exact f0, f1, f2, f3⟩, ⟨hY, hF⟩, ⟨hn, hYl, hFl⟩⟩
      obtain ⟨f, hf⟩ := @Deep.choose_lt AW ⟨⟨0, 0, [], [], .bool false, .bool false⟩⟩ _ _ each
      obtain ⟨b, o, sp⟩ := a
      have hsp : sp = none := by
        have h1 := (hf 0 (by omega)).1.1
        rw [Nat.zero_mul] at h1
        exact sub_none h1 rfl
      subst hsp
      refine ⟨(List.range len).map f, ⟨.inr ⟨b, o, cap, by simp, fun j hj => ?_⟩, fun x hx => ?_⟩, fun x hx => ?_, by simp; unfold maxLen at hm; omega⟩
      · have hj2 : j < len := by simpa using hj
        obtain ⟨⟨h1, h2, h3, h4⟩, -⟩ := hf j hj2
        rw [addr_addo] at h1 h2 h3 h4
        simp only [List.getElem_map, List.getElem_range]
        exact ⟨h1, by rw [Nat.add_assoc]; exact h2, by rw [Nat.add_assoc]; exact h3, by rw [Nat.add_assoc]; exact h4⟩
      · obtain ⟨j, hj, rfl⟩ := List.mem_map.1 hx
        exact (hf j (List.mem_range.1 hj)).2.1
      · obtain ⟨j, hj, rfl⟩ := List.mem_map.1 hx
        exact (hf j (List.mem_range.1 hj)).2.2
end Go.Proofs.Ythpepkfodcgbcaa
