/- Two lists of nodes, one behind the other in a new row; the walk of PrintParts. -/
import Derived.Test.YthoibenncjbkdaaLw9
import Derived.Deep.AppendSrc
set_option linter.unusedVariables false
set_option linter.unusedSimpArgs false
set_option maxRecDepth 20000
namespace Go.Proofs.Ythoibenncjbkdaa
open Go.RowKit

theorem wpList_append_run {P : Program} {ops : Array Oper} {rest : List Oper} {o : Oper} {a : Act} {Q : Exit → Act → World → Prop} {w : World} (hgd : o.guard = none) (s x : Operand) (t : TypeId)
    (ho : o.op = .call { callee := .builtin .append, args := #[s, x], argTypes := #[t, t] }) (v1 v2 v' : Value) (w' : World) (hs : a.eval s = v1) (hx : a.eval x = v2)
    (hr : (Builtin.append_ #[t, t] o.type #[v1, v2]).run P w = .ok v' w') (h : wpList P ops Q rest (a.put o.dst v') w') : wpList P ops Q (o :: rest) a w := S5.wpList_append_run hgd s x t ho v1 v2 v' w' hs hx hr h
theorem addr_add9 (b o j : Nat) : (⟨b, o, none⟩ : Addr).add j = ⟨b, o + j, none⟩ := by
  unfold Addr.add
  split
  · next h => simp_all
  · rfl
theorem isN_one {Bk : Nat → Prop} {w : World} {k : Nat} {t : S5.NT k} {vs : List Value} (h : S5.IsN Bk w t vs) : ∀ u ∈ vs, u.oneCell' = true := by
  obtain ⟨q1, q2, q3, q4, q5, q6, q7, q8, q9, q10, rfl⟩ := h.form
  intro u hu
  simp only [List.mem_cons, List.not_mem_nil, or_false] at hu
  rcases hu with rfl | rfl | rfl | rfl | rfl | rfl <;> rfl
/-- The cells of a row of nodes, node by node. -/
theorem row_cells {Bk : Nat → Prop} {w : World} {b k : Nat} : ∀ (o : Nat) (ts : List (S5.NT k)), S5.IsNs Bk w b o ts →
    ∃ cs : List (List Value), cs.length = ts.length ∧ (∀ j (h1 : j < cs.length) (h2 : j < ts.length), S5.IsN Bk w ts[j] cs[j]) ∧ cs.flatten.length = ts.length * 6 ∧ (∀ u ∈ cs.flatten, u.oneCell' = true) ∧ ∀ j u, cs.flatten[j]? = some u → w.cell? ⟨b, o + j, none⟩ = some u
  | o, [], _ => ⟨[], rfl, fun j h1 => absurd h1 (Nat.not_lt_zero _), rfl, (by intro u hu; simp at hu), (by intro j u hu; simp at hu)⟩
  | o, t :: r, h => by
    obtain ⟨⟨vs, c, hN⟩, h2⟩ := h
    obtain ⟨cs, e1, e2, e3, e4, e5⟩ := row_cells (o + 6) r h2
    have hv := S5.isN_len hN
    refine ⟨vs :: cs, by simp [e1], ?_, ?_, ?_, ?_⟩
    · intro j h1 h2
      cases j with
      | zero => exact hN
      | succ j => exact e2 j (by simpa using h1) (by simpa using h2)
    · rw [List.flatten_cons, List.length_append, hv, e3, List.length_cons]
      omega
    · intro u hu
      rw [List.flatten_cons, List.mem_append] at hu
      rcases hu with hu | hu
      · exact isN_one hN u hu
      · exact e4 u hu
    · intro j u hu
      rw [List.flatten_cons] at hu
      by_cases hj : j < 6
      · rw [List.getElem?_append_left (by omega)] at hu
        rw [c j hj]
        exact hu
      · rw [List.getElem?_append_right (by omega), hv] at hu
        have := e5 (j - 6) u hu
        rw [show o + 6 + (j - 6) = o + j by omega] at this
        exact this
/-- A row of nodes of one's own: what is within them lies below N. -/
def RowQ (N : Nat) (W : World) (v : Value) {k : Nat} (ts : List (S5.NT k)) : Prop :=
  v ≠ .slice none 0 0 ∧ ∃ cs : List (List Value), cs.length = ts.length ∧ W.ownsRow N 34 6 v ts.length cs.flatten ∧ ∀ j (h1 : j < cs.length) (h2 : j < ts.length), S5.IsN (fun k => k < N) W ts[j] cs[j]
theorem RowQ.isK {N : Nat} {W : World} {v : Value} {k : Nat} {ts : List (S5.NT k)} (h : RowQ N W v ts) (hN : N ≤ W.heap.size) : S5.IsK (fun k => k < W.heap.size) W ts v := by
  obtain ⟨hv, cs, h1, h2, h3⟩ := h
  have hl : ∀ c ∈ cs, c.length = 6 := fun c hc => by
    obtain ⟨j, hj, rfl⟩ := List.mem_iff_getElem.1 hc
    exact S5.isN_len (h3 j hj (by omega))
  rcases h2.2 with ⟨e1, e2⟩ | ⟨g, cap, cur, rfl, hbg, hg, hnc, _⟩
  · exact absurd e1 hv
  · refine .inr ⟨g, 0, cap, rfl, hnc, .inr (Array.getElem?_eq_some_iff.1 hg).1, S5.IsNs.of 0 ts fun j hj => ⟨cs[j], fun i hi => ?_, (h3 j (by omega) hj).mono fun q hq => Nat.lt_of_lt_of_le hq hN⟩⟩
    rw [Nat.zero_add, h2.cellAt (j * 6 + i) (by omega), S5.flatten_get6 cs hl j (by omega) i hi]
theorem RowQ.none (W : World) {k : Nat} : RowQ W.heap.size (W.alloc (.cells #[] 34)) (.slice (some ⟨W.heap.size, 0, none⟩) 0 0) ([] : List (S5.NT k)) :=
  ⟨by simp, [], rfl, World.ownsRow_made W #[] 0 (Nat.le_refl _) (by unfold maxLen; omega) (by simp), fun j h1 => absurd h1 (Nat.not_lt_zero _)⟩
/-- A list of nodes behind a row of one's own. -/
theorem append_nodes {N : Nat} {W : World} {v : Value} {k : Nat} {ts us : List (S5.NT k)} (h : RowQ N W v ts) (hN : N ≤ W.heap.size) (vb : Value) (hK : S5.IsK (fun k => k < N) W us vb) (hl : ts.length + us.length ≤ 1000000) :
    ∃ v' w', (Builtin.append_ #[22, 22] 22 #[v, vb]).run Try.prog W = .ok v' w' ∧ RowQ N w' v' (ts ++ us) ∧ Below N W w' := by
  obtain ⟨hv, cs, h1, h2, h3⟩ := h
  have hkeep : ∀ (w' : World), Below N W w' → ∀ {t : S5.NT k} {vs : List Value}, S5.IsN (fun k => k < N) W t vs → S5.IsN (fun k => k < N) w' t vs := fun w' hb t vs hn => hn.on fun q hq => hb.block q hq
  rcases hK with ⟨⟨a, c, rfl⟩, rfl⟩ | ⟨b, o, cap, rfl, _, _, hn⟩
  · rcases h2.2 with ⟨e1, e2⟩ | ⟨g, cp, cur, rfl, hbg, hg, hnc, hm, hcs, htk⟩
    · exact absurd e1 hv
    · have hsrc : Src Try.prog Try.t34.size 22 (.slice a 0 c) 0 [] W := by
        cases a with
        | none => exact Src.ofNil _ Try.underlying22 c
        | some x => exact Src.ofSlice _ Try.underlying22 x 0 c [] (by simp) (by simp) (by simp)
      have hr := run_append_room_src (P := Try.prog) W 22 22 22 34 Try.t34 Try.underlying22 (by kernel_rfl) g 0 ts.length cp (.slice a 0 c) 0 [] hsrc (by omega) (by simp) (by simp)
      refine ⟨_, _, hr, ⟨by simp, cs, by simpa using h1, ?_, ?_⟩, ?_⟩
      · rw [List.append_nil]
        exact h2
      · intro j g1 g2
        have := h3 j g1 (by simpa using g2)
        have e : (ts ++ [])[j] = ts[j]'(by simpa using g2) := by simp
        rw [e]
        exact this
      · exact Below.refl _ _
  · obtain ⟨ds, e1, e2, e3, e4, e5⟩ := row_cells o us hn
    obtain ⟨v', w', hr, ho, hg, hv'⟩ := run_append_own (P := Try.prog) W N 22 22 34 Try.t34 _ 6 96 Try.underlying22 (by kernel_rfl) rfl (by kernel_rfl) (by kernel_rfl) (by kernel_rfl) (by omega)
      v ts.length cs.flatten h2 ⟨b, o, none⟩ us.length cap ds.flatten e3 (fun j u hu => by rw [addr_add9]; exact e5 j u hu) e4 (by unfold maxLen; omega) (by omega) hN
    have hb : Below N W w' := (Below.refl N W).grown hg hN (fun q hq => (h2.lt q hq).1)
    refine ⟨v', w', hr, ⟨fun e => hv (hv'.1 e).1, cs ++ ds, by simp [h1, e1], ?_, ?_⟩, hb⟩
    · rw [List.length_append, List.flatten_append]
      exact ho
    · intro j g1 g2
      by_cases hj : j < ts.length
      · have a1 : (ts ++ us)[j] = ts[j] := List.getElem_append_left hj
        have a2 : (cs ++ ds)[j] = cs[j]'(by omega) := List.getElem_append_left (by omega)
        rw [a1, a2]
        exact hkeep w' hb (h3 j (by omega) hj)
      · have g3 : j - ts.length < us.length := by simp at g2; omega
        have a1 : (ts ++ us)[j] = us[j - ts.length] := List.getElem_append_right (by omega)
        have a2 : (cs ++ ds)[j] = ds[j - ts.length]'(by omega) := by
          rw [List.getElem_append_right (by omega)]
          simp only [h1]
        rw [a1, a2]
        exact hkeep w' hb (e2 (j - ts.length) (by omega) g3)
theorem str_cat {k : Nat} (a b : List (S5.NT k)) : (⟨(printTs false (a ++ b)).toArray⟩ : ByteArray) = ⟨(printTs false a).toArray⟩ ++ ⟨(printTs false b).toArray⟩ := by
  rw [printTs_app]
  exact (S5.str_of _ _ (S5.str_app _ _ _ _ (S5.str_data _) (S5.str_data _))).symm
theorem frag_none (W : World) : Calls Try.prog 8 #[.slice none 0 0] W fun e w' => e = .returned (.string ⟨#[]⟩) ∧ Below W.heap.size W w' :=
  fragment_any ([] : List (S5.NT 1)) (fun k => k < W.heap.size) _ W (fun _ h => h) (.inl ⟨⟨_, _, rfl⟩, rfl⟩) (Nat.zero_le _)
set_option maxHeartbeats 2000000 in
theorem printParts_walk {m : Nat} (va : Value) (ta : List (S5.NT m)) (vb : Value) (tb : List (S5.NT m)) (w : World) (hKa : S5.IsK (fun k => k < w.heap.size) w ta va) (hla : ta.length ≤ 9223372036854775807) (hoa : S5.OkTs ta) (hKb : S5.IsK (fun k => k < w.heap.size) w tb vb) (hlb : tb.length ≤ 9223372036854775807) (hob : S5.OkTs tb) :
    Calls Try.prog 5 #[va, vb] w fun e w' => e = .returned (.bool true) ∧ Below w.heap.size w w' := by
  have HA := hide alive_p
  have HWa := hide (weight_any 40 (by decide) ta hla hoa (fun k => k < w.heap.size) va w 1500 (by decide) (fun _ h => h) hKa)
  have HWb := hide (fun (W : World) (hb : Below w.heap.size w W) => weight_any 40 (by decide) tb hlb hob (fun k => k < w.heap.size) vb W 1500 (by decide) (fun j hj => Nat.lt_of_lt_of_le hj hb.size) (isK_keepB (fun _ h => h) hKb hb))
  have HFa := hide (fun (W : World) (hb : Below w.heap.size w W) (hs : sizeTs ta ≤ 1000000) => fragment_any ta (fun k => k < w.heap.size) va W (fun j hj => Nat.lt_of_lt_of_le hj hb.size) (isK_keepB (fun _ h => h) hKa hb) hs)
  have HFb := hide (fun (W : World) (hb : Below w.heap.size w W) (hs : sizeTs tb ≤ 1000000) => fragment_any tb (fun k => k < w.heap.size) vb W (fun j hj => Nat.lt_of_lt_of_le hj hb.size) (isK_keepB (fun _ h => h) hKb hb) hs)
  have HN := hide frag_none
  have HKa := hide hKa
  have HKb := hide hKb
  have hxl : (⟨(printTs false ta).toArray⟩ : ByteArray).size ≤ 7 * sizeTs ta := by rw [S5.size_list, S5.str_data]; exact printTs_len false ta
  have hyl : (⟨(printTs false tb).toArray⟩ : ByteArray).size ≤ 7 * sizeTs tb := by rw [S5.size_list, S5.str_data]; exact printTs_len false tb
  have HC := hide (str_cat ta tb)
  obtain ⟨a1, c1, rfl⟩ := S5.isK_form hKa
  obtain ⟨a2, c2, rfl⟩ := S5.isK_form hKb
  clear hKa hoa hKb hob hla hlb
  have hka := sizeTs_lenA ta
  have hkb := sizeTs_lenA tb
  generalize (⟨(printTs false ta).toArray⟩ : ByteArray) = X at *
  generalize (⟨(printTs false tb).toArray⟩ : ByteArray) = Y at *
  have hse := same_str (X ++ Y)
  go_enter Try.func5, Try.ntmps5
  go_wp2_with fail
  refine HWa.out.mono ?_
  rintro e w1 ⟨⟨V, rfl, hV⟩, b1⟩
  by_cases hlt : V < 1500
  · have hlt2 : ¬ (1500 : Int) ≤ V := by omega
    have hsa := (hV.2 hlt).1
    have HSA : Hid (sizeTs ta ≤ 1500) := hide (by omega)
    clear hV hsa hlt
    go_wp2_with fail
    refine (HWb.out _ b1).mono ?_
    rintro e w2 ⟨⟨V2, rfl, hV2⟩, b2⟩
    have B2 := b1.trans (b2.mono b1.size)
    by_cases hlt3 : V2 < 1500
    · have hlt4 : ¬ (1500 : Int) ≤ V2 := by omega
      have hsb := (hV2.2 hlt3).1
      have HSB : Hid (sizeTs tb ≤ 1500) := hide (by omega)
      clear hV2 hsb hlt3
      have HSA2 : Hid (sizeTs ta ≤ 1000000) := hide (by have := HSA.out; omega)
      have HSB2 : Hid (sizeTs tb ≤ 1000000) := hide (by have := HSB.out; omega)
      have HSC : Hid (sizeTs (ta ++ tb) ≤ 1000000) := hide (by rw [sizeTs_app]; have := HSA.out; have := HSB.out; omega)
      have r1 : ¬ 9223372036854775807 < X.size + Y.size := by have := HSA.out; have := HSB.out; omega
      have hL : ta.length + tb.length ≤ 1000000 := by have := HSA.out; have := HSB.out; omega
      have bE := S5.below_alloc w2 (.cells #[] 34)
      have hup : ∀ q, q < w.heap.size → q < w2.heap.size := fun q hq => Nat.lt_of_lt_of_le hq B2.size
      have kA : S5.IsK (fun k => k < w2.heap.size) w2 ta (.slice a1 ta.length c1) := by
        have := isK_keepB (fun _ h => h) HKa.out B2
        rcases this with h | ⟨b, o, cap, e1, e2, e3, e4⟩
        · exact .inl h
        · exact .inr ⟨b, o, cap, e1, e2, e3.imp id (hup b), S5.IsNs.of o ta fun j hj => by obtain ⟨vs, g, n⟩ := S5.IsNs.get o ta e4 j hj; exact ⟨vs, g, n.mono hup⟩⟩
      have kB : S5.IsK (fun k => k < w2.heap.size) w2 tb (.slice a2 tb.length c2) := by
        have := isK_keepB (fun _ h => h) HKb.out B2
        rcases this with h | ⟨b, o, cap, e1, e2, e3, e4⟩
        · exact .inl h
        · exact .inr ⟨b, o, cap, e1, e2, e3.imp id (hup b), S5.IsNs.of o tb fun j hj => by obtain ⟨vs, g, n⟩ := S5.IsNs.get o tb e4 j hj; exact ⟨vs, g, n.mono hup⟩⟩
      obtain ⟨v1, w3, hr1, hq1, bq1⟩ := append_nodes (RowQ.none w2 (k := m)) bE.size _ (isK_keepB (fun _ h => h) kA bE) (by simp; omega)
      have bq1' : Below w2.heap.size w2 w3 := bE.trans bq1
      obtain ⟨v2, w4, hr2, hq2, bq2⟩ := append_nodes hq1 bq1'.size _ (isK_keepB (fun _ h => h) kB bq1') (by simp; omega)
      have bq2' : Below w2.heap.size w2 w4 := bq1'.trans bq2
      rw [List.nil_append] at hq2
      have B4 := B2.trans (bq2'.mono B2.size)
      have HKK := hide (hq2.isK bq2'.size)
      obtain ⟨a3, c3, rfl⟩ : ∃ a c, v1 = .slice a ta.length c := by
        have := hq1.2
        rw [List.nil_append] at this
        obtain ⟨cs, _, ho, _⟩ := this
        exact S5.owns_form ho
      obtain ⟨a4, c4, rfl⟩ := S5.isK_form HKK.out
      have HFC : Hid (∀ W : World, Below w4.heap.size w4 W → Calls Try.prog 8 #[.slice a4 (ta.length + tb.length) c4] W fun e w' => e = .returned (.string (X ++ Y)) ∧ Below W.heap.size W w') := hide (fun W hb => by
        have := fragment_any (ta ++ tb) (fun k => k < w4.heap.size) _ W (fun j hj => Nat.lt_of_lt_of_le hj hb.size) (isK_keepB (fun _ h => h) HKK.out hb) HSC.out
        rw [HC.out, List.length_append] at this
        exact this)
      have HR1 := hide hr1
      have HR2 := hide hr2
      clear hr1 hr2 hq1 hq2 bq1 bq2 bq1' bq2' bE kA kB hup hxl hyl
      go_wp2_with (with_reducible first | refine wpList_append_run rfl _ _ 22 rfl (.slice (some ⟨w2.heap.size, 0, none⟩) 0 0) (.slice a1 ta.length c1) _ w3 rfl rfl HR1.out ?_ | refine wpList_append_run rfl _ _ 22 rfl (.slice a3 ta.length c3) (.slice a2 tb.length c2) _ w4 rfl rfl HR2.out ?_)
      refine (HFa.out _ B4 HSA2.out).mono ?_
      rintro e w5 ⟨rfl, b5⟩
      have B5 := B4.trans (b5.mono B4.size)
      go_wp2_with fail
      refine (HFb.out _ B5 HSB2.out).mono ?_
      rintro e w6 ⟨rfl, b6⟩
      have D6 := b5.trans (b6.mono b5.size)
      clear B5
      go_wp2_with fail
      refine (HA.out _).mono ?_
      rintro e w7 ⟨rfl, b7⟩
      have D7 := D6.trans (b7.mono D6.size)
      go_wp2_with fail
      refine (HFC.out _ D7).mono ?_
      rintro e w8 ⟨rfl, b8⟩
      have D8 := D7.trans (b8.mono D7.size)
      go_wp2_with fail
      refine (HN.out _).mono ?_
      rintro e w9 ⟨rfl, b9⟩
      have D9 := D8.trans (b9.mono D8.size)
      go_wp2
      go_ret
      exact ⟨rfl, B4.trans (D9.mono B4.size)⟩
    · have hlt4 : (1500 : Int) ≤ V2 := by omega
      clear hV2 hlt3
      go_wp2_with fail
      refine (HA.out _).mono ?_
      rintro e w3 ⟨rfl, b3⟩
      go_wp2
      go_ret
      exact ⟨rfl, B2.trans (b3.mono B2.size)⟩
  · have hlt2 : (1500 : Int) ≤ V := by omega
    clear hV hlt
    go_wp2_with fail
    refine (HA.out _).mono ?_
    rintro e w2 ⟨rfl, b2⟩
    go_wp2
    go_ret
    exact ⟨rfl, b1.trans (b2.mono b1.size)⟩
end Go.Proofs.Ythoibenncjbkdaa
