/- What take does with a line that says a rule. -/
import Derived.Test.YthopnliaikkhbaaGreatDoorSw11
import Derived.RegionDies
set_option linter.unusedVariables false
set_option linter.unusedSimpArgs false
set_option maxRecDepth 4000
namespace Go.Proofs.YthopnliaikkhbaaGreatDoor
open Go.RowKit

theorem step_append_ex {P : Program} {ops : Array Oper} {o : Oper} {a : Act} {w : World} {K : Act → World → Prop} {Q : Exit → Act → World → Prop} {E : Prop} (hgd : o.guard = none) (s x : Operand) (t : TypeId)
    (ho : o.op = .call { callee := .builtin .append, args := #[s, x], argTypes := #[t, t] }) (v1 v2 : Value) (hs : a.eval s = v1) (hx : a.eval x = v2) (R : Value → World → Prop)
    (hr : ∃ v' w', (Builtin.append_ #[t, t] o.type #[v1, v2]).run P w = .ok v' w' ∧ R v' w') (hK : ∀ v' w', R v' w' → K (a.put o.dst v') w') : if Region.wanted o (yielded ops a.tmps) = true then Oper.wp P o a w K Q else E := by
  obtain ⟨v', w', hr, hR⟩ := hr
  have hw : Region.wanted o (yielded ops a.tmps) = true := by simp [Region.wanted, hgd]
  rw [if_pos hw]
  unfold Oper.wp execOp
  simp only [ho, resolve, invoke, builtin, Sem.run_bind, Sem.run_pure, Result.andThen_ok, List.map_toArray, List.map_cons, List.map_nil, hs, hx, hr]
  exact hK _ _ hR

theorem step_call_enter {P : Program} {ops : Array Oper} {o : Oper} {a : Act} {w : World} {K : Act → World → Prop} {Q : Exit → Act → World → Prop} {E : Prop}
    (hg : o.guard = none) (f : FuncId) (vs : Array Value) (hx : (execOp a.eval o).run P w = .ok (.enter f vs) w) {R : Ending → World → Prop} (hC : Calls P f vs w R) (hK : ∀ e w', R e w' → ∃ v, e = .returned v ∧ K (a.put o.dst v) w') :
    if Region.wanted o (yielded ops a.tmps) = true then Oper.wp P o a w K Q else E := by
  have hw : Region.wanted o (yielded ops a.tmps) = true := by simp [Region.wanted, hg]
  rw [if_pos hw]
  unfold Oper.wp
  rw [hx, Oper.upon_enter]
  refine hC.mono ?_
  intro e w' h
  obtain ⟨v, rfl, hk⟩ := hK e w' h
  exact hk
theorem owns_base {w : World} {B C n : Nat} {e : TypeId} {z : Nat} {v : Value} {xs : List Value} (h : w.ownsRow B e z v n xs) (hC : C ≤ B) : w.ownsRow C e z v n xs := by
  refine ⟨h.1, ?_⟩
  rcases h.2 with h | ⟨g, cap, cur, h1, h2, h3⟩
  · exact .inl h
  · exact .inr ⟨g, cap, cur, h1, by omega, h3⟩
/-- The row of rules with one more, and the box as it was. -/
structure Ruled (B pb : Nat) (w0 : World) (q : PV) (r : RV) (v' : Value) (w' : World) : Prop where
  o : w'.ownsRow B 53 2 v' (q.rs.length + 1) (ruleCells (q.rs ++ [r]))
  g : w0.grownBy w' q.rv.ownBlock
  at_ : v'.ownBlock = q.rv.ownBlock ∨ v'.ownBlock = some w0.heap.size
  form : ∃ a n c, v' = .slice a n c
  c : w'.cell? ⟨pb, 0, none⟩ = some q.rv
  f : w'.frozen? ⟨pb, 0, none⟩ = false
theorem ruled_of {B pb : Nat} {w w0 : World} {q : PV} (hq : OwnP B pb w q) (hb : Below w.heap.size w w0) (hB : B ≤ w.heap.size) (hz : q.rs.length ≤ 1000000) (r : RV) (a : Option Addr) (m c : Nat) (hr : r.av = .slice a m c) (N : Nat) (hN : w0.heap[N]? = some (.cells #[.string r.nm, .slice a m c] 53 (0, 0))) :
    ∃ v' w', (Builtin.append_ #[23, 23] 23 #[q.rv, .slice (some ⟨N, 0, none⟩) 1 1]).run Tryz.prog w0 = .ok v' w' ∧ Ruled B pb w0 q r v' w' := by
  have h := hq.below hb
  obtain ⟨v', w', h1, h2, h3, h4⟩ := append_rule w0 B q.rs.length q.rv (ruleCells q.rs) r.nm a m c N hN h.r (by omega) (by have := hb.size; omega)
  have hpb : w'.heap[pb]? = w0.heap[pb]? := h3.block pb h.pb_lt (fun e => h.ap.box 0 e.symm)
  obtain ⟨va, vc, hv⟩ := owns_formG h2
  refine ⟨v', w', h1, ⟨?_, h3, h4, ⟨va, _, vc, hv⟩, (World.cell?_of_block (a := ⟨pb, 0, none⟩) hpb).trans h.cells.1, (World.frozen?_of_block (a := ⟨pb, 0, none⟩) hpb).trans (h.free 0)⟩⟩
  rw [ruleCells_app, show ruleCells [r] = [.string r.nm, r.av] from rfl, hr]
  exact h2
set_option maxHeartbeats 2000000 in
theorem take_elemN (B pb : Nat) (s : ByteArray) (hs : s.size ≤ 100000) (q : PV) (w : World) (hq : OwnP B pb w q) (hB : B ≤ w.heap.size) (hz : sizeP q.po ≤ 1000000) (h0 : 0 < s.size) (h35 : (s[0]'h0).toNat ≠ 35) (x : Bs) (r : List Bs) (hW : wordsL s.data.toList = x :: r) (n_deep : x ≠ deepN) (hx : x = elemN) (hr : r = []) :
    Calls Tryz.prog 30 #[.pointer (some ⟨pb, 0, none⟩), .string s] w fun e w' => Took B pb w (none) e w' := by
  have hfew := words_few s.data.toList
  rw [← size_list, hW, List.length_cons] at hfew
  have hrl : r.length ≤ 100000 := by omega
  have hsh : ∀ y ∈ r, y.length ≤ 1000000 := fun y hy => by
    have := words_short s.data.toList y (by rw [hW]; simp [hy])
    rw [← size_list] at this
    omega
  have HWD := hide (wordsOf_any s (by omega) w)
  rw [hW] at HWD
  have HQ := hide hq
  obtain ⟨z1, z2, z3, z4⟩ := size_bits q hz
  have h0i : (0 : Int) < s.size := by omega
  have h35i : (((s[0]'h0).toNat : Int) == 35) = false := ne_lit _ 35 (by omega)
  have hpb := hq.pb_lt
  clear hq h35 hW hz
  have e_deep : ((⟨x.toArray⟩ : ByteArray).toList == [100, 101, 101, 112]) = false := by rw [str_eq, str_data, beq_eq_false_iff_ne]; exact n_deep
  have e_elem : ((⟨x.toArray⟩ : ByteArray).toList == [101, 108, 101, 109, 101, 110, 116]) = true := by rw [str_eq, str_data, hx]; rfl
  go_enter Tryz.func30, Tryz.ntmps30
  go_wp2_with fail
  refine HWD.out.mono ?_
  rintro e w1 ⟨g, n, rfl, ho, b1⟩
  obtain ⟨hR, hn⟩ := owns_rowT ho
  rw [List.length_cons] at hn
  have hn1 : 1 ≤ n := by omega
  have hn1i : (1 : Int) ≤ n := by omega
  have hn0 : 0 < n := by omega
  have hn0i : (0 : Int) < n := by omega
  have hni : ((n : Int) == 0) = false := by rw [beq_eq_false_iff_ne]; omega
  obtain ⟨o', c', hcut, hoo, hcc⟩ := cut_rest g 0 n n hn1 (Nat.le_refl _)
  have hcx : w1.cell? ⟨g, 0, none⟩ = some (.string ⟨x.toArray⟩) := hR 0 x rfl
  have hR2 := rowT_rest hR (by rw [hn]; rfl) hoo
  have hq1 := HQ.out.below b1
  have hsz := b1.size
  have K1 := Keep.of (pb := pb) b1 hB
  obtain ⟨k0, k1, k2, k3, k4⟩ := hq1.cells
  have kf := hq1.free
  subst hr
  have hn2 : n - 1 = 0 := by rw [hn]; rfl
  rw [hn2] at hcut
  have HRU := hide (fun W => rule_none (some ⟨g, o', none⟩) c' W)
  have HKK := hide (fun w2 (b : Below w1.heap.size w1 w2) => took_none (pb := pb) (b1.trans (b.mono b1.size)) hB hpb)
  have DD := hide (Below.refl w1.heap.size w1).drew
  obtain ⟨va, vc, hv⟩ := owns_formG hq1.r
  rw [hv] at k0
  generalize q.rs.length = ql at *
  generalize (⟨x.toArray⟩ : ByteArray) = X at *
  clear ho b1 hR hR2 hq1 K1 k1 k2 k3 k4 kf hn hoo hcc hfew hrl hsh hn2 HQ
  go_wp2_with fail
  have k0d : w1.drew.cell? ⟨pb, 0, none⟩ = some (.slice va ql vc) := k0
  go_region_dies
  all_goals refine (HRU.out _).mono ?_
  all_goals rintro e w2 ⟨rfl, b2⟩
  all_goals exact ⟨rfl, HKK.out w2 (DD.out.trans b2)⟩
set_option maxHeartbeats 2000000 in
theorem take_elemS (B pb : Nat) (s : ByteArray) (hs : s.size ≤ 100000) (q : PV) (w : World) (hq : OwnP B pb w q) (hB : B ≤ w.heap.size) (hz : sizeP q.po ≤ 1000000) (h0 : 0 < s.size) (h35 : (s[0]'h0).toNat ≠ 35) (x : Bs) (r : List Bs) (hW : wordsL s.data.toList = x :: r) (n_deep : x ≠ deepN) (hx : x = elemN) (y : Bs) (l : List Bs) (hr : r = y :: l) :
    Calls Tryz.prog 30 #[.pointer (some ⟨pb, 0, none⟩), .string s] w fun e w' => Took B pb w (some { q.po with ru := q.po.ru ++ [⟨y, l⟩] }) e w' := by
  have hfew := words_few s.data.toList
  rw [← size_list, hW, List.length_cons] at hfew
  have hrl : r.length ≤ 100000 := by omega
  have hsh : ∀ y ∈ r, y.length ≤ 1000000 := fun y hy => by
    have := words_short s.data.toList y (by rw [hW]; simp [hy])
    rw [← size_list] at this
    omega
  have HWD := hide (wordsOf_any s (by omega) w)
  rw [hW] at HWD
  have HQ := hide hq
  obtain ⟨z1, z2, z3, z4⟩ := size_bits q hz
  have h0i : (0 : Int) < s.size := by omega
  have h35i : (((s[0]'h0).toNat : Int) == 35) = false := ne_lit _ 35 (by omega)
  have hpb := hq.pb_lt
  clear hq h35 hW hz
  have e_deep : ((⟨x.toArray⟩ : ByteArray).toList == [100, 101, 101, 112]) = false := by rw [str_eq, str_data, beq_eq_false_iff_ne]; exact n_deep
  have e_elem : ((⟨x.toArray⟩ : ByteArray).toList == [101, 108, 101, 109, 101, 110, 116]) = true := by rw [str_eq, str_data, hx]; rfl
  go_enter Tryz.func30, Tryz.ntmps30
  go_wp2_with fail
  refine HWD.out.mono ?_
  rintro e w1 ⟨g, n, rfl, ho, b1⟩
  obtain ⟨hR, hn⟩ := owns_rowT ho
  rw [List.length_cons] at hn
  have hn1 : 1 ≤ n := by omega
  have hn1i : (1 : Int) ≤ n := by omega
  have hn0 : 0 < n := by omega
  have hn0i : (0 : Int) < n := by omega
  have hni : ((n : Int) == 0) = false := by rw [beq_eq_false_iff_ne]; omega
  obtain ⟨o', c', hcut, hoo, hcc⟩ := cut_rest g 0 n n hn1 (Nat.le_refl _)
  have hcx : w1.cell? ⟨g, 0, none⟩ = some (.string ⟨x.toArray⟩) := hR 0 x rfl
  have hR2 := rowT_rest hR (by rw [hn]; rfl) hoo
  have hq1 := HQ.out.below b1
  have hsz := b1.size
  have K1 := Keep.of (pb := pb) b1 hB
  obtain ⟨k0, k1, k2, k3, k4⟩ := hq1.cells
  have kf := hq1.free
  subst hr
  have hn2 : n - 1 = l.length + 1 := by rw [hn]; rfl
  have HRU := hide (fun W (b : Below w1.heap.size w1 W) => rule_some g o' (n - 1) c' y l hn2 (by rw [List.length_cons] at hrl; omega) hcc W (hR2.below b))
  have DD := hide (Below.refl w1.heap.size w1).drew
  have HAP := hide (fun w2 (b2 : Below w1.heap.size w1.drew w2) a m c (ha : w2.ownsRow w1.heap.size 9 1 (.slice a m c) l.length (textsV l)) =>
    ruled_of (pb := pb) hq1 ((DD.out.trans b2).trans ((below_alloc w2 (.cells #[.string ⟨y.toArray⟩, .slice a m c] 53)).mono (DD.out.trans b2).size)) (by omega) z4 ⟨⟨y.toArray⟩, l, .slice a m c⟩ a m c rfl w2.heap.size (heap_alloc_new w2 _))
  have HFN := hide (fun w2 (b2 : Below w1.heap.size w1.drew w2) a m c (ha : w2.ownsRow w1.heap.size 9 1 (.slice a m c) l.length (textsV l)) v3 w3 (h3 : Ruled B pb (w2.alloc (.cells #[.string ⟨y.toArray⟩, .slice a m c] 53)) q ⟨⟨y.toArray⟩, l, .slice a m c⟩ v3 w3) =>
    have hb0 := (DD.out.trans b2).trans ((below_alloc w2 (.cells #[.string ⟨y.toArray⟩, .slice a m c] 53)).mono (DD.out.trans b2).size)
    show Took B pb w (some { q.po with ru := q.po.ru ++ [⟨y, l⟩] }) (.returned (.tuple #[])) (w3.setCell ⟨pb, 0, none⟩ v3) from
    took_some (q' := { q with rv := v3, rs := q.rs ++ [⟨⟨y.toArray⟩, l, .slice a m c⟩] }) (by unfold PV.po; simp [RV.ru]) (hq1.addR ⟨⟨y.toArray⟩, l, .slice a m c⟩ v3 hb0 (owns_base (owns_alloc ha _) (by omega)) (fun k hk => (ha.lt k hk).1) h3.g h3.o h3.at_) ((K1.trans ((Keep.of (pb := pb) hb0 (by omega)).trans (Keep.grown h3.g (by have := hb0.size; omega) (fun k hk => (hq1.lt 0 k hk).1)))).trans (Keep.set B pb w3 0 v3)))
  have k00 := k0
  obtain ⟨va, vc, hv⟩ := owns_formG hq1.r
  rw [hv] at k0 HAP
  have HRC : Hid (∀ w0 v3 w3 a m c, Ruled B pb w0 q ⟨⟨y.toArray⟩, l, .slice a m c⟩ v3 w3 → w3.cell? ⟨pb, 0, none⟩ = some (.slice va q.rs.length vc)) := hide (fun w0 v3 w3 a m c h => h.c.trans (by rw [hv]))
  have HC2 : Hid (∀ w2, Below w1.heap.size w1.drew w2 → w2.cell? ⟨pb, 0, none⟩ = some (.slice va q.rs.length vc)) := hide (fun w2 b2 => ((DD.out.trans b2).cell (cell_lt k0)).trans k0)
  have HC3 : Hid (∀ w2 o, Below w1.heap.size w1.drew w2 → (w2.alloc o).cell? ⟨pb, 0, none⟩ = some (.slice va q.rs.length vc)) := hide (fun w2 o b2 => (((DD.out.trans b2).trans ((below_alloc w2 o).mono (DD.out.trans b2).size)).cell (cell_lt k0)).trans k0)
  generalize hql : q.rs.length = ql at *
  generalize (⟨x.toArray⟩ : ByteArray) = X at *
  generalize (⟨y.toArray⟩ : ByteArray) = Y at *
  clear ho b1 hR hR2 hq1 K1 k1 k2 k3 k4 kf hn hoo hcc hfew hrl hsh hn2 HQ k00 hv hql
  go_wp2_with fail
  have k0d : w1.drew.cell? ⟨pb, 0, none⟩ = some (.slice va ql vc) := k0
  go_region_law (first | (with_reducible refine step_append_ex rfl (.tmp 35) (.tmp 38) 23 rfl (.slice va ql vc) (.slice (some ⟨w2.heap.size, 0, none⟩) 1 1) rfl rfl _ AP.out ?_; rintro v3 w3 h3; obtain ⟨a3, n3, c3, rfl⟩ := h3.form; have P3 := hide h3; have m1 := HRC.out _ _ _ _ _ _ h3; have m2 := h3.f; have HK := hide (FN.out _ _ h3); clear h3) | (refine step_call_enter rfl 56 #[.slice (some ⟨g, o', none⟩) (n - 1) c'] ?_ (HRU.out _ DD.out) ?_; go_simp; intro e w2 hh; obtain ⟨av, rfl, hav, b2⟩ := hh; refine ⟨_, rfl, ?_⟩; obtain ⟨aa, ac, rfl⟩ := owns_formG hav; have c2 := HC2.out _ b2; have c2a := HC3.out _ (.cells #[.string Y, .slice aa l.length ac] 53) b2; have AP := hide (HAP.out w2 b2 _ _ _ hav); have FN := hide (HFN.out w2 b2 _ _ _ hav); clear b2 hav))
  all_goals go_wp2
  all_goals (first | go_end0 | refine bodyPost_ret (results_none rfl _ _ _) rfl ?_)
  all_goals exact HK.out
theorem take_any (B pb : Nat) (s : ByteArray) (hs : s.size ≤ 100000) (q : PV) (w : World) (hq : OwnP B pb w q) (hB : B ≤ w.heap.size) (hz : sizeP q.po ≤ 1000000) :
    Calls Tryz.prog 30 #[.pointer (some ⟨pb, 0, none⟩), .string s] w fun e w' => Took B pb w (lineL q.po s.data.toList) e w' := by
  cases hW : wordsL s.data.toList with
  | nil =>
    have e : lineL q.po s.data.toList = some q.po := by unfold lineL; rw [hW]
    rw [e]
    exact take_empty B pb s hs q w hq hB hW
  | cons x r =>
    have h0 : 0 < s.size := by
      rcases Nat.eq_zero_or_pos s.size with h | h
      · have : s.data.toList = [] := List.eq_nil_of_length_eq_zero (by rw [← size_list]; exact h)
        rw [this] at hW
        cases hW
      · exact h
    by_cases h35 : (s[0]'h0).toNat = 35
    · have e : lineL q.po s.data.toList = some q.po := by
        unfold lineL
        rw [hW]
        simp only []
        rw [if_pos]
        rw [head_is s h0]
        congr 1
        exact UInt8.toNat_inj.1 h35
      rw [e]
      exact take_note B pb s hs q w hq hB h0 h35
    · have hh : ¬ s.data.toList.head? = some 35 := by
        rw [head_is s h0]
        intro e
        apply h35
        rw [Option.some.inj e]
        rfl
      by_cases n1 : x = deepN
      · match r, hW with
        | [], hW =>
          have e : lineL q.po s.data.toList = none := by
            unfold lineL
            rw [hW]
            simp only []
            rw [if_neg hh, if_pos n1]
          rw [e]
          exact take_deep1 B pb s hs q w hq hB hz h0 h35 x _ hW n1 (by simp)
        | [d], hW =>
          cases hd : deepL d with
          | none =>
            have e : lineL q.po s.data.toList = none := by
              unfold lineL
              rw [hW]
              simp only []
              rw [if_neg hh, if_pos n1]
              simp [hd]
            rw [e]
            exact take_deepN B pb s hs q w hq hB hz h0 h35 x _ hW n1 d rfl hd
          | some k =>
            have e : lineL q.po s.data.toList = some { q.po with de := (k : Int) } := by
              unfold lineL
              rw [hW]
              simp only []
              rw [if_neg hh, if_pos n1]
              simp [hd]
            rw [e]
            exact take_deepS B pb s hs q w hq hB hz h0 h35 x _ hW n1 d rfl k hd
        | a :: b :: l, hW =>
          have e : lineL q.po s.data.toList = none := by
            unfold lineL
            rw [hW]
            simp only []
            rw [if_neg hh, if_pos n1]
          rw [e]
          exact take_deep1 B pb s hs q w hq hB hz h0 h35 x _ hW n1 (by simp)
      · by_cases n2 : x = elemN
        · match r, hW with
          | [], hW =>
            have e : lineL q.po s.data.toList = none := by
              unfold lineL
              rw [hW]
              simp only []
              rw [if_neg hh, if_neg n1, if_pos n2]
            rw [e]
            exact take_elemN B pb s hs q w hq hB hz h0 h35 x _ hW n1 n2 rfl
          | y :: l, hW =>
            have e : lineL q.po s.data.toList = some { q.po with ru := q.po.ru ++ [⟨y, l⟩] } := by
              unfold lineL
              rw [hW]
              simp only []
              rw [if_neg hh, if_neg n1, if_pos n2]
            rw [e]
            exact take_elemS B pb s hs q w hq hB hz h0 h35 x _ hW n1 n2 y l rfl
        · by_cases n3 : x = linkN
          · have e : lineL q.po s.data.toList = some { q.po with li := q.po.li ++ r } := by
              unfold lineL
              rw [hW]
              simp only []
              rw [if_neg hh, if_neg n1, if_neg n2, if_pos n3]
            rw [e]
            exact take_link B pb s hs q w hq hB hz h0 h35 x r hW n1 n2 n3
          · by_cases n4 : x = schemeN
            · have e : lineL q.po s.data.toList = some { q.po with sc := q.po.sc ++ r } := by
                unfold lineL
                rw [hW]
                simp only []
                rw [if_neg hh, if_neg n1, if_neg n2, if_neg n3, if_pos n4]
              rw [e]
              exact take_scheme B pb s hs q w hq hB hz h0 h35 x r hW n1 n2 n3 n4
            · by_cases n5 : x = dropN
              · have e : lineL q.po s.data.toList = some { q.po with dr := q.po.dr ++ r } := by
                  unfold lineL
                  rw [hW]
                  simp only []
                  rw [if_neg hh, if_neg n1, if_neg n2, if_neg n3, if_neg n4, if_pos n5]
                rw [e]
                exact take_drop B pb s hs q w hq hB hz h0 h35 x r hW n1 n2 n3 n4 n5
              · have e : lineL q.po s.data.toList = none := by
                  unfold lineL
                  rw [hW]
                  simp only []
                  rw [if_neg hh, if_neg n1, if_neg n2, if_neg n3, if_neg n4, if_neg n5]
                rw [e]
                exact take_other B pb s hs q w hq hB hz h0 h35 x r hW n1 n2 n3 n4 n5
end Go.Proofs.YthopnliaikkhbaaGreatDoor
