/- What depth and rule do; appends to a list of texts of one's own. -/
import Derived.Test.YthopnliaikkhbaaGreatDoorSq11
import Derived.Test.YthopnliaikkhbaaGreatDoorSt11
import Derived.Test.YthopnliaikkhbaaGreatDoorSv11
import Derived.Deep.RegionLaw
set_option linter.unusedVariables false
set_option linter.unusedSimpArgs false
set_option maxRecDepth 4000
namespace Go.Proofs.YthopnliaikkhbaaGreatDoor
open Go.RowKit

/-- An append whose run is known, in a region that draws. -/
theorem step_append_run {P : Program} {ops : Array Oper} {o : Oper} {a : Act} {w : World} {K : Act → World → Prop} {Q : Exit → Act → World → Prop} {E : Prop} (hgd : o.guard = none) (s x : Operand) (t : TypeId)
    (ho : o.op = .call { callee := .builtin .append, args := #[s, x], argTypes := #[t, t] }) (v1 v2 v' : Value) (w' : World) (hs : a.eval s = v1) (hx : a.eval x = v2)
    (hr : (Builtin.append_ #[t, t] o.type #[v1, v2]).run P w = .ok v' w') (hK : K (a.put o.dst v') w') : if Region.wanted o (yielded ops a.tmps) = true then Oper.wp P o a w K Q else E := by
  have hw : Region.wanted o (yielded ops a.tmps) = true := by simp [Region.wanted, hgd]
  rw [if_pos hw]
  unfold Oper.wp execOp
  simp only [ho, resolve, invoke, builtin, Sem.run_bind, Sem.run_pure, Result.andThen_ok, List.map_toArray, List.map_cons, List.map_nil, hs, hx, hr]
  exact hK
/-- What is told where a line says something else. -/
def textPanic : List PanicEntry := [{ v := .iface 27 (.int .i64 7), recovered := false }]
/-- A list of texts lies there from a place of a block on. -/
def RowT (w : World) (g o : Nat) (l : List Bs) : Prop := ∀ j x, l[j]? = some x → w.cell? ⟨g, o + j, none⟩ = some (.string ⟨x.toArray⟩)
theorem RowT.below {w W : World} {g o : Nat} {l : List Bs} (h : RowT w g o l) (hb : Below w.heap.size w W) : RowT W g o l := fun j x hj => (hb.cell (cell_lt (h j x hj))).trans (h j x hj)
theorem RowT.drew {w : World} {g o : Nat} {l : List Bs} (h : RowT w g o l) : RowT w.drew g o l := h
theorem owns_rowT {w : World} {B n g c : Nat} {l : List Bs} (h : w.ownsRow B 9 1 (.slice (some ⟨g, 0, none⟩) n c) n (textsV l)) : RowT w g 0 l ∧ n = l.length := by
  have hn := h.1
  rw [textsV_len] at hn
  refine ⟨fun j x hj => ?_, by omega⟩
  obtain ⟨hlt, rfl⟩ := List.getElem?_eq_some_iff.1 hj
  have := h.cells rfl j _ (textsV_get l j hlt)
  rw [addr_add] at this
  rw [Nat.zero_add]
  exact this
/-- What stands behind the first one. -/
theorem cut_rest (g o n c : Nat) (hn : 1 ≤ n) (hc : n ≤ c) : ∃ o' c', (∀ W, (Instr.slice 24 (.slice (some ⟨g, o, none⟩) n c) (some (.int .i64 1)) none none).run Tryz.prog W = .ok (.slice (some ⟨g, o', none⟩) (n - 1) c') W) ∧ (n = 1 ∨ o' = o + 1) ∧ n - 1 ≤ c' := by
  by_cases h : c = 1
  · refine ⟨o, c - 1, fun W => ?_, .inl (by omega), by omega⟩
    have h1 : 1 ≤ n := hn
    simp [Instr.slice, run_underlying Tryz.underlying24, Instr.sliceBounds, Instr.sliceBound, asIntOf, h1, Tryz.sizeOf9, h]
    intro hlt
    omega
  · refine ⟨o + 1, c - 1, fun W => ?_, .inr rfl, by omega⟩
    have h1 : 1 ≤ n := hn
    have ha : (⟨g, o, none⟩ : Addr).add 1 = ⟨g, o + 1, none⟩ := by simp [Addr.add]
    simp [Instr.slice, run_underlying Tryz.underlying24, Instr.sliceBounds, Instr.sliceBound, asIntOf, h1, Tryz.sizeOf9, h, ha]
    intro hlt
    omega
theorem rowT_rest {w : World} {g o o' n : Nat} {x : Bs} {l : List Bs} (h : RowT w g o (x :: l)) (hn : n = (x :: l).length) (ho : n = 1 ∨ o' = o + 1) : RowT w g o' l := by
  intro j y hj
  have hlt := (List.getElem?_eq_some_iff.1 hj).1
  rcases ho with ho | rfl
  · rw [hn] at ho
    simp only [List.length_cons] at ho
    omega
  · have := h (j + 1) y (by simpa using hj)
    rw [show o + 1 + j = o + (j + 1) by omega]
    exact this
/-- append(v, l...), v a list of texts of one's own. -/
theorem append_texts (W : World) (B n : Nat) (v : Value) (xs : List Value) (g o c : Nat) (l : List Bs) (hown : W.ownsRow B 9 1 v n xs) (hl : RowT W g o l) (h1 : n ≤ 100000000) (h2 : l.length ≤ 100000000) (hB : B ≤ W.heap.size) :
    ∃ v' w', (Builtin.append_ #[24, 24] 24 #[v, .slice (some ⟨g, o, none⟩) l.length c]).run Tryz.prog W = .ok v' w' ∧ w'.ownsRow B 9 1 v' (n + l.length) (xs ++ textsV l) ∧ W.grownBy w' v.ownBlock ∧ (v'.ownBlock = v.ownBlock ∨ v'.ownBlock = some W.heap.size) := by
  obtain ⟨v', w', hr, ho, hg, _, hat⟩ := run_append_own_at (P := Tryz.prog) W B 24 24 9 Tryz.t9 (.string ⟨#[]⟩) 1 16 Tryz.underlying24 (by kernel_rfl) (by kernel_rfl) (by kernel_rfl) (by kernel_rfl) (by kernel_rfl) (by omega)
      v n xs hown ⟨g, o, none⟩ l.length c (textsV l) (by rw [textsV_len, Nat.mul_one])
      (by
        intro j u hu
        have hj : j < l.length := by rw [← textsV_len]; exact (List.getElem?_eq_some_iff.1 hu).1
        rw [textsV_get l j hj] at hu
        have e : (⟨g, o, none⟩ : Addr).add j = ⟨g, o + j, none⟩ := by unfold Addr.add; split <;> simp_all
        rw [e, hl j _ (List.getElem?_eq_getElem hj)]
        exact hu) (by
        intro u hu
        unfold textsV at hu
        obtain ⟨x, _, rfl⟩ := List.mem_map.1 hu
        rfl) (by unfold maxLen; omega) (by omega) hB
  exact ⟨v', w', hr, ho, hg, hat⟩
theorem textsV_app (a b : List Bs) : textsV (a ++ b) = textsV a ++ textsV b := by unfold textsV; rw [List.map_append]
set_option maxHeartbeats 1000000 in
theorem depth_bad1 (a : Option Addr) (n c : Nat) (hn : n ≠ 1) (w : World) :
    Calls Tryz.prog 55 #[.slice a n c] w fun e w' => e = .panicked textPanic ∧ w' = w := by
  have h1 : ((n : Int) != 1) = true := by rw [bne_iff_ne]; omega
  clear hn
  go_enter Tryz.func55, Tryz.ntmps55
  go_wp2
  exact ⟨rfl, rfl, rfl⟩
set_option maxHeartbeats 1000000 in
theorem depth_one (g o c : Nat) (d : Bs) (hd : d.length ≤ 1000000) (w : World) (hc : w.cell? ⟨g, o, none⟩ = some (.string ⟨d.toArray⟩)) :
    Calls Tryz.prog 55 #[.slice (some ⟨g, o, none⟩) 1 c] w fun e w' => (match deepL d with
      | none => e = .panicked textPanic
      | some k => e = .returned (.int .i64 (k : Int))) ∧ Below w.heap.size w w' := by
  have H1 := hide (numberMay_any ⟨d.toArray⟩ (by rw [size_list, str_data]; exact hd))
  rw [str_data] at H1
  cases hk : deepL d with
  | none =>
    rw [hk] at H1
    have H1' : Hid (∀ w, Calls Tryz.prog 75 #[.string ⟨d.toArray⟩] w fun e w' => e = .returned (.bool false) ∧ w' = w) := H1
    generalize (⟨d.toArray⟩ : ByteArray) = x at *
    simp only []
    clear hk hd H1
    go_enter Tryz.func55, Tryz.ntmps55
    go_wp2_with fail
    refine (H1'.out _).mono ?_
    rintro e w1 ⟨rfl, rfl⟩
    go_wp2
    exact ⟨rfl, rfl, Below.refl _ _⟩
  | some k =>
    rw [hk] at H1
    have H1' : Hid (∀ w, Calls Tryz.prog 75 #[.string ⟨d.toArray⟩] w fun e w' => e = .returned (.bool true) ∧ w' = w) := H1
    obtain ⟨a1, a2, a3⟩ := atoi_is d k hk
    have H2 := hide (fun w => Tryz.strconv_Atoi ⟨d.toArray⟩ (k : Int) (by rw [size_list, str_data]; omega) (by rw [str_data]; exact a1) w)
    generalize (⟨d.toArray⟩ : ByteArray) = x at *
    simp only []
    clear hk hd H1 a1 a2
    go_enter Tryz.func55, Tryz.ntmps55
    go_wp2_with fail
    refine (H1'.out _).mono ?_
    rintro e w1 ⟨rfl, rfl⟩
    go_wp2_with fail
    refine (H2.out _).mono ?_
    rintro e w2 ⟨rfl, t, rfl⟩
    have hb := hide (Go.Joins.below_bytesWorld w1.heap.size w1 5 t (Nat.le_refl _))
    generalize Lib.bytesWorld w1 5 t = w3 at *
    go_wp2
    go_ret
    exact ⟨rfl, hb.out⟩
set_option maxHeartbeats 1000000 in
theorem rule_none (a : Option Addr) (c : Nat) (w : World) :
    Calls Tryz.prog 56 #[.slice a 0 c] w fun e w' => e = .panicked textPanic ∧ Below w.heap.size w w' := by
  go_enter Tryz.func56, Tryz.ntmps56
  go_wp2
  exact ⟨rfl, rfl, below_alloc w _⟩
set_option maxHeartbeats 1000000 in
theorem rule_some (g o n c : Nat) (x : Bs) (l : List Bs) (hn : n = l.length + 1) (hl : l.length ≤ 1000000) (hc : n ≤ c) (w : World) (hR : RowT w g o (x :: l)) :
    Calls Tryz.prog 56 #[.slice (some ⟨g, o, none⟩) n c] w fun e w' => ∃ av, e = .returned (.agg #[.string ⟨x.toArray⟩, av]) ∧ w'.ownsRow w.heap.size 9 1 av l.length (textsV l) ∧ Below w.heap.size w w' := by
  obtain ⟨o', c', hcut, ho, hcc⟩ := cut_rest g o n c (by omega) hc
  have hR2 := rowT_rest hR (by rw [hn]; rfl) ho
  have hb := below_alloc w (.cells #[.string ⟨#[]⟩, .slice none 0 0] 53)
  obtain ⟨v', w', hrun, how, hg, hat⟩ := append_texts (w.alloc (.cells #[.string ⟨#[]⟩, .slice none 0 0] 53)).drew w.heap.size 0 (.slice none 0 0) [] g o' c' l ⟨rfl, .inl ⟨rfl, rfl⟩⟩ (hR2.below hb).drew (by omega) (by omega) hb.drew.size
  obtain ⟨va, vc, rfl⟩ := owns_formG how
  rw [Nat.zero_add, List.nil_append] at how
  have hcell : ∀ W, Below w.heap.size w W → W.cell? ⟨g, o, none⟩ = some (.string ⟨x.toArray⟩) := fun W b => by
    have := (hR.below b) 0 x rfl
    exact this
  have c0 := hcell _ hb
  have hi0 : ((n : Int) == 0) = false := by rw [beq_eq_false_iff_ne]; omega
  have hin : (0 : Int) < n := by omega
  have hin2 : 0 < n := by omega
  rw [Nat.zero_add] at hrun
  have hbk : ∀ j, w'.cell? ⟨w.heap.size, j, none⟩ = (w.alloc (.cells #[.string ⟨#[]⟩, .slice none 0 0] 53)).cell? ⟨w.heap.size, j, none⟩ ∧ w'.frozen? ⟨w.heap.size, j, none⟩ = (w.alloc (.cells #[.string ⟨#[]⟩, .slice none 0 0] 53)).frozen? ⟨w.heap.size, j, none⟩ := by
    intro j
    have e : w'.heap[w.heap.size]? = (w.alloc (.cells #[.string ⟨#[]⟩, .slice none 0 0] 53)).heap[w.heap.size]? := hg.block w.heap.size (by simp [World.drew]) (by intro e; cases e)
    exact ⟨World.cell?_of_block (a := ⟨w.heap.size, j, none⟩) e, World.frozen?_of_block (a := ⟨w.heap.size, j, none⟩) e⟩
  have d0 : w'.cell? ⟨w.heap.size, 0, none⟩ = some (.string ⟨#[]⟩) := by rw [(hbk 0).1]; simp [go_sem]
  have d1 : w'.cell? ⟨w.heap.size, 1, none⟩ = some (.slice none 0 0) := by rw [(hbk 1).1]; simp [go_sem]
  have f0 : w'.frozen? ⟨w.heap.size, 0, none⟩ = false := by rw [(hbk 0).2]; simp [go_sem]
  have f1 : w'.frozen? ⟨w.heap.size, 1, none⟩ = false := by rw [(hbk 1).2]; simp [go_sem]
  have hne : ∀ k, (Value.slice va l.length vc).ownBlock = some k → k ≠ w.heap.size := by
    intro k hk
    rw [Nat.zero_add] at hat
    rcases hat with e | e
    · rw [e] at hk; cases hk
    · rw [e] at hk
      have := Option.some.inj hk
      simp [World.drew] at this
      omega
  have B2 : Below w.heap.size w w' := (hb.drew).grown hg hb.size (by intro k hk; cases hk)
  have c1 := hcell _ B2
  have HFIN : Hid (∀ u0 u1, ((w'.setCell ⟨w.heap.size, 0, none⟩ u0).setCell ⟨w.heap.size, 1, none⟩ u1).ownsRow w.heap.size 9 1 (.slice va l.length vc) l.length (textsV l) ∧ Below w.heap.size w ((w'.setCell ⟨w.heap.size, 0, none⟩ u0).setCell ⟨w.heap.size, 1, none⟩ u1)) := hide (fun u0 u1 => ⟨owns_keep how fun k hk => by
      rw [Below.heap_setCell _ _ _ _ (hne k hk), Below.heap_setCell _ _ _ _ (hne k hk)], (B2.setCell (p := ⟨w.heap.size, 0, none⟩) (Nat.le_refl _) u0).setCell (p := ⟨w.heap.size, 1, none⟩) (Nat.le_refl _) u1⟩)
  rw [show l.length = n - 1 by omega] at hrun HFIN
  have HRUN := hide hrun
  generalize (⟨x.toArray⟩ : ByteArray) = X at *
  generalize hW0 : w.alloc (.cells #[.string ⟨#[]⟩, .slice none 0 0] 53) = W0 at *
  generalize textsV l = T at *
  rw [show l.length = n - 1 by omega]
  clear hrun how hg hat hR hR2 hcell hb hcc ho hc hl hn hbk hne B2
  go_enter Tryz.func56, Tryz.ntmps56
  go_wp2_with fail
  clear hW0
  go_region_law (with_reducible refine step_append_run rfl _ _ 24 rfl (.slice none 0 0) (.slice (some ⟨g, o', none⟩) (n - 1) c') _ w' rfl rfl HRUN.out ?_)
  all_goals go_wp2
  all_goals refine bodyPost_ret (v := .agg #[.string X, .slice va (n - 1) vc]) ?_ rfl ⟨_, rfl, (HFIN.out _ _).1, (HFIN.out _ _).2⟩
  all_goals simp [results, Tryz.results56, go_sem, d0, d1]
end Go.Proofs.YthopnliaikkhbaaGreatDoor
