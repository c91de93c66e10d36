import Derived.Test.YtpppdfjdngmaoaaGreatDoorKc02
import Derived.Test.YtpppdfjdngmaoaaGreatDoorKc33
set_option linter.unusedVariables false
set_option linter.unusedSimpArgs false
set_option maxRecDepth 100000
set_option maxHeartbeats 8000000
namespace Go.Proofs.YtpppdfjdngmaoaaGreatDoor
open S5 (ND TR WF kidsAt nodeAt parentN appendL beforeL moveL addL withinL newL outL setK aheadL pushL)
open S4 (Tok nextR)
def colgS : Bs := [99, 111, 108, 103, 114, 111, 117, 112]
def NoCol (l : List OM) : Prop := ∀ o ∈ l, isO o [colgS] = false
def rulesF (l : List OM) : Nat := ((l.getLast?).bind rulesOf).getD 0
structure SI (b : BS) : Prop where
  inv : Inv b
  fo : b.fost = false
  ru : b.rules = rulesF (sk b.op)
  col : NoCol b.op ∨ (isO (curB b) [colgS] = true ∧ NoCol b.op.dropLast)
theorem isO_sub {o : OM} {a c : List Bs} (h : (a.all fun n => S6.amongL c n) = true) (ho : isO o a = true) : isO o c = true := by
  unfold isO at ho ⊢
  simp only [Bool.and_eq_true] at ho ⊢
  exact ⟨ho.1, among_all (P := fun n => S6.amongL c n) h ho.2⟩
theorem isO_tab {o : OM} : isO o tabA = tabO o := rfl
theorem rules_some {o : OM} {r : Nat} (h : rulesOf o = some r) : tabO o = true ∧ ((r = 6 ∧ isO o ofCell = true) ∨ (r = 5 ∧ isO o [[116, 114]] = true) ∨ (r = 4 ∧ isO o ofRows = true) ∨ (r = 2 ∧ isO o [[99, 97, 112, 116, 105, 111, 110]] = true) ∨ (r = 3 ∧ isO o [colgS] = true) ∨ (r = 1 ∧ isO o [tableS] = true)) := by
  unfold rulesOf at h
  split at h
  · rename_i c; exact ⟨isO_sub (c := tabA) (by decide) c, Or.inl ⟨(Option.some.inj h).symm, c⟩⟩
  split at h
  · rename_i c; exact ⟨isO_sub (c := tabA) (by decide) c, Or.inr (Or.inl ⟨(Option.some.inj h).symm, c⟩)⟩
  split at h
  · rename_i c; exact ⟨isO_sub (c := tabA) (by decide) c, Or.inr (Or.inr (Or.inl ⟨(Option.some.inj h).symm, c⟩))⟩
  split at h
  · rename_i c; exact ⟨isO_sub (c := tabA) (by decide) c, Or.inr (Or.inr (Or.inr (Or.inl ⟨(Option.some.inj h).symm, c⟩)))⟩
  split at h
  · rename_i c; exact ⟨isO_sub (c := tabA) (by decide) c, Or.inr (Or.inr (Or.inr (Or.inr (Or.inl ⟨(Option.some.inj h).symm, c⟩))))⟩
  split at h
  · rename_i c; exact ⟨isO_sub (c := tabA) (by decide) c, Or.inr (Or.inr (Or.inr (Or.inr (Or.inr ⟨(Option.some.inj h).symm, c⟩))))⟩
  · cases h
theorem rules_name {z : Nat} {n : Bs} {L : List Bs} {r : Nat} (hL : (L.all fun n => rulesOf ⟨0, 0, n⟩ == some r) = true) (h : S6.amongL L n = true) : rulesOf ⟨z, 0, n⟩ = some r := by
  have := among_all (P := fun n => rulesOf ⟨0, 0, n⟩ == some r) hL h
  simp only [beq_iff_eq] at this
  exact this
theorem rules_of {o : OM} {L : List Bs} {r : Nat} (hL : (L.all fun n => rulesOf ⟨0, 0, n⟩ == some r) = true) (h : isO o L = true) : rulesOf o = some r := by
  unfold isO at h
  simp only [Bool.and_eq_true, beq_iff_eq] at h
  obtain ⟨z, sp, nm⟩ := o
  obtain ⟨rfl, h⟩ := h
  exact rules_name hL h
theorem rules_tab (o : OM) (h : tabO o = true) : (rulesOf o).isSome = true := by
  unfold tabO at h
  simp only [Bool.and_eq_true, beq_iff_eq] at h
  obtain ⟨z, sp, nm⟩ := o
  obtain ⟨rfl, h⟩ := h
  exact among_all (L := tabA) (P := fun n => (rulesOf ⟨z, 0, n⟩).isSome) rfl h
theorem rules_none (o : OM) (h : tabO o = false) : rulesOf o = none := by
  cases hr : rulesOf o with
  | none => rfl
  | some r => rw [(rules_some hr).1] at h; cases h
theorem top_tab : ∀ (l : List OM) (o : OM), (sk l).getLast? = some o → ∃ k, l[k]? = some o ∧ tabO o = true ∧ Safe l (k + 1)
  | [], o, h => by simp [sk] at h
  | x :: r, o, h => by
    by_cases hr : sk r = []
    · have hs : Safe (x :: r) 1 := by
        intro i y hi hy
        obtain ⟨j, rfl⟩ := Nat.exists_eq_add_of_le' hi
        have hm : y ∈ r := List.mem_of_getElem? (show r[j]? = some y from hy)
        unfold sk at hr
        rw [List.filter_eq_nil_iff] at hr
        simpa using hr y hm
      unfold sk at h hr
      rw [List.filter_cons, hr] at h
      split at h
      · rename_i c
        obtain rfl : x = o := by simpa using h
        exact ⟨0, rfl, c, hs⟩
      · simp at h
    · have e : (sk (x :: r)).getLast? = (sk r).getLast? := by
        unfold sk at hr ⊢
        rw [List.filter_cons]
        split
        · rw [List.getLast?_cons]
          cases hg : (List.filter tabO r).getLast? with
          | none => exact absurd (List.getLast?_eq_none_iff.1 hg) hr
          | some y => rfl
        · rfl
      rw [e] at h
      obtain ⟨k, k1, k2, k3⟩ := top_tab r o h
      refine ⟨k + 1, k1, k2, ?_⟩
      intro i y hi hy
      obtain ⟨j, rfl⟩ := Nat.exists_eq_add_of_le' (show 1 ≤ i by omega)
      exact k3 j y (by omega) hy
theorem find_last : ∀ l : List OM, l.reverse.findSome? rulesOf = ((sk l).getLast?).bind rulesOf
  | [] => rfl
  | x :: r => by
    rw [List.reverse_cons, List.findSome?_append, find_last r]
    by_cases hr : sk r = []
    · have e : sk (x :: r) = if tabO x = true then [x] else [] := by
        unfold sk at hr ⊢
        rw [List.filter_cons, hr]
      rw [hr, e]
      split
      · simp
      · rename_i c
        simp [rules_none x (Bool.eq_false_iff.2 c)]
    · have e : (sk (x :: r)).getLast? = (sk r).getLast? := by
        unfold sk at hr ⊢
        rw [List.filter_cons]
        split
        · rw [List.getLast?_cons]
          cases hg : (List.filter tabO r).getLast? with
          | none => exact absurd (List.getLast?_eq_none_iff.1 hg) hr
          | some y => rfl
        · rfl
      rw [e]
      cases hg : (sk r).getLast? with
      | none => exact absurd (List.getLast?_eq_none_iff.1 hg) hr
      | some y =>
        have hy : tabO y = true := by
          have := List.mem_of_getLast? hg
          unfold sk at this
          exact (List.mem_filter.1 this).2
        have := rules_tab y hy
        cases hq : rulesOf y with
        | none => rw [hq] at this; cases this
        | some q => simp [hq]
theorem sk_root (l : List OM) (h : l[0]? = some rootO) : sk (l.drop 1) = sk l := by
  rcases l with _ | ⟨x, r⟩
  · cases h
  · obtain rfl : x = rootO := by simpa using h
    unfold sk
    rw [List.filter_cons]
    rfl
theorem reset_rules (b : BS) (h : b.op[0]? = some rootO) : (resetB b).rules = rulesF (sk b.op) := by
  show ((b.op.drop 1).reverse.findSome? rulesOf).getD 0 = _
  rw [find_last, sk_root _ h]
  rfl
theorem SI.top {b : BS} (h : SI b) {r : Nat} (hr : b.rules = r) (h0 : r ≠ 0) : ∃ k o, b.op[k]? = some o ∧ 1 ≤ k ∧ rulesOf o = some r ∧ Safe b.op (k + 1) := by
  have hu := h.ru
  rw [hr] at hu
  unfold rulesF at hu
  cases hg : (sk b.op).getLast? with
  | none => rw [hg] at hu; exact absurd hu h0
  | some o =>
    rw [hg] at hu
    obtain ⟨k, k1, k2, k3⟩ := top_tab _ _ hg
    refine ⟨k, o, k1, ?_, ?_, k3⟩
    · cases k with
      | zero =>
        rw [h.inv.o.hd] at k1
        obtain rfl : rootO = o := Option.some.inj k1
        exact absurd k2 (by decide)
      | succ k => omega
    · have := rules_tab o k2
      cases hq : rulesOf o with
      | none => rw [hq] at this; cases this
      | some q =>
        have hu : r = q := by simpa [hq] using hu
        rw [hu]
theorem SI.noCol {b : BS} (h : SI b) (h3 : b.rules ≠ 3) : NoCol b.op := by
  rcases h.col with c | ⟨c, _⟩
  · exact c
  · exfalso
    refine h3 ?_
    have hp := h.inv.o.pos
    have e : b.op = b.op.dropLast ++ [curB b] := by
      unfold curB
      rw [List.getLast?_eq_some_getLast (by intro e; rw [e] at hp; simp at hp)]
      exact (List.dropLast_concat_getLast _).symm
    rw [h.ru, e, sk_tab _ _ (by rw [← isO_tab]; exact isO_sub (by decide) c)]
    unfold rulesF
    rw [List.getLast?_concat]
    simp [rules_of (L := [colgS]) (r := 3) (by decide) c]
theorem noCol_sk {l r : List OM} (h : NoCol l) (e : sk r = sk l) : NoCol r := by
  intro o ho
  cases hx : isO o [colgS] with
  | false => rfl
  | true =>
    have ht : tabO o = true := by rw [← isO_tab]; exact isO_sub (by decide) hx
    have hm : o ∈ sk r := List.mem_filter.2 ⟨ho, ht⟩
    rw [e] at hm
    rw [h o (List.mem_filter.1 hm).1] at hx
    cases hx
theorem NoCol.take {l : List OM} (h : NoCol l) (k : Nat) : NoCol (l.take k) := fun o ho => h o (List.mem_of_mem_take ho)
theorem NoCol.app {l : List OM} (h : NoCol l) {o : OM} (ho : isO o [colgS] = false) : NoCol (l ++ [o]) := by
  intro x hx
  rcases List.mem_append.1 hx with q | q
  · exact h x q
  · rw [List.mem_singleton.1 q]; exact ho
theorem SI.ofGT {b b' : BS} (h : SI b) (h3 : b.rules ≠ 3) (g : GT b b') (he : b'.e = 0) : SI b' := by
  obtain ⟨_, k⟩ := g he
  obtain ⟨i, f, q⟩ := k h.inv
  have nc := h.noCol h3
  rcases q with ⟨s, r⟩ | ⟨n, s, r⟩
  · exact ⟨i, f.trans h.fo, by rw [r, s]; exact h.ru, Or.inl (noCol_sk nc s)⟩
  · refine ⟨i, f.trans h.fo, ?_, Or.inl ?_⟩
    · rw [r, s]
      unfold rulesF
      rw [List.getLast?_concat]
      rfl
    · intro o ho
      cases hx : isO o [colgS] with
      | false => rfl
      | true =>
        have ht : tabO o = true := by rw [← isO_tab]; exact isO_sub (by decide) hx
        have hm : o ∈ sk b'.op := List.mem_filter.2 ⟨ho, ht⟩
        rw [s] at hm
        rcases List.mem_append.1 hm with q | q
        · rw [nc o (List.mem_filter.1 q).1] at hx
          cases hx
        · rw [List.mem_singleton.1 q] at hx
          exact absurd hx (by show ¬ isO ⟨n, 0, tableS⟩ [colgS] = true; simp [isO, S6.amongL, tableS, colgS])
theorem SI.ofG {b b' : BS} (h : SI b) (h3 : b.rules ≠ 3) (g : G b b') (he : b'.e = 0) : SI b' := h.ofGT h3 g.gt he
theorem SI.ofOp {b b' : BS} (h : SI b) (g : G b b') (e : b'.op = b.op) (he : b'.e = 0) : SI b' := by
  obtain ⟨i, s, r, f⟩ := (g he).2 h.inv
  refine ⟨i, f.f.trans h.fo, by rw [r, s]; exact h.ru, ?_⟩
  rw [show curB b' = curB b from by unfold curB; rw [e], e]
  exact h.col
def belowR (r : Nat) : Nat := if r = 6 then 5 else if r = 5 then 4 else 1
theorem fits_cell {n w : Bs} (h : S6.amongL ofCell n = true) : fitsL n w = (w == [116, 114]) := by
  unfold fitsL; rw [if_pos h]
theorem fits_tr {w : Bs} : fitsL [116, 114] w = S6.amongL rowsN w := rfl
theorem fits_own {n w : Bs} (h : S6.amongL ownN n = true) : fitsL n w = (w == tableS) := by
  unfold S6.amongL ownN at h
  simp at h
  rcases h with rfl | rfl | rfl | rfl | rfl <;> rfl
theorem in_some {a : OM} {w : Bs} (hw : w ≠ []) (h : inName a.sp a.nm = w) : a.sp = 0 ∧ a.nm = w := by
  unfold inName at h
  split at h
  · exact ⟨by assumption, h⟩
  · exact absurd h.symm hw
theorem below {a o : OM} {r : Nat} (h : AdjR a o) (hr : rulesOf o = some r) (h1 : r ≠ 1) : rulesOf a = some (belowR r) := by
  have mk : ∀ {w : Bs} {q : Nat}, w ≠ [] → rulesOf ⟨0, 0, w⟩ = some q → inName a.sp a.nm = w → rulesOf a = some q := by
    intro w q hw hq hi
    obtain ⟨e1, e2⟩ := in_some hw hi
    obtain ⟨z, sp, nm⟩ := a
    have e1 : sp = 0 := e1
    have e2 : nm = w := e2
    subst e1 e2
    exact hq
  obtain ⟨ht, hc⟩ := rules_some hr
  have sp0 : o.sp = 0 := by
    unfold tabO at ht
    simp only [Bool.and_eq_true, beq_iff_eq] at ht
    exact ht.1
  have hf := h sp0
  have nm : ∀ {L : List Bs}, isO o L = true → S6.amongL L o.nm = true := by
    intro L h
    unfold isO at h
    simp only [Bool.and_eq_true] at h
    exact h.2
  rcases hc with ⟨rfl, c⟩ | ⟨rfl, c⟩ | ⟨rfl, c⟩ | ⟨rfl, c⟩ | ⟨rfl, c⟩ | ⟨rfl, c⟩
  · rw [fits_cell (nm c)] at hf
    exact mk (w := [116, 114]) (by decide) rfl (by simpa using hf)
  · rw [(among_one _ _).1 (nm c), fits_tr] at hf
    unfold S6.amongL rowsN at hf
    simp at hf
    rcases hf with e | e | e
    · exact mk (by decide) rfl e
    · exact mk (by decide) rfl e
    · exact mk (by decide) rfl e
  · rw [fits_own (among_all (P := fun n => S6.amongL ownN n) (by decide) (nm c))] at hf
    exact mk (w := tableS) (by decide) rfl (by simpa using hf)
  · rw [fits_own (among_all (P := fun n => S6.amongL ownN n) (by decide) (nm c))] at hf
    exact mk (w := tableS) (by decide) rfl (by simpa using hf)
  · rw [fits_own (among_all (P := fun n => S6.amongL ownN n) (by decide) (nm c))] at hf
    exact mk (w := tableS) (by decide) rfl (by simpa using hf)
  · exact absurd rfl h1
theorem SI.cut {b : BS} (h : SI b) {k : Nat} {o : OM} {r : Nat} (hk : 1 ≤ k) (ho : b.op[k]? = some o) (hr : rulesOf o = some r) (h1 : r ≠ 1) (m : List MM) (hm : ∀ x ∈ m, x ∈ b.mr) :
    SI { b with op := b.op.take k, mr := m, rules := belowR r } := by
  have hlt := (List.getElem?_eq_some_iff.1 ho).1
  obtain ⟨j, rfl⟩ := Nat.exists_eq_add_of_le' hk
  have hx : b.op[j]? = some (b.op[j]'(by omega)) := List.getElem?_eq_getElem (by omega)
  have ra := below (h.inv.o.adj j _ o hx ho) hr h1
  refine ⟨⟨h.inv.t, h.inv.o.take hk, fun x hx => h.inv.m x (hm x hx)⟩, h.fo, ?_, Or.inl ?_⟩
  · show belowR r = rulesF (sk (b.op.take (j + 1)))
    rw [List.take_succ_eq_append_getElem (by omega), sk_tab _ _ (rules_some ra).1]
    unfold rulesF
    rw [List.getLast?_concat]
    simp [ra]
  · rcases h.col with c | ⟨_, c⟩
    · exact c.take _
    · intro x hx
      refine c x ?_
      rw [List.dropLast_eq_take]
      obtain ⟨i, hi⟩ := List.mem_iff_getElem?.1 hx
      rw [take_at] at hi
      split at hi
      · refine List.mem_of_getElem? (i := i) ?_
        rw [take_at, if_pos (by omega)]
        exact hi
      · cases hi
end Go.Proofs.YtpppdfjdngmaoaaGreatDoor
namespace Go.Proofs.YtpppdfjdngmaoaaGreatDoor
open S5 (ND TR WF kidsAt nodeAt parentN appendL beforeL moveL addL withinL newL outL setK aheadL pushL)
open S4 (Tok nextR)
theorem cur_at {b : BS} (h : 1 ≤ b.op.length) : b.op[b.op.length - 1]? = some (curB b) := by
  unfold curB
  rw [List.getLast?_eq_getElem?, List.getElem?_eq_getElem (by omega)]
  rfl
theorem clear_spec (names : List Bs) (k : Nat) (o : OM) (hn : isO o names = true) (hk1 : 1 ≤ k) : ∀ (f : Nat) (b : BS), b.op.length ≤ f + (k + 1) → b.op[k]? = some o → (∀ i x, k < i → b.op[i]? = some x → isO x names = false) → clearK names f b = { b with op := b.op.take (k + 1) }
  | 0, b, hl, hk, hs => by
    rw [clearK]
    rw [List.take_of_length_le (by omega)]
  | f + 1, b, hl, hk, hs => by
    have hlt := (List.getElem?_eq_some_iff.1 hk).1
    have hc := cur_at (b := b) (by omega)
    rw [clearK]
    by_cases e : b.op.length = k + 1
    · rw [show b.op.length - 1 = k from by omega, hk] at hc
      have hc := Option.some.inj hc
      rw [if_neg]
      · rw [List.take_of_length_le (by omega)]
      · rw [← hc, hn]
        simp
    · have hx := hs (b.op.length - 1) _ (by omega) hc
      rw [if_pos (by rw [hx]; simp; omega)]
      have hp : popB b = { b with op := b.op.take (b.op.length - 1) } := by
        unfold popB
        rw [if_pos (by omega), List.dropLast_eq_take]
      rw [hp]
      rw [clear_spec names k o hn hk1 f]
      · show { b with op := (b.op.take (b.op.length - 1)).take (k + 1) } = _
        rw [List.take_take, show min (k + 1) (b.op.length - 1) = k + 1 from by omega]
      · show (b.op.take (b.op.length - 1)).length ≤ _
        simp
        omega
      · show (b.op.take (b.op.length - 1))[k]? = _
        rw [take_at, if_pos (by omega)]
        exact hk
      · intro i x hi hx
        have hx : (b.op.take (b.op.length - 1))[i]? = some x := hx
        rw [take_at] at hx
        split at hx
        · exact hs i x hi hx
        · cases hx
theorem clear_eq {b : BS} {names : List Bs} {k : Nat} {o : OM} (hn : isO o names = true) (hk1 : 1 ≤ k) (hk : b.op[k]? = some o) (hs : ∀ i x, k < i → b.op[i]? = some x → isO x names = false) : clearToB b names = { b with op := b.op.take (k + 1) } :=
  clear_spec names k o hn hk1 _ b (by omega) hk hs
theorem cur_take {b : BS} {k : Nat} {o : OM} (hk : b.op[k]? = some o) : curB { b with op := b.op.take (k + 1) } = o := by
  have hlt := (List.getElem?_eq_some_iff.1 hk).1
  refine cur_last ?_
  show (b.op.take (k + 1)).getLast? = some o
  rw [List.getLast?_eq_getElem?, take_at, if_pos (by simp; omega)]
  rw [show (b.op.take (k + 1)).length - 1 = k from by simp; omega]
  exact hk
theorem SI.part {c : BS} (i : Inv c) (hf : c.fost = false) (nc : NoCol c.op) {nm : Bs} {r : Nat} (hne : nm ≠ []) (hv : S6.isL 1 nm = false) (ha : AdjR (curB c) ⟨0, 0, nm⟩) (hr : ∀ z, rulesOf ⟨z, 0, nm⟩ = some r) (aa : As) (he : (insertB c 0 nm aa).1.e = 0) : SI { (insertB c 0 nm aa).1 with rules := r } := by
  cases hi : insertB c 0 nm aa with
  | mk c' n =>
  rw [hi] at he
  obtain ⟨n, rfl⟩ := insert_e hi he
  obtain ⟨e0, e1, e2, e3, e4, e5, kk⟩ := insert_some hi
  have iv := insert_inv hi i hne (fun _ => hv) (Or.inr ⟨hf, ha⟩)
  refine ⟨⟨iv.t, iv.o, iv.m⟩, e5.trans hf, ?_, ?_⟩
  · show r = rulesF (sk c'.op)
    rw [e2, sk_tab _ _ (rules_some (hr n)).1]
    unfold rulesF
    rw [List.getLast?_concat]
    simp [hr n]
  · have hcur : curB { c' with rules := r } = ⟨n, 0, nm⟩ := cur_last (by show c'.op.getLast? = _; rw [e2, List.getLast?_concat])
    rw [hcur]
    show NoCol c'.op ∨ isO ⟨n, 0, nm⟩ [colgS] = true ∧ NoCol c'.op.dropLast
    rw [e2, List.dropLast_concat]
    cases hx : isO ⟨n, 0, nm⟩ [colgS] with
    | false => exact Or.inl (nc.app hx)
    | true => exact Or.inr ⟨rfl, nc⟩
theorem SI.clearInv {b : BS} (h : SI b) (h3 : b.rules ≠ 3) (k : Nat) : Inv { b with op := b.op.take (k + 1) } ∧ NoCol (b.op.take (k + 1)) := ⟨⟨h.inv.t, h.inv.o.take (by omega), h.inv.m⟩, (h.noCol h3).take _⟩
theorem SI.table {b : BS} (h : SI b) (hr : b.rules = 1 ∨ b.rules = 4 ∨ b.rules = 5) : ∃ k o, b.op[k]? = some o ∧ 1 ≤ k ∧ isO o [tableS] = true ∧ ∀ i x, k < i → b.op[i]? = some x → isO x [tableS] = false := by
  have one : ∀ {o : OM}, rulesOf o = some 1 → isO o [tableS] = true := by
    intro o ho
    rcases (rules_some ho).2 with ⟨e, _⟩ | ⟨e, _⟩ | ⟨e, _⟩ | ⟨e, _⟩ | ⟨e, _⟩ | ⟨_, c⟩
    · cases e
    · cases e
    · cases e
    · cases e
    · cases e
    · exact c
  have down : ∀ {k : Nat} {o : OM} {r : Nat}, b.op[k]? = some o → rulesOf o = some r → r ≠ 1 → ∃ (j : Nat) (a : OM), b.op[j]? = some a ∧ rulesOf a = some (belowR r) := by
    intro k o r hk hr h1
    have hlt := (List.getElem?_eq_some_iff.1 hk).1
    cases k with
    | zero =>
      rw [h.inv.o.hd] at hk
      obtain rfl : rootO = o := Option.some.inj hk
      exact absurd hr (by show ¬ rulesOf rootO = some r; rw [show rulesOf rootO = none from rfl]; simp)
    | succ j =>
      have hx : b.op[j]? = some (b.op[j]'(by omega)) := List.getElem?_eq_getElem (by omega)
      exact ⟨j, _, hx, below (h.inv.o.adj j _ o hx hk) hr h1⟩
  obtain ⟨j, a, hj, ha⟩ : ∃ (j : Nat) (a : OM), b.op[j]? = some a ∧ rulesOf a = some 1 := by
    rcases hr with hr | hr | hr
    · obtain ⟨k, o, k1, _, k3, _⟩ := h.top hr (by decide)
      exact ⟨k, o, k1, k3⟩
    · obtain ⟨k, o, k1, _, k3, _⟩ := h.top hr (by decide)
      exact down k1 k3 (by decide)
    · obtain ⟨k, o, k1, _, k3, _⟩ := h.top hr (by decide)
      obtain ⟨j, a, q1, q2⟩ := down k1 k3 (by decide)
      exact down q1 q2 (by decide)
  have hlt := (List.getElem?_eq_some_iff.1 hj).1
  obtain ⟨m, h1, h2⟩ := last_found (S6.namedL [tableS]) (vs b.op) b.op.length j hlt (by
    rw [any_v, hj]
    show S6.namedL [tableS] a.v = true
    rw [v_named]
    exact one ha)
  obtain ⟨q1, q2, q3⟩ := last_some _ _ _ _ h1
  have hm : b.op[m]? = some b.op[m] := List.getElem?_eq_getElem q1
  refine ⟨m, b.op[m], hm, ?_, ?_, ?_⟩
  · cases m with
    | zero =>
      rw [any_v, h.inv.o.hd] at q2
      exact absurd q2 (by decide)
    | succ m => omega
  · rw [any_v, hm] at q2
    rw [← v_named]
    exact q2
  · intro i x hi hx
    have := q3 i hi (List.getElem?_eq_some_iff.1 hx).1
    rw [any_v, hx] at this
    rw [← v_named]
    exact this
def SQ (b : BS) (x : BS × Option Tok) : Prop := x.1.e = 0 → SI x.1 ∧ (∀ t', x.2 = some t' → TokOk t') ∧ (x.1.mode = b.mode ∨ (x.2 = none ∧ tabO (curB x.1) = false))
theorem SQ.ite {b : BS} {c : Prop} [Decidable c] {x y : BS × Option Tok} (h1 : c → SQ b x) (h2 : ¬ c → SQ b y) : SQ b (if c then x else y) := by
  by_cases h : c
  · rw [if_pos h]; exact h1 h
  · rw [if_neg h]; exact h2 h
theorem SQ.no {b b' : BS} (h : b'.e = 0 → SI b') (m : MQ b b') : SQ b (b', none) := by
  intro he
  refine ⟨h he, (fun t' e => by cases e), ?_⟩
  rcases m he with q | q
  · exact Or.inl q
  · exact Or.inr ⟨rfl, q⟩
theorem SQ.opt {b b' : BS} {t : Tok} (h : b'.e = 0 → SI b') (m : b'.mode = b.mode) (ht : TokOk t) (c : Bool) : SQ b (b', if c = true then none else some t) := by
  intro he
  refine ⟨h he, fun t' e => ?_, Or.inl m⟩
  have e : (if c = true then none else some t) = some t' := e
  split at e
  · cases e
  · rw [← Option.some.inj e]; exact ht
theorem SQ.go {b b' : BS} {t : Tok} (h : b'.e = 0 → SI b') (m : b'.mode = b.mode) (ht : TokOk t) : SQ b (b', some t) := SQ.opt h m ht false
theorem SQ.same {b : BS} (h : SI b) : SQ b (b, none) := SQ.no (fun _ => h) (MQ.of rfl)
theorem own_part {b : BS} (h : SI b) (hr : b.rules = 1 ∨ b.rules = 4 ∨ b.rules = 5) {nm : Bs} {r : Nat} (hn : S6.amongL ownN nm = true) (hr' : ∀ z, rulesOf ⟨z, 0, nm⟩ = some r) (aa : As) :
    ((insertB (clearToB b [tableS]) 0 nm aa).1.e = 0 → SI { (insertB (clearToB b [tableS]) 0 nm aa).1 with rules := r }) ∧ ((insertB (markerB (clearToB b [tableS])) 0 nm aa).1.e = 0 → SI { (insertB (markerB (clearToB b [tableS])) 0 nm aa).1 with rules := r }) := by
  obtain ⟨k, o, k1, k2, k3, k4⟩ := h.table hr
  rw [clear_eq k3 k2 k1 k4]
  obtain ⟨i, nc⟩ := h.clearInv (by omega) k
  have hq := among_all (P := fun n => !n.isEmpty && !(S6.isL 1 n)) (by decide) hn
  simp only [Bool.and_eq_true, Bool.not_eq_true'] at hq
  have hne : nm ≠ [] := by intro e; rw [e] at hq; exact absurd hq.1 (by decide)
  have ha : AdjR o ⟨0, 0, nm⟩ := by
    intro _
    rw [fits_own hn]
    unfold isO at k3
    simp only [Bool.and_eq_true, beq_iff_eq] at k3
    unfold inName
    rw [if_pos k3.1, (among_one _ _).1 k3.2]
    rfl
  have cur := cur_take (b := b) k1
  constructor
  · intro he
    exact SI.part i h.fo nc hne hq.2 (by rw [cur]; exact ha) hr' aa he
  · intro he
    refine SI.part (c := markerB { b with op := b.op.take (k + 1) }) ?_ h.fo nc hne hq.2 (by show AdjR (curB { b with op := b.op.take (k + 1) }) _; rw [cur]; exact ha) hr' aa he
    refine ⟨i.t, i.o, fun m hm => ?_⟩
    rcases pushM_mem hm with a | a
    · exact i.m m a
    · subst a; exact Or.inl ⟨rfl, rfl⟩
theorem SQ.table {b : BS} {t : Tok} (h : SI b) (hr : b.rules = 1 ∨ b.rules = 4 ∨ b.rules = 5) (ht : TokOk t) : SQ b (tableB b t) := by
  have h3 : b.rules ≠ 3 := by omega
  have nm : ∀ {L : List Bs} {r : Nat}, (L.all fun n => rulesOf ⟨0, 0, n⟩ == some r) = true → startT t L = true → ∀ z, rulesOf ⟨z, 0, t.name⟩ = some r := fun hL hs z => rules_name hL (start_name hs)
  have own : ∀ {L : List Bs}, (L.all fun n => S6.amongL ownN n) = true → startT t L = true → S6.amongL ownN t.name = true := fun hL hs => among_all (P := fun n => S6.amongL ownN n) hL (start_name hs)
  unfold tableB
  refine .ite (fun c => SQ.no (fun he => h.ofG h3 (G.text b (ht.1 ?_)) he) (MQ.of (mo_text b _))) fun _ => ?_
  · simp only [Bool.and_eq_true, beq_iff_eq] at c
    exact c.1
  refine .ite (fun _ => SQ.no (fun he => h.ofG h3 (G.comment b _) he) (MQ.of (mo_comment b _))) fun _ => ?_
  refine .ite (fun c => SQ.no (own_part h hr (own (by decide) c) (nm (by decide) c) _).2 (MQ.of (by show (tagB _ t).1.mode = _; rw [mo_tag, mo_marker, mo_clearTo]))) fun _ => ?_
  refine .ite (fun c => SQ.no (own_part h hr (own (by decide) c) (nm (by decide) c) _).1 (MQ.of (by show (tagB _ t).1.mode = _; rw [mo_tag, mo_clearTo]))) fun _ => ?_
  refine .ite (fun c => SQ.go (own_part h hr (by decide) (fun _ => rfl) _).1 (by show (insertB _ _ _ _).1.mode = _; rw [mo_insert, mo_clearTo]) ht) fun _ => ?_
  refine .ite (fun c => SQ.no (own_part h hr (own (by decide) c) (nm (by decide) c) _).1 (MQ.of (by show (tagB _ t).1.mode = _; rw [mo_tag, mo_clearTo]))) fun _ => ?_
  refine .ite (fun c => SQ.go (own_part h hr (by decide) (fun _ => rfl) _).1 (by show (insertB _ _ _ _).1.mode = _; rw [mo_insert, mo_clearTo]) ht) fun _ => ?_
  refine .ite (fun _ => .ite (fun _ => ?_) fun _ => SQ.same h) fun c8 => ?_
  · have si : SI (resetB (upToB b [[116, 97, 98, 108, 101]])) := by
      have hx : ∃ k, 1 ≤ k ∧ upToB b [[116, 97, 98, 108, 101]] = { b with op := b.op.take k } := by
        unfold upToB
        split
        · rename_i k e; exact ⟨k + 1, by omega, rfl⟩
        · exact ⟨b.op.length, h.inv.o.pos, by rw [List.take_length]⟩
      obtain ⟨k, hk, e⟩ := hx
      rw [e]
      refine ⟨⟨h.inv.t, h.inv.o.take hk, h.inv.m⟩, h.fo, reset_rules _ (h.inv.o.take hk).hd, Or.inl ((h.noCol h3).take k)⟩
    have mo : (resetB (upToB b [[116, 97, 98, 108, 101]])).mode = b.mode := by rw [mo_reset, mo_upTo]
    by_cases hk : (t.kind == 2) = true
    · rw [if_pos hk]; exact SQ.go (fun _ => si) mo ht
    · rw [if_neg hk]; exact SQ.no (fun _ => si) (MQ.of mo)
  have nost : t.kind = 3 → t.name = tableS → False := by
    intro k e
    refine c8 ?_
    unfold startT stopT
    rw [k, e]
    decide
  refine .ite (fun _ => SQ.no (fun he => h.ofGT h3 (GT.body b ht fun k e => (nost k e).elim) he) (MQ.body b t)) fun _ => ?_
  refine .ite (fun c => SQ.no (fun he => h.ofG h3 ?_ he) (MQ.of (mo_single b t))) fun _ => ?_
  · simp only [Bool.and_eq_true] at c
    obtain ⟨q1, q2⟩ := start_solo (by decide) c.1
    exact G.singleB b q1 q2
  refine .ite (fun c => SQ.no (fun he => h.ofG h3 ?_ he) (MQ.of ?_)) fun _ => ?_
  · obtain ⟨q1, q2⟩ := start_solo (by decide) c
    split
    · exact G.singleB b q1 q2
    · exact G.refl b
  · split
    · exact mo_single b t
    · rfl
  refine .ite (fun _ => SQ.same h) fun _ => SQ.no (fun he => ?_) (MQ.foster b t)
  have g := GT.body { b with fost := true } ht fun k e => (nost k e).elim
  have he : (bodyB { b with fost := true } t).e = 0 := he
  obtain ⟨_, k⟩ := g he
  obtain ⟨i, f, q⟩ := k ⟨h.inv.t, h.inv.o, h.inv.m⟩
  have hx : GT b (fosterB b t) := by
    intro he'
    obtain ⟨h0, _⟩ := g he
    exact ⟨h0, fun _ => ⟨⟨i.t, i.o, i.m⟩, h.fo.symm ▸ rfl, q⟩⟩
  exact h.ofGT h3 hx he
end Go.Proofs.YtpppdfjdngmaoaaGreatDoor
namespace Go.Proofs.YtpppdfjdngmaoaaGreatDoor
open S5 (ND TR WF kidsAt nodeAt parentN appendL beforeL moveL addL withinL newL outL setK aheadL pushL)
open S4 (Tok nextR)
theorem isO_name {o : OM} {L : List Bs} (h : isO o L = true) : o.sp = 0 ∧ S6.amongL L o.nm = true := by
  unfold isO at h
  simp only [Bool.and_eq_true, beq_iff_eq] at h
  exact h
theorem last_top {b : BS} {k : Nat} {o : OM} {names : List Bs} (ho : b.op[k]? = some o) (hn : isO o names = true) (hs : Safe b.op (k + 1)) (hL : (names.all fun n => S6.amongL tabA n) = true) : S6.lastO (S6.namedL names) (vs b.op) b.op.length = some k := by
  have hlt := (List.getElem?_eq_some_iff.1 ho).1
  obtain ⟨j, h1, h2⟩ := last_found (S6.namedL names) (vs b.op) b.op.length k hlt (by
    rw [any_v, ho]
    show S6.namedL names o.v = true
    rw [v_named]
    exact hn)
  obtain ⟨q1, q2, _⟩ := last_some _ _ _ _ h1
  rcases Nat.eq_or_lt_of_le h2 with q | q
  · rw [q]; exact h1
  · exfalso
    have hj : b.op[j]? = some b.op[j] := List.getElem?_eq_getElem q1
    rw [any_v, hj] at q2
    have q2 : S6.namedL names b.op[j].v = true := q2
    rw [v_named] at q2
    have := hs j _ q hj
    rw [← isO_tab, isO_sub hL q2] at this
    cases this
theorem upTo_top {b : BS} {k : Nat} {o : OM} {names : List Bs} (ex : Bs) (ho : b.op[k]? = some o) (hk : 1 ≤ k) (hn : isO o names = true) (hs : Safe b.op (k + 1)) (hL : (names.all fun n => S6.amongL tabA n) = true) : upToB (impliedB b ex) names = { b with op := b.op.take k } := by
  have hlt := (List.getElem?_eq_some_iff.1 ho).1
  have h1 := last_top ho hn hs hL
  have hm := left_last b ex names (fun n h => Or.inl (by
    have h := among_all (P := fun n => S6.amongL tabA n) hL h
    have := among_all (P := fun n => !(S6.isL 8 n)) (by decide) h
    simpa using this)) h1
  have hle := (left_spec ⟨ex.toArray⟩ (vs b.op) b.op.length).1
  have h2 : S6.lastO (S6.namedL names) (vs (impliedB b ex).op) (impliedB b ex).op.length = some k := by
    have hi : (impliedB b ex).op = b.op.take (S6.leftO ⟨ex.toArray⟩ (vs b.op) b.op.length) := rfl
    rw [hi]
    obtain ⟨j, q1, q2⟩ := last_found (S6.namedL names) (vs (b.op.take (S6.leftO ⟨ex.toArray⟩ (vs b.op) b.op.length))) (b.op.take (S6.leftO ⟨ex.toArray⟩ (vs b.op) b.op.length)).length k (by simp; omega) (by
      rw [any_v, take_at, if_pos hm, ho]
      show S6.namedL names o.v = true
      rw [v_named]
      exact hn)
    rw [q1, last_take _ b.op hle h1 hm q1]
  unfold upToB
  rw [h2]
  obtain ⟨j, rfl⟩ := Nat.exists_eq_add_of_le' hk
  show { b with op := (b.op.take _).take (j + 1) } = _
  rw [List.take_take, show min (j + 1) (S6.leftO ⟨ex.toArray⟩ (vs b.op) b.op.length) = j + 1 from by omega]
theorem not_above {b : BS} {k : Nat} {names : List Bs} (hs : Safe b.op (k + 1)) (hL : (names.all fun n => S6.amongL tabA n) = true) : ∀ i x, k < i → b.op[i]? = some x → isO x names = false := by
  intro i x hi hx
  cases hq : isO x names with
  | false => rfl
  | true =>
    have := hs i x hi hx
    rw [← isO_tab, isO_sub hL hq] at this
    cases this
theorem pop_clear {b : BS} {k : Nat} {o : OM} {names : List Bs} (ho : b.op[k]? = some o) (hk : 1 ≤ k) (hn : isO o names = true) (hs : Safe b.op (k + 1)) (hL : (names.all fun n => S6.amongL tabA n) = true) : popB (clearToB b names) = { b with op := b.op.take k } := by
  have hlt := (List.getElem?_eq_some_iff.1 ho).1
  rw [clear_eq hn hk ho (not_above hs hL)]
  unfold popB
  rw [if_pos (by show 1 < (b.op.take (k + 1)).length; simp; omega)]
  show { b with op := (b.op.take (k + 1)).dropLast } = _
  rw [List.dropLast_eq_take, List.take_take]
  rw [show min ((b.op.take (k + 1)).length - 1) (k + 1) = k from by simp; omega]
theorem part_top {b : BS} (h : SI b) {k : Nat} {o : OM} {names : List Bs} (h3 : b.rules ≠ 3) (ho : b.op[k]? = some o) (hk : 1 ≤ k) (hn : isO o names = true) (hs : Safe b.op (k + 1)) (hL : (names.all fun n => S6.amongL tabA n) = true) {nm : Bs} {r : Nat} (hne : nm ≠ []) (hv : S6.isL 1 nm = false) (ha : AdjR o ⟨0, 0, nm⟩) (hr : ∀ z, rulesOf ⟨z, 0, nm⟩ = some r) (aa : As)
    (he : (insertB (clearToB b names) 0 nm aa).1.e = 0) : SI { (insertB (clearToB b names) 0 nm aa).1 with rules := r } := by
  rw [clear_eq hn hk ho (not_above hs hL)] at he ⊢
  obtain ⟨i, nc⟩ := h.clearInv h3 k
  exact SI.part i h.fo nc hne hv (by rw [cur_take ho]; exact ha) hr aa he
theorem rules_is {o : OM} {r : Nat} {L : List Bs} (hr : rulesOf o = some r) (hL : (tabA.all fun n => !(rulesOf ⟨0, 0, n⟩ == some r) || S6.amongL L n) = true) : isO o L = true := by
  obtain ⟨ht, _⟩ := rules_some hr
  obtain ⟨z, sp, nm⟩ := o
  unfold tabO at ht
  simp only [Bool.and_eq_true, beq_iff_eq] at ht
  obtain ⟨rfl, ht⟩ := ht
  have := among_all (P := fun n => !(rulesOf ⟨0, 0, n⟩ == some r) || S6.amongL L n) hL ht
  have hr : rulesOf ⟨0, 0, nm⟩ = some r := hr
  simp only [hr, beq_self_eq_true, Bool.not_true, Bool.false_or] at this
  unfold isO
  rw [this]
  rfl
theorem body_none {b : BS} (h : SI b) (hr : b.rules = 0) : ∀ o ∈ b.op, tabO o = false := by
  intro o ho
  cases ht : tabO o with
  | false => rfl
  | true =>
    exfalso
    have hm : o ∈ sk b.op := List.mem_filter.2 ⟨ho, ht⟩
    cases hg : (sk b.op).getLast? with
    | none => rw [List.getLast?_eq_none_iff.1 hg] at hm; cases hm
    | some y =>
      have hy : tabO y = true := (List.mem_filter.1 (List.mem_of_getLast? hg)).2
      have h1 := rules_tab y hy
      have hu := h.ru
      unfold rulesF at hu
      rw [hg, hr] at hu
      cases hq : rulesOf y with
      | none => rw [hq] at h1; cases h1
      | some q =>
        have hu : 0 = q := by simpa [hq] using hu
        subst hu
        rcases (rules_some hq).2 with ⟨e, _⟩ | ⟨e, _⟩ | ⟨e, _⟩ | ⟨e, _⟩ | ⟨e, _⟩ | ⟨e, _⟩ <;> cases e
theorem set_table {t : Tok} (h : t.kind = 3) (e : t.name = tableS) {L : List Bs} (hL : S6.amongL L tableS = true) : stopT t L = true := by
  unfold stopT
  rw [h, e, hL]
  rfl
theorem SQ.caption {b : BS} {t : Tok} (h : SI b) (hr : b.rules = 2) (ht : TokOk t) : SQ b (captionB b t) := by
  obtain ⟨k, o, k1, k2, k3, k4⟩ := h.top hr (by decide)
  unfold captionB
  refine .ite (fun _ => .ite (fun _ => ?_) fun _ => SQ.same h) fun c => .ite (fun _ => SQ.same h) fun _ => SQ.no (fun he => h.ofGT (by omega) (GT.body b ht fun q e => ?_) he) (MQ.body b t)
  · rw [upTo_top [] k1 k2 (rules_is k3 (by decide)) k4 (by decide)]
    exact SQ.opt (fun _ => h.cut k2 k1 k3 (by decide) _ fun x hx => clearM_mem hx) rfl ht _
  · exfalso
    refine c ?_
    rw [set_table q e (by decide), Bool.or_true]
theorem SQ.rows {b : BS} {t : Tok} (h : SI b) (hr : b.rules = 4) (ht : TokOk t) : SQ b (rowsB b t) := by
  obtain ⟨k, o, k1, k2, k3, k4⟩ := h.top hr (by decide)
  have hi : isO o ofRows = true := rules_is k3 (by decide)
  have ha : AdjR o ⟨0, 0, [116, 114]⟩ := by
    intro _
    obtain ⟨e1, e2⟩ := isO_name hi
    show fitsL [116, 114] (inName o.sp o.nm) = true
    rw [fits_tr, inName, if_pos e1]
    exact e2
  have hc : SI { popB (clearToB b ofRows) with rules := 1 } := by
    rw [pop_clear k1 k2 hi k4 (by decide)]
    exact h.cut k2 k1 k3 (by decide) b.mr fun x hx => hx
  have mo : (popB (clearToB b ofRows)).mode = b.mode := by rw [mo_pop, mo_clearTo]
  unfold rowsB
  refine .ite (fun c => ?_) fun _ => ?_
  · have e : t.name = [116, 114] := (among_one _ _).1 (start_name c)
    refine SQ.no ?_ (MQ.of (by show (tagB _ t).1.mode = _; rw [mo_tag, mo_clearTo]))
    unfold tagB
    rw [e]
    exact part_top h (by omega) k1 k2 hi k4 (by decide) (by decide) (by decide) ha (fun _ => rfl) _
  refine .ite (fun c => SQ.go (part_top h (by omega) k1 k2 hi k4 (by decide) (by decide) (by decide) ha (fun _ => rfl) _) (by show (insertB _ _ _ _).1.mode = _; rw [mo_insert, mo_clearTo]) ht) fun _ => ?_
  refine .ite (fun _ => .ite (fun _ => SQ.go (fun _ => hc) mo ht) fun _ => SQ.same h) fun _ => ?_
  refine .ite (fun _ => ?_) fun _ => .ite (fun _ => SQ.same h) fun _ => SQ.table h (by omega) ht
  by_cases hk : hasB b [t.name] 4 = true
  · rw [if_pos hk]; exact SQ.no (fun _ => hc) (MQ.of mo)
  · rw [if_neg hk]; exact SQ.same h
theorem SQ.row {b : BS} {t : Tok} (h : SI b) (hr : b.rules = 5) (ht : TokOk t) : SQ b (rowB b t) := by
  obtain ⟨k, o, k1, k2, k3, k4⟩ := h.top hr (by decide)
  have hi : isO o [[116, 114]] = true := rules_is k3 (by decide)
  have hc : SI { popB (clearToB b [[116, 114]]) with rules := 4 } := by
    rw [pop_clear k1 k2 hi k4 (by decide)]
    exact h.cut k2 k1 k3 (by decide) b.mr fun x hx => hx
  have mo : (popB (clearToB b [[116, 114]])).mode = b.mode := by rw [mo_pop, mo_clearTo]
  unfold rowB
  refine .ite (fun c => ?_) fun _ => ?_
  · have hn := start_name c
    have hq := among_all (P := fun n => !n.isEmpty && !(S6.isL 1 n)) (by decide) hn
    simp only [Bool.and_eq_true, Bool.not_eq_true'] at hq
    have hne : t.name ≠ [] := by intro e; rw [e] at hq; exact absurd hq.1 (by decide)
    have ha : AdjR o ⟨0, 0, t.name⟩ := by
      intro _
      obtain ⟨e1, e2⟩ := isO_name hi
      show fitsL t.name (inName o.sp o.nm) = true
      rw [fits_cell hn, inName, if_pos e1, (among_one _ _).1 e2]
      rfl
    refine SQ.no (fun he => ?_) (MQ.of (by show (tagB _ t).1.mode = _; rw [mo_tag, mo_clearTo]))
    have he : (tagB (clearToB b [[116, 114]]) t).1.e = 0 := he
    have s1 := part_top h (by omega) k1 k2 hi k4 (by decide) hne hq.2 ha (fun z => rules_name (L := ofCell) (r := 6) (by decide) hn) t.attrs he
    exact s1.ofG (by show (6 : Nat) ≠ 3; decide) (G.marker _) he
  refine .ite (fun _ => .ite (fun _ => SQ.same h) fun _ => SQ.opt (fun _ => hc) mo ht _) fun _ => .ite (fun _ => SQ.same h) fun _ => SQ.table h (by omega) ht
theorem cell_same {b : BS} (h : SI b) {k : Nat} {o : OM} (ho : b.op[k]? = some o) (hr : rulesOf o = some 6) (hs : Safe b.op (k + 1)) {n : Bs} (hn : S6.amongL ofCell n = true) (hh : hasB b [n] 4 = true) : isO o [n] = true := by
  unfold hasB S6.hasZ at hh
  rw [vs_len] at hh
  obtain ⟨j, h1, h2⟩ := has_some _ _ _ _ hh
  obtain ⟨q1, q2, _⟩ := last_some _ _ _ _ h1
  have hj : b.op[j]? = some b.op[j] := List.getElem?_eq_getElem q1
  rw [any_v, hj] at q2
  have q2 : S6.namedL [n] b.op[j].v = true := q2
  rw [v_named] at q2
  have hlt := (List.getElem?_eq_some_iff.1 ho).1
  have cj : isO b.op[j] ofCell = true := by
    obtain ⟨e1, e2⟩ := isO_name q2
    rw [← (among_one _ _).1 e2] at hn
    unfold isO
    rw [e1, hn]
    rfl
  have rj : rulesOf b.op[j] = some 6 := rules_of (L := ofCell) (r := 6) (by decide) cj
  rcases Nat.lt_trichotomy j k with q | q | q
  · exfalso
    have step : ∀ {i : Nat} {x : OM} {r : Nat}, b.op[i]? = some x → rulesOf x = some r → r ≠ 1 → ∃ y, 1 ≤ i ∧ b.op[i - 1]? = some y ∧ rulesOf y = some (belowR r) := by
      intro i x r hi hr h1
      have hlt := (List.getElem?_eq_some_iff.1 hi).1
      cases i with
      | zero =>
        rw [h.inv.o.hd] at hi
        obtain rfl : rootO = x := Option.some.inj hi
        exact absurd hr (by rw [show rulesOf rootO = none from rfl]; simp)
      | succ i =>
        have hx : b.op[i]? = some (b.op[i]'(by omega)) := List.getElem?_eq_getElem (by omega)
        exact ⟨_, by omega, hx, below (h.inv.o.adj i _ x hx hi) hr h1⟩
    obtain ⟨y1, a1, a2, a3⟩ := step ho hr (by decide)
    obtain ⟨y2, b1, b2, b3⟩ := step a2 a3 (by decide)
    obtain ⟨y3, c1, c2, c3⟩ := step b2 b3 (by decide)
    have a3 : rulesOf y1 = some 5 := a3
    have b3 : rulesOf y2 = some 4 := b3
    have c3 : rulesOf y3 = some 1 := c3
    have no : ∀ {i : Nat} {x : OM} {r : Nat}, b.op[i]? = some x → rulesOf x = some r → r ≠ 6 → j ≠ i := by
      intro i x r hi hr h6 e
      subst e
      rw [hj] at hi
      rw [Option.some.inj hi, hr] at rj
      exact h6 (Option.some.inj rj)
    have n1 := no a2 a3 (by decide)
    have n2 := no b2 b3 (by decide)
    have n3 := no c2 c3 (by decide)
    have h9 := h2 (k - 1 - 1 - 1) (by omega) (by omega)
    rw [any_v, c2] at h9
    have h9 : S6.endsL y3.v 4 = false := h9
    obtain ⟨e1, e2⟩ := isO_name (rules_is (L := [tableS]) c3 (by decide))
    rw [ends_table y3 4 e1 ((among_one _ _).1 e2)] at h9
    cases h9
  · subst q
    rw [hj] at ho
    rw [← Option.some.inj ho]
    exact q2
  · exfalso
    have := hs j _ q hj
    rw [(rules_some rj).1] at this
    cases this
theorem SQ.cell {b : BS} {t : Tok} (h : SI b) (hr : b.rules = 6) (ht : TokOk t) : SQ b (cellB b t) := by
  obtain ⟨k, o, k1, k2, k3, k4⟩ := h.top hr (by decide)
  have hc : ∀ names, isO o names = true → (names.all fun n => S6.amongL tabA n) = true → SI (closeCell b names) := by
    intro names hn hL
    unfold closeCell
    rw [upTo_top [] k1 k2 hn k4 hL]
    exact h.cut k2 k1 k3 (by decide) _ fun x hx => clearM_mem hx
  have mo : ∀ n, (closeCell b n).mode = b.mode := fun n => by
    unfold closeCell
    show (upToB _ _).mode = _
    rw [mo_upTo, mo_implied]
  have hcell : SI (closeCell b ofCell) := hc ofCell (rules_is k3 (by decide)) (by decide)
  unfold cellB
  refine .ite (fun c => ?_) fun _ => .ite (fun _ => .ite (fun _ => SQ.go (fun _ => hcell) (mo _) ht) fun _ => SQ.same h) fun _ => .ite (fun _ => .ite (fun _ => SQ.go (fun _ => hcell) (mo _) ht) fun _ => SQ.same h) fun c3 => .ite (fun _ => SQ.same h) fun _ => SQ.no (fun he => h.ofGT (by omega) (GT.body b ht fun q e => ?_) he) (MQ.body b t)
  · by_cases hk : hasB b [t.name] 4 = true
    · rw [if_pos hk]
      have hn : S6.amongL ofCell t.name = true := by
        unfold stopT at c
        simp only [Bool.and_eq_true] at c
        exact c.2
      refine SQ.no (fun _ => hc _ (cell_same h k1 k3 k4 hn hk) ?_) (MQ.of (mo _))
      have := among_all (P := fun n => S6.amongL tabA n) (by decide) hn
      simp [this]
    · rw [if_neg hk]; exact SQ.same h
  · exfalso
    exact c3 (set_table q e (by decide))
end Go.Proofs.YtpppdfjdngmaoaaGreatDoor
namespace Go.Proofs.YtpppdfjdngmaoaaGreatDoor
open S5 (ND TR WF kidsAt nodeAt parentN appendL beforeL moveL addL withinL newL outL setK aheadL pushL)
open S4 (Tok nextR)
theorem op_text (b : BS) (s : Bs) : (textB b s).op = b.op := by
  have hp : ∀ (p : Nat) (x : Option Nat) (n : Option Nat) (c : BS), (putB c p x n).op = c.op := by intro p x n c; cases n <;> rfl
  have hg : ∀ d, (growB b d).1.op = b.op := by intro d; unfold growB; split; rfl; split <;> rfl
  unfold textB
  simp only []
  split
  · split
    · rfl
    · rw [hp, hg]
  · rw [hp, hg]
theorem ru_text (b : BS) (s : Bs) : (textB b s).rules = b.rules ∧ (textB b s).fost = b.fost := by
  have hp : ∀ (p : Nat) (x : Option Nat) (n : Option Nat) (c : BS), (putB c p x n).rules = c.rules ∧ (putB c p x n).fost = c.fost := by intro p x n c; cases n <;> exact ⟨rfl, rfl⟩
  have hg : ∀ d, (growB b d).1.rules = b.rules ∧ (growB b d).1.fost = b.fost := by intro d; unfold growB; split; exact ⟨rfl, rfl⟩; split <;> exact ⟨rfl, rfl⟩
  unfold textB
  simp only []
  split
  · split
    · exact ⟨rfl, rfl⟩
    · rw [(hp _ _ _ _).1, (hp _ _ _ _).2]; exact hg _
  · rw [(hp _ _ _ _).1, (hp _ _ _ _).2]; exact hg _
theorem op_comment (b : BS) (s : Bs) : (commentB b s).op = b.op := by
  have hp : ∀ (p : Nat) (x : Option Nat) (n : Option Nat) (c : BS), (putB c p x n).op = c.op := by intro p x n c; cases n <;> rfl
  have hg : ∀ d, (growB b d).1.op = b.op := by intro d; unfold growB; split; rfl; split <;> rfl
  unfold commentB
  simp only []
  rw [hp, hg]
theorem op_single {b : BS} (i : Inv b) (t : Tok) (he : (singleB b t).e = 0) : (singleB b t).op = b.op := by
  unfold singleB tagB at he ⊢
  cases hi : insertB b 0 t.name t.attrs with
  | mk b' n =>
  rw [hi] at he
  cases n with
  | none => exact absurd he (insert_none hi)
  | some n =>
    obtain ⟨_, _, e2, _⟩ := insert_some hi
    have := i.o.pos
    show (popB b').op = b.op
    unfold popB
    rw [if_pos (by rw [e2]; simp; omega)]
    show b'.op.dropLast = b.op
    rw [e2, List.dropLast_concat]
theorem SI.colCur {b : BS} (h : SI b) (hr : b.rules = 3) : isO (curB b) [colgS] = true ∧ 1 < b.op.length := by
  obtain ⟨k, o, k1, k2, k3, k4⟩ := h.top hr (by decide)
  have hlt := (List.getElem?_eq_some_iff.1 k1).1
  refine ⟨?_, by omega⟩
  rcases h.col with c | ⟨c, _⟩
  · have := c o (List.mem_of_getElem? k1)
    rw [rules_is (L := [colgS]) k3 (by decide)] at this
    cases this
  · exact c
theorem SI.notCol {b : BS} (h : SI b) (hc : tabO (curB b) = false) : b.rules ≠ 3 := by
  intro hr
  rw [← isO_tab, isO_sub (c := tabA) (by decide) (h.colCur hr).1] at hc
  cases hc
theorem SQ.group {b : BS} {t : Tok} (h : SI b) (hr : b.rules = 3) (ht : TokOk t) : SQ b (groupB b t) := by
  unfold groupB
  have hb : ∃ c, (if (t.kind == 1 && !(t.text.takeWhile S6.isSpace).isEmpty) = true then textB b (t.text.takeWhile S6.isSpace) else b) = c ∧ (c.e = 0 → SI c) ∧ c.mode = b.mode ∧ c.op = b.op ∧ c.rules = b.rules ∧ c.fost = b.fost := by
    refine ⟨_, rfl, ?_, ?_, ?_, ?_, ?_⟩
    · intro he
      split at he
      · rename_i q
        rw [if_pos q]
        simp only [Bool.and_eq_true, Bool.not_eq_true'] at q
        refine h.ofOp (G.text b ?_) (op_text b _) he
        intro e
        rw [e] at q
        exact absurd q.2 (by decide)
      · rename_i q
        rw [if_neg q]
        exact h
    · split
      · exact mo_text b _
      · rfl
    · split
      · exact op_text b _
      · rfl
    · split
      · exact (ru_text b _).1
      · rfl
    · split
      · exact (ru_text b _).2
      · rfl
  have hu : ∃ u, (if (t.kind == 1) = true then { t with text := t.text.dropWhile S6.isSpace } else t) = u ∧ u.kind = t.kind ∧ u.name = t.name := by
    refine ⟨_, rfl, ?_, ?_⟩ <;> split <;> rfl
  show SQ b (if ((if (t.kind == 1) = true then { t with text := t.text.dropWhile S6.isSpace } else t).kind == 1 && _) = true then _ else _)
  obtain ⟨c, e1, c1, c2, c3, c4, c5⟩ := hb
  obtain ⟨u, e2, u1, u2⟩ := hu
  rw [e1, e2]
  obtain ⟨cc, cl⟩ := h.colCur hr
  have cur : curB c = curB b := by unfold curB; rw [c3]
  refine .ite (fun _ => SQ.no c1 (MQ.of c2)) fun q => ?_
  have hut : TokOk u := by
    refine ⟨fun k e => q ?_, fun k => by rw [u2]; exact ht.2 (u1.symm.trans k)⟩
    rw [k, e]
    rfl
  refine .ite (fun _ => SQ.no (fun he => (c1 ((G.comment c _) he).1).ofOp (G.comment c _) (op_comment c _) he) (MQ.of ((mo_comment c _).trans c2))) fun _ => ?_
  refine .ite (fun s => ?_) fun _ => ?_
  · have e : u.name = [99, 111, 108] := (among_one _ _).1 (start_name s)
    have g : G c (singleB c u) := by
      have g := G.single (b := c) (sp := 0) (nm := u.name) (aa := u.attrs) (by rw [e]; decide) fun i => Or.inr ⟨?_, ?_⟩
      · unfold singleB tagB
        cases hi : insertB c 0 u.name u.attrs with
        | mk b' n =>
        rw [hi] at g
        cases n <;> exact g
      · exact c5.trans h.fo
      · rw [cur]
        intro _
        obtain ⟨k1, k2⟩ := isO_name cc
        show fitsL u.name (inName (curB b).sp (curB b).nm) = true
        rw [inName, if_pos k1, (among_one _ _).1 k2, e]
        decide
    exact SQ.no (fun he => (c1 (g he).1).ofOp g (op_single (c1 (g he).1).inv u he) he) (MQ.of ((mo_single c u).trans c2))
  refine .ite (fun _ => SQ.no c1 (MQ.of c2)) fun _ => ?_
  refine .ite (fun _ => ?_) fun _ => SQ.no c1 (MQ.of c2)
  have hpop : popB c = { c with op := c.op.take (c.op.length - 1) } := by
    unfold popB
    rw [if_pos (by rw [c3]; exact cl), List.dropLast_eq_take]
  refine SQ.opt (b' := { popB c with rules := 1 }) (fun he => ?_) ((mo_pop c).trans c2) hut _
  have he : (popB c).e = 0 := he
  rw [hpop] at he
  have si := c1 he
  have hl : 1 < c.op.length := by rw [c3]; exact cl
  have hk : c.op[c.op.length - 1]? = some (curB c) := cur_at (by omega)
  rw [hpop]
  exact si.cut (by omega) hk (rules_of (L := [colgS]) (r := 3) (by decide) (by rw [cur]; exact cc)) (by decide) c.mr fun x hx => hx
theorem SQ.step {b : BS} {t : Tok} (h : SI b) (ht : TokOk t) : SQ b (stepB b t) := by
  unfold stepB
  refine .ite (fun q => SQ.table h (Or.inl q) ht) fun n1 => .ite (fun q => SQ.caption h q ht) fun n2 => .ite (fun q => SQ.group h q ht) fun n3 => .ite (fun q => SQ.rows h q ht) fun n4 => .ite (fun q => SQ.row h q ht) fun n5 => .ite (fun q => SQ.cell h q ht) fun n6 => ?_
  refine SQ.no (fun he => h.ofGT n3 (GT.body b ht fun _ _ => body_none h ?_) he) (MQ.body b t)
  have hu := h.ru
  unfold rulesF at hu
  cases hg : (sk b.op).getLast? with
  | none => rw [hg] at hu; exact hu
  | some y =>
    rw [hg] at hu
    cases hq : rulesOf y with
    | none =>
      have hu : b.rules = 0 := by simpa [hq] using hu
      exact hu
    | some q =>
      have hu : b.rules = q := by simpa [hq] using hu
      exfalso
      rcases (rules_some hq).2 with ⟨e, _⟩ | ⟨e, _⟩ | ⟨e, _⟩ | ⟨e, _⟩ | ⟨e, _⟩ | ⟨e, _⟩ <;> omega
def NR (b : BS) : Prop := b.mode ≠ 1 ∧ b.mode ≠ 2
def MI (b : BS) : Prop := (b.mode = 1 ∨ b.mode = 2) → tabO (curB b) = false
theorem NR.mi {b : BS} (h : NR b) : MI b := fun q => by
  rcases q with q | q
  · exact absurd q h.1
  · exact absurd q h.2
theorem SI.rulesK : ∀ (k : Nat) (b : BS) (t : Tok), SI b → NR b → TokOk t → (rulesK k b t).e = 0 → SI (rulesK k b t) ∧ MI (rulesK k b t)
  | 0, b, t, h, hn, _, _ => ⟨h, hn.mi⟩
  | k + 1, b, t, h, hn, ht, he => by
    have st := SQ.step h ht
    rw [Go.Proofs.YtpppdfjdngmaoaaGreatDoor.rulesK] at he ⊢
    cases hx : stepB b t with
    | mk b' o =>
    rw [hx] at st he
    cases o with
    | none =>
      obtain ⟨s1, _, s3⟩ := st he
      refine ⟨s1, ?_⟩
      rcases s3 with q | ⟨_, q⟩
      · have q : b'.mode = b.mode := q
        exact NR.mi ⟨by rw [q]; exact hn.1, by rw [q]; exact hn.2⟩
      · exact fun _ => q
    | some t' =>
      simp only [] at he ⊢
      by_cases h0 : b'.e = 0
      · rw [if_neg (fun q => q h0)] at he ⊢
        obtain ⟨s1, s2, s3⟩ := st h0
        rcases s3 with q | ⟨q, _⟩
        · have q : b'.mode = b.mode := q
          exact SI.rulesK k b' t' s1 ⟨by rw [q]; exact hn.1, by rw [q]; exact hn.2⟩ (s2 t' rfl) he
        · cases q
      · rw [if_pos h0] at he
        exact absurd he h0
theorem SI.rulesB {b : BS} {t : Tok} (h : SI b) (hn : NR b) (ht : TokOk t) (he : (rulesB b t).e = 0) : SI (rulesB b t) ∧ MI (rulesB b t) := SI.rulesK _ b t h hn ht he
theorem G.breakK : ∀ (k : Nat) (b : BS), G b (breakK k b)
  | 0, b => G.refl b
  | k + 1, b => by
    rw [Go.Proofs.YtpppdfjdngmaoaaGreatDoor.breakK]
    split
    · rename_i c
      refine (G.pop b fun _ _ => ?_).trans (G.breakK k _)
      unfold tabO
      simp [c.1]
    · exact G.refl b
theorem SI.foreignK {b : BS} {t : Tok} (h : SI b) (h3 : b.rules ≠ 3) (hn : NR b) (ht : TokOk t) : ∀ k, (∀ i o, k ≤ i → b.op[i]? = some o → o.sp ≠ 0) → (foreignK b t k).e = 0 → SI (foreignK b t k) ∧ MI (foreignK b t k)
  | 0, _, _ => ⟨h, hn.mi⟩
  | k + 1, hs, he => by
    rw [Go.Proofs.YtpppdfjdngmaoaaGreatDoor.foreignK] at he ⊢
    cases ho : b.op[k]? with
    | none => exact ⟨h, hn.mi⟩
    | some o =>
      rw [ho] at he
      simp only [] at he ⊢
      split at he
      · rename_i c
        rw [if_pos c]
        exact h.rulesB hn ht he
      · rename_i c
        rw [if_neg c]
        have hs' : ∀ i x, k ≤ i → b.op[i]? = some x → x.sp ≠ 0 := by
          intro i x hi hx
          rcases Nat.eq_or_lt_of_le hi with q | q
          · subst q
            rw [ho] at hx
            rw [← Option.some.inj hx]
            exact c
          · exact hs i x q hx
        split at he
        · rename_i c2
          rw [if_pos c2]
          refine ⟨h.ofG h3 (G.cut b k fun i => ⟨?_, fun j x hj hx => ?_⟩) he, NR.mi (b := { b with op := b.op.take k }) hn⟩
          · cases k with
            | zero =>
              rw [i.o.hd] at ho
              rw [← Option.some.inj ho] at c
              exact absurd rfl c
            | succ k => omega
          · unfold tabO
            simp [hs' j x hj hx]
        · rename_i c2
          rw [if_neg c2]
          exact SI.foreignK h h3 hn ht k hs' he
theorem SI.foreignB {b : BS} {t : Tok} (h : SI b) (h0 : b.e = 0) (hc : (curB b).sp ≠ 0) (hn : NR b) (ht : TokOk t) (he : (foreignB b t).e = 0) : SI (foreignB b t) ∧ MI (foreignB b t) := by
  have h3 : b.rules ≠ 3 := h.notCol (by unfold tabO; simp [hc])
  have nr : ∀ {b' : BS}, b'.mode = b.mode → MI b' := fun q => NR.mi ⟨by rw [q]; exact hn.1, by rw [q]; exact hn.2⟩
  unfold Go.Proofs.YtpppdfjdngmaoaaGreatDoor.foreignB at he ⊢
  split at he
  · rename_i c1
    rw [if_pos c1]
    exact ⟨h.ofG h3 (G.text b (ht.1 c1)) he, nr (mo_text b _)⟩
  rename_i c1
  rw [if_neg c1]
  split at he
  · rename_i c2
    rw [if_pos c2]
    exact ⟨h.ofG h3 (G.comment b _) he, nr (mo_comment b _)⟩
  rename_i c2
  rw [if_neg c2]
  split at he
  · rename_i c3
    rw [if_pos c3]
    have hb : (Go.Proofs.YtpppdfjdngmaoaaGreatDoor.breakK b.op.length b).e = b.e := by
      have : ∀ k b, (Go.Proofs.YtpppdfjdngmaoaaGreatDoor.breakK k b).e = b.e := by
        intro k
        induction k with
        | zero => intro b; rfl
        | succ k ih =>
          intro b
          rw [Go.Proofs.YtpppdfjdngmaoaaGreatDoor.breakK]
          split
          · rw [ih]; unfold popB; split <;> rfl
          · rfl
      exact this _ _
    have q := mo_breakK b.op.length b
    exact (h.ofG h3 (G.breakK _ b) (hb.trans h0)).rulesB ⟨by rw [q]; exact hn.1, by rw [q]; exact hn.2⟩ ht he
  rename_i c3
  rw [if_neg c3]
  split at he
  · rename_i c4
    rw [if_pos c4]
    exact ⟨h.ofG h3 (G.strangeB b (ht.2 c4) hc) he, nr (mo_strange b t _)⟩
  rename_i c4
  rw [if_neg c4]
  split at he
  · rename_i c5
    rw [if_pos c5]
    refine SI.foreignK h h3 hn ht _ (fun i o hi ho => ?_) he
    rw [List.getElem?_eq_none hi] at ho
    cases ho
  · rename_i c5
    rw [if_neg c5]
    exact ⟨h, hn.mi⟩
theorem SI.takeT {b : BS} {t : Tok} (h : SI b) (h0 : b.e = 0) (hm : MI b) (ht : TokOk t) (he : (takeT b t).e = 0) : SI (takeT b t) ∧ MI (takeT b t) := by
  unfold Go.Proofs.YtpppdfjdngmaoaaGreatDoor.takeT at he ⊢
  split at he
  · rename_i c1
    rw [if_pos c1]
    exact ⟨h, hm⟩
  rename_i c1
  rw [if_neg c1]
  split at he
  · rename_i c2
    rw [if_pos c2]
    have hc : tabO (curB b) = false := hm (by omega)
    split at he
    · rename_i c3
      rw [if_pos c3]
      refine ⟨h.ofOp (G.text b (ht.1 c3)) (op_text b _) he, fun _ => ?_⟩
      unfold curB at hc ⊢
      rw [op_text]
      exact hc
    · rename_i c3
      rw [if_neg c3]
      have s1 := h.ofG (h.notCol hc) (G.pop b fun _ _ => hc) he
      refine ⟨⟨⟨s1.inv.t, s1.inv.o, s1.inv.m⟩, s1.fo, s1.ru, s1.col⟩, fun q => ?_⟩
      rcases q with q | q
      · exact absurd (show (0 : Int) = 1 from q) (by decide)
      · exact absurd (show (0 : Int) = 2 from q) (by decide)
  rename_i c2
  rw [if_neg c2]
  have hn : NR b := ⟨fun q => c2 (Or.inr q), fun q => c2 (Or.inl q)⟩
  split at he
  · rename_i c3
    rw [if_pos c3]
    exact h.foreignB h0 c3.1 hn ht he
  · rename_i c3
    rw [if_neg c3]
    exact h.rulesB hn ht he
theorem SI.takeB {b : BS} {t : Tok} (h : SI b) (h0 : b.e = 0) (hm : MI b) (ht : TokOk t) (he : (takeB b t).e = 0) : SI (takeB b t) ∧ MI (takeB b t) := by
  have h' : SI { b with skip := false } := ⟨⟨h.inv.t, h.inv.o, h.inv.m⟩, h.fo, h.ru, h.col⟩
  have hm' : MI { b with skip := false } := hm
  unfold Go.Proofs.YtpppdfjdngmaoaaGreatDoor.takeB at he ⊢
  simp only [] at he ⊢
  split at he
  · rename_i r e
    split at he
    · rename_i c1
      split at he
      · rename_i c2
        rw [if_pos c1, if_pos c2]
        exact ⟨h', hm'⟩
      · rename_i c2
        rw [if_pos c1, if_neg c2]
        exact h'.takeT h0 hm' ⟨fun _ => c2, ht.2⟩ he
    · rename_i c1
      rw [if_neg c1]
      exact h'.takeT h0 hm' ht he
  · exact h'.takeT h0 hm' ht he
theorem tok_next (mode : Int) (name : Bs) (foreign : Bool) (r : Bs) : TokOk (nextR mode name foreign r).1 := by
  by_cases h : r = []
  · subst h
    unfold nextR
    rw [if_pos rfl]
    exact ⟨(fun e => by cases e), (fun e => by cases e)⟩
  · have g := S4.next_good mode name foreign r h
    refine ⟨g.text, fun k e => ?_⟩
    obtain ⟨c, n, q, _⟩ := g.name k
    rw [q] at e
    cases e
theorem SI.start : SI {} := by
  refine ⟨⟨TI.new, ⟨rfl, ?_, ?_⟩, ?_⟩, rfl, rfl, Or.inl ?_⟩
  · intro i o ho
    simp at ho
  · intro i a c h1 h2
    simp at h2
  · intro m hm
    cases hm
  · intro o ho
    obtain rfl : o = ⟨0, 0, [104, 116, 109, 108]⟩ := by simpa using ho
    decide
end Go.Proofs.YtpppdfjdngmaoaaGreatDoor
