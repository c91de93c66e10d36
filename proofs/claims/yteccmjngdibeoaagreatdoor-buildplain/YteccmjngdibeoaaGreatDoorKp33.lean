import Derived.Test.YteccmjngdibeoaaGreatDoorKp32
set_option linter.unusedVariables false
set_option linter.unusedSimpArgs false
namespace Go.Proofs.YteccmjngdibeoaaGreatDoor
open S5 (ND TR WF kidsAt nodeAt parentN appendL beforeL moveL addL withinL newL outL setK aheadL pushL)
open S4 (Tok nextR)
theorem tab_set {n : Bs} (h : S6.amongL S6.tableN n = false) (h2 : n ≠ tableS) : S6.amongL tabA n = false := by
  cases hx : S6.amongL tabA n with
  | false => rfl
  | true =>
    have k := among_all (L := tabA) (P := fun n => S6.amongL S6.tableN n || n == tableS) (by decide) hx
    simp only [h, Bool.false_or, beq_iff_eq] at k
    exact absurd k h2
theorem GT.bodyStop (b : BS) (n : Bs) (hT : n = tableS → ∀ o ∈ b.op, tabO o = false) : GT b (bodyStop b n) := by
  unfold Go.Proofs.YteccmjngdibeoaaGreatDoor.bodyStop
  split
  · exact (G.refl b).gt
  rename_i c1
  split
  · refine (G.trans ?_ (G.closeP _)).gt
    split
    · exact G.refl b
    · exact G.insert b [] (by decide) (fun _ => by decide) (fun _ => fits_part (by decide)) (fun _ => by decide)
  rename_i c2
  split
  · exact (G.endsB b (noTab_one (by decide)) fun n hn => Or.inr ((among_one _ _).1 hn)).gt
  split
  · rename_i h
    refine (G.endsB b (noTab_one ?_) fun n hn => Or.inr ((among_one _ _).1 hn)).gt
    simp only [Bool.or_eq_true, beq_iff_eq] at h
    rcases h with rfl | rfl <;> decide
  split
  · exact (G.endsB b (noTab_all (by decide)) fun n hn => Or.inl (by simpa using among_all (P := fun n => !(S6.isL 8 n)) (by decide) hn)).gt
  split
  · rename_i h
    have c2 : n ≠ [112] := by simpa using c2
    have k : S6.amongL tabA n = false ∧ S6.isL 8 n = false := by
      simp only [Bool.or_eq_true] at h
      rcases h with h | h
      · have q := among_all (P := fun n => n == [112] || (!(S6.amongL tabA n) && !(S6.isL 8 n))) (by decide) (set_one (k := 6) (L := S6.blockN) rfl h)
        simpa [c2] using q
      · have q := among_all (P := fun n => (!(S6.amongL tabA n) && !(S6.isL 8 n))) (by decide) h
        simpa using q
    exact (G.endsB b (noTab_one k.1) fun m hm => Or.inl (by rw [(among_one _ _).1 hm]; exact k.2)).gt
  split
  · rename_i h
    obtain ⟨g1, g2, g3, g4⟩ := good_all (format_good (set_one (k := 5) (L := S6.formatN) rfl h))
    exact (G.adopt b g1 g4).gt
  split
  · rename_i h
    have q := among_all (P := fun n => (!(S6.amongL tabA n) && !(S6.isL 8 n))) (by decide) (set_one (k := 11) (L := S6.markerN) rfl h)
    simp only [Bool.and_eq_true, Bool.not_eq_true'] at q
    split
    · exact ((G.endsB b (noTab_one q.1) fun m hm => Or.inl (by rw [(among_one _ _).1 hm]; exact q.2)).trans (G.clear _)).gt
    · exact (G.refl b).gt
  split
  · exact GT.bodyStart b rfl (by show ([98, 114] : Bs) ≠ []; decide)
  by_cases e : n = tableS
  · exact (G.other' b n fun o ho _ => hT e o ho).gt
  · exact (G.other b (tab_set (skip_not c1) e)).gt
def TokOk (t : Tok) : Prop := (t.kind = 1 → t.text ≠ []) ∧ (t.kind = 2 → t.name ≠ [])
theorem GT.body (b : BS) {t : Tok} (h : TokOk t) (hT : t.kind = 3 → t.name = tableS → ∀ o ∈ b.op, tabO o = false) : GT b (bodyB b t) := by
  unfold Go.Proofs.YteccmjngdibeoaaGreatDoor.bodyB
  split
  · rename_i k
    exact ((G.renew b).trans (G.text _ (h.1 k))).gt
  split
  · exact (G.comment b _).gt
  split
  · rename_i k
    exact GT.bodyStart b k (h.2 k)
  split
  · rename_i k
    exact GT.bodyStop b _ (hT k)
  · exact (G.refl b).gt
def MQ (b b' : BS) : Prop := b'.e = 0 → b'.mode = b.mode ∨ tabO (curB b') = false
theorem MQ.of {b b' : BS} (h : b'.mode = b.mode) : MQ b b' := fun _ => Or.inl h
theorem MQ.raw (b c : BS) {t : Tok} (mode : Int) (h : goodN t.name = true) : MQ c (rawB b t mode) := by
  intro he
  right
  have he : (tagB b t).1.e = 0 := he
  show tabO (curB { (tagB b t).1 with mode := mode, name := t.name }) = false
  unfold tagB at he ⊢
  cases hi : insertB b 0 t.name t.attrs with
  | mk b' n =>
  rw [hi] at he
  obtain ⟨n, rfl⟩ := insert_e hi he
  obtain ⟨_, _, e2, _⟩ := insert_some hi
  show tabO (b'.op.getLast?.getD rootO) = false
  rw [e2, List.getLast?_concat]
  show tabO ⟨n, 0, t.name⟩ = false
  unfold tabO
  rw [(good_all h).2.2.2]
  rfl
theorem MQ.skip {b b' : BS} (h : MQ b b') : MQ b { b' with skip := true } := h
theorem MQ.bodyStart (b : BS) (t : Tok) : MQ b (bodyStart b t) := by
  unfold Go.Proofs.YteccmjngdibeoaaGreatDoor.bodyStart
  split
  · exact MQ.of rfl
  split
  · exact MQ.of (mo_single b t)
  split
  · rename_i h; exact MQ.raw b b 1 (start_good (by decide) h)
  split
  · rename_i h; exact (MQ.raw b b 1 (start_good (by decide) h)).skip
  split
  · rename_i h; exact MQ.raw b b 2 (start_good (by decide) h)
  split
  · rename_i h; exact MQ.raw _ b 2 (start_good (by decide) h)
  split
  · split
    · exact MQ.of (by rw [mo_tag, mo_closeP])
    · exact MQ.of rfl
  split
  · exact MQ.of (mo_listed _ _ _)
  split
  · exact MQ.of (mo_listed _ _ _)
  split
  · exact MQ.of (mo_ruby _ _)
  split
  · unfold closingB
    split
    · rename_i h; exact MQ.raw _ b 3 (start_good (by decide) h)
    split
    · exact MQ.of (by show (tagB _ t).1.mode = _; rw [mo_tag, mo_closeP])
    split
    · exact MQ.of (by show (tagB _ t).1.mode = _; rw [mo_tag, mo_closeP])
    split
    · exact MQ.of (by rw [mo_single, mo_closeP])
    · refine MQ.of ?_
      rw [mo_tag]
      split
      · rw [mo_pop, mo_closeP]
      · rw [mo_closeP]
  · exact MQ.of (mo_phrase b t)
theorem MQ.body (b : BS) (t : Tok) : MQ b (bodyB b t) := by
  unfold Go.Proofs.YteccmjngdibeoaaGreatDoor.bodyB
  split
  · exact MQ.of (by rw [mo_text, mo_renew])
  split
  · exact MQ.of (mo_comment _ _)
  split
  · exact MQ.bodyStart b t
  split
  · exact MQ.of (mo_bodyStop _ _)
  · exact MQ.of rfl
theorem MQ.foster (b : BS) (t : Tok) : MQ b (fosterB b t) := by
  have h := MQ.body { b with fost := true } t
  exact h
end Go.Proofs.YteccmjngdibeoaaGreatDoor
set_option linter.unusedVariables false
set_option linter.unusedSimpArgs false
namespace Go.Proofs.YteccmjngdibeoaaGreatDoor
open S5 (ND TR WF kidsAt nodeAt parentN appendL beforeL moveL addL withinL newL outL setK aheadL pushL)
open S4 (Tok nextR)
def colgS : Bs := [99, 111, 108, 103, 114, 111, 117, 112]
def NoCol (l : List OM) : Prop := ∀ o ∈ l, isO o [colgS] = false
def rulesF (l : List OM) : Nat := ((l.getLast?).bind rulesOf).getD 0
structure SI (b : BS) : Prop where
  inv : Inv b
  fo : b.fost = false
  ru : b.rules = rulesF (sk b.op)
  col : NoCol b.op ∨ (isO (curB b) [colgS] = true ∧ NoCol b.op.dropLast)
theorem isO_sub {o : OM} {a c : List Bs} (h : (a.all fun n => S6.amongL c n) = true) (ho : isO o a = true) : isO o c = true := by
  unfold isO at ho ⊢
  simp only [Bool.and_eq_true] at ho ⊢
  exact ⟨ho.1, among_all (P := fun n => S6.amongL c n) h ho.2⟩
theorem isO_tab {o : OM} : isO o tabA = tabO o := rfl
theorem rules_some {o : OM} {r : Nat} (h : rulesOf o = some r) : tabO o = true ∧ ((r = 6 ∧ isO o ofCell = true) ∨ (r = 5 ∧ isO o [[116, 114]] = true) ∨ (r = 4 ∧ isO o ofRows = true) ∨ (r = 2 ∧ isO o [[99, 97, 112, 116, 105, 111, 110]] = true) ∨ (r = 3 ∧ isO o [colgS] = true) ∨ (r = 1 ∧ isO o [tableS] = true)) := by
  unfold rulesOf at h
  split at h
  · rename_i c; exact ⟨isO_sub (c := tabA) (by decide) c, Or.inl ⟨(Option.some.inj h).symm, c⟩⟩
  split at h
  · rename_i c; exact ⟨isO_sub (c := tabA) (by decide) c, Or.inr (Or.inl ⟨(Option.some.inj h).symm, c⟩)⟩
  split at h
  · rename_i c; exact ⟨isO_sub (c := tabA) (by decide) c, Or.inr (Or.inr (Or.inl ⟨(Option.some.inj h).symm, c⟩))⟩
  split at h
  · rename_i c; exact ⟨isO_sub (c := tabA) (by decide) c, Or.inr (Or.inr (Or.inr (Or.inl ⟨(Option.some.inj h).symm, c⟩)))⟩
  split at h
  · rename_i c; exact ⟨isO_sub (c := tabA) (by decide) c, Or.inr (Or.inr (Or.inr (Or.inr (Or.inl ⟨(Option.some.inj h).symm, c⟩))))⟩
  split at h
  · rename_i c; exact ⟨isO_sub (c := tabA) (by decide) c, Or.inr (Or.inr (Or.inr (Or.inr (Or.inr ⟨(Option.some.inj h).symm, c⟩))))⟩
  · cases h
theorem rules_name {z : Nat} {n : Bs} {L : List Bs} {r : Nat} (hL : (L.all fun n => rulesOf ⟨0, 0, n⟩ == some r) = true) (h : S6.amongL L n = true) : rulesOf ⟨z, 0, n⟩ = some r := by
  have := among_all (P := fun n => rulesOf ⟨0, 0, n⟩ == some r) hL h
  simp only [beq_iff_eq] at this
  exact this
theorem rules_of {o : OM} {L : List Bs} {r : Nat} (hL : (L.all fun n => rulesOf ⟨0, 0, n⟩ == some r) = true) (h : isO o L = true) : rulesOf o = some r := by
  unfold isO at h
  simp only [Bool.and_eq_true, beq_iff_eq] at h
  obtain ⟨z, sp, nm⟩ := o
  obtain ⟨rfl, h⟩ := h
  exact rules_name hL h
theorem rules_tab (o : OM) (h : tabO o = true) : (rulesOf o).isSome = true := by
  unfold tabO at h
  simp only [Bool.and_eq_true, beq_iff_eq] at h
  obtain ⟨z, sp, nm⟩ := o
  obtain ⟨rfl, h⟩ := h
  exact among_all (L := tabA) (P := fun n => (rulesOf ⟨z, 0, n⟩).isSome) rfl h
theorem rules_none (o : OM) (h : tabO o = false) : rulesOf o = none := by
  cases hr : rulesOf o with
  | none => rfl
  | some r => rw [(rules_some hr).1] at h; cases h
theorem top_tab : ∀ (l : List OM) (o : OM), (sk l).getLast? = some o → ∃ k, l[k]? = some o ∧ tabO o = true ∧ Safe l (k + 1)
  | [], o, h => by simp [sk] at h
  | x :: r, o, h => by
    by_cases hr : sk r = []
    · have hs : Safe (x :: r) 1 := by
        intro i y hi hy
        obtain ⟨j, rfl⟩ := Nat.exists_eq_add_of_le' hi
        have hm : y ∈ r := List.mem_of_getElem? (show r[j]? = some y from hy)
        unfold sk at hr
        rw [List.filter_eq_nil_iff] at hr
        simpa using hr y hm
      unfold sk at h hr
      rw [List.filter_cons, hr] at h
      split at h
      · rename_i c
        obtain rfl : x = o := by simpa using h
        exact ⟨0, rfl, c, hs⟩
      · simp at h
    · have e : (sk (x :: r)).getLast? = (sk r).getLast? := by
        unfold sk at hr ⊢
        rw [List.filter_cons]
        split
        · rw [List.getLast?_cons]
          cases hg : (List.filter tabO r).getLast? with
          | none => exact absurd (List.getLast?_eq_none_iff.1 hg) hr
          | some y => rfl
        · rfl
      rw [e] at h
      obtain ⟨k, k1, k2, k3⟩ := top_tab r o h
      refine ⟨k + 1, k1, k2, ?_⟩
      intro i y hi hy
      obtain ⟨j, rfl⟩ := Nat.exists_eq_add_of_le' (show 1 ≤ i by omega)
      exact k3 j y (by omega) hy
theorem find_last : ∀ l : List OM, l.reverse.findSome? rulesOf = ((sk l).getLast?).bind rulesOf
  | [] => rfl
  | x :: r => by
    rw [List.reverse_cons, List.findSome?_append, find_last r]
    by_cases hr : sk r = []
    · have e : sk (x :: r) = if tabO x = true then [x] else [] := by
        unfold sk at hr ⊢
        rw [List.filter_cons, hr]
      rw [hr, e]
      split
      · simp
      · rename_i c
        simp [rules_none x (Bool.eq_false_iff.2 c)]
    · have e : (sk (x :: r)).getLast? = (sk r).getLast? := by
        unfold sk at hr ⊢
        rw [List.filter_cons]
        split
        · rw [List.getLast?_cons]
          cases hg : (List.filter tabO r).getLast? with
          | none => exact absurd (List.getLast?_eq_none_iff.1 hg) hr
          | some y => rfl
        · rfl
      rw [e]
      cases hg : (sk r).getLast? with
      | none => exact absurd (List.getLast?_eq_none_iff.1 hg) hr
      | some y =>
        have hy : tabO y = true := by
          have := List.mem_of_getLast? hg
          unfold sk at this
          exact (List.mem_filter.1 this).2
        have := rules_tab y hy
        cases hq : rulesOf y with
        | none => rw [hq] at this; cases this
        | some q => simp [hq]
theorem sk_root (l : List OM) (h : l[0]? = some rootO) : sk (l.drop 1) = sk l := by
  rcases l with _ | ⟨x, r⟩
  · cases h
  · obtain rfl : x = rootO := by simpa using h
    unfold sk
    rw [List.filter_cons]
    rfl
theorem reset_rules (b : BS) (h : b.op[0]? = some rootO) : (resetB b).rules = rulesF (sk b.op) := by
  show ((b.op.drop 1).reverse.findSome? rulesOf).getD 0 = _
  rw [find_last, sk_root _ h]
  rfl
theorem SI.top {b : BS} (h : SI b) {r : Nat} (hr : b.rules = r) (h0 : r ≠ 0) : ∃ k o, b.op[k]? = some o ∧ 1 ≤ k ∧ rulesOf o = some r ∧ Safe b.op (k + 1) := by
  have hu := h.ru
  rw [hr] at hu
  unfold rulesF at hu
  cases hg : (sk b.op).getLast? with
  | none => rw [hg] at hu; exact absurd hu h0
  | some o =>
    rw [hg] at hu
    obtain ⟨k, k1, k2, k3⟩ := top_tab _ _ hg
    refine ⟨k, o, k1, ?_, ?_, k3⟩
    · cases k with
      | zero =>
        rw [h.inv.o.hd] at k1
        obtain rfl : rootO = o := Option.some.inj k1
        exact absurd k2 (by decide)
      | succ k => omega
    · have := rules_tab o k2
      cases hq : rulesOf o with
      | none => rw [hq] at this; cases this
      | some q =>
        have hu : r = q := by simpa [hq] using hu
        rw [hu]
theorem SI.noCol {b : BS} (h : SI b) (h3 : b.rules ≠ 3) : NoCol b.op := by
  rcases h.col with c | ⟨c, _⟩
  · exact c
  · exfalso
    refine h3 ?_
    have hp := h.inv.o.pos
    have e : b.op = b.op.dropLast ++ [curB b] := by
      unfold curB
      rw [List.getLast?_eq_some_getLast (by intro e; rw [e] at hp; simp at hp)]
      exact (List.dropLast_concat_getLast _).symm
    rw [h.ru, e, sk_tab _ _ (by rw [← isO_tab]; exact isO_sub (by decide) c)]
    unfold rulesF
    rw [List.getLast?_concat]
    simp [rules_of (L := [colgS]) (r := 3) (by decide) c]
theorem noCol_sk {l r : List OM} (h : NoCol l) (e : sk r = sk l) : NoCol r := by
  intro o ho
  cases hx : isO o [colgS] with
  | false => rfl
  | true =>
    have ht : tabO o = true := by rw [← isO_tab]; exact isO_sub (by decide) hx
    have hm : o ∈ sk r := List.mem_filter.2 ⟨ho, ht⟩
    rw [e] at hm
    rw [h o (List.mem_filter.1 hm).1] at hx
    cases hx
theorem NoCol.take {l : List OM} (h : NoCol l) (k : Nat) : NoCol (l.take k) := fun o ho => h o (List.mem_of_mem_take ho)
theorem NoCol.app {l : List OM} (h : NoCol l) {o : OM} (ho : isO o [colgS] = false) : NoCol (l ++ [o]) := by
  intro x hx
  rcases List.mem_append.1 hx with q | q
  · exact h x q
  · rw [List.mem_singleton.1 q]; exact ho
theorem SI.ofGT {b b' : BS} (h : SI b) (h3 : b.rules ≠ 3) (g : GT b b') (he : b'.e = 0) : SI b' := by
  obtain ⟨_, k⟩ := g he
  obtain ⟨i, f, q⟩ := k h.inv
  have nc := h.noCol h3
  rcases q with ⟨s, r⟩ | ⟨n, s, r⟩
  · exact ⟨i, f.trans h.fo, by rw [r, s]; exact h.ru, Or.inl (noCol_sk nc s)⟩
  · refine ⟨i, f.trans h.fo, ?_, Or.inl ?_⟩
    · rw [r, s]
      unfold rulesF
      rw [List.getLast?_concat]
      rfl
    · intro o ho
      cases hx : isO o [colgS] with
      | false => rfl
      | true =>
        have ht : tabO o = true := by rw [← isO_tab]; exact isO_sub (by decide) hx
        have hm : o ∈ sk b'.op := List.mem_filter.2 ⟨ho, ht⟩
        rw [s] at hm
        rcases List.mem_append.1 hm with q | q
        · rw [nc o (List.mem_filter.1 q).1] at hx
          cases hx
        · rw [List.mem_singleton.1 q] at hx
          exact absurd hx (by show ¬ isO ⟨n, 0, tableS⟩ [colgS] = true; simp [isO, S6.amongL, tableS, colgS])
theorem SI.ofG {b b' : BS} (h : SI b) (h3 : b.rules ≠ 3) (g : G b b') (he : b'.e = 0) : SI b' := h.ofGT h3 g.gt he
theorem SI.ofOp {b b' : BS} (h : SI b) (g : G b b') (e : b'.op = b.op) (he : b'.e = 0) : SI b' := by
  obtain ⟨i, s, r, f⟩ := (g he).2 h.inv
  refine ⟨i, f.f.trans h.fo, by rw [r, s]; exact h.ru, ?_⟩
  rw [show curB b' = curB b from by unfold curB; rw [e], e]
  exact h.col
def belowR (r : Nat) : Nat := if r = 6 then 5 else if r = 5 then 4 else 1
theorem fits_cell {n w : Bs} (h : S6.amongL ofCell n = true) : fitsL n w = (w == [116, 114]) := by
  unfold fitsL; rw [if_pos h]
theorem fits_tr {w : Bs} : fitsL [116, 114] w = S6.amongL rowsN w := rfl
theorem fits_own {n w : Bs} (h : S6.amongL ownN n = true) : fitsL n w = (w == tableS) := by
  unfold S6.amongL ownN at h
  simp at h
  rcases h with rfl | rfl | rfl | rfl | rfl <;> rfl
theorem in_some {a : OM} {w : Bs} (hw : w ≠ []) (h : inName a.sp a.nm = w) : a.sp = 0 ∧ a.nm = w := by
  unfold inName at h
  split at h
  · exact ⟨by assumption, h⟩
  · exact absurd h.symm hw
theorem below {a o : OM} {r : Nat} (h : AdjR a o) (hr : rulesOf o = some r) (h1 : r ≠ 1) : rulesOf a = some (belowR r) := by
  have mk : ∀ {w : Bs} {q : Nat}, w ≠ [] → rulesOf ⟨0, 0, w⟩ = some q → inName a.sp a.nm = w → rulesOf a = some q := by
    intro w q hw hq hi
    obtain ⟨e1, e2⟩ := in_some hw hi
    obtain ⟨z, sp, nm⟩ := a
    have e1 : sp = 0 := e1
    have e2 : nm = w := e2
    subst e1 e2
    exact hq
  obtain ⟨ht, hc⟩ := rules_some hr
  have sp0 : o.sp = 0 := by
    unfold tabO at ht
    simp only [Bool.and_eq_true, beq_iff_eq] at ht
    exact ht.1
  have hf := h sp0
  have nm : ∀ {L : List Bs}, isO o L = true → S6.amongL L o.nm = true := by
    intro L h
    unfold isO at h
    simp only [Bool.and_eq_true] at h
    exact h.2
  rcases hc with ⟨rfl, c⟩ | ⟨rfl, c⟩ | ⟨rfl, c⟩ | ⟨rfl, c⟩ | ⟨rfl, c⟩ | ⟨rfl, c⟩
  · rw [fits_cell (nm c)] at hf
    exact mk (w := [116, 114]) (by decide) rfl (by simpa using hf)
  · rw [(among_one _ _).1 (nm c), fits_tr] at hf
    unfold S6.amongL rowsN at hf
    simp at hf
    rcases hf with e | e | e
    · exact mk (by decide) rfl e
    · exact mk (by decide) rfl e
    · exact mk (by decide) rfl e
  · rw [fits_own (among_all (P := fun n => S6.amongL ownN n) (by decide) (nm c))] at hf
    exact mk (w := tableS) (by decide) rfl (by simpa using hf)
  · rw [fits_own (among_all (P := fun n => S6.amongL ownN n) (by decide) (nm c))] at hf
    exact mk (w := tableS) (by decide) rfl (by simpa using hf)
  · rw [fits_own (among_all (P := fun n => S6.amongL ownN n) (by decide) (nm c))] at hf
    exact mk (w := tableS) (by decide) rfl (by simpa using hf)
  · exact absurd rfl h1
theorem SI.cut {b : BS} (h : SI b) {k : Nat} {o : OM} {r : Nat} (hk : 1 ≤ k) (ho : b.op[k]? = some o) (hr : rulesOf o = some r) (h1 : r ≠ 1) (m : List MM) (hm : ∀ x ∈ m, x ∈ b.mr) :
    SI { b with op := b.op.take k, mr := m, rules := belowR r } := by
  have hlt := (List.getElem?_eq_some_iff.1 ho).1
  obtain ⟨j, rfl⟩ := Nat.exists_eq_add_of_le' hk
  have hx : b.op[j]? = some (b.op[j]'(by omega)) := List.getElem?_eq_getElem (by omega)
  have ra := below (h.inv.o.adj j _ o hx ho) hr h1
  refine ⟨⟨h.inv.t, h.inv.o.take hk, fun x hx => h.inv.m x (hm x hx)⟩, h.fo, ?_, Or.inl ?_⟩
  · show belowR r = rulesF (sk (b.op.take (j + 1)))
    rw [List.take_succ_eq_append_getElem (by omega), sk_tab _ _ (rules_some ra).1]
    unfold rulesF
    rw [List.getLast?_concat]
    simp [ra]
  · rcases h.col with c | ⟨_, c⟩
    · exact c.take _
    · intro x hx
      refine c x ?_
      rw [List.dropLast_eq_take]
      obtain ⟨i, hi⟩ := List.mem_iff_getElem?.1 hx
      rw [take_at] at hi
      split at hi
      · refine List.mem_of_getElem? (i := i) ?_
        rw [take_at, if_pos (by omega)]
        exact hi
      · cases hi
end Go.Proofs.YteccmjngdibeoaaGreatDoor
set_option linter.unusedVariables false
set_option linter.unusedSimpArgs false
namespace Go.Proofs.YteccmjngdibeoaaGreatDoor
open S5 (ND TR WF kidsAt nodeAt parentN appendL beforeL moveL addL withinL newL outL setK aheadL pushL)
open S4 (Tok nextR)
theorem cur_at {b : BS} (h : 1 ≤ b.op.length) : b.op[b.op.length - 1]? = some (curB b) := by
  unfold curB
  rw [List.getLast?_eq_getElem?, List.getElem?_eq_getElem (by omega)]
  rfl
theorem clear_spec (names : List Bs) (k : Nat) (o : OM) (hn : isO o names = true) (hk1 : 1 ≤ k) : ∀ (f : Nat) (b : BS), b.op.length ≤ f + (k + 1) → b.op[k]? = some o → (∀ i x, k < i → b.op[i]? = some x → isO x names = false) → clearK names f b = { b with op := b.op.take (k + 1) }
  | 0, b, hl, hk, hs => by
    rw [clearK]
    rw [List.take_of_length_le (by omega)]
  | f + 1, b, hl, hk, hs => by
    have hlt := (List.getElem?_eq_some_iff.1 hk).1
    have hc := cur_at (b := b) (by omega)
    rw [clearK]
    by_cases e : b.op.length = k + 1
    · rw [show b.op.length - 1 = k from by omega, hk] at hc
      have hc := Option.some.inj hc
      rw [if_neg]
      · rw [List.take_of_length_le (by omega)]
      · rw [← hc, hn]
        simp
    · have hx := hs (b.op.length - 1) _ (by omega) hc
      rw [if_pos (by rw [hx]; simp; omega)]
      have hp : popB b = { b with op := b.op.take (b.op.length - 1) } := by
        unfold popB
        rw [if_pos (by omega), List.dropLast_eq_take]
      rw [hp]
      rw [clear_spec names k o hn hk1 f]
      · show { b with op := (b.op.take (b.op.length - 1)).take (k + 1) } = _
        rw [List.take_take, show min (k + 1) (b.op.length - 1) = k + 1 from by omega]
      · show (b.op.take (b.op.length - 1)).length ≤ _
        simp
        omega
      · show (b.op.take (b.op.length - 1))[k]? = _
        rw [take_at, if_pos (by omega)]
        exact hk
      · intro i x hi hx
        have hx : (b.op.take (b.op.length - 1))[i]? = some x := hx
        rw [take_at] at hx
        split at hx
        · exact hs i x hi hx
        · cases hx
theorem clear_eq {b : BS} {names : List Bs} {k : Nat} {o : OM} (hn : isO o names = true) (hk1 : 1 ≤ k) (hk : b.op[k]? = some o) (hs : ∀ i x, k < i → b.op[i]? = some x → isO x names = false) : clearToB b names = { b with op := b.op.take (k + 1) } :=
  clear_spec names k o hn hk1 _ b (by omega) hk hs
theorem cur_take {b : BS} {k : Nat} {o : OM} (hk : b.op[k]? = some o) : curB { b with op := b.op.take (k + 1) } = o := by
  have hlt := (List.getElem?_eq_some_iff.1 hk).1
  refine cur_last ?_
  show (b.op.take (k + 1)).getLast? = some o
  rw [List.getLast?_eq_getElem?, take_at, if_pos (by simp; omega)]
  rw [show (b.op.take (k + 1)).length - 1 = k from by simp; omega]
  exact hk
theorem SI.part {c : BS} (i : Inv c) (hf : c.fost = false) (nc : NoCol c.op) {nm : Bs} {r : Nat} (hne : nm ≠ []) (hv : S6.isL 1 nm = false) (ha : AdjR (curB c) ⟨0, 0, nm⟩) (hr : ∀ z, rulesOf ⟨z, 0, nm⟩ = some r) (aa : As) (he : (insertB c 0 nm aa).1.e = 0) : SI { (insertB c 0 nm aa).1 with rules := r } := by
  cases hi : insertB c 0 nm aa with
  | mk c' n =>
  rw [hi] at he
  obtain ⟨n, rfl⟩ := insert_e hi he
  obtain ⟨e0, e1, e2, e3, e4, e5, kk⟩ := insert_some hi
  have iv := insert_inv hi i hne (fun _ => hv) (Or.inr ⟨hf, ha⟩)
  refine ⟨⟨iv.t, iv.o, iv.m⟩, e5.trans hf, ?_, ?_⟩
  · show r = rulesF (sk c'.op)
    rw [e2, sk_tab _ _ (rules_some (hr n)).1]
    unfold rulesF
    rw [List.getLast?_concat]
    simp [hr n]
  · have hcur : curB { c' with rules := r } = ⟨n, 0, nm⟩ := cur_last (by show c'.op.getLast? = _; rw [e2, List.getLast?_concat])
    rw [hcur]
    show NoCol c'.op ∨ isO ⟨n, 0, nm⟩ [colgS] = true ∧ NoCol c'.op.dropLast
    rw [e2, List.dropLast_concat]
    cases hx : isO ⟨n, 0, nm⟩ [colgS] with
    | false => exact Or.inl (nc.app hx)
    | true => exact Or.inr ⟨rfl, nc⟩
theorem SI.clearInv {b : BS} (h : SI b) (h3 : b.rules ≠ 3) (k : Nat) : Inv { b with op := b.op.take (k + 1) } ∧ NoCol (b.op.take (k + 1)) := ⟨⟨h.inv.t, h.inv.o.take (by omega), h.inv.m⟩, (h.noCol h3).take _⟩
theorem SI.table {b : BS} (h : SI b) (hr : b.rules = 1 ∨ b.rules = 4 ∨ b.rules = 5) : ∃ k o, b.op[k]? = some o ∧ 1 ≤ k ∧ isO o [tableS] = true ∧ ∀ i x, k < i → b.op[i]? = some x → isO x [tableS] = false := by
  have one : ∀ {o : OM}, rulesOf o = some 1 → isO o [tableS] = true := by
    intro o ho
    rcases (rules_some ho).2 with ⟨e, _⟩ | ⟨e, _⟩ | ⟨e, _⟩ | ⟨e, _⟩ | ⟨e, _⟩ | ⟨_, c⟩
    · cases e
    · cases e
    · cases e
    · cases e
    · cases e
    · exact c
  have down : ∀ {k : Nat} {o : OM} {r : Nat}, b.op[k]? = some o → rulesOf o = some r → r ≠ 1 → ∃ (j : Nat) (a : OM), b.op[j]? = some a ∧ rulesOf a = some (belowR r) := by
    intro k o r hk hr h1
    have hlt := (List.getElem?_eq_some_iff.1 hk).1
    cases k with
    | zero =>
      rw [h.inv.o.hd] at hk
      obtain rfl : rootO = o := Option.some.inj hk
      exact absurd hr (by show ¬ rulesOf rootO = some r; rw [show rulesOf rootO = none from rfl]; simp)
    | succ j =>
      have hx : b.op[j]? = some (b.op[j]'(by omega)) := List.getElem?_eq_getElem (by omega)
      exact ⟨j, _, hx, below (h.inv.o.adj j _ o hx hk) hr h1⟩
  obtain ⟨j, a, hj, ha⟩ : ∃ (j : Nat) (a : OM), b.op[j]? = some a ∧ rulesOf a = some 1 := by
    rcases hr with hr | hr | hr
    · obtain ⟨k, o, k1, _, k3, _⟩ := h.top hr (by decide)
      exact ⟨k, o, k1, k3⟩
    · obtain ⟨k, o, k1, _, k3, _⟩ := h.top hr (by decide)
      exact down k1 k3 (by decide)
    · obtain ⟨k, o, k1, _, k3, _⟩ := h.top hr (by decide)
      obtain ⟨j, a, q1, q2⟩ := down k1 k3 (by decide)
      exact down q1 q2 (by decide)
  have hlt := (List.getElem?_eq_some_iff.1 hj).1
  obtain ⟨m, h1, h2⟩ := last_found (S6.namedL [tableS]) (vs b.op) b.op.length j hlt (by
    rw [any_v, hj]
    show S6.namedL [tableS] a.v = true
    rw [v_named]
    exact one ha)
  obtain ⟨q1, q2, q3⟩ := last_some _ _ _ _ h1
  have hm : b.op[m]? = some b.op[m] := List.getElem?_eq_getElem q1
  refine ⟨m, b.op[m], hm, ?_, ?_, ?_⟩
  · cases m with
    | zero =>
      rw [any_v, h.inv.o.hd] at q2
      exact absurd q2 (by decide)
    | succ m => omega
  · rw [any_v, hm] at q2
    rw [← v_named]
    exact q2
  · intro i x hi hx
    have := q3 i hi (List.getElem?_eq_some_iff.1 hx).1
    rw [any_v, hx] at this
    rw [← v_named]
    exact this
def SQ (b : BS) (x : BS × Option Tok) : Prop := x.1.e = 0 → SI x.1 ∧ (∀ t', x.2 = some t' → TokOk t') ∧ (x.1.mode = b.mode ∨ (x.2 = none ∧ tabO (curB x.1) = false))
theorem SQ.ite {b : BS} {c : Prop} [Decidable c] {x y : BS × Option Tok} (h1 : c → SQ b x) (h2 : ¬ c → SQ b y) : SQ b (if c then x else y) := by
  by_cases h : c
  · rw [if_pos h]; exact h1 h
  · rw [if_neg h]; exact h2 h
theorem SQ.no {b b' : BS} (h : b'.e = 0 → SI b') (m : MQ b b') : SQ b (b', none) := by
  intro he
  refine ⟨h he, (fun t' e => by cases e), ?_⟩
  rcases m he with q | q
  · exact Or.inl q
  · exact Or.inr ⟨rfl, q⟩
theorem SQ.opt {b b' : BS} {t : Tok} (h : b'.e = 0 → SI b') (m : b'.mode = b.mode) (ht : TokOk t) (c : Bool) : SQ b (b', if c = true then none else some t) := by
  intro he
  refine ⟨h he, fun t' e => ?_, Or.inl m⟩
  have e : (if c = true then none else some t) = some t' := e
  split at e
  · cases e
  · rw [← Option.some.inj e]; exact ht
theorem SQ.go {b b' : BS} {t : Tok} (h : b'.e = 0 → SI b') (m : b'.mode = b.mode) (ht : TokOk t) : SQ b (b', some t) := SQ.opt h m ht false
theorem SQ.same {b : BS} (h : SI b) : SQ b (b, none) := SQ.no (fun _ => h) (MQ.of rfl)
theorem own_part {b : BS} (h : SI b) (hr : b.rules = 1 ∨ b.rules = 4 ∨ b.rules = 5) {nm : Bs} {r : Nat} (hn : S6.amongL ownN nm = true) (hr' : ∀ z, rulesOf ⟨z, 0, nm⟩ = some r) (aa : As) :
    ((insertB (clearToB b [tableS]) 0 nm aa).1.e = 0 → SI { (insertB (clearToB b [tableS]) 0 nm aa).1 with rules := r }) ∧ ((insertB (markerB (clearToB b [tableS])) 0 nm aa).1.e = 0 → SI { (insertB (markerB (clearToB b [tableS])) 0 nm aa).1 with rules := r }) := by
  obtain ⟨k, o, k1, k2, k3, k4⟩ := h.table hr
  rw [clear_eq k3 k2 k1 k4]
  obtain ⟨i, nc⟩ := h.clearInv (by omega) k
  have hq := among_all (P := fun n => !n.isEmpty && !(S6.isL 1 n)) (by decide) hn
  simp only [Bool.and_eq_true, Bool.not_eq_true'] at hq
  have hne : nm ≠ [] := by intro e; rw [e] at hq; exact absurd hq.1 (by decide)
  have ha : AdjR o ⟨0, 0, nm⟩ := by
    intro _
    rw [fits_own hn]
    unfold isO at k3
    simp only [Bool.and_eq_true, beq_iff_eq] at k3
    unfold inName
    rw [if_pos k3.1, (among_one _ _).1 k3.2]
    rfl
  have cur := cur_take (b := b) k1
  constructor
  · intro he
    exact SI.part i h.fo nc hne hq.2 (by rw [cur]; exact ha) hr' aa he
  · intro he
    refine SI.part (c := markerB { b with op := b.op.take (k + 1) }) ?_ h.fo nc hne hq.2 (by show AdjR (curB { b with op := b.op.take (k + 1) }) _; rw [cur]; exact ha) hr' aa he
    refine ⟨i.t, i.o, fun m hm => ?_⟩
    rcases pushM_mem hm with a | a
    · exact i.m m a
    · subst a; exact Or.inl ⟨rfl, rfl⟩
theorem SQ.table {b : BS} {t : Tok} (h : SI b) (hr : b.rules = 1 ∨ b.rules = 4 ∨ b.rules = 5) (ht : TokOk t) : SQ b (tableB b t) := by
  have h3 : b.rules ≠ 3 := by omega
  have nm : ∀ {L : List Bs} {r : Nat}, (L.all fun n => rulesOf ⟨0, 0, n⟩ == some r) = true → startT t L = true → ∀ z, rulesOf ⟨z, 0, t.name⟩ = some r := fun hL hs z => rules_name hL (start_name hs)
  have own : ∀ {L : List Bs}, (L.all fun n => S6.amongL ownN n) = true → startT t L = true → S6.amongL ownN t.name = true := fun hL hs => among_all (P := fun n => S6.amongL ownN n) hL (start_name hs)
  unfold tableB
  refine .ite (fun c => SQ.no (fun he => h.ofG h3 (G.text b (ht.1 ?_)) he) (MQ.of (mo_text b _))) fun _ => ?_
  · simp only [Bool.and_eq_true, beq_iff_eq] at c
    exact c.1
  refine .ite (fun _ => SQ.no (fun he => h.ofG h3 (G.comment b _) he) (MQ.of (mo_comment b _))) fun _ => ?_
  refine .ite (fun c => SQ.no (own_part h hr (own (by decide) c) (nm (by decide) c) _).2 (MQ.of (by show (tagB _ t).1.mode = _; rw [mo_tag, mo_marker, mo_clearTo]))) fun _ => ?_
  refine .ite (fun c => SQ.no (own_part h hr (own (by decide) c) (nm (by decide) c) _).1 (MQ.of (by show (tagB _ t).1.mode = _; rw [mo_tag, mo_clearTo]))) fun _ => ?_
  refine .ite (fun c => SQ.go (own_part h hr (by decide) (fun _ => rfl) _).1 (by show (insertB _ _ _ _).1.mode = _; rw [mo_insert, mo_clearTo]) ht) fun _ => ?_
  refine .ite (fun c => SQ.no (own_part h hr (own (by decide) c) (nm (by decide) c) _).1 (MQ.of (by show (tagB _ t).1.mode = _; rw [mo_tag, mo_clearTo]))) fun _ => ?_
  refine .ite (fun c => SQ.go (own_part h hr (by decide) (fun _ => rfl) _).1 (by show (insertB _ _ _ _).1.mode = _; rw [mo_insert, mo_clearTo]) ht) fun _ => ?_
  refine .ite (fun _ => .ite (fun _ => ?_) fun _ => SQ.same h) fun c8 => ?_
  · have si : SI (resetB (upToB b [[116, 97, 98, 108, 101]])) := by
      have hx : ∃ k, 1 ≤ k ∧ upToB b [[116, 97, 98, 108, 101]] = { b with op := b.op.take k } := by
        unfold upToB
        split
        · rename_i k e; exact ⟨k + 1, by omega, rfl⟩
        · exact ⟨b.op.length, h.inv.o.pos, by rw [List.take_length]⟩
      obtain ⟨k, hk, e⟩ := hx
      rw [e]
      refine ⟨⟨h.inv.t, h.inv.o.take hk, h.inv.m⟩, h.fo, reset_rules _ (h.inv.o.take hk).hd, Or.inl ((h.noCol h3).take k)⟩
    have mo : (resetB (upToB b [[116, 97, 98, 108, 101]])).mode = b.mode := by rw [mo_reset, mo_upTo]
    by_cases hk : (t.kind == 2) = true
    · rw [if_pos hk]; exact SQ.go (fun _ => si) mo ht
    · rw [if_neg hk]; exact SQ.no (fun _ => si) (MQ.of mo)
  have nost : t.kind = 3 → t.name = tableS → False := by
    intro k e
    refine c8 ?_
    unfold startT stopT
    rw [k, e]
    decide
  refine .ite (fun _ => SQ.no (fun he => h.ofGT h3 (GT.body b ht fun k e => (nost k e).elim) he) (MQ.body b t)) fun _ => ?_
  refine .ite (fun c => SQ.no (fun he => h.ofG h3 ?_ he) (MQ.of (mo_single b t))) fun _ => ?_
  · simp only [Bool.and_eq_true] at c
    obtain ⟨q1, q2⟩ := start_solo (by decide) c.1
    exact G.singleB b q1 q2
  refine .ite (fun c => SQ.no (fun he => h.ofG h3 ?_ he) (MQ.of ?_)) fun _ => ?_
  · obtain ⟨q1, q2⟩ := start_solo (by decide) c
    split
    · exact G.singleB b q1 q2
    · exact G.refl b
  · split
    · exact mo_single b t
    · rfl
  refine .ite (fun _ => SQ.same h) fun _ => SQ.no (fun he => ?_) (MQ.foster b t)
  have g := GT.body { b with fost := true } ht fun k e => (nost k e).elim
  have he : (bodyB { b with fost := true } t).e = 0 := he
  obtain ⟨_, k⟩ := g he
  obtain ⟨i, f, q⟩ := k ⟨h.inv.t, h.inv.o, h.inv.m⟩
  have hx : GT b (fosterB b t) := by
    intro he'
    obtain ⟨h0, _⟩ := g he
    exact ⟨h0, fun _ => ⟨⟨i.t, i.o, i.m⟩, h.fo.symm ▸ rfl, q⟩⟩
  exact h.ofGT h3 hx he
end Go.Proofs.YteccmjngdibeoaaGreatDoor
set_option linter.unusedVariables false
set_option linter.unusedSimpArgs false
namespace Go.Proofs.YteccmjngdibeoaaGreatDoor
open S5 (ND TR WF kidsAt nodeAt parentN appendL beforeL moveL addL withinL newL outL setK aheadL pushL)
open S4 (Tok nextR)
theorem isO_name {o : OM} {L : List Bs} (h : isO o L = true) : o.sp = 0 ∧ S6.amongL L o.nm = true := by
  unfold isO at h
  simp only [Bool.and_eq_true, beq_iff_eq] at h
  exact h
theorem last_top {b : BS} {k : Nat} {o : OM} {names : List Bs} (ho : b.op[k]? = some o) (hn : isO o names = true) (hs : Safe b.op (k + 1)) (hL : (names.all fun n => S6.amongL tabA n) = true) : S6.lastO (S6.namedL names) (vs b.op) b.op.length = some k := by
  have hlt := (List.getElem?_eq_some_iff.1 ho).1
  obtain ⟨j, h1, h2⟩ := last_found (S6.namedL names) (vs b.op) b.op.length k hlt (by
    rw [any_v, ho]
    show S6.namedL names o.v = true
    rw [v_named]
    exact hn)
  obtain ⟨q1, q2, _⟩ := last_some _ _ _ _ h1
  rcases Nat.eq_or_lt_of_le h2 with q | q
  · rw [q]; exact h1
  · exfalso
    have hj : b.op[j]? = some b.op[j] := List.getElem?_eq_getElem q1
    rw [any_v, hj] at q2
    have q2 : S6.namedL names b.op[j].v = true := q2
    rw [v_named] at q2
    have := hs j _ q hj
    rw [← isO_tab, isO_sub hL q2] at this
    cases this
theorem upTo_top {b : BS} {k : Nat} {o : OM} {names : List Bs} (ex : Bs) (ho : b.op[k]? = some o) (hk : 1 ≤ k) (hn : isO o names = true) (hs : Safe b.op (k + 1)) (hL : (names.all fun n => S6.amongL tabA n) = true) : upToB (impliedB b ex) names = { b with op := b.op.take k } := by
  have hlt := (List.getElem?_eq_some_iff.1 ho).1
  have h1 := last_top ho hn hs hL
  have hm := left_last b ex names (fun n h => Or.inl (by
    have h := among_all (P := fun n => S6.amongL tabA n) hL h
    have := among_all (P := fun n => !(S6.isL 8 n)) (by decide) h
    simpa using this)) h1
  have hle := (left_spec ⟨ex.toArray⟩ (vs b.op) b.op.length).1
  have h2 : S6.lastO (S6.namedL names) (vs (impliedB b ex).op) (impliedB b ex).op.length = some k := by
    have hi : (impliedB b ex).op = b.op.take (S6.leftO ⟨ex.toArray⟩ (vs b.op) b.op.length) := rfl
    rw [hi]
    obtain ⟨j, q1, q2⟩ := last_found (S6.namedL names) (vs (b.op.take (S6.leftO ⟨ex.toArray⟩ (vs b.op) b.op.length))) (b.op.take (S6.leftO ⟨ex.toArray⟩ (vs b.op) b.op.length)).length k (by simp; omega) (by
      rw [any_v, take_at, if_pos hm, ho]
      show S6.namedL names o.v = true
      rw [v_named]
      exact hn)
    rw [q1, last_take _ b.op hle h1 hm q1]
  unfold upToB
  rw [h2]
  obtain ⟨j, rfl⟩ := Nat.exists_eq_add_of_le' hk
  show { b with op := (b.op.take _).take (j + 1) } = _
  rw [List.take_take, show min (j + 1) (S6.leftO ⟨ex.toArray⟩ (vs b.op) b.op.length) = j + 1 from by omega]
theorem not_above {b : BS} {k : Nat} {names : List Bs} (hs : Safe b.op (k + 1)) (hL : (names.all fun n => S6.amongL tabA n) = true) : ∀ i x, k < i → b.op[i]? = some x → isO x names = false := by
  intro i x hi hx
  cases hq : isO x names with
  | false => rfl
  | true =>
    have := hs i x hi hx
    rw [← isO_tab, isO_sub hL hq] at this
    cases this
theorem pop_clear {b : BS} {k : Nat} {o : OM} {names : List Bs} (ho : b.op[k]? = some o) (hk : 1 ≤ k) (hn : isO o names = true) (hs : Safe b.op (k + 1)) (hL : (names.all fun n => S6.amongL tabA n) = true) : popB (clearToB b names) = { b with op := b.op.take k } := by
  have hlt := (List.getElem?_eq_some_iff.1 ho).1
  rw [clear_eq hn hk ho (not_above hs hL)]
  unfold popB
  rw [if_pos (by show 1 < (b.op.take (k + 1)).length; simp; omega)]
  show { b with op := (b.op.take (k + 1)).dropLast } = _
  rw [List.dropLast_eq_take, List.take_take]
  rw [show min ((b.op.take (k + 1)).length - 1) (k + 1) = k from by simp; omega]
theorem part_top {b : BS} (h : SI b) {k : Nat} {o : OM} {names : List Bs} (h3 : b.rules ≠ 3) (ho : b.op[k]? = some o) (hk : 1 ≤ k) (hn : isO o names = true) (hs : Safe b.op (k + 1)) (hL : (names.all fun n => S6.amongL tabA n) = true) {nm : Bs} {r : Nat} (hne : nm ≠ []) (hv : S6.isL 1 nm = false) (ha : AdjR o ⟨0, 0, nm⟩) (hr : ∀ z, rulesOf ⟨z, 0, nm⟩ = some r) (aa : As)
    (he : (insertB (clearToB b names) 0 nm aa).1.e = 0) : SI { (insertB (clearToB b names) 0 nm aa).1 with rules := r } := by
  rw [clear_eq hn hk ho (not_above hs hL)] at he ⊢
  obtain ⟨i, nc⟩ := h.clearInv h3 k
  exact SI.part i h.fo nc hne hv (by rw [cur_take ho]; exact ha) hr aa he
theorem rules_is {o : OM} {r : Nat} {L : List Bs} (hr : rulesOf o = some r) (hL : (tabA.all fun n => !(rulesOf ⟨0, 0, n⟩ == some r) || S6.amongL L n) = true) : isO o L = true := by
  obtain ⟨ht, _⟩ := rules_some hr
  obtain ⟨z, sp, nm⟩ := o
  unfold tabO at ht
  simp only [Bool.and_eq_true, beq_iff_eq] at ht
  obtain ⟨rfl, ht⟩ := ht
  have := among_all (P := fun n => !(rulesOf ⟨0, 0, n⟩ == some r) || S6.amongL L n) hL ht
  have hr : rulesOf ⟨0, 0, nm⟩ = some r := hr
  simp only [hr, beq_self_eq_true, Bool.not_true, Bool.false_or] at this
  unfold isO
  rw [this]
  rfl
theorem body_none {b : BS} (h : SI b) (hr : b.rules = 0) : ∀ o ∈ b.op, tabO o = false := by
  intro o ho
  cases ht : tabO o with
  | false => rfl
  | true =>
    exfalso
    have hm : o ∈ sk b.op := List.mem_filter.2 ⟨ho, ht⟩
    cases hg : (sk b.op).getLast? with
    | none => rw [List.getLast?_eq_none_iff.1 hg] at hm; cases hm
    | some y =>
      have hy : tabO y = true := (List.mem_filter.1 (List.mem_of_getLast? hg)).2
      have h1 := rules_tab y hy
      have hu := h.ru
      unfold rulesF at hu
      rw [hg, hr] at hu
      cases hq : rulesOf y with
      | none => rw [hq] at h1; cases h1
      | some q =>
        have hu : 0 = q := by simpa [hq] using hu
        subst hu
        rcases (rules_some hq).2 with ⟨e, _⟩ | ⟨e, _⟩ | ⟨e, _⟩ | ⟨e, _⟩ | ⟨e, _⟩ | ⟨e, _⟩ <;> cases e
theorem set_table {t : Tok} (h : t.kind = 3) (e : t.name = tableS) {L : List Bs} (hL : S6.amongL L tableS = true) : stopT t L = true := by
  unfold stopT
  rw [h, e, hL]
  rfl
theorem SQ.caption {b : BS} {t : Tok} (h : SI b) (hr : b.rules = 2) (ht : TokOk t) : SQ b (captionB b t) := by
  obtain ⟨k, o, k1, k2, k3, k4⟩ := h.top hr (by decide)
  unfold captionB
  refine .ite (fun _ => .ite (fun _ => ?_) fun _ => SQ.same h) fun c => .ite (fun _ => SQ.same h) fun _ => SQ.no (fun he => h.ofGT (by omega) (GT.body b ht fun q e => ?_) he) (MQ.body b t)
  · rw [upTo_top [] k1 k2 (rules_is k3 (by decide)) k4 (by decide)]
    exact SQ.opt (fun _ => h.cut k2 k1 k3 (by decide) _ fun x hx => clearM_mem hx) rfl ht _
  · exfalso
    refine c ?_
    rw [set_table q e (by decide), Bool.or_true]
theorem SQ.rows {b : BS} {t : Tok} (h : SI b) (hr : b.rules = 4) (ht : TokOk t) : SQ b (rowsB b t) := by
  obtain ⟨k, o, k1, k2, k3, k4⟩ := h.top hr (by decide)
  have hi : isO o ofRows = true := rules_is k3 (by decide)
  have ha : AdjR o ⟨0, 0, [116, 114]⟩ := by
    intro _
    obtain ⟨e1, e2⟩ := isO_name hi
    show fitsL [116, 114] (inName o.sp o.nm) = true
    rw [fits_tr, inName, if_pos e1]
    exact e2
  have hc : SI { popB (clearToB b ofRows) with rules := 1 } := by
    rw [pop_clear k1 k2 hi k4 (by decide)]
    exact h.cut k2 k1 k3 (by decide) b.mr fun x hx => hx
  have mo : (popB (clearToB b ofRows)).mode = b.mode := by rw [mo_pop, mo_clearTo]
  unfold rowsB
  refine .ite (fun c => ?_) fun _ => ?_
  · have e : t.name = [116, 114] := (among_one _ _).1 (start_name c)
    refine SQ.no ?_ (MQ.of (by show (tagB _ t).1.mode = _; rw [mo_tag, mo_clearTo]))
    unfold tagB
    rw [e]
    exact part_top h (by omega) k1 k2 hi k4 (by decide) (by decide) (by decide) ha (fun _ => rfl) _
  refine .ite (fun c => SQ.go (part_top h (by omega) k1 k2 hi k4 (by decide) (by decide) (by decide) ha (fun _ => rfl) _) (by show (insertB _ _ _ _).1.mode = _; rw [mo_insert, mo_clearTo]) ht) fun _ => ?_
  refine .ite (fun _ => .ite (fun _ => SQ.go (fun _ => hc) mo ht) fun _ => SQ.same h) fun _ => ?_
  refine .ite (fun _ => ?_) fun _ => .ite (fun _ => SQ.same h) fun _ => SQ.table h (by omega) ht
  by_cases hk : hasB b [t.name] 4 = true
  · rw [if_pos hk]; exact SQ.no (fun _ => hc) (MQ.of mo)
  · rw [if_neg hk]; exact SQ.same h
theorem SQ.row {b : BS} {t : Tok} (h : SI b) (hr : b.rules = 5) (ht : TokOk t) : SQ b (rowB b t) := by
  obtain ⟨k, o, k1, k2, k3, k4⟩ := h.top hr (by decide)
  have hi : isO o [[116, 114]] = true := rules_is k3 (by decide)
  have hc : SI { popB (clearToB b [[116, 114]]) with rules := 4 } := by
    rw [pop_clear k1 k2 hi k4 (by decide)]
    exact h.cut k2 k1 k3 (by decide) b.mr fun x hx => hx
  have mo : (popB (clearToB b [[116, 114]])).mode = b.mode := by rw [mo_pop, mo_clearTo]
  unfold rowB
  refine .ite (fun c => ?_) fun _ => ?_
  · have hn := start_name c
    have hq := among_all (P := fun n => !n.isEmpty && !(S6.isL 1 n)) (by decide) hn
    simp only [Bool.and_eq_true, Bool.not_eq_true'] at hq
    have hne : t.name ≠ [] := by intro e; rw [e] at hq; exact absurd hq.1 (by decide)
    have ha : AdjR o ⟨0, 0, t.name⟩ := by
      intro _
      obtain ⟨e1, e2⟩ := isO_name hi
      show fitsL t.name (inName o.sp o.nm) = true
      rw [fits_cell hn, inName, if_pos e1, (among_one _ _).1 e2]
      rfl
    refine SQ.no (fun he => ?_) (MQ.of (by show (tagB _ t).1.mode = _; rw [mo_tag, mo_clearTo]))
    have he : (tagB (clearToB b [[116, 114]]) t).1.e = 0 := he
    have s1 := part_top h (by omega) k1 k2 hi k4 (by decide) hne hq.2 ha (fun z => rules_name (L := ofCell) (r := 6) (by decide) hn) t.attrs he
    exact s1.ofG (by show (6 : Nat) ≠ 3; decide) (G.marker _) he
  refine .ite (fun _ => .ite (fun _ => SQ.same h) fun _ => SQ.opt (fun _ => hc) mo ht _) fun _ => .ite (fun _ => SQ.same h) fun _ => SQ.table h (by omega) ht
theorem cell_same {b : BS} (h : SI b) {k : Nat} {o : OM} (ho : b.op[k]? = some o) (hr : rulesOf o = some 6) (hs : Safe b.op (k + 1)) {n : Bs} (hn : S6.amongL ofCell n = true) (hh : hasB b [n] 4 = true) : isO o [n] = true := by
  unfold hasB S6.hasZ at hh
  rw [vs_len] at hh
  obtain ⟨j, h1, h2⟩ := has_some _ _ _ _ hh
  obtain ⟨q1, q2, _⟩ := last_some _ _ _ _ h1
  have hj : b.op[j]? = some b.op[j] := List.getElem?_eq_getElem q1
  rw [any_v, hj] at q2
  have q2 : S6.namedL [n] b.op[j].v = true := q2
  rw [v_named] at q2
  have hlt := (List.getElem?_eq_some_iff.1 ho).1
  have cj : isO b.op[j] ofCell = true := by
    obtain ⟨e1, e2⟩ := isO_name q2
    rw [← (among_one _ _).1 e2] at hn
    unfold isO
    rw [e1, hn]
    rfl
  have rj : rulesOf b.op[j] = some 6 := rules_of (L := ofCell) (r := 6) (by decide) cj
  rcases Nat.lt_trichotomy j k with q | q | q
  · exfalso
    have step : ∀ {i : Nat} {x : OM} {r : Nat}, b.op[i]? = some x → rulesOf x = some r → r ≠ 1 → ∃ y, 1 ≤ i ∧ b.op[i - 1]? = some y ∧ rulesOf y = some (belowR r) := by
      intro i x r hi hr h1
      have hlt := (List.getElem?_eq_some_iff.1 hi).1
      cases i with
      | zero =>
        rw [h.inv.o.hd] at hi
        obtain rfl : rootO = x := Option.some.inj hi
        exact absurd hr (by rw [show rulesOf rootO = none from rfl]; simp)
      | succ i =>
        have hx : b.op[i]? = some (b.op[i]'(by omega)) := List.getElem?_eq_getElem (by omega)
        exact ⟨_, by omega, hx, below (h.inv.o.adj i _ x hx hi) hr h1⟩
    obtain ⟨y1, a1, a2, a3⟩ := step ho hr (by decide)
    obtain ⟨y2, b1, b2, b3⟩ := step a2 a3 (by decide)
    obtain ⟨y3, c1, c2, c3⟩ := step b2 b3 (by decide)
    have a3 : rulesOf y1 = some 5 := a3
    have b3 : rulesOf y2 = some 4 := b3
    have c3 : rulesOf y3 = some 1 := c3
    have no : ∀ {i : Nat} {x : OM} {r : Nat}, b.op[i]? = some x → rulesOf x = some r → r ≠ 6 → j ≠ i := by
      intro i x r hi hr h6 e
      subst e
      rw [hj] at hi
      rw [Option.some.inj hi, hr] at rj
      exact h6 (Option.some.inj rj)
    have n1 := no a2 a3 (by decide)
    have n2 := no b2 b3 (by decide)
    have n3 := no c2 c3 (by decide)
    have h9 := h2 (k - 1 - 1 - 1) (by omega) (by omega)
    rw [any_v, c2] at h9
    have h9 : S6.endsL y3.v 4 = false := h9
    obtain ⟨e1, e2⟩ := isO_name (rules_is (L := [tableS]) c3 (by decide))
    rw [ends_table y3 4 e1 ((among_one _ _).1 e2)] at h9
    cases h9
  · subst q
    rw [hj] at ho
    rw [← Option.some.inj ho]
    exact q2
  · exfalso
    have := hs j _ q hj
    rw [(rules_some rj).1] at this
    cases this
theorem SQ.cell {b : BS} {t : Tok} (h : SI b) (hr : b.rules = 6) (ht : TokOk t) : SQ b (cellB b t) := by
  obtain ⟨k, o, k1, k2, k3, k4⟩ := h.top hr (by decide)
  have hc : ∀ names, isO o names = true → (names.all fun n => S6.amongL tabA n) = true → SI (closeCell b names) := by
    intro names hn hL
    unfold closeCell
    rw [upTo_top [] k1 k2 hn k4 hL]
    exact h.cut k2 k1 k3 (by decide) _ fun x hx => clearM_mem hx
  have mo : ∀ n, (closeCell b n).mode = b.mode := fun n => by
    unfold closeCell
    show (upToB _ _).mode = _
    rw [mo_upTo, mo_implied]
  have hcell : SI (closeCell b ofCell) := hc ofCell (rules_is k3 (by decide)) (by decide)
  unfold cellB
  refine .ite (fun c => ?_) fun _ => .ite (fun _ => .ite (fun _ => SQ.go (fun _ => hcell) (mo _) ht) fun _ => SQ.same h) fun _ => .ite (fun _ => .ite (fun _ => SQ.go (fun _ => hcell) (mo _) ht) fun _ => SQ.same h) fun c3 => .ite (fun _ => SQ.same h) fun _ => SQ.no (fun he => h.ofGT (by omega) (GT.body b ht fun q e => ?_) he) (MQ.body b t)
  · by_cases hk : hasB b [t.name] 4 = true
    · rw [if_pos hk]
      have hn : S6.amongL ofCell t.name = true := by
        unfold stopT at c
        simp only [Bool.and_eq_true] at c
        exact c.2
      refine SQ.no (fun _ => hc _ (cell_same h k1 k3 k4 hn hk) ?_) (MQ.of (mo _))
      have := among_all (P := fun n => S6.amongL tabA n) (by decide) hn
      simp [this]
    · rw [if_neg hk]; exact SQ.same h
  · exfalso
    exact c3 (set_table q e (by decide))
end Go.Proofs.YteccmjngdibeoaaGreatDoor
