import Derived.Test.YteccmjngdibeoaaGreatDoorKp01
import Derived.Test.YteccmjngdibeoaaGreatDoorKp28
set_option linter.unusedVariables false
set_option linter.unusedSimpArgs false
namespace Go.Proofs.YteccmjngdibeoaaGreatDoor
open S5 (ND TR WF kidsAt nodeAt parentN appendL beforeL moveL addL withinL newL outL setK aheadL pushL)
open S4 (Tok nextR)
theorem insert_none {b b' : BS} {sp : Int} {nm : Bs} {aa : As} (h : insertB b sp nm aa = (b', none)) : b'.e ≠ 0 := by
  unfold insertB at h
  simp only [] at h
  cases hg : growB (deepB b) { kind := 1, space := sp, name := nm, attrs := aa } with
  | mk b1 n =>
  rw [hg] at h
  cases n with
  | none =>
    obtain ⟨rfl, _⟩ := Prod.mk.inj h
    exact grow_none hg
  | some n => cases h
theorem insert_some {b b' : BS} {sp : Int} {nm : Bs} {aa : As} {n : Nat} (h : insertB b sp nm aa = (b', some n)) :
    b.e = 0 ∧ b'.e = 0 ∧ b'.op = b.op ++ [⟨n, sp, nm⟩] ∧ b'.mr = b.mr ∧ b'.rules = b.rules ∧ b'.fost = b.fost ∧
    (Inv b → nm ≠ [] → ((sp = 0 → FreeN nm) ∨ (b.fost = false ∧ AdjR (curB b) ⟨0, sp, nm⟩)) → TI b'.T ∧ NE b.T b'.T ∧ 1 ≤ n ∧ n < b'.T.length ∧ (nodeAt b'.T n).kind = 1 ∧ (nodeAt b'.T n).space = sp ∧ (nodeAt b'.T n).name = nm) := by
  unfold insertB at h
  simp only [] at h
  cases hg : growB (deepB b) { kind := 1, space := sp, name := nm, attrs := aa } with
  | mk b1 n1 =>
  rw [hg] at h
  cases n1 with
  | none => cases h
  | some n1 =>
    obtain ⟨h0, hl, rfl, rfl⟩ := grow_some hg
    have hd : deepB b = b := by
      unfold deepB at h0 ⊢
      split at h0
      · exact absurd h0 (show ¬ (5 : Int) = 0 by decide)
      · rw [if_neg (by assumption)]
    rw [hd] at h h0 hl
    obtain ⟨rfl, hn⟩ := Prod.mk.inj h
    obtain rfl : b.T.length = n := Option.some.inj hn
    refine ⟨h0, h0, rfl, rfl, rfl, rfl, fun i hne hf => ?_⟩
    have hm := cur_mem i.o
    obtain ⟨p1, p2⟩ := place_ok i hm
    have hlt := p1.lt
    have hpos := i.t.pos
    have hN : NodeOk { kind := 1, space := sp, name := nm, attrs := aa } := Or.inl ⟨rfl, hne, rfl⟩
    refine ⟨(i.t.push hN hl).put (p1.push _) (by rw [push_length]; omega) ?_, (NE.push _ _).trans (NE.put _ _ _ _), hpos, ?_, ?_⟩
    · rw [node_push, if_neg (by omega), node_push, if_pos rfl]
      refine ⟨p2, fun _ e2 => ?_⟩
      rcases hf with hf | ⟨hf, ha⟩
      · exact hf e2 _
      · rw [place_plain _ hf, (i.o.at i.t hm).2.2]
        exact ha e2
    · show _ < (putL _ _ _ _).length
      rw [put_len, push_length]
      omega
    · show (nodeAt (putL _ _ _ _) _).kind = 1 ∧ (nodeAt (putL _ _ _ _) _).space = sp ∧ (nodeAt (putL _ _ _ _) _).name = nm
      rw [put_node, node_push, if_pos rfl]
      exact ⟨rfl, rfl, rfl⟩
theorem sk_app (l : List OM) (o : OM) (h : tabO o = false) : sk (l ++ [o]) = sk l := by simp [sk, h]
theorem sk_tab (l : List OM) (o : OM) (h : tabO o = true) : sk (l ++ [o]) = sk l ++ [o] := by simp [sk, h]
theorem OI.app {T : TR} {l : List OM} (h : OI T l) {o : OM} (ht : Tie T o) (ha : ∀ a, l.getLast? = some a → AdjR a o) : OI T (l ++ [o]) := by
  have hp := h.pos
  refine ⟨?_, ?_, ?_⟩
  · rw [List.getElem?_append_left hp]; exact h.hd
  · intro i x hx
    rcases Nat.lt_or_ge (i + 1) l.length with q | q
    · rw [List.getElem?_append_left q] at hx
      exact h.tie i x hx
    · rw [List.getElem?_append_right q] at hx
      cases hk : i + 1 - l.length with
      | zero => rw [hk] at hx; obtain rfl : o = x := by simpa using hx
                exact ht
      | succ k => rw [hk] at hx; simp at hx
  · intro i a c h1 h2
    rcases Nat.lt_or_ge (i + 1) l.length with q | q
    · rw [List.getElem?_append_left q] at h2
      rw [List.getElem?_append_left (by omega)] at h1
      exact h.adj i a c h1 h2
    · rw [List.getElem?_append_right q] at h2
      cases hk : i + 1 - l.length with
      | zero =>
        rw [hk] at h2
        obtain rfl : o = c := by simpa using h2
        refine ha a ?_
        rw [List.getElem?_append_left (by omega)] at h1
        rw [List.getLast?_eq_getElem?, show l.length - 1 = i from by omega]
        exact h1
      | succ k => rw [hk] at h2; simp at h2
theorem cur_last {b : BS} {a : OM} (h : b.op.getLast? = some a) : curB b = a := by unfold curB; rw [h]; rfl
theorem insert_inv {b b' : BS} {sp : Int} {nm : Bs} {aa : As} {n : Nat} (h : insertB b sp nm aa = (b', some n)) (i : Inv b) (hn : nm ≠ []) (hv : sp = 0 → S6.isL 1 nm = false)
    (hf : (sp = 0 → FreeN nm) ∨ (b.fost = false ∧ AdjR (curB b) ⟨0, sp, nm⟩)) : Inv b' := by
  obtain ⟨_, _, e2, e3, _, _, k⟩ := insert_some h
  obtain ⟨k1, k2, k3, k4, k5, k6, k7⟩ := k i hn hf
  refine ⟨k1, ?_, ?_⟩
  · rw [e2]
    refine (i.o.ne k2).app ⟨k3, k4, k5, k6, k7, hv⟩ ?_
    intro a ha
    rcases hf with hf | ⟨_, hf⟩
    · exact FreeN.adj hf
    · rw [cur_last ha] at hf; exact hf
  · rw [e3]
    exact fun m hm => (i.m m hm).ne k2
theorem insert_e {b b' : BS} {sp : Int} {nm : Bs} {aa : As} {n : Option Nat} (h : insertB b sp nm aa = (b', n)) (he : b'.e = 0) : ∃ k, n = some k := by
  cases n with
  | none => exact absurd he (insert_none h)
  | some k => exact ⟨k, rfl⟩
theorem G.insert (b : BS) {sp : Int} {nm : Bs} (aa : As) (hn : nm ≠ []) (hv : sp = 0 → S6.isL 1 nm = false) (hf : sp = 0 → FreeN nm) (ht : sp = 0 → S6.amongL tabA nm = false) : G b (insertB b sp nm aa).1 := by
  cases hi : insertB b sp nm aa with
  | mk b' n =>
  intro he
  obtain ⟨n, rfl⟩ := insert_e hi he
  obtain ⟨e0, _, e2, e3, e4, e5, k⟩ := insert_some hi
  refine ⟨e0, fun i => ⟨insert_inv hi i hn hv (Or.inl hf), ?_, e4, e5, (k i hn (Or.inl hf)).2.1⟩⟩
  rw [e2, sk_app]
  unfold tabO
  by_cases hs : sp = 0
  · simp [ht hs]
  · simp [hs]
theorem G.single {b : BS} {sp : Int} {nm : Bs} {aa : As} (hn : nm ≠ []) (hf : Inv b → ((sp = 0 → FreeN nm) ∨ (b.fost = false ∧ AdjR (curB b) ⟨0, sp, nm⟩))) :
    G b (match insertB b sp nm aa with | (b', some _) => popB b' | (b', none) => b') := by
  cases hi : insertB b sp nm aa with
  | mk b' n =>
  cases n with
  | none => intro he; exact absurd he (insert_none hi)
  | some n =>
    obtain ⟨e0, e1, e2, e3, e4, e5, k⟩ := insert_some hi
    show G b (popB b')
    have hop : Inv b → popB b' = { b' with op := b.op } := by
      intro i
      have := i.o.pos
      unfold popB
      rw [if_pos (by rw [e2]; simp; omega), e2, List.dropLast_concat]
    intro he
    refine ⟨e0, fun i => ?_⟩
    obtain ⟨k1, k2, k3, k4, k5, k6, k7⟩ := k i hn (hf i)
    rw [hop i]
    exact ⟨⟨k1, i.o.ne k2, by show ∀ m ∈ b'.mr, MarkOk b'.T m; rw [e3]; exact fun m hm => (i.m m hm).ne k2⟩, rfl, e4, e5, k2⟩
theorem take_at (l : List OM) (k i : Nat) : (l.take k)[i]? = if i < k then l[i]? else none := by rw [List.getElem?_take]
theorem OI.take {T : TR} {l : List OM} (h : OI T l) {k : Nat} (hk : 1 ≤ k) : OI T (l.take k) := by
  refine ⟨?_, ?_, ?_⟩
  · rw [take_at, if_pos (by omega)]; exact h.hd
  · intro i o ho
    rw [take_at] at ho
    split at ho
    · exact h.tie i o ho
    · cases ho
  · intro i a c h1 h2
    rw [take_at] at h1 h2
    split at h1
    · split at h2
      · exact h.adj i a c h1 h2
      · cases h2
    · cases h1
def Safe (l : List OM) (k : Nat) : Prop := ∀ i o, k ≤ i → l[i]? = some o → tabO o = false
theorem sk_take (l : List OM) (k : Nat) (h : Safe l k) : sk (l.take k) = sk l := by
  have e : sk l = sk (l.take k) ++ sk (l.drop k) := by
    unfold sk
    rw [← List.filter_append, List.take_append_drop]
  have z : sk (l.drop k) = [] := by
    unfold sk
    rw [List.filter_eq_nil_iff]
    intro o ho
    obtain ⟨i, hi⟩ := List.mem_iff_getElem?.1 ho
    rw [List.getElem?_drop] at hi
    simp [h (k + i) o (by omega) hi]
  rw [e, z, List.append_nil]
theorem G.cut (b : BS) (k : Nat) (h : Inv b → 1 ≤ k ∧ Safe b.op k) : G b { b with op := b.op.take k } := by
  intro he
  refine ⟨he, fun i => ⟨⟨i.t, i.o.take (h i).1, i.m⟩, sk_take _ _ (h i).2, rfl, rfl, NE.refl _⟩⟩
theorem G.pop (b : BS) (h : Inv b → 1 < b.op.length → tabO (curB b) = false) : G b (popB b) := by
  unfold popB
  split
  · rename_i hl
    rw [List.dropLast_eq_take]
    refine G.cut b _ fun i => ⟨by omega, ?_⟩
    intro j o hj ho
    obtain ⟨hlt, _⟩ := List.getElem?_eq_some_iff.1 ho
    obtain rfl : j = b.op.length - 1 := by omega
    rw [← cur_last (b := b) (a := o) (by rw [List.getLast?_eq_getElem?]; exact ho)]
    exact h i hl
  · exact G.refl b
theorem erase_at (l : List OM) (k i : Nat) : (l.eraseIdx k)[i]? = if i < k then l[i]? else l[i + 1]? := by rw [List.getElem?_eraseIdx]
theorem OI.erase {T : TR} {l : List OM} (h : OI T l) {k : Nat} (hk : 1 ≤ k) (ht : ∀ o, l[k]? = some o → tabO o = false) : OI T (l.eraseIdx k) := by
  refine ⟨?_, ?_, ?_⟩
  · rw [erase_at, if_pos (by omega)]; exact h.hd
  · intro i o ho
    rw [erase_at] at ho
    split at ho
    · exact h.tie i o ho
    · exact h.tie (i + 1) o ho
  · intro i a c h1 h2
    rw [erase_at] at h1 h2
    split at h1
    · split at h2
      · exact h.adj i a c h1 h2
      · have : i + 1 = k := by omega
        have hlt := (List.getElem?_eq_some_iff.1 h2).1
        have hx : l[k]? = some l[k] := List.getElem?_eq_getElem (by omega)
        have h3 := h.adj k l[k] c hx (by rw [← this]; exact h2)
        exact fun e => adj_free h3 (ht _ hx) e _
    · rw [if_neg (by omega)] at h2
      exact h.adj (i + 1) a c h1 h2
theorem sk_erase (l : List OM) (k : Nat) (ht : ∀ o, l[k]? = some o → tabO o = false) : sk (l.eraseIdx k) = sk l := by
  rcases Nat.lt_or_ge k l.length with hk | hk
  · have e : l = l.take k ++ l[k] :: l.drop (k + 1) := by rw [List.getElem_cons_drop, List.take_append_drop]
    rw [List.eraseIdx_eq_take_drop_succ]
    conv => rhs; rw [e]
    unfold sk
    rw [List.filter_append, List.filter_append, List.filter_cons, ht _ (List.getElem?_eq_getElem hk)]
    rfl
  · rw [List.eraseIdx_of_length_le hk]
theorem G.shut (b : BS) (k : Nat) (h : Inv b → 1 ≤ k ∧ ∀ o, b.op[k]? = some o → tabO o = false) : G b (shutB b k) := by
  intro he
  refine ⟨he, fun i => ⟨⟨i.t, i.o.erase (h i).1 (h i).2, i.m⟩, sk_erase _ _ (h i).2, rfl, rfl, NE.refl _⟩⟩
theorem G.marks (b : BS) (l : List MM) (h : Inv b → ∀ m ∈ l, MarkOk b.T m) : G b { b with mr := l } := by
  intro he
  exact ⟨he, fun i => ⟨⟨i.t, i.o, h i⟩, rfl, rfl, rfl, NE.refl _⟩⟩
theorem G.dropMark (b : BS) (k : Nat) : G b (dropMark b k) := G.marks b _ fun i m hm => i.m m (List.mem_of_mem_eraseIdx hm)
theorem v_named (names : List Bs) (o : OM) : S6.namedL names o.v = isO o names := by simp [S6.namedL, S6.htmlL, isO, OM.v]
theorem any_v (p : S6.OV → Bool) (l : List OM) (i : Nat) : ((vs l)[i]?).any p = (l[i]?).any fun o => p o.v := by
  rw [vs_at]
  cases l[i]? <;> rfl
theorem tab_free {n : Bs} (h : S6.amongL tabA n = true) (hf : FreeN n) : n = [116, 97, 98, 108, 101] := by
  unfold S6.amongL tabA at h
  simp at h
  have := hf []
  rcases h with rfl | rfl | rfl | rfl | rfl | rfl | rfl | rfl | rfl
  · exact absurd this (by decide)
  · exact absurd this (by decide)
  · exact absurd this (by decide)
  · exact absurd this (by decide)
  · exact absurd this (by decide)
  · exact absurd this (by decide)
  · exact absurd this (by decide)
  · exact absurd this (by decide)
  · rfl
theorem ends_table (o : OM) (sc : Int) (hs : o.sp = 0) (hn : o.nm = [116, 97, 98, 108, 101]) : S6.endsL o.v sc = true := by
  unfold S6.endsL S6.htmlL OM.v
  rw [hs, hn]
  simp only [beq_self_eq_true, if_true]
  unfold S6.endsNameL
  split
  · decide
  · split
    · decide
    · split
      · decide
      · decide
theorem safe_scope {T : TR} {l : List OM} (h : OI T l) {j : Nat} {sc : Int} (hj : ∀ o, l[j]? = some o → tabO o = false) (he : ∀ i o, j < i → l[i]? = some o → S6.endsL o.v sc = false) : Safe l j := by
  have key : ∀ d o, l[j + d]? = some o → tabO o = false := by
    intro d
    induction d with
    | zero => exact hj
    | succ d ih =>
      intro o ho
      have hlt := (List.getElem?_eq_some_iff.1 ho).1
      have hx : l[j + d]? = some (l[j + d]'(by omega)) := List.getElem?_eq_getElem (by omega)
      have ha := h.adj (j + d) _ o hx ho
      cases ht : tabO o with
      | false => rfl
      | true =>
        unfold tabO at ht
        simp at ht
        have hf := adj_free ha (ih _ hx) ht.1
        have h1 := ends_table o sc ht.1 (tab_free ht.2 hf)
        rw [he (j + (d + 1)) o (by omega) ho] at h1
        cases h1
  intro i o hi ho
  obtain ⟨d, rfl⟩ := Nat.exists_eq_add_of_le hi
  exact key d o ho
theorem has_some (names : List Bs) (sc : Int) (l : List S6.OV) : ∀ k, S6.hasO names sc l k = true → ∃ j, S6.lastO (S6.namedL names) l k = some j ∧ ∀ i, j < i → i < k → (l[i]?).any (fun o => S6.endsL o sc) = false
  | 0, h => by cases h
  | k + 1, h => by
    rw [S6.hasO] at h
    rw [S6.lastO]
    by_cases c : (l[k]?).any (S6.namedL names) = true
    · rw [if_pos c]
      exact ⟨k, rfl, fun i h1 h2 => by omega⟩
    · rw [if_neg c]
      rw [Bool.eq_false_iff.2 c, Bool.false_or] at h
      simp only [Bool.and_eq_true] at h
      obtain ⟨j, h1, h2⟩ := has_some names sc l k h.2
      refine ⟨j, h1, fun i a1 a2 => ?_⟩
      rcases Nat.lt_or_ge i k with q | q
      · exact h2 i a1 q
      · rw [show i = k from by omega]
        have := h.1
        simpa using this
def NoTab (names : List Bs) : Prop := ∀ n, S6.amongL names n = true → S6.amongL tabA n = false
theorem NoTab.o {names : List Bs} (h : NoTab names) {o : OM} (ho : isO o names = true) : tabO o = false := by
  unfold isO at ho
  simp at ho
  unfold tabO
  rw [h _ ho.2]
  simp
theorem safe_has {b : BS} (i : Inv b) {names : List Bs} {sc : Int} (hn : NoTab names) (h : hasB b names sc = true) : ∃ j, S6.lastO (S6.namedL names) (vs b.op) b.op.length = some j ∧ Safe b.op j := by
  unfold hasB S6.hasZ at h
  rw [vs_len] at h
  obtain ⟨j, h1, h2⟩ := has_some _ _ _ _ h
  obtain ⟨k1, k2, _⟩ := last_some _ _ _ _ h1
  refine ⟨j, h1, safe_scope (sc := sc) i.o ?_ ?_⟩
  · intro o ho
    rw [any_v, ho] at k2
    refine hn.o ?_
    rw [← v_named]
    exact k2
  · intro m o hm ho
    have := h2 m hm (List.getElem?_eq_some_iff.1 ho).1
    rw [any_v, ho] at this
    exact this
theorem upTo_cut (b : BS) (names : List Bs) (h : Inv b → ∀ j, S6.lastO (S6.namedL names) (vs b.op) b.op.length = some j → Safe b.op j) : G b (upToB b names) := by
  unfold upToB
  split
  · rename_i k e
    exact G.cut b _ fun i => ⟨by omega, h i _ e⟩
  · exact G.refl b
theorem left_spec (ex : ByteArray) (l : List S6.OV) : ∀ k, S6.leftO ex l k ≤ k ∧ ∀ i, S6.leftO ex l k ≤ i → i < k → (l[i]?).any (S6.goesL ex) = true
  | 0 => ⟨Nat.le_refl _, fun i h1 h2 => by omega⟩
  | k + 1 => by
    rw [S6.leftO]
    split
    · rename_i c
      obtain ⟨h1, h2⟩ := left_spec ex l k
      refine ⟨by omega, fun i a1 a2 => ?_⟩
      rcases Nat.lt_or_ge i k with q | q
      · exact h2 i a1 q
      · rw [show i = k from by omega]; exact c
    · exact ⟨Nat.le_refl _, fun i h1 h2 => by omega⟩
theorem implied_tab (n : Bs) (h : S6.isL 8 n = true) : S6.amongL tabA n = false := by
  have h : S6.amongL S6.impliedN n = true := by simpa [S6.isL, S6.listsN, S6.listsOf] using h
  unfold S6.amongL S6.impliedN at h
  simp at h
  rcases h with rfl | rfl | rfl | rfl | rfl | rfl | rfl | rfl | rfl | rfl <;> decide
theorem left_safe (b : BS) (ex : Bs) (hp : 1 ≤ b.op.length) (h0 : b.op[0]? = some rootO) : 1 ≤ S6.leftO ⟨ex.toArray⟩ (vs b.op) b.op.length ∧ Safe b.op (S6.leftO ⟨ex.toArray⟩ (vs b.op) b.op.length) := by
  obtain ⟨h1, h2⟩ := left_spec ⟨ex.toArray⟩ (vs b.op) b.op.length
  constructor
  · rcases Nat.eq_zero_or_pos (S6.leftO ⟨ex.toArray⟩ (vs b.op) b.op.length) with q | q
    · have := h2 0 (by omega) hp
      rw [any_v, h0] at this
      exact absurd this (by simp [S6.goesL, OM.v, rootO, S6.isL, S6.listsN, S6.listsOf, S6.amongL, S6.impliedN])
    · exact q
  · intro i o hi ho
    have := h2 i hi (List.getElem?_eq_some_iff.1 ho).1
    rw [any_v, ho] at this
    have this : S6.goesL ⟨ex.toArray⟩ o.v = true := this
    unfold S6.goesL at this
    simp only [Bool.and_eq_true] at this
    unfold tabO
    rw [implied_tab o.nm (by simpa [OM.v] using this.1.2)]
    simp
theorem G.implied (b : BS) (ex : Bs) : G b (impliedB b ex) := G.cut b _ fun i => left_safe b ex i.o.pos i.o.hd
theorem left_last (b : BS) (ex : Bs) (names : List Bs) {j : Nat} (hn : ∀ n, S6.amongL names n = true → S6.isL 8 n = false ∨ n = ex) (h : S6.lastO (S6.namedL names) (vs b.op) b.op.length = some j) : j < S6.leftO ⟨ex.toArray⟩ (vs b.op) b.op.length := by
  obtain ⟨k1, k2, _⟩ := last_some _ _ _ _ h
  rcases Nat.lt_or_ge j (S6.leftO ⟨ex.toArray⟩ (vs b.op) b.op.length) with q | q
  · exact q
  · have h2 := (left_spec ⟨ex.toArray⟩ (vs b.op) b.op.length).2 j q k1
    rw [any_v] at k2 h2
    have ho : b.op[j]? = some b.op[j] := List.getElem?_eq_getElem k1
    rw [ho] at k2 h2
    have k2 : S6.namedL names b.op[j].v = true := k2
    have h2 : S6.goesL ⟨ex.toArray⟩ b.op[j].v = true := h2
    rw [v_named] at k2
    unfold isO at k2
    unfold S6.goesL at h2
    simp [OM.v] at k2 h2
    rcases hn _ k2.2 with c | c
    · rw [h2.1.2] at c; cases c
    · exact absurd c h2.2
theorem last_take (p : S6.OV → Bool) (l : List OM) {m : Nat} (hm : m ≤ l.length) {j j' : Nat} (h : S6.lastO p (vs l) l.length = some j) (hj : j < m) (h' : S6.lastO p (vs (l.take m)) (l.take m).length = some j') : j' = j := by
  obtain ⟨a1, a2, a3⟩ := last_some _ _ _ _ h
  obtain ⟨b1, b2, b3⟩ := last_some _ _ _ _ h'
  have hl : (l.take m).length = m := by simp; omega
  rw [hl] at b1 b3
  have e : ∀ i, i < m → ((vs (l.take m))[i]?).any p = ((vs l)[i]?).any p := by
    intro i hi
    rw [any_v, any_v, take_at, if_pos hi]
  rw [e j' b1] at b2
  rcases Nat.lt_trichotomy j' j with q | q | q
  · have := b3 j q hj
    rw [e j hj, a2] at this
    cases this
  · exact q
  · rw [a3 j' q (by omega)] at b2
    cases b2
theorem G.ends (b : BS) {names : List Bs} {ex : Bs} {sc : Int} (h : hasB b names sc = true) (hn : NoTab names) (hx : ∀ n, S6.amongL names n = true → S6.isL 8 n = false ∨ n = ex) : G b (upToB (impliedB b ex) names) := by
  have e : (upToB (impliedB b ex) names).e = b.e := by unfold upToB; split <;> rfl
  intro he
  have h0 : b.e = 0 := by rw [← e]; exact he
  refine ⟨h0, fun i => ?_⟩
  obtain ⟨i1, s1, r1, f1⟩ := (G.implied b ex h0).2 i
  have g := upTo_cut (impliedB b ex) names fun i' j' hj' => by
    obtain ⟨j, hj, hs⟩ := safe_has i hn h
    have hlt := left_last b ex names hx hj
    obtain rfl : j' = j := last_take _ b.op (left_spec _ _ _).1 hj hlt hj'
    intro k o hk ho
    have ho : (b.op.take (S6.leftO ⟨ex.toArray⟩ (vs b.op) b.op.length))[k]? = some o := ho
    rw [take_at] at ho
    split at ho
    · exact hs k o hk ho
    · cases ho
  obtain ⟨i2, s2, r2, f2⟩ := (g he).2 i1
  exact ⟨i2, s2.trans s1, r2.trans r1, f2.trans f1⟩
end Go.Proofs.YteccmjngdibeoaaGreatDoor
set_option linter.unusedVariables false
set_option linter.unusedSimpArgs false
namespace Go.Proofs.YteccmjngdibeoaaGreatDoor
open S5 (ND TR kidsAt nodeAt parentN appendL beforeL moveL addL withinL newL setK outL)
open S4 (Tok nextR)
abbrev FL := List (Nat × ND)
def depF (F : FL) (i : Nat) : Nat := ((F[i]?).map (·.1)).getD 0
def ndF (F : FL) (i : Nat) : ND := ((F[i]?).map (·.2)).getD {}
def kidF (F : FL) (i j : Nat) : Bool := decide (i < j) && ((depF F j == depF F i + 1) && (List.range j).all fun k => decide (k ≤ i) || decide (depF F i < depF F k))
def kidsF (F : FL) (i : Nat) : List Nat := (List.range F.length).filter (kidF F i)
def layF (F : FL) : TR := (List.range F.length).map fun i => (ndF F i, kidsF F i)
theorem kidF_iff (F : FL) (i j : Nat) : kidF F i j = true ↔ i < j ∧ depF F j = depF F i + 1 ∧ ∀ k, i < k → k < j → depF F i < depF F k := by
  unfold kidF
  simp only [Bool.and_eq_true, decide_eq_true_eq, beq_iff_eq, List.all_eq_true, List.mem_range, Bool.or_eq_true]
  constructor
  · rintro ⟨h1, h2, h3⟩
    refine ⟨h1, h2, fun k hk1 hk2 => ?_⟩
    rcases h3 k hk2 with h | h
    · omega
    · exact h
  · rintro ⟨h1, h2, h3⟩
    refine ⟨h1, h2, fun k hk => ?_⟩
    by_cases h : k ≤ i
    · exact .inl h
    · exact .inr (h3 k (by omega) hk)
theorem lay_len (F : FL) : (layF F).length = F.length := by simp [layF]
theorem lay_get (F : FL) (i : Nat) (h : i < F.length) : (layF F)[i]? = some (ndF F i, kidsF F i) := by
  unfold layF
  rw [List.getElem?_map, List.getElem?_range h]
  rfl
theorem kidsF_lt {F : FL} {i j : Nat} (h : j ∈ kidsF F i) : i < j ∧ j < F.length := by
  unfold kidsF at h
  rw [List.mem_filter, List.mem_range] at h
  exact ⟨((kidF_iff F i j).1 h.2).1, h.1⟩
theorem kidsF_out {F : FL} {i : Nat} (h : F.length ≤ i) : kidsF F i = [] := by
  cases hk : kidsF F i with
  | nil => rfl
  | cons x r =>
    have := kidsF_lt (F := F) (i := i) (j := x) (by rw [hk]; simp)
    omega
theorem kids_lay (F : FL) (i : Nat) : kidsAt (layF F) i = kidsF F i := by
  by_cases h : i < F.length
  · unfold kidsAt
    rw [lay_get F i h]
    rfl
  · rw [kidsF_out (by omega)]
    exact S5.kidsAt_out (by rw [lay_len]; omega)
theorem node_lay (F : FL) (i : Nat) : nodeAt (layF F) i = ndF F i := by
  unfold nodeAt
  by_cases h : i < F.length
  · rw [lay_get F i h]
    rfl
  · rw [List.getElem?_eq_none (by rw [lay_len]; omega)]
    unfold ndF
    rw [List.getElem?_eq_none (by omega)]
    rfl
def RightF (F : FL) (c : Nat) : Prop := c < F.length ∧ ∀ j, c < j → j < F.length → depF F c < depF F j
theorem dep_app (F : FL) (x : Nat × ND) (i : Nat) (h : i < F.length) : depF (F ++ [x]) i = depF F i := by unfold depF; rw [List.getElem?_append_left h]
theorem dep_new (F : FL) (x : Nat × ND) : depF (F ++ [x]) F.length = x.1 := by unfold depF; simp
theorem nd_app (F : FL) (x : Nat × ND) (i : Nat) (h : i < F.length) : ndF (F ++ [x]) i = ndF F i := by unfold ndF; rw [List.getElem?_append_left h]
theorem nd_new (F : FL) (x : Nat × ND) : ndF (F ++ [x]) F.length = x.2 := by unfold ndF; simp
theorem kidF_app (F : FL) (x : Nat × ND) (i j : Nat) (h : j < F.length) : kidF (F ++ [x]) i j = kidF F i j := by
  have e : (kidF (F ++ [x]) i j = true) ↔ (kidF F i j = true) := by
    rw [kidF_iff, kidF_iff]
    constructor
    · rintro ⟨h1, h2, h3⟩
      rw [dep_app F x j h, dep_app F x i (by omega)] at h2
      refine ⟨h1, h2, fun k hk1 hk2 => ?_⟩
      have := h3 k hk1 hk2
      rwa [dep_app F x i (by omega), dep_app F x k (by omega)] at this
    · rintro ⟨h1, h2, h3⟩
      refine ⟨h1, by rw [dep_app F x j h, dep_app F x i (by omega)]; exact h2, fun k hk1 hk2 => ?_⟩
      rw [dep_app F x i (by omega), dep_app F x k (by omega)]
      exact h3 k hk1 hk2
  exact Bool.eq_iff_iff.2 e
theorem kids_app (F : FL) (x : Nat × ND) (i : Nat) : kidsF (F ++ [x]) i = kidsF F i ++ (if kidF (F ++ [x]) i F.length = true then [F.length] else []) := by
  unfold kidsF
  rw [List.length_append, List.length_singleton, List.range_succ, List.filter_append]
  congr 1
  · exact List.filter_congr fun j hj => kidF_app F x i j (List.mem_range.1 hj)
  · rw [List.filter_cons]
    split <;> simp_all
theorem kid_new (F : FL) (c : Nat) (d : ND) (h : RightF F c) (i : Nat) : kidF (F ++ [(depF F c + 1, d)]) i F.length = decide (i = c) := by
  have e : (kidF (F ++ [(depF F c + 1, d)]) i F.length = true) ↔ i = c := by
    rw [kidF_iff, dep_new]
    constructor
    · rintro ⟨h1, h2, h3⟩
      rw [dep_app F _ i h1] at h2
      simp only [Nat.add_right_cancel_iff] at h2
      rcases Nat.lt_trichotomy i c with hc | hc | hc
      · have := h3 c hc h.1
        rw [dep_app F _ i h1, dep_app F _ c h.1] at this
        omega
      · exact hc
      · have := h.2 i hc h1
        omega
    · rintro rfl
      refine ⟨h.1, by rw [dep_app F _ i h.1], fun k hk1 hk2 => ?_⟩
      rw [dep_app F _ i h.1, dep_app F _ k hk2]
      exact h.2 k hk1 hk2
  by_cases hi : i = c
  · rw [decide_eq_true hi]; exact e.2 hi
  · rw [decide_eq_false hi]; exact Bool.eq_false_iff.2 fun h => hi (e.1 h)
theorem parent_none (F : FL) (d : ND) : parentN (S5.pushL (layF F) d) F.length = none := by
  unfold parentN
  rw [List.findIdx?_eq_none_iff]
  intro it hit
  unfold S5.pushL at hit
  rcases List.mem_append.1 hit with h | h
  · unfold layF at h
    obtain ⟨i, hi, rfl⟩ := List.mem_map.1 h
    rw [Bool.eq_false_iff]
    intro hc
    have := kidsF_lt (List.contains_iff_mem.1 hc)
    omega
  · obtain rfl := List.mem_singleton.1 h
    rfl
theorem within_none (F : FL) (d : ND) : ∀ (k n : Nat), n < F.length → S5.withinK k (S5.pushL (layF F) d) n F.length = false := by
  intro k
  induction k with
  | zero => intro n _; rfl
  | succ k ih =>
    intro n hn
    rw [S5.withinK, if_neg (by omega)]
    cases hp : parentN (S5.pushL (layF F) d) n with
    | none => rfl
    | some p =>
      have hlt : p < F.length := by
        unfold parentN at hp
        obtain ⟨h1, h2, -⟩ := List.findIdx?_eq_some_iff_getElem.1 hp
        unfold S5.pushL at h1 h2
        rw [List.length_append, lay_len, List.length_singleton] at h1
        rcases Nat.lt_or_ge p F.length with h | h
        · exact h
        · obtain rfl : p = F.length := by omega
          rw [List.getElem_append_right (by rw [lay_len]; exact Nat.le_refl _)] at h2
          simp at h2
      exact ih p hlt
theorem set_out {T : TR} {n : Nat} (h : parentN T n = none) : outL T n = T := by unfold outL; rw [h]
theorem put_lay (F : FL) (c : Nat) (d : ND) (h : RightF F c) : putL (S5.pushL (layF F) d) c none F.length = layF (F ++ [(depF F c + 1, d)]) := by
  have h0 : F.length ≠ 0 := by have := h.1; omega
  unfold putL
  rw [if_neg (by
    rintro (h1 | h1)
    · exact h0 h1
    · have := within_none F d ((S5.pushL (layF F) d).length + 1) c h.1
      unfold withinL at h1
      simp only [Option.getD_none] at h1
      rw [this] at h1
      exact Bool.false_ne_true h1)]
  show appendL _ c F.length = _
  unfold appendL
  rw [set_out (parent_none F d)]
  apply List.ext_getElem?
  intro i
  unfold setK
  have hlen : (S5.pushL (layF F) d).length = F.length + 1 := by simp [S5.pushL, lay_len]
  have hk : kidsAt (S5.pushL (layF F) d) c = kidsF F c := by rw [S5.kids_push, kids_lay]
  have hnd : nodeAt (S5.pushL (layF F) d) c = ndF F c := by
    unfold nodeAt S5.pushL
    rw [List.getElem?_append_left (by rw [lay_len]; exact h.1), lay_get F c h.1]
    rfl
  rw [hk, hnd]
  rcases Nat.lt_trichotomy i F.length with hi | hi | hi
  · rw [lay_get _ i (by simp; omega), nd_app F _ i hi, kids_app, kid_new F c d h i]
    by_cases hc : i = c
    · subst hc
      rw [List.getElem?_set_self (by omega)]
      simp
    · rw [List.getElem?_set_ne (fun e => hc e.symm)]
      unfold S5.pushL
      rw [List.getElem?_append_left (by rw [lay_len]; exact hi), lay_get F i hi]
      simp [hc]
  · subst hi
    rw [lay_get _ F.length (by simp), nd_new, kids_app, kid_new F c d h, kidsF_out (Nat.le_refl _), List.getElem?_set_ne (by have := h.1; omega)]
    unfold S5.pushL
    rw [List.getElem?_append_right (by rw [lay_len]; exact Nat.le_refl _), lay_len, Nat.sub_self]
    have : ¬ F.length = c := by have := h.1; omega
    simp [this]
  · rw [List.getElem?_eq_none (by rw [List.length_set, hlen]; omega), List.getElem?_eq_none (by rw [lay_len]; simp; omega)]
end Go.Proofs.YteccmjngdibeoaaGreatDoor
set_option linter.unusedVariables false
set_option linter.unusedSimpArgs false
namespace Go.Proofs.YteccmjngdibeoaaGreatDoor
open S5 (ND TR kidsAt nodeAt parentN appendL beforeL moveL addL withinL newL setK outL)
open S4 (Tok nextR)
def divN : Bs := [100, 105, 118]
def spanN : Bs := [115, 112, 97, 110]
def opsF (ps : List (Nat × Bs)) : List OM := rootO :: ps.map fun p => ⟨p.1, 0, p.2⟩
def stB (F : FL) (ps : List (Nat × Bs)) : BS := { T := layF F, op := opsF ps }
structure OkF (F : FL) (ps : List (Nat × Bs)) : Prop where
  root : RightF F 0 ∧ depF F 0 = 0 ∧ (ndF F 0).kind ≠ 2
  path : ∀ i (h : i < ps.length), RightF F ps[i].1 ∧ depF F ps[i].1 = i + 1 ∧ (ndF F ps[i].1).kind ≠ 2
  nm : ∀ p ∈ ps, p.2 = divN ∨ p.2 = spanN
  txt : ∀ i, i + 1 < F.length → (ndF F i).kind = 2 → depF F (i + 1) ≤ depF F i
def curN (ps : List (Nat × Bs)) : Nat := ((ps.getLast?).map (·.1)).getD 0
theorem cur_id (F : FL) (ps : List (Nat × Bs)) : (curB (stB F ps)).id = curN ps ∧ (curB (stB F ps)).sp = 0 := by
  unfold curB stB opsF curN
  cases h : ps.getLast? with
  | none =>
    obtain rfl := List.getLast?_eq_none_iff.1 h
    exact ⟨rfl, rfl⟩
  | some p =>
    simp only []
    rw [List.getLast?_cons, List.getLast?_map, h]
    exact ⟨rfl, rfl⟩
theorem OkF.cur {F : FL} {ps : List (Nat × Bs)} (h : OkF F ps) : RightF F (curN ps) ∧ depF F (curN ps) = ps.length ∧ (ndF F (curN ps)).kind ≠ 2 := by
  unfold curN
  cases hl : ps.getLast? with
  | none =>
    obtain rfl := List.getLast?_eq_none_iff.1 hl
    exact h.root
  | some p =>
    rw [List.getLast?_eq_getElem?] at hl
    obtain ⟨h1, h2⟩ := List.getElem?_eq_some_iff.1 hl
    have := h.path _ h1
    rw [h2] at this
    simp only [Option.map_some, Option.getD_some]
    exact ⟨this.1, by rw [this.2.1]; omega, this.2.2⟩
theorem OkF.pos {F : FL} {ps : List (Nat × Bs)} (h : OkF F ps) : 0 < F.length := by have := h.root.1.1; omega
theorem OkF.more {F : FL} {ps : List (Nat × Bs)} (h : OkF F ps) (d : ND) : OkF (F ++ [(ps.length + 1, d)]) ps := by
  have hr : ∀ c, RightF F c → depF F c ≤ ps.length → RightF (F ++ [(ps.length + 1, d)]) c := fun c hc hd => by
    refine ⟨by have := hc.1; simp; omega, fun j hj hl => ?_⟩
    rw [dep_app F _ c hc.1]
    rcases Nat.lt_or_ge j F.length with h1 | h1
    · rw [dep_app F _ j h1]
      exact hc.2 j hj h1
    · obtain rfl : j = F.length := by simp at hl; omega
      rw [dep_new]
      simp only []
      omega
  refine ⟨⟨hr 0 h.root.1 (by rw [h.root.2.1]; omega), ?_, ?_⟩, fun i hi => ?_, h.nm, fun i hi hk => ?_⟩
  · rw [dep_app F _ 0 h.pos]; exact h.root.2.1
  · rw [nd_app F _ 0 h.pos]; exact h.root.2.2
  · obtain ⟨h1, h2, h3⟩ := h.path i hi
    exact ⟨hr _ h1 (by omega), by rw [dep_app F _ _ h1.1]; exact h2, by rw [nd_app F _ _ h1.1]; exact h3⟩
  · rw [List.length_append, List.length_singleton] at hi
    have hi2 : i < F.length := by omega
    rw [nd_app F _ i hi2] at hk
    rw [dep_app F _ i hi2]
    rcases Nat.lt_or_ge (i + 1) F.length with h1 | h1
    · rw [dep_app F _ _ h1]
      exact h.txt i h1 hk
    · have e : i + 1 = F.length := by omega
      rw [e, dep_new]
      simp only []
      obtain ⟨c1, c2, c3⟩ := h.cur
      rcases Nat.lt_or_ge (curN ps) i with hc | hc
      · have := c1.2 i hc hi2
        omega
      · have : curN ps = i := by have := c1.1; omega
        rw [this] at c3
        exact absurd hk c3
theorem OkF.push {F : FL} {ps : List (Nat × Bs)} (h : OkF F ps) (nm : Bs) (hn : nm = divN ∨ nm = spanN) : OkF (F ++ [(ps.length + 1, { kind := 1, name := nm })]) (ps ++ [(F.length, nm)]) := by
  have hm := h.more { kind := 1, name := nm }
  refine ⟨hm.root, fun i hi => ?_, fun p hp => ?_, hm.txt⟩
  · rw [List.length_append, List.length_singleton] at hi
    rcases Nat.lt_or_ge i ps.length with h1 | h1
    · simp only [List.getElem_append_left h1]
      exact hm.path i h1
    · obtain rfl : i = ps.length := by omega
      simp only [List.getElem_append_right (Nat.le_refl _), Nat.sub_self, List.getElem_cons_zero]
      refine ⟨⟨by simp, fun j hj hl => ?_⟩, by rw [dep_new], ?_⟩
      · simp at hl
        omega
      · rw [nd_new]
        simp
  · rcases List.mem_append.1 hp with hp | hp
    · exact h.nm p hp
    · obtain rfl := List.mem_singleton.1 hp
      exact hn
theorem OkF.pop {F : FL} {ps : List (Nat × Bs)} {p : Nat × Bs} (h : OkF F (ps ++ [p])) : OkF F ps := by
  refine ⟨h.root, fun i hi => ?_, fun q hq => h.nm q (by simp [hq]), h.txt⟩
  have := h.path i (by simp; omega)
  simp only [List.getElem_append_left hi] at this
  exact this
theorem lay_set (F : FL) (i : Nat) (hi : i < F.length) (d : ND) : layF (F.set i (depF F i, d)) = (layF F).set i (d, kidsF F i) := by
  have hd : ∀ j, depF (F.set i (depF F i, d)) j = depF F j := fun j => by
    by_cases h : i = j
    · subst h
      unfold depF
      rw [List.getElem?_set_self hi]
      rfl
    · unfold depF
      rw [List.getElem?_set_ne h]
  have hkf : ∀ a b, kidF (F.set i (depF F i, d)) a b = kidF F a b := fun a b => by
    unfold kidF
    simp only [hd]
  have hk : ∀ j, kidsF (F.set i (depF F i, d)) j = kidsF F j := fun j => by
    unfold kidsF
    rw [List.length_set]
    exact List.filter_congr fun x _ => hkf j x
  apply List.ext_getElem?
  intro j
  rcases Nat.lt_or_ge j F.length with h | h
  · rw [lay_get _ j (by rw [List.length_set]; exact h), hk]
    by_cases he : i = j
    · subst he
      rw [List.getElem?_set_self (by rw [lay_len]; exact hi)]
      unfold ndF
      rw [List.getElem?_set_self hi]
      rfl
    · rw [List.getElem?_set_ne he, lay_get F j h]
      unfold ndF
      rw [List.getElem?_set_ne he]
  · rw [List.getElem?_eq_none (by rw [lay_len, List.length_set]; exact h), List.getElem?_eq_none (by rw [List.length_set, lay_len]; exact h)]
def txtF (F : FL) (D : Nat) (s : Bs) : FL :=
  if (ndF F (F.length - 1)).kind = 2 ∧ depF F (F.length - 1) = D then F.set (F.length - 1) (D, { ndF F (F.length - 1) with text := (ndF F (F.length - 1)).text ++ s }) else F ++ [(D, { kind := 2, text := s })]
theorem take_all (p : Nat → Bool) (hp : ∀ x, p x = true) : ∀ l : List Nat, l.takeWhile p = l
  | [] => rfl
  | x :: r => by rw [List.takeWhile_cons, if_pos (hp x), take_all p hp r]
theorem ahead_none (l : List Nat) : aheadK l none = l.getLast? := by
  unfold aheadK
  rw [take_all _ (fun x => by rfl)]
theorem text_step {F : FL} {ps : List (Nat × Bs)} (h : OkF F ps) (hl : F.length < 2000) (s : Bs) : textB (stB F ps) s = stB (txtF F (ps.length + 1) s) ps ∧ OkF (txtF F (ps.length + 1) s) ps := by
  obtain ⟨c1, c2, c3⟩ := h.cur
  have hp : placeB (stB F ps) (curB (stB F ps)) = (curN ps, none) := by
    unfold placeB
    rw [if_pos (by rfl), (cur_id F ps).1]
  have hpos := h.pos
  have hgrow : ∀ d, growB (stB F ps) d = ({ stB F ps with T := S5.pushL (layF F) d }, some F.length) := fun d => by
    unfold growB
    rw [if_neg (by simp [stB]), if_neg (by simp [stB, lay_len]; omega)]
    simp [stB, lay_len]
  have hput : ∀ d, putB (growB (stB F ps) d).1 (curN ps) none (growB (stB F ps) d).2 = stB (F ++ [(ps.length + 1, d)]) ps := fun d => by
    rw [hgrow d]
    show ({ stB F ps with T := putL (S5.pushL (layF F) d) (curN ps) none F.length } : BS) = _
    rw [put_lay F (curN ps) d c1, c2]
    rfl
  unfold textB
  simp only [hp, ahead_none]
  have hk : kidsAt (stB F ps).T (curN ps) = kidsF F (curN ps) := kids_lay F (curN ps)
  rw [hk]
  by_cases ht : (ndF F (F.length - 1)).kind = 2 ∧ depF F (F.length - 1) = ps.length + 1
  · have hlast : (kidsF F (curN ps)).getLast? = some (F.length - 1) := by
      have hkid : kidF F (curN ps) (F.length - 1) = true := by
        rw [kidF_iff]
        have hne : curN ps ≠ F.length - 1 := fun e => c3 (by rw [e]; exact ht.1)
        refine ⟨by have := c1.1; omega, by rw [ht.2, c2], fun k hk1 hk2 => c1.2 k hk1 (by omega)⟩
      unfold kidsF
      obtain ⟨n, hn⟩ : ∃ n, F.length = n + 1 := ⟨F.length - 1, by omega⟩
      rw [hn, Nat.add_sub_cancel] at hkid ⊢
      rw [List.range_succ, List.filter_append, List.filter_cons, if_pos hkid]
      simp
    rw [hlast]
    simp only []
    have hnd : (nodeAt (stB F ps).T (F.length - 1)) = ndF F (F.length - 1) := node_lay F _
    rw [hnd, if_pos ht.1]
    unfold txtF
    rw [if_pos ht]
    constructor
    · show ({ stB F ps with T := addL (layF F) (F.length - 1) s } : BS) = _
      unfold addL
      rw [node_lay, kids_lay, ← lay_set F (F.length - 1) (by omega), ht.2]
      rfl
    · have hd : ∀ j, depF (F.set (F.length - 1) (ps.length + 1, { ndF F (F.length - 1) with text := (ndF F (F.length - 1)).text ++ s })) j = depF F j := fun j => by
        by_cases he : F.length - 1 = j
        · subst he
          rw [ht.2]
          unfold depF
          rw [List.getElem?_set_self (by omega)]
          rfl
        · unfold depF
          rw [List.getElem?_set_ne he]
      have hkd : ∀ j, (ndF (F.set (F.length - 1) (ps.length + 1, { ndF F (F.length - 1) with text := (ndF F (F.length - 1)).text ++ s })) j).kind = (ndF F j).kind := fun j => by
        by_cases he : F.length - 1 = j
        · subst he
          conv => lhs; unfold ndF
          rw [List.getElem?_set_self (by omega)]
          rfl
        · unfold ndF
          rw [List.getElem?_set_ne he]
      have hr : ∀ c, RightF F c → RightF (F.set (F.length - 1) (ps.length + 1, { ndF F (F.length - 1) with text := (ndF F (F.length - 1)).text ++ s })) c := fun c hc => ⟨by rw [List.length_set]; exact hc.1, fun j hj hl => by rw [hd, hd]; exact hc.2 j hj (by rw [List.length_set] at hl; exact hl)⟩
      refine ⟨⟨hr _ h.root.1, by rw [hd]; exact h.root.2.1, by rw [hkd]; exact h.root.2.2⟩, fun i hi => ?_, h.nm, fun i hi hk => ?_⟩
      · obtain ⟨h1, h2, h3⟩ := h.path i hi
        exact ⟨hr _ h1, by rw [hd]; exact h2, by rw [hkd]; exact h3⟩
      · rw [List.length_set] at hi
        rw [hkd] at hk
        rw [hd, hd]
        exact h.txt i hi hk
  · have hno : ∀ a, (kidsF F (curN ps)).getLast? = some a → ¬ (nodeAt (stB F ps).T a).kind = 2 := fun a ha hk2 => by
      have hnd : (nodeAt (stB F ps).T a) = ndF F a := node_lay F _
      rw [hnd] at hk2
      have hmem : a ∈ kidsF F (curN ps) := List.mem_of_getLast? ha
      obtain ⟨h1, h2⟩ := kidsF_lt hmem
      have hka : kidF F (curN ps) a = true := by
        unfold kidsF at hmem
        exact (List.mem_filter.1 hmem).2
      obtain ⟨-, k2, k3⟩ := (kidF_iff F _ _).1 hka
      rcases Nat.lt_or_ge (a + 1) F.length with h3 | h3
      · have h4 := h.txt a h3 hk2
        have h5 := c1.2 (a + 1) (by omega) h3
        have hkid : kidF F (curN ps) (a + 1) = true := by
          rw [kidF_iff]
          refine ⟨by omega, by omega, fun k hk1 hk2 => c1.2 k hk1 (by omega)⟩
        have hgt : a + 1 ≤ a := by
          obtain ⟨ys, hys⟩ := List.getLast?_eq_some_iff.1 ha
          have hsort : (kidsF F (curN ps)).Pairwise (· < ·) := by
            unfold kidsF
            exact List.Pairwise.filter _ List.pairwise_lt_range
          have hm1 : a + 1 ∈ kidsF F (curN ps) := by
            unfold kidsF
            exact List.mem_filter.2 ⟨List.mem_range.2 h3, hkid⟩
          rw [hys] at hm1 hsort
          rcases List.mem_append.1 hm1 with h6 | h6
          · have := (List.pairwise_append.1 hsort).2.2 _ h6 a (by simp)
            omega
          · have := List.mem_singleton.1 h6
            omega
        omega
      · obtain rfl : a = F.length - 1 := by omega
        exact ht ⟨hk2, by rw [k2, c2]⟩
    unfold txtF
    rw [if_neg ht]
    refine ⟨?_, h.more _⟩
    cases hla : (kidsF F (curN ps)).getLast? with
    | none => exact hput _
    | some a =>
      simp only []
      rw [if_neg (hno a hla)]
      exact hput _
end Go.Proofs.YteccmjngdibeoaaGreatDoor
set_option linter.unusedVariables false
set_option linter.unusedSimpArgs false
namespace Go.Proofs.YteccmjngdibeoaaGreatDoor
open S5 (ND TR kidsAt nodeAt parentN appendL beforeL moveL addL withinL newL setK outL)
open S4 (Tok nextR)
theorem take_body (F : FL) (ps : List (Nat × Bs)) (t : Tok) (h5 : t.kind ≠ 5) : takeB (stB F ps) t = bodyB (stB F ps) t := by
  have hs : ({ stB F ps with skip := false } : BS) = stB F ps := rfl
  have ht : ∀ t : Tok, t.kind ≠ 5 → takeT (stB F ps) t = bodyB (stB F ps) t := fun t h5 => by
    unfold takeT
    rw [if_neg h5, if_neg (by simp [stB]), if_neg (by rw [(cur_id F ps).2]; simp)]
    unfold rulesB
    rw [show 3 * (stB F ps).op.length + 20 = (3 * (stB F ps).op.length + 19) + 1 from rfl, rulesK]
    have : stepB (stB F ps) t = (bodyB (stB F ps) t, none) := by
      unfold stepB
      rw [if_neg (by simp [stB]), if_neg (by simp [stB]), if_neg (by simp [stB]), if_neg (by simp [stB]), if_neg (by simp [stB]), if_neg (by simp [stB])]
    rw [this]
  unfold takeB
  simp only [hs]
  split
  · rw [if_neg (by simp [stB])]
    exact ht t h5
  · exact ht t h5
theorem take_text {F : FL} {ps : List (Nat × Bs)} (h : OkF F ps) (hl : F.length < 2000) (s : Bs) : takeB (stB F ps) { kind := 1, text := s } = stB (txtF F (ps.length + 1) s) ps := by
  rw [take_body F ps _ (by simp)]
  exact (text_step h hl s).1
def startOf (nm : Bs) : Tok := { kind := 2, name := nm }
end Go.Proofs.YteccmjngdibeoaaGreatDoor
set_option linter.unusedVariables false
set_option linter.unusedSimpArgs false
namespace Go.Proofs.YteccmjngdibeoaaGreatDoor
open S5 (ND TR kidsAt nodeAt parentN appendL beforeL moveL addL withinL newL setK outL)
open S4 (Tok nextR)
theorem run_step (k : Nat) (F : FL) (ps : List (Nat × Bs)) (r r' : Bs) (t : Tok) (hn : nextR 0 [] false r = (t, r')) (hk : t.kind ≠ 0) : runB (k + 1) (stB F ps) r = runB k (takeB (stB F ps) t) r' := by
  have hf : (!((curB (stB F ps)).sp == 0)) = false := by rw [(cur_id F ps).2]; rfl
  rw [runB, if_neg (by simp [stB]), hf]
  show (if (nextR 0 [] false r).1.kind = 0 then _ else runB k (takeB (stB F ps) (nextR 0 [] false r).1) (nextR 0 [] false r).2) = _
  rw [hn, if_neg hk]
theorem run_end (k : Nat) (F : FL) (ps : List (Nat × Bs)) : runB k (stB F ps) [] = stB F ps := by
  cases k with
  | zero => rfl
  | succ k =>
    have hf : (!((curB (stB F ps)).sp == 0)) = false := by rw [(cur_id F ps).2]; rfl
    rw [runB, if_neg (by simp [stB]), hf, if_pos (by rfl)]
def Mk (r : Bs) : Prop := r = [] ∨ S4.beginsB r = true
theorem begins_not (c : UInt8) (r : Bs) (h : c ≠ 60) : S4.beginsB (c :: r) = false := by
  unfold S4.beginsB
  cases r with
  | nil => rfl
  | cons d q => simp [h]
theorem span_text : ∀ (s r : Bs), (∀ c ∈ s, c ≠ 60) → Mk r → S4.spanT (s ++ r) = (s, r)
  | [], r, _, hr => by
    rcases hr with rfl | hr
    · rfl
    · cases r with
      | nil => rfl
      | cons c q => rw [List.nil_append, S4.spanT, if_pos hr]
  | c :: s, r, h, hr => by
    rw [List.cons_append, S4.spanT, if_neg (by rw [begins_not c _ (h c (by simp))]; exact Bool.false_ne_true), span_text s r (fun x hx => h x (by simp [hx])) hr]
theorem next_text (s r : Bs) (h0 : s ≠ []) (h : ∀ c ∈ s, c ≠ 60) (hr : Mk r) : nextR 0 [] false (s ++ r) = ({ kind := 1, text := S4.decL false s }, r) := by
  cases s with
  | nil => exact absurd rfl h0
  | cons c s =>
    unfold nextR
    rw [if_neg (by simp), if_neg (by decide), if_pos (by decide)]
    unfold S4.dataL
    rw [List.cons_append, List.length_cons, S4.dataK, if_neg (by simp), if_pos (begins_not c _ (h c (by simp))), ← List.cons_append, span_text (c :: s) r h hr]
theorem start_ok : OkF [(0, {})] [] := by
  refine ⟨⟨⟨by simp, fun j h1 h2 => ?_⟩, rfl, by decide⟩, (fun i h => absurd h (by simp)), (fun p hp => absurd hp (by simp)), (fun i h => absurd h (by simp))⟩
  simp at h2
  omega
theorem start_eq : ({} : BS) = stB [(0, {})] [] := rfl
end Go.Proofs.YteccmjngdibeoaaGreatDoor
set_option linter.unusedVariables false
set_option linter.unusedSimpArgs false
namespace Go.Proofs.YteccmjngdibeoaaGreatDoor
open S5 (ND TR kidsAt nodeAt parentN appendL beforeL moveL addL withinL newL setK outL)
open S4 (Tok nextR)
theorem build_plain (s : Bs) (h : ∀ c ∈ s, c ≠ 60) : buildL s = if s = [] then stB [(0, {})] [] else stB [(0, {}), (1, { kind := 2, text := S4.decL false s })] [] := by
  unfold buildL
  rw [start_eq]
  by_cases h0 : s = []
  · rw [if_pos h0]
    subst h0
    exact run_end _ _ _
  · rw [if_neg h0]
    have hn := next_text s [] h0 h (.inl rfl)
    rw [List.append_nil] at hn
    rw [run_step s.length _ _ _ _ _ hn (by simp), take_text start_ok (by simp), run_end]
    rfl
end Go.Proofs.YteccmjngdibeoaaGreatDoor
set_option linter.unusedVariables false
set_option linter.unusedSimpArgs false
namespace Go.Proofs.YteccmjngdibeoaaGreatDoor
open S5 (ND TR WF kidsAt nodeAt parentN appendL beforeL moveL addL withinL newL outL setK aheadL pushL)
open S4 (Tok nextR)
theorem among_all {L : List Bs} {P : Bs → Bool} (h : L.all P = true) {n : Bs} (hn : S6.amongL L n = true) : P n = true := by
  unfold S6.amongL at hn
  obtain ⟨x, hx, e⟩ := List.any_eq_true.1 hn
  obtain rfl : n = x := by simpa using e
  exact List.all_eq_true.1 h n hx
def goodN (n : Bs) : Bool := !n.isEmpty && (!(S6.isL 1 n) && (!(S6.amongL S6.tableN n) && !(S6.amongL tabA n)))
theorem good_all {n : Bs} (h : goodN n = true) : n ≠ [] ∧ S6.isL 1 n = false ∧ FreeN n ∧ S6.amongL tabA n = false := by
  unfold goodN at h
  simp only [Bool.and_eq_true, Bool.not_eq_true'] at h
  exact ⟨by intro e; rw [e] at h; exact absurd h.1 (by decide), h.2.1, fits_part h.2.2.1, h.2.2.2⟩
theorem format_good {n : Bs} (h : S6.amongL S6.formatN n = true) : goodN n = true := among_all (by decide) h
theorem among_one (a n : Bs) : S6.amongL [a] n = true ↔ n = a := by simp [S6.amongL]
theorem noTab_one {a : Bs} (h : S6.amongL tabA a = false) : NoTab [a] := fun n hn => by rw [(among_one a n).1 hn]; exact h
theorem noTab_all {L : List Bs} (h : (L.all fun n => !(S6.amongL tabA n)) = true) : NoTab L := fun n hn => by simpa using among_all (P := fun n => !(S6.amongL tabA n)) h hn
theorem G.ends_at (b : BS) {names : List Bs} {ex : Bs} (h : Inv b → ∃ j, S6.lastO (S6.namedL names) (vs b.op) b.op.length = some j ∧ Safe b.op j) (hx : ∀ n, S6.amongL names n = true → S6.isL 8 n = false ∨ n = ex) : G b (upToB (impliedB b ex) names) := by
  have e : (upToB (impliedB b ex) names).e = b.e := by unfold upToB; split <;> rfl
  intro he
  have h0 : b.e = 0 := by rw [← e]; exact he
  refine ⟨h0, fun i => ?_⟩
  obtain ⟨i1, s1, r1, f1⟩ := (G.implied b ex h0).2 i
  have g := upTo_cut (impliedB b ex) names fun i' j' hj' => by
    obtain ⟨j, hj, hs⟩ := h i
    have hlt := left_last b ex names hx hj
    obtain rfl : j' = j := last_take _ b.op (left_spec _ _ _).1 hj hlt hj'
    intro k o hk ho
    have ho : (b.op.take (S6.leftO ⟨ex.toArray⟩ (vs b.op) b.op.length))[k]? = some o := ho
    rw [take_at] at ho
    split at ho
    · exact hs k o hk ho
    · cases ho
  obtain ⟨i2, s2, r2, f2⟩ := (g he).2 i1
  exact ⟨i2, s2.trans s1, r2.trans r1, f2.trans f1⟩
theorem G.closeP (b : BS) : G b (closePB b) := by
  unfold closePB
  split
  · rename_i h
    exact G.ends b h (noTab_one (by decide)) fun n hn => Or.inr ((among_one _ _).1 hn)
  · exact G.refl b
theorem G.endsB (b : BS) {names : List Bs} {ex : Bs} {sc : Int} (hn : NoTab names) (hx : ∀ n, S6.amongL names n = true → S6.isL 8 n = false ∨ n = ex) : G b (endsB b names ex sc) := by
  unfold Go.Proofs.YteccmjngdibeoaaGreatDoor.endsB
  split
  · rename_i h
    exact G.ends b h hn hx
  · exact G.refl b
theorem special_tab {o : OM} (h : tabO o = true) : S6.specialL o.v = true := by
  unfold tabO at h
  simp only [Bool.and_eq_true] at h
  have k : S6.isL 4 o.nm = true := among_all (L := tabA) (P := fun n => S6.isL 4 n) (by decide) h.2
  unfold S6.specialL S6.htmlL OM.v
  simp only []
  rw [h.1, k]
  rfl
theorem plain_tab {o : OM} (h : S6.specialL o.v = false) : tabO o = false := by
  cases ht : tabO o with
  | false => rfl
  | true => rw [special_tab ht] at h; cases h
theorem Safe.step {l : List OM} {k : Nat} {o : OM} (h : Safe l (k + 1)) (ho : l[k]? = some o) (ht : tabO o = false) : Safe l k := by
  intro i x hi hx
  rcases Nat.eq_or_lt_of_le hi with q | q
  · subst q
    rw [ho] at hx
    obtain rfl : o = x := Option.some.inj hx
    exact ht
  · exact h i x q hx
theorem Safe.out (l : List OM) {k : Nat} (h : l.length ≤ k) : Safe l k := by
  intro i o hi ho
  rw [List.getElem?_eq_none (by omega)] at ho
  cases ho
theorem G.otherK (name : Bs) (b : BS) (hn : ∀ o ∈ b.op, isO o [name] = true → tabO o = false) : ∀ k, Safe b.op (k + 1) → G b (otherK name b k)
  | 0, _ => G.refl b
  | k + 1, hs => by
    rw [Go.Proofs.YteccmjngdibeoaaGreatDoor.otherK]
    split
    · exact G.refl b
    · rename_i o ho
      split
      · rename_i h1
        exact G.cut b _ fun i => ⟨by omega, hs.step ho (hn o (List.mem_of_getElem? ho) h1)⟩
      · split
        · exact G.refl b
        · rename_i h2
          exact G.otherK name b hn k (hs.step ho (plain_tab (Bool.eq_false_iff.2 h2)))
theorem G.other' (b : BS) (name : Bs) (hn : ∀ o ∈ b.op, isO o [name] = true → tabO o = false) : G b (otherB b name) := G.otherK name b hn _ (Safe.out _ (by omega))
theorem G.other (b : BS) {name : Bs} (hn : S6.amongL tabA name = false) : G b (otherB b name) := G.other' b name fun o _ h => (noTab_one hn).o h
theorem last_found (p : S6.OV → Bool) (l : List S6.OV) : ∀ (k i : Nat), i < k → (l[i]?).any p = true → ∃ j, S6.lastO p l k = some j ∧ i ≤ j
  | 0, i, h, _ => by omega
  | k + 1, i, h, hp => by
    rw [S6.lastO]
    split
    · exact ⟨k, rfl, by omega⟩
    · rename_i c
      refine last_found p l k i ?_ hp
      rcases Nat.eq_or_lt_of_le (Nat.le_of_lt_succ h) with q | q
      · subst q; exact absurd hp c
      · exact q
theorem Safe.mono {l : List OM} {i j : Nat} (h : Safe l i) (hij : i ≤ j) : Safe l j := fun k o hk ho => h k o (by omega) ho
theorem G.listedK (names : List Bs) (hn : NoTab names) (b : BS) : ∀ k, Safe b.op (k + 1) → G b (listedK names b k)
  | 0, _ => G.refl b
  | k + 1, hs => by
    rw [Go.Proofs.YteccmjngdibeoaaGreatDoor.listedK]
    split
    · exact G.refl b
    · rename_i o ho
      split
      · rename_i h1
        refine G.ends_at b (fun _ => ?_) fun n e => Or.inr ((among_one _ _).1 e)
        have hlt := (List.getElem?_eq_some_iff.1 ho).1
        obtain ⟨j, h2, h3⟩ := last_found (S6.namedL [o.nm]) (vs b.op) b.op.length (k + 1) hlt (by
          rw [any_v, ho]
          show S6.namedL [o.nm] o.v = true
          rw [v_named]
          unfold isO at h1 ⊢
          simp only [Bool.and_eq_true] at h1 ⊢
          exact ⟨h1.1, by simp [S6.amongL]⟩)
        exact ⟨j, h2, (hs.step ho (hn.o h1)).mono h3⟩
      · split
        · exact G.refl b
        · rename_i h0 h2
          refine G.listedK names hn b k (hs.step ho ?_)
          cases ht : tabO o with
          | false => rfl
          | true =>
            rw [special_tab ht] at h2
            simp at h2
            unfold tabO at ht
            unfold isO at h2
            simp only [Bool.and_eq_true] at h2 ht
            have := among_all (L := [[97, 100, 100, 114, 101, 115, 115], [100, 105, 118], [112]]) (P := fun n => !(S6.amongL tabA n)) (by decide) h2.2
            rw [ht.2] at this
            cases this
theorem G.listed (b : BS) {names : List Bs} (hn : NoTab names) : G b (Go.Proofs.YteccmjngdibeoaaGreatDoor.listedK names b (b.op.length - 1)) := G.listedK names hn b _ (Safe.out _ (by omega))
theorem mark_form {T : TR} {m : MM} (h : MarkOk T m) (h0 : m.id ≠ 0) : 1 ≤ m.id ∧ m.id < T.length ∧ (nodeAt T m.id).kind = 1 ∧ (nodeAt T m.id).space = 0 ∧ (nodeAt T m.id).name = m.nm ∧ S6.amongL S6.formatN m.nm = true := by
  rcases h with h | h
  · exact absurd h.1 h0
  · exact h
theorem G.renewK : ∀ (k i : Nat) (b : BS), (∀ j m, i ≤ j → b.mr[j]? = some m → m.id ≠ 0) → G b (renewK k i b)
  | 0, _, b, _ => G.refl b
  | k + 1, i, b, h => by
    rw [Go.Proofs.YteccmjngdibeoaaGreatDoor.renewK]
    split
    · exact G.refl b
    · split
      · exact G.refl b
      · rename_i m hm
        have hid := h i m (Nat.le_refl _) hm
        cases hi : insertB b 0 m.nm m.aa with
        | mk b' n =>
        cases n with
        | none =>
          intro he
          exact absurd he (insert_none hi)
        | some n =>
          simp only []
          obtain ⟨e0, e1, e2, e3, e4, e5, kk⟩ := insert_some hi
          have step : G b { b' with mr := b'.mr.set i ⟨n, m.nm, m.aa⟩ } := by
            intro _
            refine ⟨e0, fun iv => ?_⟩
            obtain ⟨q1, q2, q3, q4, q5, q6⟩ := mark_form (iv.m m (List.mem_of_getElem? hm)) hid
            obtain ⟨g1, g2, g3, g4⟩ := good_all (format_good q6)
            have iv' := insert_inv hi iv g1 (fun _ => g2) (Or.inl fun _ => g3)
            obtain ⟨k1, k2, k3, k4, k5, k6, k7⟩ := kk iv g1 (Or.inl fun _ => g3)
            refine ⟨⟨iv'.t, iv'.o, ?_⟩, ?_, e4, e5, k2⟩
            · intro x hx
              rcases List.mem_or_eq_of_mem_set hx with a | a
              · exact iv'.m x a
              · subst a
                exact Or.inr ⟨k3, k4, k5, k6, k7, q6⟩
            · show sk b'.op = _
              rw [e2, sk_app]
              unfold tabO
              simp [g4]
          refine step.trans (G.renewK k (i + 1) _ ?_)
          intro j x hj hx
          have hx : (b'.mr.set i ⟨n, m.nm, m.aa⟩)[j]? = some x := hx
          rw [List.getElem?_set_ne (by omega), e3] at hx
          exact h j x (by omega) hx
theorem behind_miss_all (p : S7.MV → Bool) (l : List S7.MV) : ∀ k, ∀ j, S7.behindG p l k ≤ j → j < k → (l[j]?).any p = false
  | 0, j, _, h => by omega
  | k + 1, j, h1, h2 => by
    rw [S7.behindG] at h1
    split at h1
    · omega
    · rename_i c
      rcases Nat.lt_or_ge j k with q | q
      · exact behind_miss_all p l k j h1 q
      · rw [show j = k from by omega]
        exact Bool.eq_false_iff.2 c
theorem G.renew (b : BS) : G b (renewB b) := by
  refine G.renewK _ _ b ?_
  intro j m hj hm
  have hlt := (List.getElem?_eq_some_iff.1 hm).1
  have := behind_miss_all _ (ms b.mr) (ms b.mr).length j hj (by simp [ms]; exact hlt)
  simp only [ms, List.getElem?_map, hm, Option.map_some, Option.any_some] at this
  unfold S7.stopM at this
  simp [MM.v] at this
  omega
theorem pushM_mem {l : List MM} {m x : MM} (h : x ∈ pushM l m) : x ∈ l ∨ x = m := by
  unfold pushM at h
  obtain ⟨y, hy, rfl⟩ := List.mem_map.1 h
  rcases push_mem _ _ _ hy with a | a
  · obtain ⟨z, hz, rfl⟩ := List.mem_map.1 a
    rw [of_v]
    exact Or.inl hz
  · rw [a, of_v]
    exact Or.inr rfl
theorem clearM_mem {l : List MM} {x : MM} (h : x ∈ clearM l) : x ∈ l := by
  unfold clearM at h
  obtain ⟨y, hy, rfl⟩ := List.mem_map.1 h
  obtain ⟨z, hz, rfl⟩ := List.mem_map.1 (List.mem_of_mem_take hy)
  rw [of_v]
  exact hz
theorem G.marker (b : BS) : G b (markerB b) := G.marks b _ fun i m hm => by
  rcases pushM_mem hm with a | a
  · exact i.m m a
  · subst a
    exact Or.inl ⟨rfl, rfl⟩
theorem G.clear (b : BS) : G b { b with mr := clearM b.mr } := G.marks b _ fun i m hm => i.m m (clearM_mem hm)
end Go.Proofs.YteccmjngdibeoaaGreatDoor
