import Derived.Test.YtpppdfjdngmaoaaGreatDoorKc02
import Derived.Test.YtpppdfjdngmaoaaGreatDoorKc30
set_option linter.unusedVariables false
set_option linter.unusedSimpArgs false
set_option maxRecDepth 100000
set_option maxHeartbeats 8000000
namespace Go.Proofs.YtpppdfjdngmaoaaGreatDoor
open S5 (ND TR WF kidsAt nodeAt parentN appendL beforeL moveL addL withinL newL outL setK aheadL pushL)
open S4 (Tok nextR)
theorem insert_none {b b' : BS} {sp : Int} {nm : Bs} {aa : As} (h : insertB b sp nm aa = (b', none)) : b'.e ≠ 0 := by
  unfold insertB at h
  simp only [] at h
  cases hg : growB (deepB b) { kind := 1, space := sp, name := nm, attrs := aa } with
  | mk b1 n =>
  rw [hg] at h
  cases n with
  | none =>
    obtain ⟨rfl, _⟩ := Prod.mk.inj h
    exact grow_none hg
  | some n => cases h
theorem insert_some {b b' : BS} {sp : Int} {nm : Bs} {aa : As} {n : Nat} (h : insertB b sp nm aa = (b', some n)) :
    b.e = 0 ∧ b'.e = 0 ∧ b'.op = b.op ++ [⟨n, sp, nm⟩] ∧ b'.mr = b.mr ∧ b'.rules = b.rules ∧ b'.fost = b.fost ∧
    (Inv b → nm ≠ [] → ((sp = 0 → FreeN nm) ∨ (b.fost = false ∧ AdjR (curB b) ⟨0, sp, nm⟩)) → TI b'.T ∧ NE b.T b'.T ∧ 1 ≤ n ∧ n < b'.T.length ∧ (nodeAt b'.T n).kind = 1 ∧ (nodeAt b'.T n).space = sp ∧ (nodeAt b'.T n).name = nm) := by
  unfold insertB at h
  simp only [] at h
  cases hg : growB (deepB b) { kind := 1, space := sp, name := nm, attrs := aa } with
  | mk b1 n1 =>
  rw [hg] at h
  cases n1 with
  | none => cases h
  | some n1 =>
    obtain ⟨h0, hl, rfl, rfl⟩ := grow_some hg
    have hd : deepB b = b := by
      unfold deepB at h0 ⊢
      split at h0
      · exact absurd h0 (show ¬ (5 : Int) = 0 by decide)
      · rw [if_neg (by assumption)]
    rw [hd] at h h0 hl
    obtain ⟨rfl, hn⟩ := Prod.mk.inj h
    obtain rfl : b.T.length = n := Option.some.inj hn
    refine ⟨h0, h0, rfl, rfl, rfl, rfl, fun i hne hf => ?_⟩
    have hm := cur_mem i.o
    obtain ⟨p1, p2⟩ := place_ok i hm
    have hlt := p1.lt
    have hpos := i.t.pos
    have hN : NodeOk { kind := 1, space := sp, name := nm, attrs := aa } := Or.inl ⟨rfl, hne, rfl⟩
    refine ⟨(i.t.push hN hl).put (p1.push _) (by rw [push_length]; omega) ?_, (NE.push _ _).trans (NE.put _ _ _ _), hpos, ?_, ?_⟩
    · rw [node_push, if_neg (by omega), node_push, if_pos rfl]
      refine ⟨p2, fun _ e2 => ?_⟩
      rcases hf with hf | ⟨hf, ha⟩
      · exact hf e2 _
      · rw [place_plain _ hf, (i.o.at i.t hm).2.2]
        exact ha e2
    · show _ < (putL _ _ _ _).length
      rw [put_len, push_length]
      omega
    · show (nodeAt (putL _ _ _ _) _).kind = 1 ∧ (nodeAt (putL _ _ _ _) _).space = sp ∧ (nodeAt (putL _ _ _ _) _).name = nm
      rw [put_node, node_push, if_pos rfl]
      exact ⟨rfl, rfl, rfl⟩
theorem sk_app (l : List OM) (o : OM) (h : tabO o = false) : sk (l ++ [o]) = sk l := by simp [sk, h]
theorem sk_tab (l : List OM) (o : OM) (h : tabO o = true) : sk (l ++ [o]) = sk l ++ [o] := by simp [sk, h]
theorem OI.app {T : TR} {l : List OM} (h : OI T l) {o : OM} (ht : Tie T o) (ha : ∀ a, l.getLast? = some a → AdjR a o) : OI T (l ++ [o]) := by
  have hp := h.pos
  refine ⟨?_, ?_, ?_⟩
  · rw [List.getElem?_append_left hp]; exact h.hd
  · intro i x hx
    rcases Nat.lt_or_ge (i + 1) l.length with q | q
    · rw [List.getElem?_append_left q] at hx
      exact h.tie i x hx
    · rw [List.getElem?_append_right q] at hx
      cases hk : i + 1 - l.length with
      | zero => rw [hk] at hx; obtain rfl : o = x := by simpa using hx
                exact ht
      | succ k => rw [hk] at hx; simp at hx
  · intro i a c h1 h2
    rcases Nat.lt_or_ge (i + 1) l.length with q | q
    · rw [List.getElem?_append_left q] at h2
      rw [List.getElem?_append_left (by omega)] at h1
      exact h.adj i a c h1 h2
    · rw [List.getElem?_append_right q] at h2
      cases hk : i + 1 - l.length with
      | zero =>
        rw [hk] at h2
        obtain rfl : o = c := by simpa using h2
        refine ha a ?_
        rw [List.getElem?_append_left (by omega)] at h1
        rw [List.getLast?_eq_getElem?, show l.length - 1 = i from by omega]
        exact h1
      | succ k => rw [hk] at h2; simp at h2
theorem cur_last {b : BS} {a : OM} (h : b.op.getLast? = some a) : curB b = a := by unfold curB; rw [h]; rfl
theorem insert_inv {b b' : BS} {sp : Int} {nm : Bs} {aa : As} {n : Nat} (h : insertB b sp nm aa = (b', some n)) (i : Inv b) (hn : nm ≠ []) (hv : sp = 0 → S6.isL 1 nm = false)
    (hf : (sp = 0 → FreeN nm) ∨ (b.fost = false ∧ AdjR (curB b) ⟨0, sp, nm⟩)) : Inv b' := by
  obtain ⟨_, _, e2, e3, _, _, k⟩ := insert_some h
  obtain ⟨k1, k2, k3, k4, k5, k6, k7⟩ := k i hn hf
  refine ⟨k1, ?_, ?_⟩
  · rw [e2]
    refine (i.o.ne k2).app ⟨k3, k4, k5, k6, k7, hv⟩ ?_
    intro a ha
    rcases hf with hf | ⟨_, hf⟩
    · exact FreeN.adj hf
    · rw [cur_last ha] at hf; exact hf
  · rw [e3]
    exact fun m hm => (i.m m hm).ne k2
theorem insert_e {b b' : BS} {sp : Int} {nm : Bs} {aa : As} {n : Option Nat} (h : insertB b sp nm aa = (b', n)) (he : b'.e = 0) : ∃ k, n = some k := by
  cases n with
  | none => exact absurd he (insert_none h)
  | some k => exact ⟨k, rfl⟩
theorem G.insert (b : BS) {sp : Int} {nm : Bs} (aa : As) (hn : nm ≠ []) (hv : sp = 0 → S6.isL 1 nm = false) (hf : sp = 0 → FreeN nm) (ht : sp = 0 → S6.amongL tabA nm = false) : G b (insertB b sp nm aa).1 := by
  cases hi : insertB b sp nm aa with
  | mk b' n =>
  intro he
  obtain ⟨n, rfl⟩ := insert_e hi he
  obtain ⟨e0, _, e2, e3, e4, e5, k⟩ := insert_some hi
  refine ⟨e0, fun i => ⟨insert_inv hi i hn hv (Or.inl hf), ?_, e4, e5, (k i hn (Or.inl hf)).2.1⟩⟩
  rw [e2, sk_app]
  unfold tabO
  by_cases hs : sp = 0
  · simp [ht hs]
  · simp [hs]
theorem G.single {b : BS} {sp : Int} {nm : Bs} {aa : As} (hn : nm ≠ []) (hf : Inv b → ((sp = 0 → FreeN nm) ∨ (b.fost = false ∧ AdjR (curB b) ⟨0, sp, nm⟩))) :
    G b (match insertB b sp nm aa with | (b', some _) => popB b' | (b', none) => b') := by
  cases hi : insertB b sp nm aa with
  | mk b' n =>
  cases n with
  | none => intro he; exact absurd he (insert_none hi)
  | some n =>
    obtain ⟨e0, e1, e2, e3, e4, e5, k⟩ := insert_some hi
    show G b (popB b')
    have hop : Inv b → popB b' = { b' with op := b.op } := by
      intro i
      have := i.o.pos
      unfold popB
      rw [if_pos (by rw [e2]; simp; omega), e2, List.dropLast_concat]
    intro he
    refine ⟨e0, fun i => ?_⟩
    obtain ⟨k1, k2, k3, k4, k5, k6, k7⟩ := k i hn (hf i)
    rw [hop i]
    exact ⟨⟨k1, i.o.ne k2, by show ∀ m ∈ b'.mr, MarkOk b'.T m; rw [e3]; exact fun m hm => (i.m m hm).ne k2⟩, rfl, e4, e5, k2⟩
theorem take_at (l : List OM) (k i : Nat) : (l.take k)[i]? = if i < k then l[i]? else none := by rw [List.getElem?_take]
theorem OI.take {T : TR} {l : List OM} (h : OI T l) {k : Nat} (hk : 1 ≤ k) : OI T (l.take k) := by
  refine ⟨?_, ?_, ?_⟩
  · rw [take_at, if_pos (by omega)]; exact h.hd
  · intro i o ho
    rw [take_at] at ho
    split at ho
    · exact h.tie i o ho
    · cases ho
  · intro i a c h1 h2
    rw [take_at] at h1 h2
    split at h1
    · split at h2
      · exact h.adj i a c h1 h2
      · cases h2
    · cases h1
def Safe (l : List OM) (k : Nat) : Prop := ∀ i o, k ≤ i → l[i]? = some o → tabO o = false
theorem sk_take (l : List OM) (k : Nat) (h : Safe l k) : sk (l.take k) = sk l := by
  have e : sk l = sk (l.take k) ++ sk (l.drop k) := by
    unfold sk
    rw [← List.filter_append, List.take_append_drop]
  have z : sk (l.drop k) = [] := by
    unfold sk
    rw [List.filter_eq_nil_iff]
    intro o ho
    obtain ⟨i, hi⟩ := List.mem_iff_getElem?.1 ho
    rw [List.getElem?_drop] at hi
    simp [h (k + i) o (by omega) hi]
  rw [e, z, List.append_nil]
theorem G.cut (b : BS) (k : Nat) (h : Inv b → 1 ≤ k ∧ Safe b.op k) : G b { b with op := b.op.take k } := by
  intro he
  refine ⟨he, fun i => ⟨⟨i.t, i.o.take (h i).1, i.m⟩, sk_take _ _ (h i).2, rfl, rfl, NE.refl _⟩⟩
theorem G.pop (b : BS) (h : Inv b → 1 < b.op.length → tabO (curB b) = false) : G b (popB b) := by
  unfold popB
  split
  · rename_i hl
    rw [List.dropLast_eq_take]
    refine G.cut b _ fun i => ⟨by omega, ?_⟩
    intro j o hj ho
    obtain ⟨hlt, _⟩ := List.getElem?_eq_some_iff.1 ho
    obtain rfl : j = b.op.length - 1 := by omega
    rw [← cur_last (b := b) (a := o) (by rw [List.getLast?_eq_getElem?]; exact ho)]
    exact h i hl
  · exact G.refl b
theorem erase_at (l : List OM) (k i : Nat) : (l.eraseIdx k)[i]? = if i < k then l[i]? else l[i + 1]? := by rw [List.getElem?_eraseIdx]
theorem OI.erase {T : TR} {l : List OM} (h : OI T l) {k : Nat} (hk : 1 ≤ k) (ht : ∀ o, l[k]? = some o → tabO o = false) : OI T (l.eraseIdx k) := by
  refine ⟨?_, ?_, ?_⟩
  · rw [erase_at, if_pos (by omega)]; exact h.hd
  · intro i o ho
    rw [erase_at] at ho
    split at ho
    · exact h.tie i o ho
    · exact h.tie (i + 1) o ho
  · intro i a c h1 h2
    rw [erase_at] at h1 h2
    split at h1
    · split at h2
      · exact h.adj i a c h1 h2
      · have : i + 1 = k := by omega
        have hlt := (List.getElem?_eq_some_iff.1 h2).1
        have hx : l[k]? = some l[k] := List.getElem?_eq_getElem (by omega)
        have h3 := h.adj k l[k] c hx (by rw [← this]; exact h2)
        exact fun e => adj_free h3 (ht _ hx) e _
    · rw [if_neg (by omega)] at h2
      exact h.adj (i + 1) a c h1 h2
theorem sk_erase (l : List OM) (k : Nat) (ht : ∀ o, l[k]? = some o → tabO o = false) : sk (l.eraseIdx k) = sk l := by
  rcases Nat.lt_or_ge k l.length with hk | hk
  · have e : l = l.take k ++ l[k] :: l.drop (k + 1) := by rw [List.getElem_cons_drop, List.take_append_drop]
    rw [List.eraseIdx_eq_take_drop_succ]
    conv => rhs; rw [e]
    unfold sk
    rw [List.filter_append, List.filter_append, List.filter_cons, ht _ (List.getElem?_eq_getElem hk)]
    rfl
  · rw [List.eraseIdx_of_length_le hk]
theorem G.shut (b : BS) (k : Nat) (h : Inv b → 1 ≤ k ∧ ∀ o, b.op[k]? = some o → tabO o = false) : G b (shutB b k) := by
  intro he
  refine ⟨he, fun i => ⟨⟨i.t, i.o.erase (h i).1 (h i).2, i.m⟩, sk_erase _ _ (h i).2, rfl, rfl, NE.refl _⟩⟩
theorem G.marks (b : BS) (l : List MM) (h : Inv b → ∀ m ∈ l, MarkOk b.T m) : G b { b with mr := l } := by
  intro he
  exact ⟨he, fun i => ⟨⟨i.t, i.o, h i⟩, rfl, rfl, rfl, NE.refl _⟩⟩
theorem G.dropMark (b : BS) (k : Nat) : G b (dropMark b k) := G.marks b _ fun i m hm => i.m m (List.mem_of_mem_eraseIdx hm)
theorem v_named (names : List Bs) (o : OM) : S6.namedL names o.v = isO o names := by simp [S6.namedL, S6.htmlL, isO, OM.v]
theorem any_v (p : S6.OV → Bool) (l : List OM) (i : Nat) : ((vs l)[i]?).any p = (l[i]?).any fun o => p o.v := by
  rw [vs_at]
  cases l[i]? <;> rfl
theorem tab_free {n : Bs} (h : S6.amongL tabA n = true) (hf : FreeN n) : n = [116, 97, 98, 108, 101] := by
  unfold S6.amongL tabA at h
  simp at h
  have := hf []
  rcases h with rfl | rfl | rfl | rfl | rfl | rfl | rfl | rfl | rfl
  · exact absurd this (by decide)
  · exact absurd this (by decide)
  · exact absurd this (by decide)
  · exact absurd this (by decide)
  · exact absurd this (by decide)
  · exact absurd this (by decide)
  · exact absurd this (by decide)
  · exact absurd this (by decide)
  · rfl
theorem ends_table (o : OM) (sc : Int) (hs : o.sp = 0) (hn : o.nm = [116, 97, 98, 108, 101]) : S6.endsL o.v sc = true := by
  unfold S6.endsL S6.htmlL OM.v
  rw [hs, hn]
  simp only [beq_self_eq_true, if_true]
  unfold S6.endsNameL
  split
  · decide
  · split
    · decide
    · split
      · decide
      · decide
theorem safe_scope {T : TR} {l : List OM} (h : OI T l) {j : Nat} {sc : Int} (hj : ∀ o, l[j]? = some o → tabO o = false) (he : ∀ i o, j < i → l[i]? = some o → S6.endsL o.v sc = false) : Safe l j := by
  have key : ∀ d o, l[j + d]? = some o → tabO o = false := by
    intro d
    induction d with
    | zero => exact hj
    | succ d ih =>
      intro o ho
      have hlt := (List.getElem?_eq_some_iff.1 ho).1
      have hx : l[j + d]? = some (l[j + d]'(by omega)) := List.getElem?_eq_getElem (by omega)
      have ha := h.adj (j + d) _ o hx ho
      cases ht : tabO o with
      | false => rfl
      | true =>
        unfold tabO at ht
        simp at ht
        have hf := adj_free ha (ih _ hx) ht.1
        have h1 := ends_table o sc ht.1 (tab_free ht.2 hf)
        rw [he (j + (d + 1)) o (by omega) ho] at h1
        cases h1
  intro i o hi ho
  obtain ⟨d, rfl⟩ := Nat.exists_eq_add_of_le hi
  exact key d o ho
theorem has_some (names : List Bs) (sc : Int) (l : List S6.OV) : ∀ k, S6.hasO names sc l k = true → ∃ j, S6.lastO (S6.namedL names) l k = some j ∧ ∀ i, j < i → i < k → (l[i]?).any (fun o => S6.endsL o sc) = false
  | 0, h => by cases h
  | k + 1, h => by
    rw [S6.hasO] at h
    rw [S6.lastO]
    by_cases c : (l[k]?).any (S6.namedL names) = true
    · rw [if_pos c]
      exact ⟨k, rfl, fun i h1 h2 => by omega⟩
    · rw [if_neg c]
      rw [Bool.eq_false_iff.2 c, Bool.false_or] at h
      simp only [Bool.and_eq_true] at h
      obtain ⟨j, h1, h2⟩ := has_some names sc l k h.2
      refine ⟨j, h1, fun i a1 a2 => ?_⟩
      rcases Nat.lt_or_ge i k with q | q
      · exact h2 i a1 q
      · rw [show i = k from by omega]
        have := h.1
        simpa using this
def NoTab (names : List Bs) : Prop := ∀ n, S6.amongL names n = true → S6.amongL tabA n = false
theorem NoTab.o {names : List Bs} (h : NoTab names) {o : OM} (ho : isO o names = true) : tabO o = false := by
  unfold isO at ho
  simp at ho
  unfold tabO
  rw [h _ ho.2]
  simp
theorem safe_has {b : BS} (i : Inv b) {names : List Bs} {sc : Int} (hn : NoTab names) (h : hasB b names sc = true) : ∃ j, S6.lastO (S6.namedL names) (vs b.op) b.op.length = some j ∧ Safe b.op j := by
  unfold hasB S6.hasZ at h
  rw [vs_len] at h
  obtain ⟨j, h1, h2⟩ := has_some _ _ _ _ h
  obtain ⟨k1, k2, _⟩ := last_some _ _ _ _ h1
  refine ⟨j, h1, safe_scope (sc := sc) i.o ?_ ?_⟩
  · intro o ho
    rw [any_v, ho] at k2
    refine hn.o ?_
    rw [← v_named]
    exact k2
  · intro m o hm ho
    have := h2 m hm (List.getElem?_eq_some_iff.1 ho).1
    rw [any_v, ho] at this
    exact this
theorem upTo_cut (b : BS) (names : List Bs) (h : Inv b → ∀ j, S6.lastO (S6.namedL names) (vs b.op) b.op.length = some j → Safe b.op j) : G b (upToB b names) := by
  unfold upToB
  split
  · rename_i k e
    exact G.cut b _ fun i => ⟨by omega, h i _ e⟩
  · exact G.refl b
theorem left_spec (ex : ByteArray) (l : List S6.OV) : ∀ k, S6.leftO ex l k ≤ k ∧ ∀ i, S6.leftO ex l k ≤ i → i < k → (l[i]?).any (S6.goesL ex) = true
  | 0 => ⟨Nat.le_refl _, fun i h1 h2 => by omega⟩
  | k + 1 => by
    rw [S6.leftO]
    split
    · rename_i c
      obtain ⟨h1, h2⟩ := left_spec ex l k
      refine ⟨by omega, fun i a1 a2 => ?_⟩
      rcases Nat.lt_or_ge i k with q | q
      · exact h2 i a1 q
      · rw [show i = k from by omega]; exact c
    · exact ⟨Nat.le_refl _, fun i h1 h2 => by omega⟩
theorem implied_tab (n : Bs) (h : S6.isL 8 n = true) : S6.amongL tabA n = false := by
  have h : S6.amongL S6.impliedN n = true := by simpa [S6.isL, S6.listsN, S6.listsOf] using h
  unfold S6.amongL S6.impliedN at h
  simp at h
  rcases h with rfl | rfl | rfl | rfl | rfl | rfl | rfl | rfl | rfl | rfl <;> decide
theorem left_safe (b : BS) (ex : Bs) (hp : 1 ≤ b.op.length) (h0 : b.op[0]? = some rootO) : 1 ≤ S6.leftO ⟨ex.toArray⟩ (vs b.op) b.op.length ∧ Safe b.op (S6.leftO ⟨ex.toArray⟩ (vs b.op) b.op.length) := by
  obtain ⟨h1, h2⟩ := left_spec ⟨ex.toArray⟩ (vs b.op) b.op.length
  constructor
  · rcases Nat.eq_zero_or_pos (S6.leftO ⟨ex.toArray⟩ (vs b.op) b.op.length) with q | q
    · have := h2 0 (by omega) hp
      rw [any_v, h0] at this
      exact absurd this (by simp [S6.goesL, OM.v, rootO, S6.isL, S6.listsN, S6.listsOf, S6.amongL, S6.impliedN])
    · exact q
  · intro i o hi ho
    have := h2 i hi (List.getElem?_eq_some_iff.1 ho).1
    rw [any_v, ho] at this
    have this : S6.goesL ⟨ex.toArray⟩ o.v = true := this
    unfold S6.goesL at this
    simp only [Bool.and_eq_true] at this
    unfold tabO
    rw [implied_tab o.nm (by simpa [OM.v] using this.1.2)]
    simp
theorem G.implied (b : BS) (ex : Bs) : G b (impliedB b ex) := G.cut b _ fun i => left_safe b ex i.o.pos i.o.hd
theorem left_last (b : BS) (ex : Bs) (names : List Bs) {j : Nat} (hn : ∀ n, S6.amongL names n = true → S6.isL 8 n = false ∨ n = ex) (h : S6.lastO (S6.namedL names) (vs b.op) b.op.length = some j) : j < S6.leftO ⟨ex.toArray⟩ (vs b.op) b.op.length := by
  obtain ⟨k1, k2, _⟩ := last_some _ _ _ _ h
  rcases Nat.lt_or_ge j (S6.leftO ⟨ex.toArray⟩ (vs b.op) b.op.length) with q | q
  · exact q
  · have h2 := (left_spec ⟨ex.toArray⟩ (vs b.op) b.op.length).2 j q k1
    rw [any_v] at k2 h2
    have ho : b.op[j]? = some b.op[j] := List.getElem?_eq_getElem k1
    rw [ho] at k2 h2
    have k2 : S6.namedL names b.op[j].v = true := k2
    have h2 : S6.goesL ⟨ex.toArray⟩ b.op[j].v = true := h2
    rw [v_named] at k2
    unfold isO at k2
    unfold S6.goesL at h2
    simp [OM.v] at k2 h2
    rcases hn _ k2.2 with c | c
    · rw [h2.1.2] at c; cases c
    · exact absurd c h2.2
theorem last_take (p : S6.OV → Bool) (l : List OM) {m : Nat} (hm : m ≤ l.length) {j j' : Nat} (h : S6.lastO p (vs l) l.length = some j) (hj : j < m) (h' : S6.lastO p (vs (l.take m)) (l.take m).length = some j') : j' = j := by
  obtain ⟨a1, a2, a3⟩ := last_some _ _ _ _ h
  obtain ⟨b1, b2, b3⟩ := last_some _ _ _ _ h'
  have hl : (l.take m).length = m := by simp; omega
  rw [hl] at b1 b3
  have e : ∀ i, i < m → ((vs (l.take m))[i]?).any p = ((vs l)[i]?).any p := by
    intro i hi
    rw [any_v, any_v, take_at, if_pos hi]
  rw [e j' b1] at b2
  rcases Nat.lt_trichotomy j' j with q | q | q
  · have := b3 j q hj
    rw [e j hj, a2] at this
    cases this
  · exact q
  · rw [a3 j' q (by omega)] at b2
    cases b2
theorem G.ends (b : BS) {names : List Bs} {ex : Bs} {sc : Int} (h : hasB b names sc = true) (hn : NoTab names) (hx : ∀ n, S6.amongL names n = true → S6.isL 8 n = false ∨ n = ex) : G b (upToB (impliedB b ex) names) := by
  have e : (upToB (impliedB b ex) names).e = b.e := by unfold upToB; split <;> rfl
  intro he
  have h0 : b.e = 0 := by rw [← e]; exact he
  refine ⟨h0, fun i => ?_⟩
  obtain ⟨i1, s1, r1, f1⟩ := (G.implied b ex h0).2 i
  have g := upTo_cut (impliedB b ex) names fun i' j' hj' => by
    obtain ⟨j, hj, hs⟩ := safe_has i hn h
    have hlt := left_last b ex names hx hj
    obtain rfl : j' = j := last_take _ b.op (left_spec _ _ _).1 hj hlt hj'
    intro k o hk ho
    have ho : (b.op.take (S6.leftO ⟨ex.toArray⟩ (vs b.op) b.op.length))[k]? = some o := ho
    rw [take_at] at ho
    split at ho
    · exact hs k o hk ho
    · cases ho
  obtain ⟨i2, s2, r2, f2⟩ := (g he).2 i1
  exact ⟨i2, s2.trans s1, r2.trans r1, f2.trans f1⟩
end Go.Proofs.YtpppdfjdngmaoaaGreatDoor
namespace Go.Proofs.YtpppdfjdngmaoaaGreatDoor
open S5 (ND TR kidsAt nodeAt parentN appendL beforeL moveL addL withinL newL setK outL)
open S4 (Tok nextR)
abbrev FL := List (Nat × ND)
def depF (F : FL) (i : Nat) : Nat := ((F[i]?).map (·.1)).getD 0
def ndF (F : FL) (i : Nat) : ND := ((F[i]?).map (·.2)).getD {}
def kidF (F : FL) (i j : Nat) : Bool := decide (i < j) && ((depF F j == depF F i + 1) && (List.range j).all fun k => decide (k ≤ i) || decide (depF F i < depF F k))
def kidsF (F : FL) (i : Nat) : List Nat := (List.range F.length).filter (kidF F i)
def layF (F : FL) : TR := (List.range F.length).map fun i => (ndF F i, kidsF F i)
def RightF (F : FL) (c : Nat) : Prop := c < F.length ∧ ∀ j, c < j → j < F.length → depF F c < depF F j
theorem dep_app (F : FL) (x : Nat × ND) (i : Nat) (h : i < F.length) : depF (F ++ [x]) i = depF F i := by unfold depF; rw [List.getElem?_append_left h]
theorem dep_new (F : FL) (x : Nat × ND) : depF (F ++ [x]) F.length = x.1 := by unfold depF; simp
theorem nd_app (F : FL) (x : Nat × ND) (i : Nat) (h : i < F.length) : ndF (F ++ [x]) i = ndF F i := by unfold ndF; rw [List.getElem?_append_left h]
theorem nd_new (F : FL) (x : Nat × ND) : ndF (F ++ [x]) F.length = x.2 := by unfold ndF; simp
end Go.Proofs.YtpppdfjdngmaoaaGreatDoor
namespace Go.Proofs.YtpppdfjdngmaoaaGreatDoor
open S5 (ND TR kidsAt nodeAt parentN appendL beforeL moveL addL withinL newL setK outL)
open S4 (Tok nextR)
def divN : Bs := [100, 105, 118]
def spanN : Bs := [115, 112, 97, 110]
def opsF (ps : List (Nat × Bs)) : List OM := rootO :: ps.map fun p => ⟨p.1, 0, p.2⟩
def stB (F : FL) (ps : List (Nat × Bs)) : BS := { T := layF F, op := opsF ps }
structure OkF (F : FL) (ps : List (Nat × Bs)) : Prop where
  root : RightF F 0 ∧ depF F 0 = 0 ∧ (ndF F 0).kind ≠ 2
  path : ∀ i (h : i < ps.length), RightF F ps[i].1 ∧ depF F ps[i].1 = i + 1 ∧ (ndF F ps[i].1).kind ≠ 2
  nm : ∀ p ∈ ps, p.2 = divN ∨ p.2 = spanN
  txt : ∀ i, i + 1 < F.length → (ndF F i).kind = 2 → depF F (i + 1) ≤ depF F i
def curN (ps : List (Nat × Bs)) : Nat := ((ps.getLast?).map (·.1)).getD 0
theorem cur_id (F : FL) (ps : List (Nat × Bs)) : (curB (stB F ps)).id = curN ps ∧ (curB (stB F ps)).sp = 0 := by
  unfold curB stB opsF curN
  cases h : ps.getLast? with
  | none =>
    obtain rfl := List.getLast?_eq_none_iff.1 h
    exact ⟨rfl, rfl⟩
  | some p =>
    simp only []
    rw [List.getLast?_cons, List.getLast?_map, h]
    exact ⟨rfl, rfl⟩
theorem OkF.cur {F : FL} {ps : List (Nat × Bs)} (h : OkF F ps) : RightF F (curN ps) ∧ depF F (curN ps) = ps.length ∧ (ndF F (curN ps)).kind ≠ 2 := by
  unfold curN
  cases hl : ps.getLast? with
  | none =>
    obtain rfl := List.getLast?_eq_none_iff.1 hl
    exact h.root
  | some p =>
    rw [List.getLast?_eq_getElem?] at hl
    obtain ⟨h1, h2⟩ := List.getElem?_eq_some_iff.1 hl
    have := h.path _ h1
    rw [h2] at this
    simp only [Option.map_some, Option.getD_some]
    exact ⟨this.1, by rw [this.2.1]; omega, this.2.2⟩
theorem OkF.pos {F : FL} {ps : List (Nat × Bs)} (h : OkF F ps) : 0 < F.length := by have := h.root.1.1; omega
theorem OkF.more {F : FL} {ps : List (Nat × Bs)} (h : OkF F ps) (d : ND) : OkF (F ++ [(ps.length + 1, d)]) ps := by
  have hr : ∀ c, RightF F c → depF F c ≤ ps.length → RightF (F ++ [(ps.length + 1, d)]) c := fun c hc hd => by
    refine ⟨by have := hc.1; simp; omega, fun j hj hl => ?_⟩
    rw [dep_app F _ c hc.1]
    rcases Nat.lt_or_ge j F.length with h1 | h1
    · rw [dep_app F _ j h1]
      exact hc.2 j hj h1
    · obtain rfl : j = F.length := by simp at hl; omega
      rw [dep_new]
      simp only []
      omega
  refine ⟨⟨hr 0 h.root.1 (by rw [h.root.2.1]; omega), ?_, ?_⟩, fun i hi => ?_, h.nm, fun i hi hk => ?_⟩
  · rw [dep_app F _ 0 h.pos]; exact h.root.2.1
  · rw [nd_app F _ 0 h.pos]; exact h.root.2.2
  · obtain ⟨h1, h2, h3⟩ := h.path i hi
    exact ⟨hr _ h1 (by omega), by rw [dep_app F _ _ h1.1]; exact h2, by rw [nd_app F _ _ h1.1]; exact h3⟩
  · rw [List.length_append, List.length_singleton] at hi
    have hi2 : i < F.length := by omega
    rw [nd_app F _ i hi2] at hk
    rw [dep_app F _ i hi2]
    rcases Nat.lt_or_ge (i + 1) F.length with h1 | h1
    · rw [dep_app F _ _ h1]
      exact h.txt i h1 hk
    · have e : i + 1 = F.length := by omega
      rw [e, dep_new]
      simp only []
      obtain ⟨c1, c2, c3⟩ := h.cur
      rcases Nat.lt_or_ge (curN ps) i with hc | hc
      · have := c1.2 i hc hi2
        omega
      · have : curN ps = i := by have := c1.1; omega
        rw [this] at c3
        exact absurd hk c3
theorem OkF.push {F : FL} {ps : List (Nat × Bs)} (h : OkF F ps) (nm : Bs) (hn : nm = divN ∨ nm = spanN) : OkF (F ++ [(ps.length + 1, { kind := 1, name := nm })]) (ps ++ [(F.length, nm)]) := by
  have hm := h.more { kind := 1, name := nm }
  refine ⟨hm.root, fun i hi => ?_, fun p hp => ?_, hm.txt⟩
  · rw [List.length_append, List.length_singleton] at hi
    rcases Nat.lt_or_ge i ps.length with h1 | h1
    · simp only [List.getElem_append_left h1]
      exact hm.path i h1
    · obtain rfl : i = ps.length := by omega
      simp only [List.getElem_append_right (Nat.le_refl _), Nat.sub_self, List.getElem_cons_zero]
      refine ⟨⟨by simp, fun j hj hl => ?_⟩, by rw [dep_new], ?_⟩
      · simp at hl
        omega
      · rw [nd_new]
        simp
  · rcases List.mem_append.1 hp with hp | hp
    · exact h.nm p hp
    · obtain rfl := List.mem_singleton.1 hp
      exact hn
theorem OkF.pop {F : FL} {ps : List (Nat × Bs)} {p : Nat × Bs} (h : OkF F (ps ++ [p])) : OkF F ps := by
  refine ⟨h.root, fun i hi => ?_, fun q hq => h.nm q (by simp [hq]), h.txt⟩
  have := h.path i (by simp; omega)
  simp only [List.getElem_append_left hi] at this
  exact this
end Go.Proofs.YtpppdfjdngmaoaaGreatDoor
namespace Go.Proofs.YtpppdfjdngmaoaaGreatDoor
open S5 (ND TR kidsAt nodeAt parentN appendL beforeL moveL addL withinL newL setK outL)
open S4 (Tok nextR)
def startOf (nm : Bs) : Tok := { kind := 2, name := nm }
end Go.Proofs.YtpppdfjdngmaoaaGreatDoor
namespace Go.Proofs.YtpppdfjdngmaoaaGreatDoor
open S5 (ND TR WF kidsAt nodeAt parentN appendL beforeL moveL addL withinL newL outL setK aheadL pushL)
open S4 (Tok nextR)
theorem among_all {L : List Bs} {P : Bs → Bool} (h : L.all P = true) {n : Bs} (hn : S6.amongL L n = true) : P n = true := by
  unfold S6.amongL at hn
  obtain ⟨x, hx, e⟩ := List.any_eq_true.1 hn
  obtain rfl : n = x := by simpa using e
  exact List.all_eq_true.1 h n hx
def goodN (n : Bs) : Bool := !n.isEmpty && (!(S6.isL 1 n) && (!(S6.amongL S6.tableN n) && !(S6.amongL tabA n)))
theorem good_all {n : Bs} (h : goodN n = true) : n ≠ [] ∧ S6.isL 1 n = false ∧ FreeN n ∧ S6.amongL tabA n = false := by
  unfold goodN at h
  simp only [Bool.and_eq_true, Bool.not_eq_true'] at h
  exact ⟨by intro e; rw [e] at h; exact absurd h.1 (by decide), h.2.1, fits_part h.2.2.1, h.2.2.2⟩
theorem format_good {n : Bs} (h : S6.amongL S6.formatN n = true) : goodN n = true := among_all (by decide) h
theorem among_one (a n : Bs) : S6.amongL [a] n = true ↔ n = a := by simp [S6.amongL]
theorem noTab_one {a : Bs} (h : S6.amongL tabA a = false) : NoTab [a] := fun n hn => by rw [(among_one a n).1 hn]; exact h
theorem noTab_all {L : List Bs} (h : (L.all fun n => !(S6.amongL tabA n)) = true) : NoTab L := fun n hn => by simpa using among_all (P := fun n => !(S6.amongL tabA n)) h hn
theorem G.ends_at (b : BS) {names : List Bs} {ex : Bs} (h : Inv b → ∃ j, S6.lastO (S6.namedL names) (vs b.op) b.op.length = some j ∧ Safe b.op j) (hx : ∀ n, S6.amongL names n = true → S6.isL 8 n = false ∨ n = ex) : G b (upToB (impliedB b ex) names) := by
  have e : (upToB (impliedB b ex) names).e = b.e := by unfold upToB; split <;> rfl
  intro he
  have h0 : b.e = 0 := by rw [← e]; exact he
  refine ⟨h0, fun i => ?_⟩
  obtain ⟨i1, s1, r1, f1⟩ := (G.implied b ex h0).2 i
  have g := upTo_cut (impliedB b ex) names fun i' j' hj' => by
    obtain ⟨j, hj, hs⟩ := h i
    have hlt := left_last b ex names hx hj
    obtain rfl : j' = j := last_take _ b.op (left_spec _ _ _).1 hj hlt hj'
    intro k o hk ho
    have ho : (b.op.take (S6.leftO ⟨ex.toArray⟩ (vs b.op) b.op.length))[k]? = some o := ho
    rw [take_at] at ho
    split at ho
    · exact hs k o hk ho
    · cases ho
  obtain ⟨i2, s2, r2, f2⟩ := (g he).2 i1
  exact ⟨i2, s2.trans s1, r2.trans r1, f2.trans f1⟩
theorem G.closeP (b : BS) : G b (closePB b) := by
  unfold closePB
  split
  · rename_i h
    exact G.ends b h (noTab_one (by decide)) fun n hn => Or.inr ((among_one _ _).1 hn)
  · exact G.refl b
theorem G.endsB (b : BS) {names : List Bs} {ex : Bs} {sc : Int} (hn : NoTab names) (hx : ∀ n, S6.amongL names n = true → S6.isL 8 n = false ∨ n = ex) : G b (endsB b names ex sc) := by
  unfold Go.Proofs.YtpppdfjdngmaoaaGreatDoor.endsB
  split
  · rename_i h
    exact G.ends b h hn hx
  · exact G.refl b
theorem special_tab {o : OM} (h : tabO o = true) : S6.specialL o.v = true := by
  unfold tabO at h
  simp only [Bool.and_eq_true] at h
  have k : S6.isL 4 o.nm = true := among_all (L := tabA) (P := fun n => S6.isL 4 n) (by decide) h.2
  unfold S6.specialL S6.htmlL OM.v
  simp only []
  rw [h.1, k]
  rfl
theorem plain_tab {o : OM} (h : S6.specialL o.v = false) : tabO o = false := by
  cases ht : tabO o with
  | false => rfl
  | true => rw [special_tab ht] at h; cases h
theorem Safe.step {l : List OM} {k : Nat} {o : OM} (h : Safe l (k + 1)) (ho : l[k]? = some o) (ht : tabO o = false) : Safe l k := by
  intro i x hi hx
  rcases Nat.eq_or_lt_of_le hi with q | q
  · subst q
    rw [ho] at hx
    obtain rfl : o = x := Option.some.inj hx
    exact ht
  · exact h i x q hx
theorem Safe.out (l : List OM) {k : Nat} (h : l.length ≤ k) : Safe l k := by
  intro i o hi ho
  rw [List.getElem?_eq_none (by omega)] at ho
  cases ho
theorem G.otherK (name : Bs) (b : BS) (hn : ∀ o ∈ b.op, isO o [name] = true → tabO o = false) : ∀ k, Safe b.op (k + 1) → G b (otherK name b k)
  | 0, _ => G.refl b
  | k + 1, hs => by
    rw [Go.Proofs.YtpppdfjdngmaoaaGreatDoor.otherK]
    split
    · exact G.refl b
    · rename_i o ho
      split
      · rename_i h1
        exact G.cut b _ fun i => ⟨by omega, hs.step ho (hn o (List.mem_of_getElem? ho) h1)⟩
      · split
        · exact G.refl b
        · rename_i h2
          exact G.otherK name b hn k (hs.step ho (plain_tab (Bool.eq_false_iff.2 h2)))
theorem G.other' (b : BS) (name : Bs) (hn : ∀ o ∈ b.op, isO o [name] = true → tabO o = false) : G b (otherB b name) := G.otherK name b hn _ (Safe.out _ (by omega))
theorem G.other (b : BS) {name : Bs} (hn : S6.amongL tabA name = false) : G b (otherB b name) := G.other' b name fun o _ h => (noTab_one hn).o h
theorem last_found (p : S6.OV → Bool) (l : List S6.OV) : ∀ (k i : Nat), i < k → (l[i]?).any p = true → ∃ j, S6.lastO p l k = some j ∧ i ≤ j
  | 0, i, h, _ => by omega
  | k + 1, i, h, hp => by
    rw [S6.lastO]
    split
    · exact ⟨k, rfl, by omega⟩
    · rename_i c
      refine last_found p l k i ?_ hp
      rcases Nat.eq_or_lt_of_le (Nat.le_of_lt_succ h) with q | q
      · subst q; exact absurd hp c
      · exact q
theorem Safe.mono {l : List OM} {i j : Nat} (h : Safe l i) (hij : i ≤ j) : Safe l j := fun k o hk ho => h k o (by omega) ho
theorem G.listedK (names : List Bs) (hn : NoTab names) (b : BS) : ∀ k, Safe b.op (k + 1) → G b (listedK names b k)
  | 0, _ => G.refl b
  | k + 1, hs => by
    rw [Go.Proofs.YtpppdfjdngmaoaaGreatDoor.listedK]
    split
    · exact G.refl b
    · rename_i o ho
      split
      · rename_i h1
        refine G.ends_at b (fun _ => ?_) fun n e => Or.inr ((among_one _ _).1 e)
        have hlt := (List.getElem?_eq_some_iff.1 ho).1
        obtain ⟨j, h2, h3⟩ := last_found (S6.namedL [o.nm]) (vs b.op) b.op.length (k + 1) hlt (by
          rw [any_v, ho]
          show S6.namedL [o.nm] o.v = true
          rw [v_named]
          unfold isO at h1 ⊢
          simp only [Bool.and_eq_true] at h1 ⊢
          exact ⟨h1.1, by simp [S6.amongL]⟩)
        exact ⟨j, h2, (hs.step ho (hn.o h1)).mono h3⟩
      · split
        · exact G.refl b
        · rename_i h0 h2
          refine G.listedK names hn b k (hs.step ho ?_)
          cases ht : tabO o with
          | false => rfl
          | true =>
            rw [special_tab ht] at h2
            simp at h2
            unfold tabO at ht
            unfold isO at h2
            simp only [Bool.and_eq_true] at h2 ht
            have := among_all (L := [[97, 100, 100, 114, 101, 115, 115], [100, 105, 118], [112]]) (P := fun n => !(S6.amongL tabA n)) (by decide) h2.2
            rw [ht.2] at this
            cases this
theorem G.listed (b : BS) {names : List Bs} (hn : NoTab names) : G b (Go.Proofs.YtpppdfjdngmaoaaGreatDoor.listedK names b (b.op.length - 1)) := G.listedK names hn b _ (Safe.out _ (by omega))
theorem mark_form {T : TR} {m : MM} (h : MarkOk T m) (h0 : m.id ≠ 0) : 1 ≤ m.id ∧ m.id < T.length ∧ (nodeAt T m.id).kind = 1 ∧ (nodeAt T m.id).space = 0 ∧ (nodeAt T m.id).name = m.nm ∧ S6.amongL S6.formatN m.nm = true := by
  rcases h with h | h
  · exact absurd h.1 h0
  · exact h
theorem G.renewK : ∀ (k i : Nat) (b : BS), (∀ j m, i ≤ j → b.mr[j]? = some m → m.id ≠ 0) → G b (renewK k i b)
  | 0, _, b, _ => G.refl b
  | k + 1, i, b, h => by
    rw [Go.Proofs.YtpppdfjdngmaoaaGreatDoor.renewK]
    split
    · exact G.refl b
    · split
      · exact G.refl b
      · rename_i m hm
        have hid := h i m (Nat.le_refl _) hm
        cases hi : insertB b 0 m.nm m.aa with
        | mk b' n =>
        cases n with
        | none =>
          intro he
          exact absurd he (insert_none hi)
        | some n =>
          simp only []
          obtain ⟨e0, e1, e2, e3, e4, e5, kk⟩ := insert_some hi
          have step : G b { b' with mr := b'.mr.set i ⟨n, m.nm, m.aa⟩ } := by
            intro _
            refine ⟨e0, fun iv => ?_⟩
            obtain ⟨q1, q2, q3, q4, q5, q6⟩ := mark_form (iv.m m (List.mem_of_getElem? hm)) hid
            obtain ⟨g1, g2, g3, g4⟩ := good_all (format_good q6)
            have iv' := insert_inv hi iv g1 (fun _ => g2) (Or.inl fun _ => g3)
            obtain ⟨k1, k2, k3, k4, k5, k6, k7⟩ := kk iv g1 (Or.inl fun _ => g3)
            refine ⟨⟨iv'.t, iv'.o, ?_⟩, ?_, e4, e5, k2⟩
            · intro x hx
              rcases List.mem_or_eq_of_mem_set hx with a | a
              · exact iv'.m x a
              · subst a
                exact Or.inr ⟨k3, k4, k5, k6, k7, q6⟩
            · show sk b'.op = _
              rw [e2, sk_app]
              unfold tabO
              simp [g4]
          refine step.trans (G.renewK k (i + 1) _ ?_)
          intro j x hj hx
          have hx : (b'.mr.set i ⟨n, m.nm, m.aa⟩)[j]? = some x := hx
          rw [List.getElem?_set_ne (by omega), e3] at hx
          exact h j x (by omega) hx
theorem behind_miss_all (p : S7.MV → Bool) (l : List S7.MV) : ∀ k, ∀ j, S7.behindG p l k ≤ j → j < k → (l[j]?).any p = false
  | 0, j, _, h => by omega
  | k + 1, j, h1, h2 => by
    rw [S7.behindG] at h1
    split at h1
    · omega
    · rename_i c
      rcases Nat.lt_or_ge j k with q | q
      · exact behind_miss_all p l k j h1 q
      · rw [show j = k from by omega]
        exact Bool.eq_false_iff.2 c
theorem G.renew (b : BS) : G b (renewB b) := by
  refine G.renewK _ _ b ?_
  intro j m hj hm
  have hlt := (List.getElem?_eq_some_iff.1 hm).1
  have := behind_miss_all _ (ms b.mr) (ms b.mr).length j hj (by simp [ms]; exact hlt)
  simp only [ms, List.getElem?_map, hm, Option.map_some, Option.any_some] at this
  unfold S7.stopM at this
  simp [MM.v] at this
  omega
theorem pushM_mem {l : List MM} {m x : MM} (h : x ∈ pushM l m) : x ∈ l ∨ x = m := by
  unfold pushM at h
  obtain ⟨y, hy, rfl⟩ := List.mem_map.1 h
  rcases push_mem _ _ _ hy with a | a
  · obtain ⟨z, hz, rfl⟩ := List.mem_map.1 a
    rw [of_v]
    exact Or.inl hz
  · rw [a, of_v]
    exact Or.inr rfl
theorem clearM_mem {l : List MM} {x : MM} (h : x ∈ clearM l) : x ∈ l := by
  unfold clearM at h
  obtain ⟨y, hy, rfl⟩ := List.mem_map.1 h
  obtain ⟨z, hz, rfl⟩ := List.mem_map.1 (List.mem_of_mem_take hy)
  rw [of_v]
  exact hz
theorem G.marker (b : BS) : G b (markerB b) := G.marks b _ fun i m hm => by
  rcases pushM_mem hm with a | a
  · exact i.m m a
  · subst a
    exact Or.inl ⟨rfl, rfl⟩
theorem G.clear (b : BS) : G b { b with mr := clearM b.mr } := G.marks b _ fun i m hm => i.m m (clearM_mem hm)
end Go.Proofs.YtpppdfjdngmaoaaGreatDoor
namespace Go.Proofs.YtpppdfjdngmaoaaGreatDoor
open S5 (ND TR WF kidsAt nodeAt parentN appendL beforeL moveL addL withinL newL outL setK aheadL pushL)
open S4 (Tok nextR)
theorem findM_some {l : List MM} {id j : Nat} (h : findM l id = some j) : ∃ m, l[j]? = some m ∧ m.id = id := by
  unfold findM at h
  obtain ⟨hj, h1, _⟩ := List.findIdx?_eq_some_iff_getElem.1 h
  exact ⟨l[j], List.getElem?_eq_getElem hj, by simpa using h1⟩
theorem set_get (l : List OM) (k : Nat) (x : OM) (i : Nat) : (l.set k x)[i]? = if k = i ∧ i < l.length then some x else l[i]? := by
  rw [List.getElem?_set]
  by_cases h : k = i
  · subst h
    by_cases h2 : k < l.length
    · simp [h2]
    · simp [h2]
  · simp [h]
theorem set_old {l : List OM} {k : Nat} {o : OM} (ho : l[k]? = some o) (n : Nat) {i : Nat} {a : OM} (h : (l.set k { o with id := n })[i]? = some a) : ∃ a0, l[i]? = some a0 ∧ a0.sp = a.sp ∧ a0.nm = a.nm ∧ (i ≠ k → a0 = a) ∧ (i = k → a = { o with id := n }) := by
  rw [set_get] at h
  split at h
  · rename_i c
    obtain ⟨rfl, _⟩ := c
    obtain rfl : { o with id := n } = a := Option.some.inj h
    exact ⟨o, ho, rfl, rfl, fun e => absurd rfl e, fun _ => rfl⟩
  · rename_i c
    refine ⟨a, h, rfl, rfl, fun _ => rfl, fun e => ?_⟩
    exact absurd ⟨e.symm, (List.getElem?_eq_some_iff.1 h).1⟩ c
theorem OI.set {T : TR} {l : List OM} (h : OI T l) {k : Nat} {o : OM} (hk : 1 ≤ k) (ho : l[k]? = some o) {n : Nat} (ht : Tie T { o with id := n }) : OI T (l.set k { o with id := n }) := by
  refine ⟨?_, ?_, ?_⟩
  · rw [set_get, if_neg (by omega)]; exact h.hd
  · intro i a ha
    obtain ⟨a0, q1, q2, q3, q4, q5⟩ := set_old ho n ha
    by_cases e : i + 1 = k
    · rw [q5 e]; exact ht
    · rw [← q4 e]; exact h.tie i a0 q1
  · intro i a c h1 h2
    obtain ⟨a0, q1, q2, q3, _, _⟩ := set_old ho n h1
    obtain ⟨c0, r1, r2, r3, _, _⟩ := set_old ho n h2
    have := h.adj i a0 c0 q1 r1
    unfold AdjR at this ⊢
    rw [q2, q3, r2, r3] at this
    exact this
theorem tab_id (o : OM) (n : Nat) : tabO { o with id := n } = tabO o := rfl
theorem sk_set {l : List OM} {k : Nat} {o : OM} (ho : l[k]? = some o) (n : Nat) (ht : tabO o = false) : sk (l.set k { o with id := n }) = sk l := by
  obtain ⟨hk, e⟩ := List.getElem?_eq_some_iff.1 ho
  have el : l = l.take k ++ l[k] :: l.drop (k + 1) := by rw [List.getElem_cons_drop, List.take_append_drop]
  rw [List.set_eq_take_append_cons_drop, if_pos hk]
  conv => rhs; rw [el]
  unfold sk
  rw [List.filter_append, List.filter_append, List.filter_cons, List.filter_cons, e, ht, tab_id, ht]
  rfl
theorem Safe.set {l : List OM} {k : Nat} {o : OM} (ho : l[k]? = some o) (n : Nat) {a : Nat} (h : Safe l a) : Safe (l.set k { o with id := n }) a := by
  intro i x hi hx
  obtain ⟨x0, q1, q2, q3, _, _⟩ := set_old ho n hx
  have := h i x0 hi q1
  unfold tabO at this ⊢
  rw [q2, q3] at this
  exact this
theorem Safe.erase {l : List OM} {k a : Nat} (h : Safe l a) : Safe (l.eraseIdx k) a := by
  intro i x hi hx
  rw [erase_at] at hx
  split at hx
  · exact h i x hi hx
  · exact h (i + 1) x (by omega) hx
def LastOk (T : TR) (n : Nat) : Prop := n < T.length ∧ ((nodeAt T n).kind = 1 → (nodeAt T n).space = 0 → FreeN (nodeAt T n).name)
theorem LastOk.ne {T U : TR} {n : Nat} (h : LastOk T n) (e : NE T U) : LastOk U n := by
  obtain ⟨k1, k2, k3⟩ := e.2 n h.1
  refine ⟨Nat.lt_of_lt_of_le h.1 e.1, ?_⟩
  rw [k1, k2, k3]
  exact h.2
theorem LastOk.edge {T : TR} {n : Nat} (h : LastOk T n) {d : ND} (hd : HoldOk d) : EdgeOk d (nodeAt T n) := ⟨hd, fun e1 e2 => h.2 e1 e2 _⟩
theorem between_keep (a block : Nat) (ha : 1 ≤ a) : ∀ (d k last bm : Nat) (b b1 : BS) (l1 bm1 : Nat), betweenK a block d k last bm b = (b1, l1, bm1) → b1.e = 0 → b.e = 0 ∧ (Inv b → Safe b.op a → LastOk b.T last →
    Inv b1 ∧ sk b1.op = sk b.op ∧ b1.rules = b.rules ∧ b1.fost = b.fost ∧ Safe b1.op a ∧ LastOk b1.T l1 ∧ NE b.T b1.T ∧ ∀ i, i ≤ a → b1.op[i]? = b.op[i]?)
  | 0, k, last, bm, b, b1, l1, bm1, h, he => by
    rw [betweenK] at h
    obtain ⟨rfl, h'⟩ := Prod.mk.inj h
    obtain ⟨rfl, rfl⟩ := Prod.mk.inj h'
    exact ⟨he, fun i s l => ⟨i, rfl, rfl, rfl, s, l, NE.refl _, fun _ _ => rfl⟩⟩
  | d + 1, k, last, bm, b, b1, l1, bm1, h, he => by
    rw [betweenK] at h
    split at h
    · rename_i c
      obtain ⟨rfl, h'⟩ := Prod.mk.inj h
      exact absurd he c
    rename_i c0
    have h0 : b.e = 0 := Classical.not_not.1 c0
    refine ⟨h0, ?_⟩
    split at h
    · obtain ⟨rfl, h'⟩ := Prod.mk.inj h
      obtain ⟨rfl, rfl⟩ := Prod.mk.inj h'
      exact fun i s l => ⟨i, rfl, rfl, rfl, s, l, NE.refl _, fun _ _ => rfl⟩
    rename_i o ho
    simp only [] at h
    intro i s l
    have hto : tabO o = false := s (a + d + 1) o (by omega) ho
    -- one that goes
    have goes : ∀ (b0 : BS) (bm' : Nat), b0.T = b.T → b0.op = b.op → b0.rules = b.rules → b0.fost = b.fost → (∀ m ∈ b0.mr, m ∈ b.mr) → betweenK a block d (k + 1) last bm' (shutB b0 (a + d + 1)) = (b1, l1, bm1) →
        Inv b1 ∧ sk b1.op = sk b.op ∧ b1.rules = b.rules ∧ b1.fost = b.fost ∧ Safe b1.op a ∧ LastOk b1.T l1 ∧ NE b.T b1.T ∧ ∀ i, i ≤ a → b1.op[i]? = b.op[i]? := by
      intro b0 bm' e1 e2 e3 e4 e5 hb
      obtain ⟨_, kk⟩ := between_keep a block ha d (k + 1) last bm' _ b1 l1 bm1 hb he
      have i0 : Inv (shutB b0 (a + d + 1)) := by
        refine ⟨?_, ?_, ?_⟩
        · show TI b0.T; rw [e1]; exact i.t
        · show OI b0.T (b0.op.eraseIdx _)
          rw [e1, e2]
          refine i.o.erase (by omega) fun x hx => ?_
          exact s _ x (by omega) hx
        · show ∀ m ∈ b0.mr, MarkOk b0.T m
          rw [e1]
          exact fun m hm => i.m m (e5 m hm)
      obtain ⟨q1, q2, q3, q4, q5, q6, q7, q8⟩ := kk i0 (by show Safe (b0.op.eraseIdx _) a; rw [e2]; exact s.erase) (by show LastOk b0.T last; rw [e1]; exact l)
      refine ⟨q1, ?_, q3.trans e3, q4.trans e4, q5, q6, ?_, ?_⟩
      · rw [q2]
        show sk (b0.op.eraseIdx _) = _
        rw [e2]
        exact sk_erase _ _ fun x hx => s _ x (by omega) hx
      · have q7 : NE b0.T b1.T := q7
        rw [e1] at q7
        exact q7
      · intro z hz
        rw [q8 z hz]
        show (b0.op.eraseIdx _)[z]? = _
        rw [e2, erase_at, if_pos (by omega)]
    by_cases hg : (decide (3 < k) && (findM b.mr o.id).isSome) = true
    · rw [if_pos hg, if_pos hg, if_pos hg] at h
      exact goes (dropMark b ((findM b.mr o.id).getD 0)) _ rfl rfl rfl rfl (fun m hm => List.mem_of_mem_eraseIdx hm) h
    · rw [if_neg hg, if_neg hg, if_neg hg] at h
      cases hj : findM b.mr o.id with
      | none =>
        rw [hj] at h
        exact goes b _ rfl rfl rfl rfl (fun m hm => hm) h
      | some j =>
        rw [hj] at h
        simp only [] at h
        cases hgr : growB b (nodeAt b.T o.id) with
        | mk b2 n =>
        rw [hgr] at h
        cases n with
        | none =>
          simp only [] at h
          obtain ⟨rfl, _⟩ := Prod.mk.inj h
          exact absurd he (grow_none hgr)
        | some n =>
          simp only [] at h
          obtain ⟨_, hl, rfl, rfl⟩ := grow_some hgr
          obtain ⟨m, hm, hmi⟩ := findM_some hj
          have to := i.o.tie (a + d) o ho
          obtain ⟨m1, m2, m3, m4, m5, m6⟩ := mark_form (i.m m (List.mem_of_getElem? hm)) (by have := to.1; omega)
          rw [hmi] at m1 m2 m3 m4 m5
          obtain ⟨g1, g2, g3, g4⟩ := good_all (format_good m6)
          have hN := i.t.node o.id to.1 to.2.1
          have ne : NE b.T (putL (pushL b.T (nodeAt b.T o.id)) b.T.length none last) := (NE.push _ _).trans (NE.put _ _ _ _)
          have nn : nodeAt (putL (pushL b.T (nodeAt b.T o.id)) b.T.length none last) b.T.length = nodeAt b.T o.id := by rw [put_node, node_push, if_pos rfl]
          have nl : b.T.length < (putL (pushL b.T (nodeAt b.T o.id)) b.T.length none last).length := by rw [put_len, push_length]; omega
          have tn : Tie (putL (pushL b.T (nodeAt b.T o.id)) b.T.length none last) { o with id := b.T.length } := by
            refine ⟨by have := i.t.pos; exact this, nl, ?_⟩
            show (nodeAt _ b.T.length).kind = 1 ∧ _
            rw [nn]
            exact to.2.2
          obtain ⟨_, kk⟩ := between_keep a block ha d (k + 1) _ _ _ b1 l1 bm1 h he
          have iN : Inv { b with T := putL (pushL b.T (nodeAt b.T o.id)) b.T.length none last, op := b.op.set (a + d + 1) { o with id := b.T.length }, mr := b.mr.modify j fun x => { x with id := b.T.length } } := by
            refine ⟨?_, ?_, ?_⟩
            · refine (i.t.push hN hl).put (x := none) (by show _ < _; rw [push_length]; omega) (by rw [push_length]; have := l.1; omega) ?_
              refine (l.ne (NE.push b.T _)).edge ?_
              rw [node_push, if_pos rfl]
              exact Or.inr ⟨m3, fun _ => by rw [m5]; exact g2⟩
            · exact (i.o.ne ne).set (by omega) ho tn
            · intro x hx
              show MarkOk (putL (pushL b.T (nodeAt b.T o.id)) b.T.length none last) x
              have hx : x ∈ b.mr.modify j fun x => { x with id := b.T.length } := hx
              obtain ⟨z, hz⟩ := List.mem_iff_getElem?.1 hx
              rw [List.getElem?_modify] at hz
              by_cases hjz : j = z
              · subst hjz
                rw [hm] at hz
                simp at hz
                subst hz
                refine Or.inr ⟨i.t.pos, nl, ?_⟩
                show (nodeAt _ b.T.length).kind = 1 ∧ (nodeAt _ b.T.length).space = 0 ∧ (nodeAt _ b.T.length).name = m.nm ∧ _
                rw [nn]
                exact ⟨m3, m4, m5, m6⟩
              · simp [hjz] at hz
                exact (i.m x (List.mem_of_getElem? hz)).ne ne
          have lN : LastOk (putL (pushL b.T (nodeAt b.T o.id)) b.T.length none last) b.T.length := by
            refine ⟨nl, ?_⟩
            rw [nn, m5]
            exact fun _ _ => g3
          obtain ⟨q1, q2, q3, q4, q5, q6, q7, q8⟩ := kk iN (s.set ho _) lN
          refine ⟨q1, q2.trans (sk_set ho _ hto), q3, q4, q5, q6, ne.trans q7, ?_⟩
          intro z hz
          rw [q8 z hz]
          show (b.op.set (a + d + 1) { o with id := b.T.length })[z]? = b.op[z]?
          rw [set_get, if_neg (by omega)]
end Go.Proofs.YtpppdfjdngmaoaaGreatDoor
