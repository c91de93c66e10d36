import Derived.Test.YtpppdfjdngmaoaaGreatDoorKc30
import Derived.Test.YtpppdfjdngmaoaaGreatDoorKc31
set_option linter.unusedVariables false
set_option linter.unusedSimpArgs false
set_option maxRecDepth 100000
set_option maxHeartbeats 8000000
namespace Go.Proofs.YtpppdfjdngmaoaaGreatDoor
open S5 (ND TR WF kidsAt nodeAt parentN appendL beforeL moveL addL withinL newL outL setK aheadL pushL)
open S4 (Tok nextR)
def AdjL : List OM → Prop
  | a :: c :: r => AdjR a c ∧ AdjL (c :: r)
  | _ => True
theorem adjL_of : ∀ l : List OM, (∀ i a b, l[i]? = some a → l[i + 1]? = some b → AdjR a b) → AdjL l
  | [], _ => trivial
  | [_], _ => trivial
  | a :: c :: r, h => ⟨h 0 a c rfl rfl, adjL_of (c :: r) fun i x y hx hy => h (i + 1) x y hx hy⟩
theorem of_adjL : ∀ l : List OM, AdjL l → ∀ i a b, l[i]? = some a → l[i + 1]? = some b → AdjR a b
  | [], _, i, a, b, h1, _ => by simp at h1
  | [_], _, i, a, b, _, h2 => by simp at h2
  | a :: c :: r, h, 0, x, y, h1, h2 => by
    obtain rfl : a = x := by simpa using h1
    obtain rfl : c = y := by simpa using h2
    exact h.1
  | a :: c :: r, h, i + 1, x, y, h1, h2 => of_adjL (c :: r) h.2 i x y h1 h2
def flatO (z : Nat) (x : OM) (l : List OM) : List OM := l.flatMap fun o => if o.id = z then [o, x] else [o]
theorem flat_cons (z : Nat) (x o : OM) (r : List OM) : flatO z x (o :: r) = o :: ((if o.id = z then [x] else []) ++ flatO z x r) := by
  unfold flatO
  rw [List.flatMap_cons]
  split <;> simp
theorem flat_adj (z : Nat) (x : OM) (hx : x.sp = 0 → FreeN x.nm) : ∀ l : List OM, AdjL l → (∀ o ∈ l, o.id = z → tabO o = false) → AdjL (flatO z x l)
  | [], _, _ => trivial
  | [a], _, _ => by
    rw [flat_cons]
    split
    · exact ⟨FreeN.adj hx, trivial⟩
    · exact trivial
  | a :: c :: r, h, ht => by
    have ih := flat_adj z x hx (c :: r) h.2 fun o ho => ht o (List.mem_cons_of_mem _ ho)
    rw [flat_cons] at ih ⊢
    rw [flat_cons]
    split
    · rename_i e
      exact ⟨FreeN.adj hx, FreeN.adj fun hs => adj_free h.1 (ht a (List.mem_cons_self ..) e) hs, ih⟩
    · exact ⟨h.1, ih⟩
theorem flat_mem (z : Nat) (x o : OM) (l : List OM) (h : o ∈ flatO z x l) : o ∈ l ∨ o = x := by
  unfold flatO at h
  obtain ⟨y, hy, ho⟩ := List.mem_flatMap.1 h
  split at ho
  · simp at ho
    rcases ho with rfl | rfl
    · exact Or.inl hy
    · exact Or.inr rfl
  · simp at ho
    subst ho
    exact Or.inl hy
theorem flat_sk (z : Nat) (x : OM) (hx : tabO x = false) : ∀ l : List OM, sk (flatO z x l) = sk l
  | [] => rfl
  | a :: r => by
    have ih := flat_sk z x hx r
    rw [flat_cons]
    unfold sk at ih ⊢
    rw [List.filter_cons, List.filter_cons, List.filter_append, ih]
    split <;> split <;> simp [hx]
theorem OI.flat {T : TR} {l : List OM} (h : OI T l) {z : Nat} {x : OM} (hz : z ≠ 0) (ht : Tie T x) (hx : x.sp = 0 → FreeN x.nm) (hid : ∀ o ∈ l, o.id = z → tabO o = false) : OI T (flatO z x l) := by
  have ha := of_adjL _ (flat_adj z x hx l (adjL_of l h.adj) hid)
  have hp := h.pos
  rcases l with _ | ⟨r0, r⟩
  · simp at hp
  obtain rfl : r0 = rootO := by have := h.hd; simpa using this
  have hf : flatO z x (rootO :: r) = rootO :: flatO z x r := by
    rw [flat_cons, if_neg (fun e => hz e.symm)]
    rfl
  rw [hf] at ha ⊢
  refine ⟨rfl, ?_, ha⟩
  intro i o ho
  have hm : o ∈ flatO z x r := List.mem_of_getElem? (show (flatO z x r)[i]? = some o from ho)
  rcases flat_mem z x o r hm with a | a
  · obtain ⟨k, hk⟩ := List.mem_iff_getElem?.1 a
    exact h.tie k o hk
  · rw [a]; exact ht
theorem block_spec (l : List OM) (a : Nat) : ∀ (d : Nat) (f r : Option Nat), blockK l a d f = some r → (∀ i, i < d → ∀ o, l[a + i + 1]? = some o → S6.endsL o.v 1 = false) ∧
    ((r = f ∧ ∀ i, i < d → ∀ o, l[a + i + 1]? = some o → S6.specialL o.v = false) ∨ ∃ i o, i < d ∧ l[a + i + 1]? = some o ∧ r = some (a + i + 1))
  | 0, f, r, h => by
    rw [blockK] at h
    exact ⟨fun i hi => by omega, Or.inl ⟨(Option.some.inj h).symm, fun i hi => by omega⟩⟩
  | d + 1, f, r, h => by
    rw [blockK] at h
    cases ho : l[a + d + 1]? with
    | none =>
      rw [ho] at h
      obtain ⟨h1, h2⟩ := block_spec l a d f r h
      have up : ∀ i, i < d + 1 → ∀ o, l[a + i + 1]? = some o → i < d := by
        intro i hi o hx
        rcases Nat.lt_or_ge i d with q | q
        · exact q
        · rw [show i = d from by omega, ho] at hx; cases hx
      refine ⟨fun i hi o hx => h1 i (up i hi o hx) o hx, ?_⟩
      rcases h2 with ⟨e, h2⟩ | ⟨i, o, q1, q2, q3⟩
      · exact Or.inl ⟨e, fun i hi o hx => h2 i (up i hi o hx) o hx⟩
      · exact Or.inr ⟨i, o, by omega, q2, q3⟩
    | some x =>
      rw [ho] at h
      simp only [] at h
      split at h
      · cases h
      · rename_i c1
        obtain ⟨h1, h2⟩ := block_spec l a d _ r h
        refine ⟨?_, ?_⟩
        · intro i hi o hx
          rcases Nat.lt_or_ge i d with q | q
          · exact h1 i q o hx
          · rw [show i = d from by omega, ho] at hx
            obtain rfl : x = o := Option.some.inj hx
            exact Bool.eq_false_iff.2 c1
        · rcases h2 with ⟨e, h2⟩ | ⟨i, o, q1, q2, q3⟩
          · split at e
            · exact Or.inr ⟨d, x, by omega, ho, e⟩
            · rename_i c2
              refine Or.inl ⟨e, fun i hi o hx => ?_⟩
              rcases Nat.lt_or_ge i d with q | q
              · exact h2 i q o hx
              · rw [show i = d from by omega, ho] at hx
                obtain rfl : x = o := Option.some.inj hx
                exact Bool.eq_false_iff.2 c2
          · exact Or.inr ⟨i, o, by omega, q2, q3⟩
theorem tab_in {sp : Int} {nm : Bs} {z : Nat} (h : tabO ⟨z, sp, nm⟩ = false) : S6.amongL tabA (inName sp nm) = false := by
  unfold inName
  split
  · rename_i e
    unfold tabO at h
    simpa [e] using h
  · decide
theorem G.once (b : BS) (f : Nat) (hf : ∀ m, b.mr[f]? = some m → m.nm ≠ []) : G b (adoptOnce b f).1 := by
  unfold adoptOnce
  split
  · exact G.refl b
  rename_i mark hmark
  split
  · exact G.dropMark b f
  rename_i a hla
  obtain ⟨a1, a2, a3⟩ := last_some _ _ _ _ hla
  have hoa : b.op[a]? = some b.op[a] := List.getElem?_eq_getElem a1
  have hid : b.op[a].id = mark.id := by
    rw [any_v, hoa] at a2
    have a2 : (((b.op[a].id : Int)) == (mark.id : Int)) = true := a2
    simp at a2
    omega
  -- what the mark is
  have form : Inv b → 1 ≤ a ∧ tabO b.op[a] = false ∧ 1 ≤ mark.id ∧ mark.id < b.T.length ∧ (nodeAt b.T mark.id).kind = 1 ∧ (nodeAt b.T mark.id).space = 0 ∧ (nodeAt b.T mark.id).name = mark.nm ∧ S6.amongL S6.formatN mark.nm = true := by
    intro i
    have hm0 : mark.id ≠ 0 := by
      intro e
      rcases i.m mark (List.mem_of_getElem? hmark) with q | q
      · exact hf mark hmark q.2
      · omega
    obtain ⟨m1, m2, m3, m4, m5, m6⟩ := mark_form (i.m mark (List.mem_of_getElem? hmark)) hm0
    obtain ⟨g1, g2, g3, g4⟩ := good_all (format_good m6)
    cases a with
    | zero =>
      have e0 := i.o.hd
      rw [hoa] at e0
      have e0 := Option.some.inj e0
      rw [e0] at hid
      exact absurd hid.symm hm0
    | succ a =>
      have ht := i.o.tie a _ hoa
      refine ⟨by omega, ?_, m1, m2, m3, m4, m5, m6⟩
      have e := ht.2.2.2.2.1
      rw [hid, m5] at e
      unfold tabO
      rw [← e, g4]
      simp
  split
  · exact G.refl b
  · rename_i hbk
    obtain ⟨_, hb2⟩ := block_spec _ _ _ _ _ hbk
    refine G.trans (G.cut b a fun i => ⟨(form i).1, ?_⟩) (G.dropMark _ f)
    rcases hb2 with ⟨_, h2⟩ | ⟨i, o, _, _, e⟩
    · intro j o hj ho
      rcases Nat.eq_or_lt_of_le hj with q | q
      · subst q
        rw [hoa] at ho
        rw [← Option.some.inj ho]
        exact (form i).2.1
      · have hlt := (List.getElem?_eq_some_iff.1 ho).1
        refine plain_tab (h2 (j - a - 1) (by omega) o ?_)
        rw [show a + (j - a - 1) + 1 = j from by omega]
        exact ho
    · cases e
  rename_i first hbk
  obtain ⟨hb1, hb2⟩ := block_spec _ _ _ _ _ hbk
  obtain ⟨p, block, hp, hblock, e⟩ : ∃ p o, p < b.op.length - 1 - a ∧ b.op[a + p + 1]? = some o ∧ first = a + p + 1 := by
    rcases hb2 with ⟨e, _⟩ | ⟨i, o, q1, q2, q3⟩
    · cases e
    · exact ⟨i, o, q1, q2, Option.some.inj q3⟩
  subst e
  simp only []
  rw [hblock]
  simp only [Option.getD_some]
  cases hbt : betweenK a block.id (a + p + 1 - 1 - a) 1 block.id f b with
  | mk b1 lb =>
  obtain ⟨last, bm⟩ := lb
  simp only []
  split
  · rename_i c
    intro he
    exact absurd he c
  rename_i c1
  have h1e : b1.e = 0 := Classical.not_not.1 c1
  cases hgr : growB (putB b1 (placeB b1 ((b.op[a - 1]?).getD rootO)).1 (placeB b1 ((b.op[a - 1]?).getD rootO)).2 (some last)) (nodeAt (putB b1 (placeB b1 ((b.op[a - 1]?).getD rootO)).1 (placeB b1 ((b.op[a - 1]?).getD rootO)).2 (some last)).T mark.id) with
  | mk b3 n =>
  cases n with
  | none =>
    intro he
    exact absurd he (grow_none hgr)
  | some n =>
  obtain ⟨_, hl, rfl, rfl⟩ := grow_some hgr
  clear hgr
  simp only []
  intro _
  by_cases hex : b.e = 0
  case neg =>
    exfalso
    rw [Nat.add_sub_cancel] at hbt
    cases p with
    | zero =>
      rw [Nat.add_zero, Nat.sub_self, betweenK] at hbt
      obtain ⟨rfl, _⟩ := Prod.mk.inj hbt
      exact hex h1e
    | succ p =>
      rw [show a + (p + 1) - a = p + 1 from by omega, betweenK, if_pos hex] at hbt
      obtain ⟨rfl, _⟩ := Prod.mk.inj hbt
      exact hex h1e
  refine ⟨hex, fun i => ?_⟩
  obtain ⟨f1, f2, m1, m2, m3, m4, m5, m6⟩ := form i
  obtain ⟨g1, g2, g3, g4⟩ := good_all (format_good m6)
  have safe : Safe b.op a := by
    refine safe_scope (sc := 1) i.o (fun o ho => ?_) fun j o hj ho => ?_
    · rw [hoa] at ho
      rw [← Option.some.inj ho]
      exact f2
    · have hlt := (List.getElem?_eq_some_iff.1 ho).1
      refine hb1 (j - a - 1) (by omega) o ?_
      rw [show a + (j - a - 1) + 1 = j from by omega]
      exact ho
  have tb : Tie b.T block := i.o.tie (a + p) block hblock
  have tabB : tabO block = false := safe _ block (by omega) hblock
  have freeB : block.sp = 0 → FreeN block.nm := by
    have hlt := (List.getElem?_eq_some_iff.1 hblock).1
    have hx : b.op[a + p]? = some (b.op[a + p]'(by omega)) := List.getElem?_eq_getElem (by omega)
    exact adj_free (i.o.adj (a + p) _ block hx hblock) (safe _ _ (by omega) hx)
  have lastB : LastOk b.T block.id := by
    refine ⟨tb.2.1, ?_⟩
    rw [tb.2.2.2.1, tb.2.2.2.2.1]
    exact fun _ e => freeB e
  obtain ⟨_, kk⟩ := between_keep a block.id f1 _ _ _ _ _ _ _ _ hbt h1e
  obtain ⟨i1, s1, r1, t1, safe1, last1, ne1, op1⟩ := kk i safe lastB
  have htg : ((b.op[a - 1]?).getD rootO) ∈ b1.op := by
    have hx : b.op[a - 1]? = some (b.op[a - 1]'(by omega)) := List.getElem?_eq_getElem (by omega)
    rw [hx]
    rw [← op1 (a - 1) (by omega)] at hx
    exact List.mem_of_getElem? hx
  obtain ⟨p1, p2⟩ := place_ok i1 htg
  generalize (placeB b1 ((b.op[a - 1]?).getD rootO)).1 = q at p1 p2 hl ⊢
  generalize (placeB b1 ((b.op[a - 1]?).getD rootO)).2 = y at p1 p2 hl ⊢
  have T2 : TI (putL b1.T q y last) := i1.t.put p1 last1.1 (last1.edge p2)
  have ne2 : NE b.T (putL b1.T q y last) := ne1.trans (NE.put _ _ _ _)
  have hl : (putL b1.T q y last).length < 2000 := hl
  suffices X : Inv { b1 with T := putL (moveK (putL b1.T q y last).length (kidsAt (pushL (putL b1.T q y last) (nodeAt (putL b1.T q y last) mark.id)) block.id) (pushL (putL b1.T q y last) (nodeAt (putL b1.T q y last) mark.id))) block.id none (putL b1.T q y last).length, mr := (b1.mr.eraseIdx ((findM b1.mr mark.id).getD 0)).take (lessIf ((findM b1.mr mark.id).getD 0) bm) ++ ⟨(putL b1.T q y last).length, mark.nm, mark.aa⟩ :: (b1.mr.eraseIdx ((findM b1.mr mark.id).getD 0)).drop (lessIf ((findM b1.mr mark.id).getD 0) bm), op := flatO block.id ⟨(putL b1.T q y last).length, 0, mark.nm⟩ (b1.op.eraseIdx a) } ∧ sk (flatO block.id ⟨(putL b1.T q y last).length, 0, mark.nm⟩ (b1.op.eraseIdx a)) = sk b.op ∧ NE b.T (putL (moveK (putL b1.T q y last).length (kidsAt (pushL (putL b1.T q y last) (nodeAt (putL b1.T q y last) mark.id)) block.id) (pushL (putL b1.T q y last) (nodeAt (putL b1.T q y last) mark.id))) block.id none (putL b1.T q y last).length) from ⟨X.1, X.2.1, r1, t1, X.2.2⟩
  have neU : NE b1.T (putL b1.T q y last) := NE.put _ _ _ _
  generalize putL b1.T q y last = U at T2 ne2 hl neU ⊢
  obtain ⟨d1, d2, d3⟩ := ne2.2 mark.id m2
  rw [m3] at d1
  rw [m4] at d2
  rw [m5] at d3
  have hU : mark.id < U.length := Nat.lt_of_lt_of_le m2 ne2.1
  have hN : NodeOk (nodeAt U mark.id) := T2.node mark.id m1 hU
  generalize nodeAt U mark.id = d at d1 d2 d3 hN ⊢
  have T3 : TI (pushL U d) := T2.push hN hl
  have ne3 : NE b.T (pushL U d) := ne2.trans (NE.push _ _)
  have nd : nodeAt (pushL U d) U.length = d := by rw [node_push, if_pos rfl]
  have lenV : U.length < (pushL U d).length := by rw [push_length]; omega
  have ne13 : NE b1.T (pushL U d) := neU.trans (NE.push _ _)
  have tbV : Tie (pushL U d) block := tb.ne ne3
  have holdD : HoldOk d := Or.inr ⟨d1, fun _ => by rw [d3]; exact g2⟩
  generalize hV : pushL U d = V at T3 ne3 nd lenV tbV ne13 ⊢
  have T4 : TI (moveK U.length (kidsAt V block.id) V) := by
    refine TI.moveK _ T3 lenV fun c hc => ⟨(T3.wf.inb _ _ hc).2, ?_⟩
    rw [nd]
    refine ⟨holdD, fun k1 k2 => ?_⟩
    have e := (T3.edge _ c hc).2 k1 k2
    rw [tbV.2.2.2.1, tbV.2.2.2.2.1] at e
    rcases fits_cases e with q | q
    · exact q _
    · rw [tab_in (z := block.id) tabB] at q
      cases q
  have T5 : TI (putL (moveK U.length (kidsAt V block.id) V) block.id none U.length) := by
    refine T4.put (x := none) (by show _ < _; rw [move_len]; exact tbV.2.1) (by rw [move_len]; exact lenV) ?_
    rw [move_node, move_node, nd]
    refine ⟨Or.inr ⟨tbV.2.2.1, ?_⟩, fun _ _ => by rw [d3]; exact g3 _⟩
    rw [tbV.2.2.2.1, tbV.2.2.2.2.1]
    exact tbV.2.2.2.2.2
  have ne5 : NE V (putL (moveK U.length (kidsAt V block.id) V) block.id none U.length) := by
    refine ⟨by rw [put_len, move_len]; exact Nat.le_refl _, fun j hj => ?_⟩
    rw [put_node, move_node]
    exact ⟨rfl, rfl, rfl⟩
  have nodeN : nodeAt (putL (moveK U.length (kidsAt V block.id) V) block.id none U.length) U.length = d := by rw [put_node, move_node, nd]
  have lenN : U.length < (putL (moveK U.length (kidsAt V block.id) V) block.id none U.length).length := by rw [put_len, move_len]; exact lenV
  generalize hW : putL (moveK U.length (kidsAt V block.id) V) block.id none U.length = W at T5 ne5 nodeN lenN ⊢
  have posU : 1 ≤ U.length := T2.pos
  have neW : NE b1.T W := ne13.trans ne5
  have oie : OI W (b1.op.eraseIdx a) := (i1.o.ne neW).erase f1 fun o ho => by
    rw [op1 a (Nat.le_refl _), hoa] at ho
    rw [← Option.some.inj ho]
    exact f2
  have tN : Tie W ⟨U.length, 0, mark.nm⟩ := by
    refine ⟨posU, lenN, ?_⟩
    show (nodeAt W U.length).kind = 1 ∧ (nodeAt W U.length).space = 0 ∧ (nodeAt W U.length).name = mark.nm ∧ _
    rw [nodeN]
    exact ⟨d1, d2, d3, fun _ => g2⟩
  have tbW : Tie W block := tb.ne (ne1.trans neW)
  have hid2 : ∀ o ∈ b1.op.eraseIdx a, o.id = block.id → tabO o = false := by
    intro o ho e
    obtain ⟨j, hj⟩ := List.mem_iff_getElem?.1 ho
    cases j with
    | zero =>
      rw [oie.hd] at hj
      have hj := Option.some.inj hj
      rw [← hj] at e
      have e : 0 = block.id := e
      have := tb.1
      omega
    | succ j =>
      have to := oie.tie j o hj
      have e1 := to.2.2.2.1
      have e2 := to.2.2.2.2.1
      rw [e, tbW.2.2.2.1] at e1
      rw [e, tbW.2.2.2.2.1] at e2
      unfold tabO at tabB ⊢
      rw [← e1, ← e2]
      exact tabB
  have tabN : tabO ⟨U.length, 0, mark.nm⟩ = false := by
    unfold tabO
    simp [g4]
  refine ⟨⟨T5, oie.flat (by have := tb.1; omega) tN (fun _ => g3) hid2, ?_⟩, ?_, ne1.trans neW⟩
  · intro m hm
    have old : ∀ x ∈ b1.mr.eraseIdx ((findM b1.mr mark.id).getD 0), MarkOk W x := fun x hx => (i1.m x (List.mem_of_mem_eraseIdx hx)).ne neW
    rcases List.mem_append.1 hm with h | h
    · exact old m (List.mem_of_mem_take h)
    · rcases List.mem_cons.1 h with h | h
      · subst h
        refine Or.inr ⟨posU, lenN, ?_⟩
        show (nodeAt W U.length).kind = 1 ∧ (nodeAt W U.length).space = 0 ∧ (nodeAt W U.length).name = mark.nm ∧ _
        rw [nodeN]
        exact ⟨d1, d2, d3, m6⟩
      · exact old m (List.mem_of_mem_drop h)
  · rw [flat_sk _ _ tabN, sk_erase, s1]
    intro o ho
    rw [op1 a (Nat.le_refl _), hoa] at ho
    rw [← Option.some.inj ho]
    exact f2
theorem last_name {l : List MM} {n : Bs} (h : ¬ lastM l n < 0) {m : MM} (hm : l[(lastM l n).toNat]? = some m) : m.nm = n := by
  have key : ∀ k j, S7.lastG (S7.nameM ⟨n.toArray⟩) (ms l) k = some j → (((ms l)[j]?).any (S7.nameM ⟨n.toArray⟩)) = true := by
    intro k
    induction k with
    | zero => intro j h; cases h
    | succ k ih =>
      intro j h
      rw [S7.lastG] at h
      split at h
      · rename_i c
        obtain rfl : k = j := Option.some.inj h
        exact c
      · exact ih j h
  unfold lastM S7.lastZ at h hm
  cases hg : S7.lastG (S7.nameM ⟨n.toArray⟩) (ms l) (ms l).length with
  | none =>
    rw [hg] at h
    exact absurd (show (-1 : Int) < 0 by decide) h
  | some j =>
    rw [hg] at h hm
    unfold S7.lastOf at h hm
    simp only [] at h hm
    split at h
    · rename_i c
      rw [if_pos c] at hm
      have k := key _ j hg
      rw [show ((j : Int)).toNat = j from by omega] at hm
      simp only [ms, List.getElem?_map, hm, Option.map_some, Option.any_some] at k
      simpa [S7.nameM, MM.v] using k
    · exact absurd (show (-1 : Int) < 0 by decide) h
theorem G.adoptK {name : Bs} (h1 : name ≠ []) (h2 : S6.amongL tabA name = false) : ∀ (k : Nat) (b : BS), G b (adoptK name k b)
  | 0, b => G.refl b
  | k + 1, b => by
    rw [Go.Proofs.YtpppdfjdngmaoaaGreatDoor.adoptK]
    split
    · exact G.refl b
    · split
      · exact G.other b h2
      · rename_i hl
        have g := G.once b (lastM b.mr name).toNat fun m hm => by rw [last_name hl hm]; exact h1
        cases hx : adoptOnce b (lastM b.mr name).toNat with
        | mk b' more =>
          rw [hx] at g
          cases more with
          | false => exact g
          | true => exact g.trans (G.adoptK h1 h2 k b')
theorem G.adopt (b : BS) {name : Bs} (h1 : name ≠ []) (h2 : S6.amongL tabA name = false) : G b (adoptB b name) := by
  unfold adoptB
  split
  · rename_i h
    simp only [Bool.and_eq_true] at h
    exact G.pop b fun _ _ => (noTab_one h2).o h.1
  · exact G.adoptK h1 h2 8 b
end Go.Proofs.YtpppdfjdngmaoaaGreatDoor
namespace Go.Proofs.YtpppdfjdngmaoaaGreatDoor
open S4 (Tok nextR)
theorem among_sub (a b : List Bs) (h : (a.all fun n => S6.amongL b n) = true) {n : Bs} (hn : S6.amongL a n = true) : S6.amongL b n = true := by
  unfold S6.amongL at hn
  obtain ⟨x, hx, e⟩ := List.any_eq_true.1 hn
  obtain rfl : n = x := by simpa using e
  exact List.all_eq_true.1 h n hx
theorem mo_grow (b : BS) (d : S5.ND) : (growB b d).1.mode = b.mode := by unfold growB; split; rfl; split <;> rfl
theorem mo_put (b : BS) (p : Nat) (x : Option Nat) (n : Option Nat) : (putB b p x n).mode = b.mode := by cases n <;> rfl
theorem mo_text (b : BS) (s : Bs) : (textB b s).mode = b.mode := by
  unfold textB
  simp only []
  split
  · split
    · rfl
    · rw [mo_put, mo_grow]
  · rw [mo_put, mo_grow]
theorem mo_comment (b : BS) (s : Bs) : (commentB b s).mode = b.mode := by unfold commentB; rw [mo_put, mo_grow]
theorem mo_deep (b : BS) : (deepB b).mode = b.mode := by unfold deepB; split <;> rfl
theorem mo_insert (b : BS) (sp : Int) (nm : Bs) (aa : As) : (insertB b sp nm aa).1.mode = b.mode := by
  unfold insertB
  simp only []
  split
  · show (growB (deepB b) _).1.mode = _
    rw [mo_grow, mo_deep]
  · show (putB _ _ _ _).mode = _
    rw [mo_put, mo_grow, mo_deep]
theorem mo_pop (b : BS) : (popB b).mode = b.mode := by unfold popB; split <;> rfl
theorem mo_upTo (b : BS) (n : List Bs) : (upToB b n).mode = b.mode := by unfold upToB; split <;> rfl
theorem mo_implied (b : BS) (n : Bs) : (impliedB b n).mode = b.mode := rfl
theorem mo_closeP (b : BS) : (closePB b).mode = b.mode := by unfold closePB; split; rw [mo_upTo]; rfl; rfl
theorem mo_renewK : ∀ (k i : Nat) (b : BS), (renewK k i b).mode = b.mode
  | 0, _, _ => rfl
  | k + 1, i, b => by
    rw [renewK]
    split
    · rfl
    · split
      · rfl
      · rename_i m _
        have h := mo_insert b 0 m.nm m.aa
        split
        · rename_i b' e
          rw [e] at h
          exact h
        · rename_i b' n e
          rw [e] at h
          rw [mo_renewK k]
          exact h
theorem mo_renew (b : BS) : (renewB b).mode = b.mode := mo_renewK _ _ _
theorem mo_clearK (n : List Bs) : ∀ (k : Nat) (b : BS), (clearK n k b).mode = b.mode
  | 0, _ => rfl
  | k + 1, b => by
    rw [clearK]
    split
    · rw [mo_clearK n k, mo_pop]
    · rfl
theorem mo_clearTo (b : BS) (n : List Bs) : (clearToB b n).mode = b.mode := mo_clearK _ _ _
theorem mo_reset (b : BS) : (resetB b).mode = b.mode := rfl
theorem mo_otherK (n : Bs) (b : BS) : ∀ k, (otherK n b k).mode = b.mode
  | 0 => rfl
  | k + 1 => by
    rw [otherK]
    split
    · rfl
    · split
      · rfl
      · split
        · rfl
        · exact mo_otherK n b k
theorem mo_other (b : BS) (n : Bs) : (otherB b n).mode = b.mode := mo_otherK _ _ _
theorem mo_between (a block : Nat) : ∀ (d k last bm : Nat) (b : BS), (betweenK a block d k last bm b).1.mode = b.mode
  | 0, _, _, _, _ => rfl
  | d + 1, k, last, bm, b => by
    rw [betweenK]
    split
    · rfl
    · split
      · rfl
      · rename_i o _
        simp only []
        have hb1 : (if (decide (3 < k) && (findM b.mr o.id).isSome) = true then dropMark b ((findM b.mr o.id).getD 0) else b).mode = b.mode := by split <;> rfl
        generalize (if (decide (3 < k) && (findM b.mr o.id).isSome) = true then dropMark b ((findM b.mr o.id).getD 0) else b) = b1 at hb1 ⊢
        split
        · rw [mo_between a block d]
          exact hb1
        · have h := mo_grow b1 (S5.nodeAt b1.T o.id)
          split
          · rename_i b2 e
            rw [e] at h
            exact h.trans hb1
          · rename_i b2 n e
            rw [e] at h
            rw [mo_between a block d]
            exact h.trans hb1
theorem mo_adoptOnce (b : BS) (f : Nat) : (adoptOnce b f).1.mode = b.mode := by
  unfold adoptOnce
  split
  · rfl
  · rename_i mark _
    split
    · rfl
    · rename_i a _
      split
      · rfl
      · rfl
      · rename_i first _
        simp only []
        have h := mo_between a ((b.op[first]?).getD rootO).id (first - 1 - a) 1 ((b.op[first]?).getD rootO).id f b
        cases hx : betweenK a ((b.op[first]?).getD rootO).id (first - 1 - a) 1 ((b.op[first]?).getD rootO).id f b with
        | mk b1 lb =>
        obtain ⟨last, bm⟩ := lb
        rw [hx] at h
        simp only []
        split
        · exact h
        · have h2 := mo_grow (putB b1 (placeB b1 ((b.op[a - 1]?).getD rootO)).1 (placeB b1 ((b.op[a - 1]?).getD rootO)).2 (some last)) (S5.nodeAt (putB b1 (placeB b1 ((b.op[a - 1]?).getD rootO)).1 (placeB b1 ((b.op[a - 1]?).getD rootO)).2 (some last)).T mark.id)
          rw [mo_put] at h2
          split
          · rename_i b3 e3
            rw [e3] at h2
            exact h2.trans h
          · rename_i b3 n e3
            rw [e3] at h2
            exact h2.trans h
theorem mo_adoptK (n : Bs) : ∀ (k : Nat) (b : BS), (adoptK n k b).mode = b.mode
  | 0, _ => rfl
  | k + 1, b => by
    rw [adoptK]
    split
    · rfl
    · split
      · exact mo_other b n
      · have h := mo_adoptOnce b (lastM b.mr n).toNat
        cases hx : adoptOnce b (lastM b.mr n).toNat with
        | mk b' more =>
          rw [hx] at h
          cases more with
          | false => exact h
          | true => exact (mo_adoptK n k b').trans h
theorem mo_adopt (b : BS) (n : Bs) : (adoptB b n).mode = b.mode := by unfold adoptB; split; exact mo_pop b; exact mo_adoptK n 8 b
theorem mo_tag (b : BS) (t : Tok) : (tagB b t).1.mode = b.mode := mo_insert _ _ _ _
theorem mo_single (b : BS) (t : Tok) : (singleB b t).mode = b.mode := by
  unfold singleB
  have h := mo_tag b t
  split
  · rename_i b' n e
    rw [e] at h
    rw [mo_pop]; exact h
  · rename_i b' e
    rw [e] at h
    exact h
theorem mo_marker (b : BS) : (markerB b).mode = b.mode := rfl
theorem mo_marked (b : BS) (t : Tok) : (markedB b t).mode = b.mode := by
  unfold markedB
  have h := mo_tag b t
  split
  · rename_i b' n e
    rw [e] at h
    exact h
  · rename_i b' e
    rw [e] at h
    exact h
theorem mo_strange (b : BS) (t : Tok) (sp : Int) : (strangeB b t sp).mode = b.mode := by
  unfold strangeB
  have h := mo_insert b sp t.name t.attrs
  split
  · rename_i b' n e
    rw [e] at h
    split
    · rw [mo_pop]; exact h
    · exact h
  · rename_i b' e
    rw [e] at h
    exact h
theorem mo_listedK (n : List Bs) (b : BS) : ∀ k, (listedK n b k).mode = b.mode
  | 0 => rfl
  | k + 1 => by
    rw [listedK]
    split
    · rfl
    · split
      · rw [mo_upTo]; rfl
      · split
        · rfl
        · exact mo_listedK n b k
theorem mo_listed (b : BS) (t : Tok) (n : List Bs) : (listedB b t n).mode = b.mode := by unfold listedB; rw [mo_tag, mo_closeP, mo_listedK]
theorem mo_ruby (b : BS) (t : Tok) : (rubyB b t).mode = b.mode := by
  unfold rubyB
  rw [mo_tag]
  split
  · split <;> rfl
  · rfl
def rawAll : List Bs := [[116, 105, 116, 108, 101], [116, 101, 120, 116, 97, 114, 101, 97], [115, 116, 121, 108, 101], [115, 99, 114, 105, 112, 116], [110, 111, 102, 114, 97, 109, 101, 115], [105, 102, 114, 97, 109, 101], [110, 111, 101, 109, 98, 101, 100], [120, 109, 112], [112, 108, 97, 105, 110, 116, 101, 120, 116]]
theorem mo_closing (b : BS) (t : Tok) (h : S6.amongL rawAll t.name = false) : (closingB b t).mode = b.mode := by
  unfold closingB
  split
  · rename_i h1
    exfalso
    unfold startT at h1
    rw [Bool.and_eq_true] at h1
    rw [among_sub _ _ (by decide) h1.2] at h
    exact absurd h (by decide)
  · split
    · exact mo_tag b t
    · split
      · exact mo_tag b t
      · split
        · exact mo_single b t
        · rw [mo_tag]
          split
          · exact mo_pop b
          · rfl
theorem mo_againA (b : BS) : (againA b).mode = b.mode := by
  unfold againA
  split
  · rfl
  · simp only []
    split
    · show (adoptB b _).mode = _
      exact mo_adopt b _
    · exact mo_adopt b _
theorem mo_phraseA (b : BS) (t : Tok) : (phraseA b t).mode = b.mode := by
  unfold phraseA
  split
  · split
    · rw [mo_upTo]; rfl
    · rfl
  · split
    · exact mo_againA b
    · split
      · split
        · rw [mo_adopt, mo_renew]
        · exact mo_renew b
      · split
        · split
          · exact mo_pop b
          · rfl
        · rfl
theorem mo_phrase (b : BS) (t : Tok) : (phraseB b t).mode = b.mode := by
  unfold phraseB
  simp only []
  have h : (renewB (phraseA b t)).mode = b.mode := by rw [mo_renew, mo_phraseA]
  generalize renewB (phraseA b t) = c at h ⊢
  split
  · rw [mo_marked]; exact h
  · split
    · rw [mo_marker, mo_tag]; exact h
    · split
      · rw [mo_single]; exact h
      · split
        · rw [mo_single]; exact h
        · split
          · rw [mo_strange]; exact h
          · split
            · rw [mo_strange]; exact h
            · rw [mo_tag]; exact h
theorem mo_bodyStart (b : BS) (t : Tok) (h : S6.amongL rawAll t.name = false) : (bodyStart b t).mode = b.mode := by
  have no : ∀ names : List Bs, (names.all fun n => S6.amongL rawAll n) = true → startT t names = false := fun names hn => by
    rw [Bool.eq_false_iff]
    intro h1
    unfold startT at h1
    rw [Bool.and_eq_true] at h1
    rw [among_sub _ _ hn h1.2] at h
    exact absurd h (by decide)
  unfold bodyStart
  rw [no [[116, 105, 116, 108, 101]] (by decide +kernel), no [[116, 101, 120, 116, 97, 114, 101, 97]] (by decide +kernel), no [[115, 116, 121, 108, 101], [115, 99, 114, 105, 112, 116], [110, 111, 102, 114, 97, 109, 101, 115], [105, 102, 114, 97, 109, 101], [110, 111, 101, 109, 98, 101, 100]] (by decide +kernel), no [[120, 109, 112]] (by decide +kernel)]
  simp only [Bool.false_eq_true, if_false]
  split
  · rfl
  · split
    · exact mo_single b t
    · split
      · split
        · rw [mo_tag, mo_closeP]
        · rfl
      · split
        · exact mo_listed b t _
        · split
          · exact mo_listed b t _
          · split
            · exact mo_ruby b t
            · split
              · rw [mo_closing _ _ h, mo_closeP]
              · exact mo_phrase b t
theorem mo_ends (b : BS) (n : List Bs) (ex : Bs) (sc : Int) : (endsB b n ex sc).mode = b.mode := by unfold endsB; split; rw [mo_upTo]; rfl; rfl
theorem mo_bodyStop (b : BS) (n : Bs) : (bodyStop b n).mode = b.mode := by
  unfold bodyStop
  split
  · rfl
  · split
    · rw [mo_closeP]
      split
      · rfl
      · exact mo_insert _ _ _ _
    · split
      · exact mo_ends _ _ _ _
      · split
        · exact mo_ends _ _ _ _
        · split
          · exact mo_ends _ _ _ _
          · split
            · exact mo_ends _ _ _ _
            · split
              · exact mo_adopt _ _
              · split
                · split
                  · exact mo_ends _ _ _ _
                  · rfl
                · split
                  · exact mo_bodyStart _ _ (by decide +kernel)
                  · exact mo_other _ _
def SameN (t : Tok) (x : BS × Option Tok) (b : BS) : Prop := x.1.mode = b.mode ∧ ∀ t', x.2 = some t' → t'.name = t.name
theorem SameN.ite {t : Tok} {b : BS} {c : Prop} [Decidable c] {x y : BS × Option Tok} (h1 : c → SameN t x b) (h2 : ¬ c → SameN t y b) : SameN t (if c then x else y) b := by
  by_cases h : c
  · rw [if_pos h]; exact h1 h
  · rw [if_neg h]; exact h2 h
theorem mo_breakK : ∀ (k : Nat) (b : BS), (breakK k b).mode = b.mode
  | 0, _ => rfl
  | k + 1, b => by
    rw [breakK]
    split
    · rw [mo_breakK k, mo_pop]
    · rfl
end Go.Proofs.YtpppdfjdngmaoaaGreatDoor
namespace Go.Proofs.YtpppdfjdngmaoaaGreatDoor
open S5 (ND TR WF kidsAt nodeAt parentN appendL beforeL moveL addL withinL newL outL setK aheadL pushL)
open S4 (Tok nextR)
def tableS : Bs := [116, 97, 98, 108, 101]
def GT (b b' : BS) : Prop := b'.e = 0 → b.e = 0 ∧ (Inv b → Inv b' ∧ b'.fost = b.fost ∧ ((sk b'.op = sk b.op ∧ b'.rules = b.rules) ∨ ∃ n, sk b'.op = sk b.op ++ [⟨n, 0, tableS⟩] ∧ b'.rules = 1))
theorem G.gt {b b' : BS} (h : G b b') : GT b b' := by
  intro he
  obtain ⟨h0, k⟩ := h he
  refine ⟨h0, fun i => ?_⟩
  obtain ⟨i1, s1, r1, f1⟩ := k i
  exact ⟨i1, f1.f, Or.inl ⟨s1, r1⟩⟩
theorem G.transT {a b c : BS} (h1 : G a b) (h2 : GT b c) : GT a c := by
  intro hc
  obtain ⟨hb, k2⟩ := h2 hc
  obtain ⟨ha, k1⟩ := h1 hb
  refine ⟨ha, fun i => ?_⟩
  obtain ⟨i1, s1, r1, f1⟩ := k1 i
  obtain ⟨i2, f2, q⟩ := k2 i1
  refine ⟨i2, f2.trans f1.f, ?_⟩
  rcases q with ⟨s2, r2⟩ | ⟨n, s2, r2⟩
  · exact Or.inl ⟨s2.trans s1, r2.trans r1⟩
  · exact Or.inr ⟨n, by rw [s2, s1], r2⟩
theorem G.thenI {a b c : BS} (h1 : G a b) (he : c.e = 0 → b.e = 0) (h2 : Inv a → b.e = 0 → G b c) : G a c := by
  intro hc
  obtain ⟨ha, k1⟩ := h1 (he hc)
  refine ⟨ha, fun i => ?_⟩
  obtain ⟨i1, s1, r1, f1⟩ := k1 i
  obtain ⟨_, k2⟩ := h2 i (he hc) hc
  obtain ⟨i2, s2, r2, f2⟩ := k2 i1
  exact ⟨i2, s2.trans s1, r2.trans r1, f2.trans f1⟩
theorem G.skip {b b' : BS} (h : G b b') (x : Bool) : G b { b' with skip := x } := fun he => by
  obtain ⟨h0, k⟩ := h he
  refine ⟨h0, fun i => ?_⟩
  obtain ⟨i1, s1, r1, f1⟩ := k i
  exact ⟨⟨i1.t, i1.o, i1.m⟩, s1, r1, f1.f, f1.ne⟩
theorem G.mode {b b' : BS} (h : G b b') (x : Int) (n : Bs) : G b { b' with mode := x, name := n } := fun he => by
  obtain ⟨h0, k⟩ := h he
  refine ⟨h0, fun i => ?_⟩
  obtain ⟨i1, s1, r1, f1⟩ := k i
  exact ⟨⟨i1.t, i1.o, i1.m⟩, s1, r1, f1.f, f1.ne⟩
theorem G.tag (b : BS) {t : Tok} (h : goodN t.name = true) : G b (tagB b t).1 := by
  obtain ⟨g1, g2, g3, g4⟩ := good_all h
  exact G.insert b t.attrs g1 (fun _ => g2) (fun _ => g3) (fun _ => g4)
theorem G.singleB (b : BS) {t : Tok} (h1 : t.name ≠ []) (h2 : FreeN t.name) : G b (singleB b t) := by
  have g := G.single (b := b) (sp := 0) (nm := t.name) (aa := t.attrs) h1 fun _ => Or.inl fun _ => h2
  unfold Go.Proofs.YtpppdfjdngmaoaaGreatDoor.singleB tagB
  cases hi : insertB b 0 t.name t.attrs with
  | mk b' n =>
  rw [hi] at g
  cases n <;> exact g
theorem G.rawB (b : BS) {t : Tok} (mode : Int) (h : goodN t.name = true) : G b (rawB b t mode) := (G.tag b h).mode mode t.name
theorem G.markedB (b : BS) {t : Tok} (h : S6.amongL S6.formatN t.name = true) : G b (markedB b t) := by
  obtain ⟨g1, g2, g3, g4⟩ := good_all (format_good h)
  have g := G.tag b (t := t) (format_good h)
  unfold Go.Proofs.YtpppdfjdngmaoaaGreatDoor.markedB
  unfold tagB at g ⊢
  cases hi : insertB b 0 t.name t.attrs with
  | mk b' n =>
  rw [hi] at g
  cases n with
  | none => exact g
  | some n =>
    obtain ⟨e0, e1, e2, e3, e4, e5, kk⟩ := insert_some hi
    refine g.thenI (fun he => he) fun i _ => G.marks b' _ fun i' m hm => ?_
    obtain ⟨k1, k2, k3, k4, k5, k6, k7⟩ := kk i g1 (Or.inl fun _ => g3)
    rcases pushM_mem hm with a | a
    · exact i'.m m a
    · subst a
      exact Or.inr ⟨k3, k4, k5, k6, k7, h⟩
theorem G.strangeB (b : BS) {t : Tok} {sp : Int} (h1 : t.name ≠ []) (hs : sp ≠ 0) : G b (strangeB b t sp) := by
  have g := G.single (b := b) (sp := sp) (nm := t.name) (aa := t.attrs) h1 fun _ => Or.inl fun e => absurd e hs
  have g2 := G.insert b (sp := sp) (nm := t.name) t.attrs h1 (fun e => absurd e hs) (fun e => absurd e hs) (fun e => absurd e hs)
  unfold Go.Proofs.YtpppdfjdngmaoaaGreatDoor.strangeB
  cases hi : insertB b sp t.name t.attrs with
  | mk b' n =>
  rw [hi] at g g2
  cases n with
  | none => exact g2
  | some n =>
    show G b (if t.closed = true then popB b' else b')
    split
    · exact g
    · exact g2
theorem start_name {t : Tok} {names : List Bs} (h : startT t names = true) : S6.amongL names t.name = true := by
  unfold startT at h
  simp only [Bool.and_eq_true] at h
  exact h.2
theorem start_good {t : Tok} {names : List Bs} (hn : names.all goodN = true) (h : startT t names = true) : goodN t.name = true := among_all hn (start_name h)
theorem start_not {t : Tok} {names : List Bs} (hk : t.kind = 2) (h : ¬ startT t names = true) : S6.amongL names t.name = false := by
  unfold startT at h
  rw [hk] at h
  simpa using h
def soloN (n : Bs) : Bool := !n.isEmpty && !(S6.amongL S6.tableN n)
theorem solo_all {n : Bs} (h : soloN n = true) : n ≠ [] ∧ FreeN n := by
  unfold soloN at h
  simp only [Bool.and_eq_true, Bool.not_eq_true'] at h
  exact ⟨by intro e; rw [e] at h; exact absurd h.1 (by decide), fits_part h.2⟩
theorem start_solo {t : Tok} {names : List Bs} (hn : names.all soloN = true) (h : startT t names = true) : t.name ≠ [] ∧ FreeN t.name := solo_all (among_all hn (start_name h))
theorem set_one {k : Int} {n : Bs} {L : List Bs} (hk : S6.listsN k = [L]) (h : setOf k n = true) : S6.amongL L n = true := by
  unfold setOf S6.isL at h
  rw [hk] at h
  simpa using h
theorem skip_not {n : Bs} (h : ¬ setOf 12 n = true) : S6.amongL S6.tableN n = false := by
  unfold setOf S6.isL at h
  rw [show S6.listsN 12 = [S6.skipN, S6.tableN] from rfl] at h
  simp at h
  exact h.2
theorem good_left {n : Bs} (h0 : n ≠ []) (h1 : S6.amongL S6.tableN n = false) (h2 : S6.amongL [[116, 97, 98, 108, 101], [104, 114], [98, 97, 115, 101], [108, 105, 110, 107], [109, 101, 116, 97], [112, 97, 114, 97, 109], [115, 111, 117, 114, 99, 101], [116, 114, 97, 99, 107], [97, 114, 101, 97], [98, 114], [101, 109, 98, 101, 100], [105, 109, 103], [105, 110, 112, 117, 116], [119, 98, 114]] n = false) : goodN n = true := by
  unfold goodN
  have hv : S6.isL 1 n = false := by
    cases hx : S6.isL 1 n with
    | false => rfl
    | true =>
      have k := among_all (P := fun n => S6.amongL S6.tableN n || S6.amongL [[116, 97, 98, 108, 101], [104, 114], [98, 97, 115, 101], [108, 105, 110, 107], [109, 101, 116, 97], [112, 97, 114, 97, 109], [115, 111, 117, 114, 99, 101], [116, 114, 97, 99, 107], [97, 114, 101, 97], [98, 114], [101, 109, 98, 101, 100], [105, 109, 103], [105, 110, 112, 117, 116], [119, 98, 114]] n) (by decide) (set_one (k := 1) (L := S6.voidN) rfl hx)
      rw [h1, h2] at k
      cases k
  have ht : S6.amongL tabA n = false := by
    cases hx : S6.amongL tabA n with
    | false => rfl
    | true =>
      have k := among_all (L := tabA) (P := fun n => S6.amongL S6.tableN n || S6.amongL [[116, 97, 98, 108, 101], [104, 114], [98, 97, 115, 101], [108, 105, 110, 107], [109, 101, 116, 97], [112, 97, 114, 97, 109], [115, 111, 117, 114, 99, 101], [116, 114, 97, 99, 107], [97, 114, 101, 97], [98, 114], [101, 109, 98, 101, 100], [105, 109, 103], [105, 110, 112, 117, 116], [119, 98, 114]] n) (by decide) hx
      rw [h1, h2] at k
      cases k
  rw [hv, h1, ht]
  cases n with
  | nil => exact absurd rfl h0
  | cons a r => rfl
theorem among_join {a b : List Bs} {n : Bs} (h1 : S6.amongL a n = false) (h2 : S6.amongL b n = false) {c : List Bs} (hc : (c.all fun n => S6.amongL a n || S6.amongL b n) = true) : S6.amongL c n = false := by
  cases hx : S6.amongL c n with
  | false => rfl
  | true =>
    have k := among_all (P := fun n => S6.amongL a n || S6.amongL b n) hc hx
    rw [h1, h2] at k
    cases k
theorem G.listedB (b : BS) {t : Tok} {names : List Bs} (hn : names.all goodN = true) (h : startT t names = true) : G b (listedB b t names) := by
  unfold Go.Proofs.YtpppdfjdngmaoaaGreatDoor.listedB
  exact ((G.listed b (fun n hn' => (good_all (among_all hn hn')).2.2.2)).trans (G.closeP _)).trans (G.tag _ (start_good hn h))
theorem G.rubyB (b : BS) {t : Tok} (h : goodN t.name = true) : G b (rubyB b t) := by
  unfold Go.Proofs.YtpppdfjdngmaoaaGreatDoor.rubyB
  refine G.trans ?_ (G.tag _ h)
  split
  · split
    · exact G.implied b _
    · exact G.implied b _
  · exact G.refl b
theorem GT.closing (b : BS) {t : Tok} (hk : t.kind = 2) (hc : closesT t = true) : GT b (closingB b t) := by
  unfold closingB
  split
  · rename_i h; exact (G.rawB b 3 (start_good (by decide) h)).gt
  rename_i c1
  split
  · rename_i h; exact ((G.tag b (start_good (by decide) h)).skip true).gt
  rename_i c2
  split
  · rename_i h
    have hn : t.name = tableS := (among_one _ _).1 (start_name h)
    intro he
    have he : (tagB b t).1.e = 0 := he
    unfold tagB at he ⊢
    cases hi : insertB b 0 t.name t.attrs with
    | mk b' n =>
    rw [hi] at he
    obtain ⟨n, rfl⟩ := insert_e hi he
    obtain ⟨e0, e1, e2, e3, e4, e5, kk⟩ := insert_some hi
    refine ⟨e0, fun i => ?_⟩
    have hf : FreeN t.name := by rw [hn]; exact fits_part (by decide)
    have iv := insert_inv hi i (by rw [hn]; decide) (fun _ => by rw [hn]; decide) (Or.inl fun _ => hf)
    refine ⟨⟨iv.t, iv.o, iv.m⟩, e5, Or.inr ⟨n, ?_, rfl⟩⟩
    show sk b'.op = _
    rw [e2, hn]
    exact sk_tab _ _ rfl
  rename_i c3
  split
  · rename_i h
    obtain ⟨q1, q2⟩ := start_solo (by decide) h
    exact (G.singleB b q1 q2).gt
  rename_i c4
  refine (G.trans ?_ (G.tag _ ?_)).gt
  · split
    · rename_i h
      simp only [Bool.and_eq_true] at h
      exact G.pop b fun _ _ => (noTab_all (by decide)).o h.2
    · exact G.refl b
  · have a1 := start_not hk c1
    have a2 := start_not hk c2
    have a3 := start_not hk c3
    have a4 := start_not hk c4
    unfold closesT at hc
    simp only [Bool.or_eq_true] at hc
    rcases hc with (hc | hc) | hc
    · exfalso
      have k := start_name hc
      have b1 := among_join a1 a2 (c := [[112, 108, 97, 105, 110, 116, 101, 120, 116], [112, 114, 101], [108, 105, 115, 116, 105, 110, 103]]) (by decide)
      have b2 := among_join a3 a4 (c := [[116, 97, 98, 108, 101], [104, 114]]) (by decide)
      have b3 := among_join b1 b2 (c := [[112, 108, 97, 105, 110, 116, 101, 120, 116], [112, 114, 101], [108, 105, 115, 116, 105, 110, 103], [116, 97, 98, 108, 101], [104, 114]]) (by decide)
      rw [b3] at k
      cases k
    · exact among_all (by decide) (set_one (k := 6) (L := S6.blockN) rfl hc)
    · exact among_all (by decide) (set_one (k := 7) (L := S6.headingN) rfl hc)
theorem G.againA (b : BS) : G b (againA b) := by
  unfold Go.Proofs.YtpppdfjdngmaoaaGreatDoor.againA
  split
  · exact G.refl b
  rename_i hl
  simp only []
  have g1 := G.adopt b (name := [97]) (by decide) (by decide)
  have g2 : G (adoptB b [97]) { adoptB b [97] with mr := dropId (adoptB b [97]).mr (((b.mr[(lastM b.mr [97]).toNat]?).map fun x => x.id).getD 0) } := by
    refine G.marks _ _ fun i m hm => i.m m ?_
    unfold dropId at hm
    split at hm
    · exact hm
    · exact List.mem_of_mem_eraseIdx hm
  have g := g1.trans g2
  split
  · rename_i k hk
    refine g.thenI (fun he => he) fun i he => G.shut _ _ fun i2 => ⟨by omega, fun o ho => ?_⟩
    have hk' := (last_some _ _ _ _ hk).2.1
    rw [any_v, ho] at hk'
    have hid : o.id = ((b.mr[(lastM b.mr [97]).toNat]?).map fun x => x.id).getD 0 := by
      have hk' : (((o.id : Int)) == (((((b.mr[(lastM b.mr [97]).toNat]?).map fun x => x.id).getD 0) : Nat) : Int)) = true := hk'
      simp only [beq_iff_eq] at hk'
      omega
    have to := i2.o.tie k o ho
    cases hm : b.mr[(lastM b.mr [97]).toNat]? with
    | none =>
      rw [hm] at hid
      have hid : o.id = 0 := hid
      have := to.1
      omega
    | some m =>
      rw [hm] at hid
      have hid : o.id = m.id := hid
      have hnm := last_name hl hm
      obtain ⟨m1, m2, m3, m4, m5, m6⟩ := mark_form (i.m m (List.mem_of_getElem? hm)) (by have := to.1; omega)
      obtain ⟨_, kk⟩ := g he
      have ne := (kk i).2.2.2.ne
      obtain ⟨_, _, n3⟩ := ne.2 m.id m2
      have e := to.2.2.2.2.1
      rw [hid] at e
      have e : (nodeAt (adoptB b [97]).T m.id).name = o.nm := e
      have n3 : (nodeAt (adoptB b [97]).T m.id).name = (nodeAt b.T m.id).name := n3
      rw [n3, m5, hnm] at e
      unfold tabO
      rw [← e]
      simp [show S6.amongL tabA [97] = false from by decide]
  · exact g
theorem G.phraseA (b : BS) (t : Tok) : G b (phraseA b t) := by
  unfold Go.Proofs.YtpppdfjdngmaoaaGreatDoor.phraseA
  split
  · split
    · rename_i h
      exact G.ends b h (noTab_one (by decide)) fun n hn => Or.inl (by rw [(among_one _ _).1 hn]; decide)
    · exact G.refl b
  · split
    · exact G.againA b
    · split
      · split
        · exact (G.renew b).trans (G.adopt _ (by decide) (by decide))
        · exact G.renew b
      · split
        · split
          · rename_i h
            exact G.pop b fun _ _ => (noTab_one (by decide)).o h
          · exact G.refl b
        · exact G.refl b
theorem G.phraseB (b : BS) {t : Tok} (hk : t.kind = 2) (hn : t.name ≠ []) (ht : S6.amongL S6.tableN t.name = false)
    (hl : S6.amongL [[116, 97, 98, 108, 101], [104, 114], [98, 97, 115, 101], [108, 105, 110, 107], [109, 101, 116, 97], [112, 97, 114, 97, 109], [115, 111, 117, 114, 99, 101], [116, 114, 97, 99, 107]] t.name = false) : G b (phraseB b t) := by
  unfold Go.Proofs.YtpppdfjdngmaoaaGreatDoor.phraseB
  simp only []
  refine ((G.phraseA b t).trans (G.renew _)).trans ?_
  generalize renewB (Go.Proofs.YtpppdfjdngmaoaaGreatDoor.phraseA b t) = c
  split
  · rename_i h
    exact G.markedB c (set_one (k := 5) (L := S6.formatN) rfl h)
  split
  · rename_i h
    exact (G.tag c (among_all (by decide) (set_one (k := 11) (L := S6.markerN) rfl h))).trans (G.marker _)
  split
  · exact G.singleB c (t := { t with name := [105, 109, 103] }) (by show ([105, 109, 103] : Bs) ≠ []; decide) (fits_part (show S6.amongL S6.tableN [105, 109, 103] = false by decide))
  split
  · rename_i h
    obtain ⟨q1, q2⟩ := start_solo (by decide) h
    exact G.singleB c q1 q2
  rename_i c4
  split
  · exact G.strangeB c hn (by decide)
  split
  · exact G.strangeB c hn (by decide)
  exact G.tag c (good_left hn ht (among_join hl (start_not hk c4) (by decide)))
theorem GT.bodyStart (b : BS) {t : Tok} (hk : t.kind = 2) (hn : t.name ≠ []) : GT b (bodyStart b t) := by
  unfold Go.Proofs.YtpppdfjdngmaoaaGreatDoor.bodyStart
  split
  · exact (G.refl b).gt
  rename_i c1
  split
  · rename_i h
    obtain ⟨q1, q2⟩ := start_solo (by decide) h
    exact (G.singleB b q1 q2).gt
  rename_i c2
  split
  · rename_i h; exact (G.rawB b 1 (start_good (by decide) h)).gt
  split
  · rename_i h; exact ((G.rawB b 1 (start_good (by decide) h)).skip true).gt
  split
  · rename_i h; exact (G.rawB b 2 (start_good (by decide) h)).gt
  split
  · rename_i h; exact (((G.closeP b).trans (G.renew _)).trans (G.rawB _ 2 (start_good (by decide) h))).gt
  split
  · rename_i h
    split
    · exact ((G.closeP b).trans (G.tag _ (start_good (by decide) h))).gt
    · exact (G.refl b).gt
  split
  · rename_i h; exact (G.listedB b (by decide) h).gt
  split
  · rename_i h; exact (G.listedB b (by decide) h).gt
  split
  · rename_i h; exact (G.rubyB b (start_good (by decide) h)).gt
  split
  · rename_i h; exact (G.closeP b).transT (GT.closing _ hk h)
  rename_i c3
  refine (G.phraseB b hk hn (skip_not c1) ?_).gt
  have c3 : ¬ startT t [[112, 108, 97, 105, 110, 116, 101, 120, 116], [112, 114, 101], [108, 105, 115, 116, 105, 110, 103], [116, 97, 98, 108, 101], [104, 114]] = true := by
    intro h
    unfold closesT at c3
    rw [h] at c3
    exact c3 rfl
  exact among_join (start_not hk c2) (start_not hk c3) (by decide)
end Go.Proofs.YtpppdfjdngmaoaaGreatDoor
namespace Go.Proofs.YtpppdfjdngmaoaaGreatDoor
open S5 (ND TR WF kidsAt nodeAt parentN appendL beforeL moveL addL withinL newL outL setK aheadL pushL)
open S4 (Tok nextR)
theorem tab_set {n : Bs} (h : S6.amongL S6.tableN n = false) (h2 : n ≠ tableS) : S6.amongL tabA n = false := by
  cases hx : S6.amongL tabA n with
  | false => rfl
  | true =>
    have k := among_all (L := tabA) (P := fun n => S6.amongL S6.tableN n || n == tableS) (by decide) hx
    simp only [h, Bool.false_or, beq_iff_eq] at k
    exact absurd k h2
theorem GT.bodyStop (b : BS) (n : Bs) (hT : n = tableS → ∀ o ∈ b.op, tabO o = false) : GT b (bodyStop b n) := by
  unfold Go.Proofs.YtpppdfjdngmaoaaGreatDoor.bodyStop
  split
  · exact (G.refl b).gt
  rename_i c1
  split
  · refine (G.trans ?_ (G.closeP _)).gt
    split
    · exact G.refl b
    · exact G.insert b [] (by decide) (fun _ => by decide) (fun _ => fits_part (by decide)) (fun _ => by decide)
  rename_i c2
  split
  · exact (G.endsB b (noTab_one (by decide)) fun n hn => Or.inr ((among_one _ _).1 hn)).gt
  split
  · rename_i h
    refine (G.endsB b (noTab_one ?_) fun n hn => Or.inr ((among_one _ _).1 hn)).gt
    simp only [Bool.or_eq_true, beq_iff_eq] at h
    rcases h with rfl | rfl <;> decide
  split
  · exact (G.endsB b (noTab_all (by decide)) fun n hn => Or.inl (by simpa using among_all (P := fun n => !(S6.isL 8 n)) (by decide) hn)).gt
  split
  · rename_i h
    have c2 : n ≠ [112] := by simpa using c2
    have k : S6.amongL tabA n = false ∧ S6.isL 8 n = false := by
      simp only [Bool.or_eq_true] at h
      rcases h with h | h
      · have q := among_all (P := fun n => n == [112] || (!(S6.amongL tabA n) && !(S6.isL 8 n))) (by decide) (set_one (k := 6) (L := S6.blockN) rfl h)
        simpa [c2] using q
      · have q := among_all (P := fun n => (!(S6.amongL tabA n) && !(S6.isL 8 n))) (by decide) h
        simpa using q
    exact (G.endsB b (noTab_one k.1) fun m hm => Or.inl (by rw [(among_one _ _).1 hm]; exact k.2)).gt
  split
  · rename_i h
    obtain ⟨g1, g2, g3, g4⟩ := good_all (format_good (set_one (k := 5) (L := S6.formatN) rfl h))
    exact (G.adopt b g1 g4).gt
  split
  · rename_i h
    have q := among_all (P := fun n => (!(S6.amongL tabA n) && !(S6.isL 8 n))) (by decide) (set_one (k := 11) (L := S6.markerN) rfl h)
    simp only [Bool.and_eq_true, Bool.not_eq_true'] at q
    split
    · exact ((G.endsB b (noTab_one q.1) fun m hm => Or.inl (by rw [(among_one _ _).1 hm]; exact q.2)).trans (G.clear _)).gt
    · exact (G.refl b).gt
  split
  · exact GT.bodyStart b rfl (by show ([98, 114] : Bs) ≠ []; decide)
  by_cases e : n = tableS
  · exact (G.other' b n fun o ho _ => hT e o ho).gt
  · exact (G.other b (tab_set (skip_not c1) e)).gt
def TokOk (t : Tok) : Prop := (t.kind = 1 → t.text ≠ []) ∧ (t.kind = 2 → t.name ≠ [])
theorem GT.body (b : BS) {t : Tok} (h : TokOk t) (hT : t.kind = 3 → t.name = tableS → ∀ o ∈ b.op, tabO o = false) : GT b (bodyB b t) := by
  unfold Go.Proofs.YtpppdfjdngmaoaaGreatDoor.bodyB
  split
  · rename_i k
    exact ((G.renew b).trans (G.text _ (h.1 k))).gt
  split
  · exact (G.comment b _).gt
  split
  · rename_i k
    exact GT.bodyStart b k (h.2 k)
  split
  · rename_i k
    exact GT.bodyStop b _ (hT k)
  · exact (G.refl b).gt
def MQ (b b' : BS) : Prop := b'.e = 0 → b'.mode = b.mode ∨ tabO (curB b') = false
theorem MQ.of {b b' : BS} (h : b'.mode = b.mode) : MQ b b' := fun _ => Or.inl h
theorem MQ.raw (b c : BS) {t : Tok} (mode : Int) (h : goodN t.name = true) : MQ c (rawB b t mode) := by
  intro he
  right
  have he : (tagB b t).1.e = 0 := he
  show tabO (curB { (tagB b t).1 with mode := mode, name := t.name }) = false
  unfold tagB at he ⊢
  cases hi : insertB b 0 t.name t.attrs with
  | mk b' n =>
  rw [hi] at he
  obtain ⟨n, rfl⟩ := insert_e hi he
  obtain ⟨_, _, e2, _⟩ := insert_some hi
  show tabO (b'.op.getLast?.getD rootO) = false
  rw [e2, List.getLast?_concat]
  show tabO ⟨n, 0, t.name⟩ = false
  unfold tabO
  rw [(good_all h).2.2.2]
  rfl
theorem MQ.skip {b b' : BS} (h : MQ b b') : MQ b { b' with skip := true } := h
theorem MQ.bodyStart (b : BS) (t : Tok) : MQ b (bodyStart b t) := by
  unfold Go.Proofs.YtpppdfjdngmaoaaGreatDoor.bodyStart
  split
  · exact MQ.of rfl
  split
  · exact MQ.of (mo_single b t)
  split
  · rename_i h; exact MQ.raw b b 1 (start_good (by decide) h)
  split
  · rename_i h; exact (MQ.raw b b 1 (start_good (by decide) h)).skip
  split
  · rename_i h; exact MQ.raw b b 2 (start_good (by decide) h)
  split
  · rename_i h; exact MQ.raw _ b 2 (start_good (by decide) h)
  split
  · split
    · exact MQ.of (by rw [mo_tag, mo_closeP])
    · exact MQ.of rfl
  split
  · exact MQ.of (mo_listed _ _ _)
  split
  · exact MQ.of (mo_listed _ _ _)
  split
  · exact MQ.of (mo_ruby _ _)
  split
  · unfold closingB
    split
    · rename_i h; exact MQ.raw _ b 3 (start_good (by decide) h)
    split
    · exact MQ.of (by show (tagB _ t).1.mode = _; rw [mo_tag, mo_closeP])
    split
    · exact MQ.of (by show (tagB _ t).1.mode = _; rw [mo_tag, mo_closeP])
    split
    · exact MQ.of (by rw [mo_single, mo_closeP])
    · refine MQ.of ?_
      rw [mo_tag]
      split
      · rw [mo_pop, mo_closeP]
      · rw [mo_closeP]
  · exact MQ.of (mo_phrase b t)
theorem MQ.body (b : BS) (t : Tok) : MQ b (bodyB b t) := by
  unfold Go.Proofs.YtpppdfjdngmaoaaGreatDoor.bodyB
  split
  · exact MQ.of (by rw [mo_text, mo_renew])
  split
  · exact MQ.of (mo_comment _ _)
  split
  · exact MQ.bodyStart b t
  split
  · exact MQ.of (mo_bodyStop _ _)
  · exact MQ.of rfl
theorem MQ.foster (b : BS) (t : Tok) : MQ b (fosterB b t) := by
  have h := MQ.body { b with fost := true } t
  exact h
end Go.Proofs.YtpppdfjdngmaoaaGreatDoor
