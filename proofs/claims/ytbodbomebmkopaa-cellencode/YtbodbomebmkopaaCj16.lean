/- What the document's Cut answers. -/
import Derived.Test.YtbodbomebmkopaaCi16
import Derived.Deep.RegionHeld2
set_option linter.unusedVariables false
set_option linter.unusedSimpArgs false
set_option maxRecDepth 40000
namespace Go.Proofs.Ytbodbomebmkopaa
open Go.RowKit

theorem isY_keepC {w W : World} {v : Value} {l : Bs} (h : IsY w v l) (hk : ∀ k, v.ownBlock = some k → W.heap[k]? = w.heap[k]?) : IsY W v l := by
  rcases h with h | ⟨b, o, cap, rfl, hc, hh⟩
  · exact .inl h
  · have hb := hk b rfl
    exact .inr ⟨b, o, cap, rfl, hc, fun j hj => by rw [← hh j hj]; simp [World.cell?, hb]⟩
theorem step_append_run {P : Program} {ops : Array Oper} {o : Oper} {a : Act} {w : World} {K : Act → World → Prop} {Q : Exit → Act → World → Prop} {E : Prop} (hgd : o.guard = none) (s x : Operand) (t : TypeId)
    (ho : o.op = .call { callee := .builtin .append, args := #[s, x], argTypes := #[t, t] }) (v1 v2 v' : Value) (w' : World) (hs : a.eval s = v1) (hx : a.eval x = v2)
    (hr : (Builtin.append_ #[t, t] o.type #[v1, v2]).run P w = .ok v' w') (hK : K (a.put o.dst v') w') : if Region.wanted o (yielded ops a.tmps) = true then Oper.wp P o a w K Q else E := by
  have hw : Region.wanted o (yielded ops a.tmps) = true := by simp [Region.wanted, hgd]
  rw [if_pos hw]
  unfold Oper.wp execOp
  simp only [ho, resolve, invoke, builtin, Sem.run_bind, Sem.run_pure, Result.andThen_ok, List.map_toArray, List.map_cons, List.map_nil, hs, hx, hr]
  exact hK
/-- Cells that are being cut. -/
structure CutS (w : World) (vs : List (CL × Value)) (v : Value) (x : World) : Prop where
  o : x.ownsRow w.heap.size 25 5 v vs.length (cellsV vs)
  c : ∀ y ∈ vs, IsC x y.1 y.2
  s : ∀ k, v.ownBlock = some k → ∀ y ∈ vs, y.2.ownBlock ≠ some k
  l : ∀ y ∈ vs, ∀ k, y.2.ownBlock = some k → k < x.heap.size
  b : Below w.heap.size w x
theorem CutS.below {w x y : World} {vs : List (CL × Value)} {v : Value} (h : CutS w vs v x) (hb : Below x.heap.size x y) : CutS w vs v y :=
  ⟨owns_keepC h.o hb, fun z hz => (h.c z hz).below hb, h.s, fun z hz k hk => Nat.lt_of_lt_of_le (h.l z hz k hk) hb.size, h.b.trans (hb.mono h.b.size)⟩
theorem CutS.step {w x : World} {vs : List (CL × Value)} {v u : Value} {d : Bs} (h : CutS w vs v x) (hu : IsY x u d) (hd : d.length ≤ 1000000) (hn : vs.length ≤ 1000000) (c : CL) (hc : c.data = d) (hep : c.ep < 18446744073709551616) (hli : c.li < 18446744073709551616) (hp : -9223372036854775808 ≤ c.part ∧ c.part ≤ 9223372036854775807) (hof : -9223372036854775808 ≤ c.of ∧ c.of ≤ 9223372036854775807) :
    ∃ a1 c1 w1 a' c' w', (Builtin.append_ #[23, 23] 23 #[.slice (some ⟨x.heap.size, 0, none⟩) 0 0, u]).run Try.prog (x.alloc (.cells #[] 5)) = .ok (.slice a1 d.length c1) w1 ∧ (Builtin.append_ #[36, 36] 36 #[v, .slice (some ⟨w1.heap.size, 0, none⟩) 1 1]).run Try.prog (w1.alloc (.cells (clC c (.slice a1 d.length c1)) 25)) = .ok (.slice a' (vs.length + 1) c') w' ∧ CutS w (vs ++ [(c, .slice a1 d.length c1)]) (.slice a' (vs.length + 1) c') w' := by
  obtain ⟨a1, c1, w1, r1, o1, b1⟩ := copyC x u d hu hd
  have h1 := h.below b1
  obtain ⟨a', c', w', r2, o2, hg, hat⟩ := append_cell w1 w.heap.size vs.length v vs c a1 d.length c1 h1.o hn h1.b.size
  have hal := below_alloc w1 (.cells (clC c (.slice a1 d.length c1)) 25)
  have h2 := h1.below hal
  have hblk : ∀ k, (Value.slice a1 d.length c1).ownBlock = some k → x.heap.size ≤ k ∧ k < w1.heap.size := fun k hk => o1.lt k hk
  have hvl : ∀ k, v.ownBlock = some k → k < x.heap.size := fun k hk => (h.o.lt k hk).2
  have hkeep : ∀ k, k < w1.heap.size → v.ownBlock ≠ some k → w'.heap[k]? = w1.heap[k]? := fun k hk hne => (hg.block k (Nat.lt_of_lt_of_le hk hal.size) (fun e => hne e.symm)).trans (hal.block k hk)
  have hbw : Below w.heap.size w w' := h1.b.trans ⟨hg.os, hg.tape, hg.output, Nat.le_trans hal.size hg.size, fun k hk => hkeep k (Nat.lt_of_lt_of_le hk h1.b.size) (fun e => by have := (h1.o.lt k e).1; omega)⟩
  have hsz : w1.heap.size ≤ w'.heap.size := Nat.le_trans hal.size hg.size
  have hnew : IsC w' c (.slice a1 d.length c1) := ⟨hep, hli, hp, hof, by
    rw [hc]
    exact isY_keepC (owns_isY o1) fun k hk => hkeep k (hblk k hk).2 (fun e => by have := hvl k e; have := (hblk k hk).1; omega)⟩
  refine ⟨a1, c1, w1, a', c', w', r1, r2, ⟨by rw [List.length_append]; exact o2, fun y hy => ?_, fun k hk y hy => ?_, fun y hy k hk => ?_, hbw⟩⟩
  · rcases List.mem_append.1 hy with hy | hy
    · have hh := h1.c y hy
      exact ⟨hh.ep, hh.li, hh.part, hh.of, isY_keepC hh.d fun k hk => hkeep k (h1.l y hy k hk) (fun e => h1.s k e y hy hk)⟩
    · obtain rfl := List.mem_singleton.1 hy
      exact hnew
  · rcases hat with e | e
    · have hk2 := e.symm.trans hk
      rcases List.mem_append.1 hy with hy | hy
      · exact h1.s k hk2 y hy
      · obtain rfl := List.mem_singleton.1 hy
        intro e2
        have := (hblk k e2).1
        have := hvl k hk2
        omega
    · rw [e] at hk
      cases hk
      rcases List.mem_append.1 hy with hy | hy
      · intro e2
        have := h1.l y hy _ e2
        omega
      · obtain rfl := List.mem_singleton.1 hy
        intro e2
        have := (hblk _ e2).2
        omega
  · rcases List.mem_append.1 hy with hy | hy
    · exact Nat.lt_of_lt_of_le (h1.l y hy k hk) hsz
    · obtain rfl := List.mem_singleton.1 hy
      exact Nat.lt_of_lt_of_le (hblk k hk).2 hsz
/-- What is left to be cut. -/
def restC (b : Bs) (e l : Nat) (k : Nat) : List CL := cellsF e l ((b.length + 38) / 39 : Nat) k (piecesF (b.length - 39 * k) (b.drop (39 * k)))
theorem pieces_more : ∀ (k m : Nat) (b : Bs), b.length ≤ k → k ≤ m → piecesF m b = piecesF k b
  | 0, m, [], _, _ => by cases m <;> rfl
  | 0, m, c :: b, h, _ => by simp at h
  | k + 1, 0, b, h, hm => by omega
  | k + 1, m + 1, [], h, hm => rfl
  | k + 1, m + 1, c :: b, h, hm => by
    rw [piecesF, piecesF, pieces_more k m _ (by rw [List.length_drop]; simp only [List.length_cons] at h ⊢; omega) (by omega)]
theorem rest_step (b : Bs) (e l k : Nat) (h : 39 * k < b.length) : restC b e l k = ⟨e, l, k, ((b.length + 38) / 39 : Nat), (b.drop (39 * k)).take (min (39 * k + 39) b.length - 39 * k)⟩ :: restC b e l (k + 1) := by
  unfold restC
  obtain ⟨c, t, hb⟩ : ∃ c t, b.drop (39 * k) = c :: t := by
    cases hh : b.drop (39 * k) with
    | nil =>
      have := congrArg List.length hh
      rw [List.length_drop, List.length_nil] at this
      omega
    | cons c t => exact ⟨c, t, rfl⟩
  obtain ⟨m, hm⟩ : ∃ m, b.length - 39 * k = m + 1 := ⟨b.length - 39 * k - 1, by omega⟩
  have hl := congrArg List.length hb
  rw [List.length_drop] at hl
  rw [hm, hb, piecesF, cellsF]
  have ht : (c :: t).take (min (39 * k + 39) b.length - 39 * k) = (c :: t).take 39 := by
    by_cases h2 : 39 * k + 39 ≤ b.length
    · rw [Nat.min_eq_left h2]; congr 1; omega
    · rw [Nat.min_eq_right (by omega), List.take_of_length_le (by omega), List.take_of_length_le (by omega)]
  rw [ht, ← hb, List.drop_drop, show 39 * k + 39 = 39 * (k + 1) by omega]
  rw [pieces_more (b.length - 39 * (k + 1)) m _ (by rw [List.length_drop]; omega) (by omega)]
theorem rest_end (b : Bs) (e l k : Nat) (h : b.length ≤ 39 * k) : restC b e l k = [] := by
  unfold restC
  rw [show b.length - 39 * k = 0 by omega]
  rfl
theorem rest_all (b : Bs) (e l : Nat) (h : b.length ≤ 65535 * 39) : restC b e l 0 = cutC b e l := by
  unfold restC cutC
  rw [if_neg (by omega)]
  rfl
/-- A list of cells is told. -/
def CutR (w : World) (cs : List CL) (e : Ending) (x : World) : Prop := ∃ v vs, e = .returned v ∧ IsL x v vs ∧ vs.map Prod.fst = cs ∧ Below w.heap.size w x
set_option maxHeartbeats 1000000 in
theorem rcut_any (bv : Value) (b : Bs) (ep li : Nat) (w : World) (hY : IsY w bv b) (hl : b.length ≤ 1000000) (he : ep < 18446744073709551616) (hli : li < 18446744073709551616) :
    Calls Try.prog 17 #[bv, .int .u64 (ep : Int), .int .u64 (li : Int)] w fun e w' => CutR w (cutC b ep li) e w' := by
  obtain ⟨ba, bc, rfl⟩ := hY.form
  have hlB : ¬ (2555865 : Int) < b.length := by omega
  have HS0 : Hid (CutS w [] (.slice (some ⟨w.heap.size, 0, none⟩) 0 0) (w.alloc (.cells #[] 25))) := hide ⟨own_noL w w.heap.size (Nat.le_refl _), fun y hy => (by cases hy), fun k hk y hy => (by cases hy), fun y hy => (by cases hy), below_alloc w _⟩
  have HE0 : Hid (([] : List (CL × Value)).length = 0 ∧ ([] : List (CL × Value)).map Prod.fst ++ restC b ep li 0 = cutC b ep li) := hide ⟨rfl, by rw [rest_all b ep li (by omega)]; rfl⟩
  have HMA := hide (fun x => rmany_any b.length (by omega) x)
  have HSUB := hide (fun i j (h1 : i ≤ j) (h2 : j ≤ b.length) x (hx : Below w.heap.size w x) => sub_isY (hY.below hx) i j h1 h2)
  have HRS := hide (fun k h => rest_step b ep li k h)
  have HRE := hide (fun k h => rest_end b ep li k h)
  have HIS : Hid (∀ (e : Ending) (v : Value) (vs : List (CL × Value)) (x : World), e = .returned v → CutS w vs v x → vs.map Prod.fst = cutC b ep li → CutR w (cutC b ep li) e x) := hide (fun e v vs x h1 h2 h3 => ⟨v, vs, h1, owns_isL h2.o h2.c, h3, h2.b⟩)
  generalize hCC : cutC b ep li = CC at *
  obtain ⟨n, hn⟩ : ∃ n, b.length = n := ⟨_, rfl⟩
  have HN := hide hn
  rw [hn] at hl hlB HMA HSUB
  rw [hn]
  clear hCC hY hn
  go_enter Try.func17, Try.ntmps17
  go_wp2
  go_loopw [7, 8] (fun vl vi wr => ∃ (k : Nat) (vs : List (CL × Value)) (a : Option Addr) (c : Nat), vl = .slice a k c ∧ vi = .int .i64 ((39 * k : Nat) : Int) ∧ k ≤ 1000000 ∧ Hid (CutS w vs (.slice a k c) wr) ∧ Hid (vs.length = k ∧ vs.map Prod.fst ++ restC b ep li k = CC)) (fun _ vi _ => n + 39 - (intOf vi).toNat)
  case atStart => exact ⟨0, [], some ⟨w.heap.size, 0, none⟩, 0, rfl, rfl, Nat.zero_le _, HS0, HE0⟩
  case round =>
    clear HS0 HE0
    obtain ⟨k, vs, a, c, rfl, rfl, hk, HS, HE⟩ := hrel
    by_cases hlt : 39 * k < n
    · have hlt2 : ((39 * k : Nat) : Int) < n := by omega
      have hw1 : wrap64 (39 * (k : Int) + 39) = 39 * (k : Int) + 39 := by unfold wrap64; omega
      have hlt3 : 39 * (k : Int) < n := by omega
      obtain ⟨en, hen⟩ : ∃ en : Nat, en = min (39 * k + 39) n := ⟨_, rfl⟩
      have hmin : min (39 * (k : Int) + 39) (n : Int) = (en : Int) := by omega
      obtain ⟨u, hsl, hu⟩ := HSUB.out (39 * k) en (by omega) (by omega) wr.drew (HS.out.b.drew)
      have hdl : ((b.drop (39 * k)).take (en - 39 * k)).length ≤ 1000000 := by rw [List.length_take]; omega
      have hS := HS.out
      have hE := HE.out
      obtain ⟨a1, c1, w1, a', c', w', r1, r2, S2⟩ := (CutS.below hS (Below.refl _ wr).drew).step hu hdl (by rw [hE.1]; exact hk) ⟨ep, li, k, ((n + 38) / 39 : Nat), (b.drop (39 * k)).take (en - 39 * k)⟩ rfl he hli (by show -9223372036854775808 ≤ (k : Int) ∧ (k : Int) ≤ 9223372036854775807; omega) (by show -9223372036854775808 ≤ (((n + 38) / 39 : Nat) : Int) ∧ (((n + 38) / 39 : Nat) : Int) ≤ 9223372036854775807; omega)
      have hst := HRS.out k (by rw [HN.out]; exact hlt)
      rw [HN.out, ← hen] at hst
      rw [hE.1] at r2 S2
      obtain ⟨vs', hvs⟩ : ∃ vs', vs' = vs ++ [((⟨ep, li, k, ((n + 38) / 39 : Nat), (b.drop (39 * k)).take (en - 39 * k)⟩ : CL), Value.slice a1 ((b.drop (39 * k)).take (en - 39 * k)).length c1)] := ⟨_, rfl⟩
      have HE2 : Hid (vs'.length = k + 1 ∧ vs'.map Prod.fst ++ restC b ep li (k + 1) = CC) := hide (by
        rw [hvs, List.length_append, hE.1, List.map_append, List.append_assoc]
        refine ⟨rfl, ?_⟩
        rw [← hE.2, hst]
        rfl)
      rw [← hvs] at S2
      have HS2 := hide S2
      rw [show ((39 * k : Nat) : Int) = 39 * (k : Int) by omega] at hsl
      have HSL := hide hsl
      rw [show wr.drew.heap.size = wr.heap.size from rfl] at r1
      have HR1 := hide r1
      have HR2 := hide r2
      have hk6 : k + 1 ≤ 1000000 := by omega
      have hcase : ((39 * (k : Int) + 39 ≤ n) ∧ (en : Int) = 39 * (k : Int) + 39) ∨ (¬ (39 * (k : Int) + 39 ≤ n) ∧ (en : Int) = n) := by omega
      clear hlt2 hsl hu hS hE r1 r2 S2 hst hvs HE HS HSUB HRS HRE HIS hdl hen
      generalize ((b.drop (39 * k)).take (en - 39 * k)).length = dl at *
      clear hmin
      rcases hcase with ⟨g1, g2⟩ | ⟨g1, g2⟩
      all_goals
        rw [g2] at HSL
        clear g2
        go_wp2_with fail
        refine wp_region_held_drew (S := fun _ => True) (by kernel_rfl) trivial (fun hHeld => ?_)
        refine wpAnyH_take (i := 0) (v := ?_) rfl (by kernel_rfl) (by kernel_rfl) (by kernel_rfl) (fun _ _ _ h => h) (Or.inl ⟨by kernel_rfl, ?_⟩) hHeld ?_
        rotate_left
        · intro W hSw
          clear hSw
          go_simp <;> with_reducible rfl
        simp only [Act.put, List.getElem_toArray, List.getElem_cons_zero, List.getElem_cons_succ, List.setIfInBounds_toArray, List.set_cons_zero, List.set_cons_succ]
        refine wpAnyH_take (i := 1) (v := ?_) rfl (by kernel_rfl) (by kernel_rfl) (by kernel_rfl) (fun _ _ _ h => h) (Or.inl ⟨by kernel_rfl, ?_⟩) hHeld ?_
        rotate_left
        · intro W hSw
          clear hSw
          go_simp <;> with_reducible rfl
        simp only [Act.put, List.getElem_toArray, List.getElem_cons_zero, List.getElem_cons_succ, List.setIfInBounds_toArray, List.set_cons_zero, List.set_cons_succ]
        refine wpAnyH_take (i := 2) (v := ?_) rfl (by kernel_rfl) (by kernel_rfl) (by kernel_rfl) (fun _ _ _ h => h) (Or.inl ⟨by kernel_rfl, ?_⟩) hHeld ?_
        rotate_left
        · intro W hSw
          clear hSw
          go_simp <;> with_reducible rfl
        simp only [Act.put, List.getElem_toArray, List.getElem_cons_zero, List.getElem_cons_succ, List.setIfInBounds_toArray, List.set_cons_zero, List.set_cons_succ]
        refine wpAnyH_take (i := 3) (v := ?_) rfl (by kernel_rfl) (by kernel_rfl) (by kernel_rfl) (fun _ _ _ h => h) (Or.inl ⟨by kernel_rfl, ?_⟩) hHeld ?_
        rotate_left
        · intro W hSw
          clear hSw
          go_simp <;> with_reducible rfl
        simp only [Act.put, List.getElem_toArray, List.getElem_cons_zero, List.getElem_cons_succ, List.setIfInBounds_toArray, List.set_cons_zero, List.set_cons_succ]
        refine wpAnyH_take (i := 4) (v := ?_) rfl (by kernel_rfl) (by kernel_rfl) (by kernel_rfl) (fun _ _ _ h => h) (Or.inl ⟨by kernel_rfl, ?_⟩) hHeld ?_
        rotate_left
        · intro W hSw
          clear hSw
          go_simp <;> with_reducible rfl
        simp only [Act.put, List.getElem_toArray, List.getElem_cons_zero, List.getElem_cons_succ, List.setIfInBounds_toArray, List.set_cons_zero, List.set_cons_succ]
        refine wpAnyH_take (i := 5) (v := ?_) rfl (by kernel_rfl) (by kernel_rfl) (by kernel_rfl) (fun _ _ _ h => h) (Or.inl ⟨by kernel_rfl, ?_⟩) hHeld ?_
        rotate_left
        · intro W hSw
          clear hSw
          go_simp <;> with_reducible rfl
        simp only [Act.put, List.getElem_toArray, List.getElem_cons_zero, List.getElem_cons_succ, List.setIfInBounds_toArray, List.set_cons_zero, List.set_cons_succ]
        refine wpAnyH_take (i := 6) (v := ?_) rfl (by kernel_rfl) (by kernel_rfl) (by kernel_rfl) (fun _ _ _ h => h) (Or.inl ⟨by kernel_rfl, ?_⟩) hHeld ?_
        rotate_left
        · intro W hSw
          clear hSw
          go_simp <;> with_reducible rfl
        simp only [Act.put, List.getElem_toArray, List.getElem_cons_zero, List.getElem_cons_succ, List.setIfInBounds_toArray, List.set_cons_zero, List.set_cons_succ]
        refine wpAnyH_take (i := 9) (v := ?_) rfl (by kernel_rfl) (by kernel_rfl) (by kernel_rfl) (fun _ _ _ h => h) (Or.inl ⟨by kernel_rfl, ?_⟩) hHeld ?_
        rotate_left
        · intro W hSw
          clear hSw
          go_simp <;> with_reducible rfl
        simp only [Act.put, List.getElem_toArray, List.getElem_cons_zero, List.getElem_cons_succ, List.setIfInBounds_toArray, List.set_cons_zero, List.set_cons_succ]
        refine wpAnyH_take (i := 10) (v := ?_) rfl (by kernel_rfl) (by kernel_rfl) (by kernel_rfl) (fun _ _ _ h => h) (Or.inl ⟨by kernel_rfl, ?_⟩) hHeld ?_
        rotate_left
        · intro W hSw
          clear hSw
          go_simp <;> with_reducible rfl
        simp only [Act.put, List.getElem_toArray, List.getElem_cons_zero, List.getElem_cons_succ, List.setIfInBounds_toArray, List.set_cons_zero, List.set_cons_succ]
        refine wpAnyH_take (i := 11) (v := ?_) rfl (by kernel_rfl) (by kernel_rfl) (by kernel_rfl) (fun _ _ _ h => h) (Or.inl ⟨by kernel_rfl, ?_⟩) hHeld ?_
        rotate_left
        · intro W hSw
          clear hSw
          go_simp <;> with_reducible rfl
        simp only [Act.put, List.getElem_toArray, List.getElem_cons_zero, List.getElem_cons_succ, List.setIfInBounds_toArray, List.set_cons_zero, List.set_cons_succ]
        refine wpAnyH_take (i := 12) (v := ?_) rfl (by kernel_rfl) (by kernel_rfl) (by kernel_rfl) (fun _ _ _ h => h) (Or.inl ⟨by kernel_rfl, ?_⟩) hHeld ?_
        rotate_left
        · intro W hSw
          have hsl := HSL.out
          clear hSw
          go_simp <;> with_reducible rfl
        simp only [Act.put, List.getElem_toArray, List.getElem_cons_zero, List.getElem_cons_succ, List.setIfInBounds_toArray, List.set_cons_zero, List.set_cons_succ]
        refine wpAnyH_ready (rs := [7, 8]) (by kernel_rfl) (by simp) ?_
        refine AllReadyH.cons rfl (fun K hK => ?_) (AllReadyH.cons rfl (fun K hK => ?_) AllReadyH.nil)
        · go_simp
          go_wp2_with (first | (go_at_call 31; refine (HMA.out _).mono ?_; rintro e y5 ⟨rfl, rfl⟩))
          refine hK.out _ _ ?_ (fun hHeld => ?_)
          · trivial
          clear hK K
          try simp only [Act.put, List.getElem_toArray, List.getElem_cons_zero, List.getElem_cons_succ, List.setIfInBounds_toArray, List.set_cons_zero, List.set_cons_succ]
          refine wpAnyH_ready (rs := [8]) (by kernel_rfl) (by simp) ?_
          refine AllReadyH.cons rfl (fun K hK => ?_) AllReadyH.nil
          go_simp
          refine hK.out _ _ ?_ (fun hHeld => ?_)
          · trivial
          clear hK K
          try simp only [Act.put, List.getElem_toArray, List.getElem_cons_zero, List.getElem_cons_succ, List.setIfInBounds_toArray, List.set_cons_zero, List.set_cons_succ]
          refine wpAnyH_ready (rs := [13]) (by kernel_rfl) (by simp) ?_
          refine AllReadyH.cons rfl (fun K hK => ?_) AllReadyH.nil
          refine step_append_run rfl (.tmp 33) (.tmp 37) 23 rfl (.slice (some ⟨wr.heap.size, 0, none⟩) 0 0) u _ _ rfl rfl HR1.out ?_
          refine hK.out _ _ ?_ (fun hHeld => ?_)
          · trivial
          clear hK K
          try simp only [Act.put, List.getElem_toArray, List.getElem_cons_zero, List.getElem_cons_succ, List.setIfInBounds_toArray, List.set_cons_zero, List.set_cons_succ]
          refine wpAnyH_take (i := 14) (v := ?_) rfl (by kernel_rfl) (by kernel_rfl) (by kernel_rfl) (fun _ _ _ h => h) (Or.inl ⟨by kernel_rfl, ?_⟩) hHeld ?_
          rotate_left
          · intro W hSw
            clear hSw
            go_simp <;> with_reducible rfl
          simp only [Act.put, List.getElem_toArray, List.getElem_cons_zero, List.getElem_cons_succ, List.setIfInBounds_toArray, List.set_cons_zero, List.set_cons_succ]
          refine wpAnyH_ready (rs := [15]) (by kernel_rfl) (by simp) ?_
          refine AllReadyH.cons rfl (fun K hK => ?_) AllReadyH.nil
          go_simp
          refine hK.out _ _ ?_ (fun hHeld => ?_)
          · trivial
          clear hK K
          try simp only [Act.put, List.getElem_toArray, List.getElem_cons_zero, List.getElem_cons_succ, List.setIfInBounds_toArray, List.set_cons_zero, List.set_cons_succ]
          refine wpAnyH_ready (rs := [16]) (by kernel_rfl) (by simp) ?_
          refine AllReadyH.cons rfl (fun K hK => ?_) AllReadyH.nil
          refine step_append_run rfl (.tmp 25) (.tmp 40) 36 rfl (.slice a k c) (.slice (some ⟨w1.heap.size, 0, none⟩) 1 1) _ _ rfl rfl HR2.out ?_
          refine hK.out _ _ ?_ (fun hHeld => ?_)
          · trivial
          clear hK K
          try simp only [Act.put, List.getElem_toArray, List.getElem_cons_zero, List.getElem_cons_succ, List.setIfInBounds_toArray, List.set_cons_zero, List.set_cons_succ]
          refine wpAnyH_take (i := 17) (v := ?_) rfl (by kernel_rfl) (by kernel_rfl) (by kernel_rfl) (fun _ _ _ h => h) (Or.inl ⟨by kernel_rfl, ?_⟩) hHeld ?_
          rotate_left
          · intro W hSw
            clear hSw
            go_simp <;> with_reducible rfl
          simp only [Act.put, List.getElem_toArray, List.getElem_cons_zero, List.getElem_cons_succ, List.setIfInBounds_toArray, List.set_cons_zero, List.set_cons_succ]
          refine wpAnyH_done (by kernel_rfl) ?_ _
          clear hHeld
          go_wp2
          go_roundw
          case rel => exact ⟨k + 1, vs', a', c', rfl, by go_num, by omega, HS2, HE2⟩
          case measure => simp [intOf]; omega
        · go_simp
          refine hK.out _ _ ?_ (fun hHeld => ?_)
          · trivial
          clear hK K
          try simp only [Act.put, List.getElem_toArray, List.getElem_cons_zero, List.getElem_cons_succ, List.setIfInBounds_toArray, List.set_cons_zero, List.set_cons_succ]
          refine wpAnyH_ready (rs := [7]) (by kernel_rfl) (by simp) ?_
          refine AllReadyH.cons rfl (fun K hK => ?_) AllReadyH.nil
          go_simp
          go_wp2_with (first | (go_at_call 31; refine (HMA.out _).mono ?_; rintro e y5 ⟨rfl, rfl⟩))
          refine hK.out _ _ ?_ (fun hHeld => ?_)
          · trivial
          clear hK K
          try simp only [Act.put, List.getElem_toArray, List.getElem_cons_zero, List.getElem_cons_succ, List.setIfInBounds_toArray, List.set_cons_zero, List.set_cons_succ]
          refine wpAnyH_ready (rs := [13]) (by kernel_rfl) (by simp) ?_
          refine AllReadyH.cons rfl (fun K hK => ?_) AllReadyH.nil
          refine step_append_run rfl (.tmp 33) (.tmp 37) 23 rfl (.slice (some ⟨wr.heap.size, 0, none⟩) 0 0) u _ _ rfl rfl HR1.out ?_
          refine hK.out _ _ ?_ (fun hHeld => ?_)
          · trivial
          clear hK K
          try simp only [Act.put, List.getElem_toArray, List.getElem_cons_zero, List.getElem_cons_succ, List.setIfInBounds_toArray, List.set_cons_zero, List.set_cons_succ]
          refine wpAnyH_take (i := 14) (v := ?_) rfl (by kernel_rfl) (by kernel_rfl) (by kernel_rfl) (fun _ _ _ h => h) (Or.inl ⟨by kernel_rfl, ?_⟩) hHeld ?_
          rotate_left
          · intro W hSw
            clear hSw
            go_simp <;> with_reducible rfl
          simp only [Act.put, List.getElem_toArray, List.getElem_cons_zero, List.getElem_cons_succ, List.setIfInBounds_toArray, List.set_cons_zero, List.set_cons_succ]
          refine wpAnyH_ready (rs := [15]) (by kernel_rfl) (by simp) ?_
          refine AllReadyH.cons rfl (fun K hK => ?_) AllReadyH.nil
          go_simp
          refine hK.out _ _ ?_ (fun hHeld => ?_)
          · trivial
          clear hK K
          try simp only [Act.put, List.getElem_toArray, List.getElem_cons_zero, List.getElem_cons_succ, List.setIfInBounds_toArray, List.set_cons_zero, List.set_cons_succ]
          refine wpAnyH_ready (rs := [16]) (by kernel_rfl) (by simp) ?_
          refine AllReadyH.cons rfl (fun K hK => ?_) AllReadyH.nil
          refine step_append_run rfl (.tmp 25) (.tmp 40) 36 rfl (.slice a k c) (.slice (some ⟨w1.heap.size, 0, none⟩) 1 1) _ _ rfl rfl HR2.out ?_
          refine hK.out _ _ ?_ (fun hHeld => ?_)
          · trivial
          clear hK K
          try simp only [Act.put, List.getElem_toArray, List.getElem_cons_zero, List.getElem_cons_succ, List.setIfInBounds_toArray, List.set_cons_zero, List.set_cons_succ]
          refine wpAnyH_take (i := 17) (v := ?_) rfl (by kernel_rfl) (by kernel_rfl) (by kernel_rfl) (fun _ _ _ h => h) (Or.inl ⟨by kernel_rfl, ?_⟩) hHeld ?_
          rotate_left
          · intro W hSw
            clear hSw
            go_simp <;> with_reducible rfl
          simp only [Act.put, List.getElem_toArray, List.getElem_cons_zero, List.getElem_cons_succ, List.setIfInBounds_toArray, List.set_cons_zero, List.set_cons_succ]
          refine wpAnyH_done (by kernel_rfl) ?_ _
          clear hHeld
          go_wp2
          go_roundw
          case rel => exact ⟨k + 1, vs', a', c', rfl, by go_num, by omega, HS2, HE2⟩
          case measure => simp [intOf]; omega
    · have hlt2 : ¬ 39 * (k : Int) < n := by omega
      have hre := HRE.out k (by rw [HN.out]; omega)
      have HF : Hid (∀ e, e = Ending.returned (.slice a k c) → CutR w CC e wr) := hide (fun e h => HIS.out e _ vs wr h HS.out (by have := HE.out.2; rw [hre, List.append_nil] at this; exact this))
      clear hre HIS HE HS HRE HRS HSUB HMA
      go_wp2
      go_ret
      exact HF.out _ rfl
end Go.Proofs.Ytbodbomebmkopaa
