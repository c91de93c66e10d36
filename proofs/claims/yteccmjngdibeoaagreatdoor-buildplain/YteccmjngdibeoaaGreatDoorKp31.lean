import Derived.Test.YteccmjngdibeoaaGreatDoorKp29
import Derived.Test.YteccmjngdibeoaaGreatDoorKp30
set_option linter.unusedVariables false
set_option linter.unusedSimpArgs false
set_option maxRecDepth 4000
namespace Go.Proofs.YteccmjngdibeoaaGreatDoor
open S5 (TR kidsAt nodeAt parentN appendL beforeL withinL)
def optZ : Option Nat → Int
  | none => -1
  | some k => (k : Int)
theorem isP_v (o : OM) (names : List Bs) : isP o.v names = isO o names := by
  unfold isP S6.namedL S6.htmlL isO OM.v
  simp
theorem place_rel {s : PB} {m : BS} (h : Rel0 s m) (hd : m.op[0]? = some rootO) (o : OM) : placeP s o.v = (((placeB m o).1 : Int), optZ (placeB m o).2) := by
  unfold placeP placeB
  rw [isP_v, h.fo, show tabNs = ofTable from rfl]
  by_cases h1 : m.fost = false ∨ isO o ofTable = false
  · have hb : (!m.fost || !isO o ofTable) = true := by rcases h1 with h1 | h1 <;> simp [h1]
    rw [if_pos h1, if_pos hb]
    rfl
  · have hb : ¬ (!m.fost || !isO o ofTable) = true := by
      intro hb
      apply h1
      cases hf : m.fost
      · exact .inl rfl
      · rw [hf] at hb
        right
        simpa using hb
    rw [if_neg h1, if_neg hb]
    have hlen : s.op.length = m.op.length := by rw [h.op]; simp [vs]
    have hcut : S6.cutZ s.op [[116, 97, 98, 108, 101]] = S6.placeZ (S6.lastO (S6.namedL [[116, 97, 98, 108, 101]]) (vs m.op) m.op.length) := by
      unfold S6.cutZ
      rw [hlen, h.op]
    rw [hcut]
    cases hq : S6.lastO (S6.namedL [[116, 97, 98, 108, 101]]) (vs m.op) m.op.length with
    | none => rfl
    | some j =>
      have hj := S6.last_some _ _ _ j (by simp [vs]) hq
      have hjl : j < m.op.length := hj.1
      have hid : ∀ k (hk : k < m.op.length), idAt s k = (m.op[k].id : Int) := fun k hk => by
        unfold idAt
        rw [h.op]
        simp [vs, hk, OM.v]
      cases j with
      | zero =>
        exfalso
        have h2 := hj.2.1 (by simp [vs]; omega)
        have e0 : m.op[0]'(by omega) = rootO := by
          rw [List.getElem?_eq_getElem (by omega)] at hd
          exact Option.some.inj hd
        have e1 : (vs m.op)[0]'(by simp [vs]; omega) = rootO.v := by simp [vs, e0]
        rw [e1] at h2
        exact absurd h2 (by decide)
      | succ k =>
        rw [if_neg (by simp [S6.placeZ]; omega)]
        simp only [S6.placeZ, Int.toNat_natCast, Nat.add_sub_cancel]
        rw [List.getElem?_eq_getElem hjl, hid (k + 1) hjl, hid k (by omega), h.T, List.getElem?_eq_getElem (show k < m.op.length by omega)]
        simp only [Option.getD_some]
        have hp : S5.parentZ m.T ((m.op[k + 1].id : Nat) : Int) = S5.parZ (parentN m.T m.op[k + 1].id) := by
          unfold S5.parentZ
          rw [if_neg (by omega), Int.toNat_natCast]
        rw [hp]
        cases parentN m.T m.op[k + 1].id with
        | none => rfl
        | some p =>
          rw [if_neg (by show ¬ ((p : Nat) : Int) = -1; omega)]
          rfl
theorem holds_of {T : TR} {p : Nat} (h : HoldOk (nodeAt T p)) : S5.holdsL T p = true := by
  unfold S5.holdsL
  rcases h with h | h
  · rw [h.1]; rfl
  · rw [h.1]; rfl
theorem put_rel {T : TR} {p : Nat} {x : Option Nat} {k : Nat} (hW : S5.WF T) (hP : PlaceOk T p x) (hH : HoldOk (nodeAt T p)) (hk : k < T.length) : (if optZ x = -1 then (S5.appendZ T (p : Int) (k : Int)).1 else (S5.beforeZ T (optZ x) (k : Int)).1) = putL T p x k := by
  cases x with
  | none =>
    have hp : p < T.length := hP
    rw [if_pos (show optZ none = -1 from rfl)]
    unfold S5.appendZ putL
    rw [if_pos ⟨by unfold S5.inT; omega, by unfold S5.inT; omega⟩]
    simp only [Int.toNat_natCast, holds_of hH, Bool.true_and, Option.getD_none]
    by_cases h0 : k = 0
    · subst h0; simp
    · by_cases hw : withinL T p k = true
      · simp [h0, hw]
      · have hw2 : withinL T p k = false := by simpa using hw
        have : ((k : Int) == 0) = false := by rw [beq_eq_false_iff_ne]; omega
        simp [h0, hw2, this]
  | some r =>
    have hr : r ∈ kidsAt T p := hP
    have hrl := (hW.inb p r hr).2
    rw [show optZ (some r) = (r : Int) from rfl, if_neg (show ¬ ((r : Nat) : Int) = -1 by omega)]
    unfold S5.beforeZ putL
    rw [if_pos ⟨by unfold S5.inT; omega, by unfold S5.inT; omega⟩]
    simp only [Int.toNat_natCast, hW.parent hr, Option.getD_some]
    by_cases h0 : k = 0
    · subst h0; simp
    · by_cases hw : withinL T r k = true
      · simp [h0, hw]
      · have hw2 : withinL T r k = false := by simpa using hw
        have : ((k : Int) == 0) = false := by rw [beq_eq_false_iff_ne]; omega
        simp [h0, hw2, this]
theorem kidsZ_nat (T : TR) (p : Nat) : S5.kidsZ T (p : Int) = kidsAt T p := by
  unfold S5.kidsZ
  by_cases h : p < T.length
  · rw [if_pos (by omega), Int.toNat_natCast]
  · rw [if_neg (by omega), S5.kidsAt_out (by omega)]
theorem neigh_rel {s : PB} {m : BS} (h : Rel0 s m) (p : Nat) (x : Option Nat) : neighP s ((p : Int), optZ x) = optZ (aheadK (kidsAt m.T p) x) := by
  unfold neighP aheadK
  simp only [kidsZ_nat, h.T]
  have e : ∀ l : List Nat, aheadZ l (optZ x) = l.takeWhile fun y => !(some y == x) := by
    intro l
    unfold aheadZ
    congr 1
    funext y
    cases x with
    | none =>
      have : ((y : Int) == -1) = false := by rw [beq_eq_false_iff_ne]; omega
      simp [optZ, this]
    | some r =>
      by_cases hy : y = r
      · subst hy; simp [optZ]
      · have : ((y : Int) == (r : Int)) = false := by rw [beq_eq_false_iff_ne]; omega
        simp [optZ, hy, this]
  rw [e]
  unfold lastZ8
  cases ((kidsAt m.T p).takeWhile fun y => !(some y == x)).getLast? <;> rfl
theorem parent_pushP (T : TR) (d : S5.ND) (k : Nat) : parentN (S5.pushL T d) k = parentN T k := by
  unfold parentN S5.pushL
  rw [List.findIdx?_append]
  cases List.findIdx? (fun it : S5.IT => it.2.contains k) T with
  | none => rfl
  | some i => rfl
theorem place_grow (m : BS) (d : S5.ND) (o : OM) : placeB { m with T := S5.pushL m.T d } o = placeB m o := by
  unfold placeB
  simp only [parent_pushP]
theorem placeOk_push {T : TR} {p : Nat} {x : Option Nat} (d : S5.ND) (h : PlaceOk T p x) : PlaceOk (S5.pushL T d) p x := by
  cases x with
  | none =>
    have h1 : p < T.length := h
    show p < (S5.pushL T d).length
    unfold S5.pushL
    simp
    omega
  | some r =>
    show r ∈ kidsAt (S5.pushL T d) p
    rw [S5.kids_push]
    exact h
theorem placeOk_lt {T : TR} {p : Nat} {x : Option Nat} (h : PlaceOk T p x) : p < T.length := by
  cases x with
  | none => exact h
  | some r => exact S5.kidsAt_lt h
theorem hold_push {T : TR} {p : Nat} {x : Option Nat} (d : S5.ND) (hp : PlaceOk T p x) (h : HoldOk (nodeAt T p)) : HoldOk (nodeAt (S5.pushL T d) p) := by
  have : nodeAt (S5.pushL T d) p = nodeAt T p := by rw [node_pushP, if_neg (by have := placeOk_lt hp; omega)]
  rw [this]
  exact h
theorem Rel.err {s : PB} {m : BS} (h : s.e = m.e) (h0 : m.e ≠ 0) : Rel s m := ⟨h, fun e => absurd e h0⟩
theorem newT_rel {s : PB} {m : BS} (h : Rel0 s m) (he : s.e = 0) (hm : m.e = 0) (hi : Inv m) (d : S5.ND) :
    Rel (newT s d) (putB (growB m d).1 (placeB m (curB m)).1 (placeB m (curB m)).2 (growB m d).2) := by
  have hc := cur_rel h (List.ne_nil_of_length_pos (by have := hi.o.pos; omega))
  have hpl := place_rel h hi.o.hd (curB m)
  obtain ⟨hP, hH⟩ := place_ok hi (cur_mem hi.o)
  unfold newT
  rw [hc, hpl]
  have hm0 : ¬ m.e ≠ 0 := fun q => q hm
  unfold growB S5.makeL
  rw [if_neg hm0, h.T]
  by_cases hl : m.T.length < 2000
  · have hl2 : ¬ 2000 ≤ m.T.length := by omega
    rw [if_pos hl, if_neg hl2]
    simp only [putB, madeP]
    rw [if_neg (by omega)]
    refine ⟨he.trans hm.symm, fun _ => ?_⟩
    unfold putP
    simp only
    refine { T := ?_, op := h.op, mr := h.mr, ru := h.ru, mo := h.mo, nm := h.nm, fo := h.fo, sk := h.sk }
    exact put_rel (hi.t.wf.push d) (placeOk_push d hP) (hold_push d hP hH) (by simp [S5.pushL])
  · have hl2 : 2000 ≤ m.T.length := by omega
    rw [if_neg hl, if_pos hl2]
    refine Rel.err ?_ (by simp [putB])
    simp only [putB, putP, madeP, failP, he, if_true]
theorem text_rel {s : PB} {m : BS} (h : Rel0 s m) (he : s.e = 0) (hm : m.e = 0) (hi : Inv m) (t : Bs) : Rel (textP s t) (textB m t) := by
  have hc := cur_rel h (List.ne_nil_of_length_pos (by have := hi.o.pos; omega))
  have hpl := place_rel h hi.o.hd (curB m)
  have hn := neigh_rel h (placeB m (curB m)).1 (placeB m (curB m)).2
  have hN := newT_rel h he hm hi { kind := 2, text := t }
  have eA : addR s t = S5.addZ s.T (optZ (aheadK (kidsAt m.T (placeB m (curB m)).1) (placeB m (curB m)).2)) t := by
    unfold addR
    rw [hc, hpl, hn]
  have key : ∀ R : S5.TR × Int, addR s t = R → textP s t = if R.2 = 0 then { s with T := R.1 } else newT s { kind := 2, text := t } := fun R e => by subst e; rfl
  unfold textB
  simp only
  cases hq : aheadK (kidsAt m.T (placeB m (curB m)).1) (placeB m (curB m)).2 with
  | none =>
    rw [hq] at eA
    have e : S5.addZ s.T (optZ none) t = (s.T, 2) := by
      unfold S5.addZ
      rw [if_neg (by show ¬ (0 ≤ (-1 : Int) ∧ _); omega)]
    rw [key _ (eA.trans e), if_neg (by simp)]
    exact hN
  | some y =>
    rw [hq] at eA
    simp only
    by_cases hk : (nodeAt m.T y).kind = 2
    · have hy : y < m.T.length := by
        rcases Nat.lt_or_ge y m.T.length with h1 | h1
        · exact h1
        · have : nodeAt m.T y = {} := by unfold nodeAt; rw [List.getElem?_eq_none h1]; rfl
          rw [this] at hk
          exact absurd hk (by decide)
      have e : S5.addZ s.T (optZ (some y)) t = (S5.addL m.T y t, 0) := by
        unfold S5.addZ
        rw [show optZ (some y) = (y : Int) from rfl, h.T, if_pos (by unfold S5.inT; omega), Int.toNat_natCast, if_pos hk]
      rw [key _ (eA.trans e), if_pos rfl, if_pos hk]
      exact ⟨he.trans hm.symm, fun _ => { T := rfl, op := h.op, mr := h.mr, ru := h.ru, mo := h.mo, nm := h.nm, fo := h.fo, sk := h.sk }⟩
    · have e : (S5.addZ s.T (optZ (some y)) t).2 ≠ 0 := by
        unfold S5.addZ
        rw [show optZ (some y) = (y : Int) from rfl, h.T]
        split
        · rw [Int.toNat_natCast, if_neg hk]; simp
        · simp
      rw [key _ eA, if_neg e, if_neg hk]
      exact hN
theorem op_len {s : PB} {m : BS} (h : Rel0 s m) : s.op.length = m.op.length := by rw [h.op]; simp [vs]
theorem elem_rel {s : PB} {m : BS} (h : Rel0 s m) (he : s.e = 0) (hm : m.e = 0) (hi : Inv m) (sp : Int) (nm : ByteArray) (aa : S5.AttrL) :
    Rel (elemP s sp nm aa) (insertB m sp nm.data.toList aa).1 ∧ (∀ k, (insertB m sp nm.data.toList aa).2 = some k → elemZ s sp nm aa = (k : Int)) ∧ ((insertB m sp nm.data.toList aa).2 = none → (insertB m sp nm.data.toList aa).1.e ≠ 0) := by
  have hlen := op_len h
  unfold elemP elemZ insertB
  simp only
  by_cases hd : 60 < m.op.length
  · have e1 : deepB m = { m with e := 5 } := by unfold deepB; rw [if_pos ⟨hm, hd⟩]
    have e2 : growB (deepB m) { kind := 1, space := sp, name := nm.data.toList, attrs := aa } = (deepB m, none) := by
      unfold growB
      rw [e1]
      simp
    rw [e2, if_pos (by omega), if_pos (by omega)]
    refine ⟨Rel.err ?_ (by rw [e1]; simp), fun k hk => by simp at hk, fun _ => by rw [e1]; simp⟩
    rw [e1]
    unfold failP
    rw [if_pos he]
  · have e1 : deepB m = m := by unfold deepB; rw [if_neg (fun q => hd q.2)]
    rw [e1, if_neg (by omega), if_neg (by omega)]
    obtain ⟨hP, hH⟩ := place_ok hi (cur_mem hi.o)
    by_cases hl : m.T.length < 2000
    · have eM : elemM s sp nm aa = (S5.pushL m.T { kind := 1, space := sp, name := nm.data.toList, attrs := aa }, (m.T.length : Int)) := by
        unfold elemM S5.makeL
        rw [h.T, if_pos hl]
      have eG : growB m { kind := 1, space := sp, name := nm.data.toList, attrs := aa } = ({ m with T := S5.pushL m.T { kind := 1, space := sp, name := nm.data.toList, attrs := aa } }, some m.T.length) := by
        unfold growB
        rw [if_neg (by simpa using hm), if_neg (by omega)]
      have eQ : elemQ s sp nm aa = { s with T := S5.pushL m.T { kind := 1, space := sp, name := nm.data.toList, attrs := aa } } := by
        unfold elemQ madeP
        rw [eM, if_neg (by simp only; omega)]
      have hQ : Rel0 (elemQ s sp nm aa) { m with T := S5.pushL m.T { kind := 1, space := sp, name := nm.data.toList, attrs := aa } } := by
        rw [eQ]
        exact { T := rfl, op := h.op, mr := h.mr, ru := h.ru, mo := h.mo, nm := h.nm, fo := h.fo, sk := h.sk }
      have hc := cur_rel hQ (List.ne_nil_of_length_pos (by have := hi.o.pos; simp only; omega))
      have hpl := place_rel hQ hi.o.hd (curB m)
      rw [place_grow] at hpl
      have hcur : curB { m with T := S5.pushL m.T { kind := 1, space := sp, name := nm.data.toList, attrs := aa } } = curB m := rfl
      rw [hcur] at hc
      rw [eG]
      simp only
      refine ⟨⟨?_, fun _ => ?_⟩, fun k hk => ?_, fun hk => by simp at hk⟩
      · show (elemR s sp nm aa).e = _
        unfold elemR putP
        simp only [eQ, putB]
        exact he.trans hm.symm
      · refine { T := ?_, op := ?_, mr := ?_, ru := ?_, mo := ?_, nm := ?_, fo := ?_, sk := ?_ }
        · show (elemR s sp nm aa).T = putL _ _ _ _
          unfold elemR putP
          rw [hc, hpl, eM]
          simp only [eQ]
          exact put_rel (hi.t.wf.push _) (placeOk_push _ hP) (hold_push _ hP hH) (by simp [S5.pushL])
        · show (elemR s sp nm aa).op ++ _ = _
          rw [elemR_op, h.op, eM]
          simp [vs, OM.v]
        all_goals
          simp only [elemR, putP, eQ, putB]
        · exact h.mr
        · exact h.ru
        · exact h.mo
        · exact h.nm
        · exact h.fo
        · exact h.sk
      · simp only [Option.some.injEq] at hk
        rw [eM, hk]
    · have eG : growB m { kind := 1, space := sp, name := nm.data.toList, attrs := aa } = ({ m with e := 4 }, none) := by
        unfold growB
        rw [if_neg (by simpa using hm), if_pos (by omega)]
      have eM : elemM s sp nm aa = (m.T, -1) := by
        unfold elemM S5.makeL
        rw [h.T, if_neg hl]
      rw [eG]
      simp only
      refine ⟨Rel.err ?_ (by simp), fun k hk => by simp at hk, fun _ => by simp⟩
      show (elemR s sp nm aa).e = 4
      unfold elemR putP elemQ madeP
      rw [eM]
      simp only [if_true, failP, he]
end Go.Proofs.YteccmjngdibeoaaGreatDoor
