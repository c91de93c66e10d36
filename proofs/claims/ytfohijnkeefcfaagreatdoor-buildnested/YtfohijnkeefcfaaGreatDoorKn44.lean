import Derived.Test.YtfohijnkeefcfaaGreatDoorKn08
import Derived.Test.YtfohijnkeefcfaaGreatDoorKn09
import Derived.Test.YtfohijnkeefcfaaGreatDoorKn38
import Derived.Test.YtfohijnkeefcfaaGreatDoorKn39
import Derived.Test.YtfohijnkeefcfaaGreatDoorKn43
set_option linter.unusedVariables false
set_option linter.unusedSimpArgs false
set_option maxRecDepth 100000
set_option maxHeartbeats 8000000
namespace Go.Proofs.YtfohijnkeefcfaaGreatDoor
open Go.RowKit
open S5 (ButA andNew PT IsA cell_lt below_alloc hide below_drewN)
theorem step_divA {n bb c : Nat} {s : PB} {m : BS} (sv : Value) (aa : S5.AttrL) (ha : aa.length <= 1000000) (hm : Smp m) (hr : Rel0 s m) (he : s.e = 0) (hme : m.e = 0) (hI : PInv c s) (hcl : closePB m = m) (hhas : hasB m [[112]] 3 = false) :
    ∃ S, BC 33 n bb (tvOf (startA divN aa) sv) s S /\ Rel S (takeB m (startA divN aa)) /\ PInv (c + 50000) S /\ S.nm = s.nm := by
  have hr2 := unsk_rel hr hm
  have hcp : closePP (unskP s) = unskP s := by
    unfold closePP
    have : S6.hasZ (unskP s).op [[112]] 3 = false := by rw [hr2.op]; exact hhas
    rw [this]
    rfl
  have hnm : (⟨divN.toArray⟩ : ByteArray).data.toList = divN := by simp
  refine ⟨elemP (unskP s) 0 ⟨divN.toArray⟩ aa, take_way hm hr he hI rfl ?_, ?_, ?_, ?_⟩
  · intro O1 y hB hT
    refine body_start_p hB hI.unsk _ hT rfl _ ?_
    intro O2 y2 hB2 hT2
    have := (bodyStart_block_t hB2.tight (fun k hk => hk.2) hI.unsk _ hT2.tight (show S6.isL 12 divN = false by decide +kernel) (show S6.isL 6 divN = true by decide +kernel)).mono fun e w' ⟨a, d⟩ => (⟨a, d.wide hB2.nL⟩ : _ /\ Does O2 n y2 bb w' _)
    rw [hcp] at this
    exact this
  · rw [hm.take _ (by simp [startA]), div_toA aa m hcl]
    have := (elem_rel hr2 he hme hm.inv 0 ⟨divN.toArray⟩ aa).1
    rw [hnm] at this
    exact this
  · exact (hI.unsk.elem 0 _ ha).up (by omega)
  · rw [elemP_nm]
    rfl
theorem step_spanA {n bb c : Nat} {s : PB} {m : BS} (sv : Value) (aa : S5.AttrL) (ha : aa.length <= 1000000) (hm : Smp m) (hr : Rel0 s m) (he : s.e = 0) (hme : m.e = 0) (hI : PInv c s) (hc : c <= 250000000) :
    ∃ S, BC 33 n bb (tvOf (startA spanN aa) sv) s S /\ Rel S (takeB m (startA spanN aa)) /\ PInv (c + 50000) S /\ S.nm = s.nm := by
  have hr2 := unsk_rel hr hm
  have hrn := Smp.renewP hm hr2
  have hnm : (⟨spanN.toArray⟩ : ByteArray).data.toList = spanN := by simp
  refine ⟨elemP (unskP s) 0 ⟨spanN.toArray⟩ aa, take_way hm hr he hI rfl ?_, ?_, ?_, ?_⟩
  · intro O1 y hB hT
    refine body_start_p hB hI.unsk _ hT rfl _ ?_
    intro O2 y2 hB2 hT2
    refine bodyStart_named_p hB2 hI.unsk _ hT2 (show S6.isL 12 spanN = false by decide +kernel) (show S6.isL 6 spanN = false by decide +kernel) (show S6.isL 7 spanN = false by decide +kernel) (show S6.isL 5 spanN = false by decide +kernel) (show S6.isL 11 spanN = false by decide +kernel) _ ?_
    intro O3 y3 hB3 hT3
    have := startNamed_span_p hB3 hI.unsk _ hT3 (by omega) rfl
    unfold plainP at this
    rw [hrn] at this
    exact this
  · rw [hm.take _ (by simp [startA]), span_toA aa m hm.renew]
    have := (elem_rel hr2 he hme hm.inv 0 ⟨spanN.toArray⟩ aa).1
    rw [hnm] at this
    exact this
  · exact (hI.unsk.elem 0 _ ha).up (by omega)
  · rw [elemP_nm]
    rfl
def lastP (s : PB) (k : Nat) : PB := { unskP s with op := s.op.take k }
theorem last_rel {s : PB} {F : FL} {ps : List (Nat × Bs)} {p : Nat × Bs} (hr : Rel0 s (stB F (ps ++ [p]))) : Rel0 (lastP s (ps.length + 1)) (stB F ps) where
  T := hr.T
  op := by
    show s.op.take (ps.length + 1) = vs (opsF ps)
    rw [hr.op]
    show (vs (opsF (ps ++ [p]))).take (ps.length + 1) = _
    unfold vs
    rw [<- List.map_take, ops_take]
  mr := hr.mr
  ru := hr.ru
  mo := hr.mo
  nm := hr.nm
  fo := hr.fo
  sk := rfl
theorem left_all (ex : ByteArray) (l : List S6.OV) (o : S6.OV) (k : Nat) (hk : l[k]? = some o) (h : S6.goesL ex o = false) : S6.leftO ex l (k + 1) = k + 1 := by
  rw [S6.leftO, hk]
  show (if S6.goesL ex o = true then _ else _) = _
  rw [h, if_neg Bool.false_ne_true]
theorem keep_all (s : PB) (h : s.op ≠ []) : keepP s (s.op.length : Int) = s := by
  unfold keepP
  have h1 : 0 < s.op.length := List.length_pos_iff.2 h
  rw [show (max (s.op.length : Int) 1).toNat = s.op.length by omega, List.take_length]
theorem ops_v {s : PB} {F : FL} {ps : List (Nat × Bs)} {p : Nat × Bs} (hr : Rel0 s (stB F (ps ++ [p]))) : s.op[ps.length + 1]? = some (⟨p.1, 0, p.2⟩ : OM).v /\ s.op.length = ps.length + 1 + 1 := by
  rw [hr.op]
  refine ⟨vs_get ps p, ?_⟩
  show (vs (opsF (ps ++ [p]))).length = _
  unfold vs
  rw [List.length_map, ops_len, List.length_append]
  rfl
theorem goes_no (ex : ByteArray) (i : Nat) (nm : Bs) (h : S6.isL 8 nm = false) : S6.goesL ex (⟨i, 0, nm⟩ : OM).v = false := by
  unfold S6.goesL OM.v
  simp [h]
theorem end_last {s : PB} {F : FL} {ps : List (Nat × Bs)} {i : Nat} (hr : Rel0 s (stB F (ps ++ [(i, divN)]))) : endP (unskP s) 1 ⟨#[]⟩ [divN] = lastP s (ps.length + 1) := by
  obtain ⟨h1, h2⟩ := ops_v hr
  have hnm : S6.namedL [divN] (⟨i, 0, divN⟩ : OM).v = true := by rw [named_v]; decide +kernel
  have hany : ∀ p : S6.OV -> Bool, ((unskP s).op[ps.length + 1]?).any p = p (⟨i, 0, divN⟩ : OM).v := fun p => by
    show (s.op[ps.length + 1]?).any p = _
    rw [h1]
    rfl
  have hl : (unskP s).op.length = ps.length + 1 + 1 := h2
  have hne : (unskP s).op ≠ [] := fun e => by rw [e] at hl; simp at hl
  have hhas : S6.hasZ (unskP s).op [divN] 1 = true := by
    unfold S6.hasZ
    rw [hl, S6.hasO, hany, hnm]
    rfl
  have himp : impP (unskP s) ⟨#[]⟩ = unskP s := by
    unfold impP S6.impliedZ
    have := left_all ⟨#[]⟩ (unskP s).op _ (ps.length + 1) h1 (goes_no ⟨#[]⟩ i divN (by decide +kernel))
    rw [hl, this, <- hl]
    exact keep_all _ hne
  unfold endP
  rw [hhas, if_pos rfl, himp]
  unfold upP
  have hcut : S6.cutZ (unskP s).op [divN] = ((ps.length + 1 : Nat) : Int) := by
    unfold S6.cutZ
    rw [hl, S6.lastO, hany, if_pos hnm]
    rfl
  rw [hcut, if_neg (by omega)]
  unfold keepP lastP
  rw [show (max ((ps.length + 1 : Nat) : Int) 1).toNat = ps.length + 1 by omega]
  rfl
theorem other_last {s : PB} {F : FL} {ps : List (Nat × Bs)} {i : Nat} (hr : Rel0 s (stB F (ps ++ [(i, spanN)]))) : otherP (unskP s) ⟨spanN.toArray⟩ = lastP s (ps.length + 1) := by
  obtain ⟨h1, h2⟩ := ops_v hr
  have hl : (unskP s).op.length = ps.length + 1 + 1 := h2
  have hne : (unskP s).op ≠ [] := fun e => by rw [e] at hl; simp at hl
  have hd : (⟨spanN.toArray⟩ : ByteArray).data.toList = spanN := by simp
  have hnm : isP (⟨i, 0, spanN⟩ : OM).v [(⟨spanN.toArray⟩ : ByteArray).data.toList] = true := by
    rw [hd]
    show S6.namedL [spanN] _ = true
    rw [named_v]
    decide +kernel
  have himp : impP (unskP s) ⟨spanN.toArray⟩ = unskP s := by
    unfold impP S6.impliedZ
    have := left_all ⟨spanN.toArray⟩ (unskP s).op _ (ps.length + 1) h1 (goes_no _ i spanN (by decide +kernel))
    rw [hl, this, <- hl]
    exact keep_all _ hne
  unfold otherP
  rw [hl, otherKP]
  have h1' : (unskP s).op[ps.length + 1]? = some (⟨i, 0, spanN⟩ : OM).v := h1
  rw [h1']
  simp only []
  rw [if_pos hnm, himp]
  unfold keepP lastP
  rw [show (max ((ps.length + 1 : Nat) : Int) 1).toNat = ps.length + 1 by omega]
  rfl
theorem PInv.last {c : Nat} {s : PB} (h : PInv c s) (k : Nat) (hk : 1 <= k) : PInv c (lastP s k) := by
  have := h.unsk.keep (k : Int)
  unfold keepP at this
  rw [show (max (k : Int) 1).toNat = k by omega] at this
  exact this
theorem step_stop {n bb c : Nat} {s : PB} {F : FL} {ps : List (Nat × Bs)} {i : Nat} {nm : Bs} (hn : nm = divN \/ nm = spanN) (sv : Value) (hm : Smp (stB F (ps ++ [(i, nm)]))) (hr : Rel0 s (stB F (ps ++ [(i, nm)]))) (he : s.e = 0) (hI : PInv c s) :
    ∃ S, BC 33 n bb (tvOf (stopOf nm) sv) s S /\ Rel S (takeB (stB F (ps ++ [(i, nm)])) (stopOf nm)) /\ PInv (c + 50000) S /\ S.nm = s.nm := by
  refine ⟨lastP s (ps.length + 1), take_way hm hr he hI rfl ?_, ?_, ?_, rfl⟩
  · intro O1 y hB hT
    refine body_stop_p hB hI.unsk _ hT rfl _ ?_
    intro O2 y2 hB2 hT2
    rcases hn with rfl | rfl
    · have := bodyStop_block_p hB2 hI.unsk _ hT2 (show S6.isL 12 divN = false by decide +kernel) (show S6.isL 7 divN = false by decide +kernel) (show S6.isL 6 divN = true by decide +kernel) (by rw [Lib.toList_data]; show (divN == [112]) = false; decide) (by rw [Lib.toList_data]; show (divN == [108, 105]) = false; decide) (by rw [Lib.toList_data]; show (divN == [100, 100]) = false; decide) (by rw [Lib.toList_data]; show (divN == [100, 116]) = false; decide)
      have e : (tvOf (stopOf divN) sv).nm.data.toList = divN := by simp [tvOf, stopOf]
      rw [e, end_last hr] at this
      exact this
    · have := bodyStop_other_p hB2 hI.unsk _ hT2 (show S6.isL 12 spanN = false by decide +kernel) (show S6.isL 7 spanN = false by decide +kernel) (show S6.isL 6 spanN = false by decide +kernel) (show S6.isL 5 spanN = false by decide +kernel) (show S6.isL 11 spanN = false by decide +kernel) (by rw [Lib.toList_data]; show (spanN == [112]) = false; decide) (by rw [Lib.toList_data]; show (spanN == [108, 105]) = false; decide) (by rw [Lib.toList_data]; show (spanN == [100, 100]) = false; decide) (by rw [Lib.toList_data]; show (spanN == [100, 116]) = false; decide) (by rw [Lib.toList_data]; show (spanN == [98, 117, 116, 116, 111, 110]) = false; decide) (by rw [Lib.toList_data]; show (spanN == [102, 111, 114, 109]) = false; decide) (by rw [Lib.toList_data]; show (spanN == [108, 105, 115, 116, 105, 110, 103]) = false; decide) (by rw [Lib.toList_data]; show (spanN == [112, 114, 101]) = false; decide) (by rw [Lib.toList_data]; show (spanN == [98, 114]) = false; decide)
      rw [show (tvOf (stopOf spanN) sv).nm = ⟨spanN.toArray⟩ from rfl, other_last hr] at this
      exact this
  · rw [take_stop i nm hn]
    exact ⟨he, fun _ => last_rel hr⟩
  · exact (hI.last _ (by omega)).up (by omega)
end Go.Proofs.YtfohijnkeefcfaaGreatDoor
namespace Go.Proofs.YtfohijnkeefcfaaGreatDoor
open Go.RowKit
def QEv (m : BS) (r : Bs) : Prop := ∃ (ev : List Ev) (F : FL) (ps : List (Nat × Bs)), m = stB F ps /\ OkF F ps /\ XF F ps /\ goodE ev (ps.map (·.2)) /\ r = textEs ev /\ F.length + ev.length < 2000
theorem has_st {F : FL} {ps : List (Nat × Bs)} (h : OkF F ps) : hasB (stB F ps) [[112]] 3 = false := by
  unfold hasB S6.hasZ
  exact has_none [[112]] 3 (vs (opsF ps)) (fun o ho => by
    rcases vs_mem ho with rfl | ⟨p, hp, rfl⟩
    · decide +kernel
    · rw [named_v]
      rcases h.nm p hp with e | e <;> rw [e] <;> decide +kernel) _
theorem attrs_short : ∀ (aa : List (Bs × Bs)), aa.length <= (P9.attrsW aa).length
  | [] => Nat.le_refl _
  | a :: r => by
    have h := attrs_short r
    have e : P9.attrsW (a :: r) = P9.attrW a ++ P9.attrsW r := rfl
    rw [e, List.length_append, List.length_cons]
    have : 1 <= (P9.attrW a).length := by unfold P9.attrW; simp
    omega
theorem ev_step : StepOk QEv := by
  intro m r s sv n bb c hQ hme hr he hnm hI hc hrl hk
  obtain ⟨ev, F, ps, rfl, hok, hx, hg, rfl, hlen⟩ := hQ
  cases ev with
  | nil => exact absurd (nxt_nil _) hk
  | cons e r =>
    rw [List.length_cons] at hlen
    have hn : nxt (stB F ps) (textEs (e :: r)) = (tokE e, textEs r) := (nxt_st _ _ _).trans (ev_next e r _ hg)
    rw [hn]
    have hm := smp_st (inv_st hok hx (by omega))
    have hx2 := xf_step e r hx hg
    obtain ⟨q1, q2, q3, q4⟩ := ev_take e r hok (by omega) hg
    have hend : ∀ S : PB, S.nm = s.nm -> S.nm.size <= 20000 /\ ((takeB (stB F ps) (tokE e)).e = 0 -> QEv (takeB (stB F ps) (tokE e)) (textEs r)) := fun S hs => by
      refine ⟨by rw [hs]; exact hnm, fun h0 => ?_⟩
      exact ⟨r, _, _, q1, q2, hx2, q3, rfl, by omega⟩
    rw [textEs_cons, List.length_append] at hrl
    have hgo : ∃ S, BC 33 n bb (tvOf (tokE e) sv) s S /\ Rel S (takeB (stB F ps) (tokE e)) /\ PInv (c + 50000) S /\ S.nm = s.nm := by
      unfold goodE at hg
      unfold textE at hrl
      unfold tokE
      by_cases h0 : e.1 = 0
      · rw [if_pos h0] at hg hrl ⊢
        have := escL_ge false e.2.1
        exact step_text sv hm hr he hme hI hc e.2.1 (by omega)
      · rw [if_neg h0] at hg hrl ⊢
        by_cases h1 : e.1 = 1
        · rw [if_pos h1] at hg hrl ⊢
          have ha := attrs_short e.2.2
          simp only [List.length_cons, List.length_append] at hrl
          rcases hg.1 with hd | hd
          · rw [hd]
            exact step_divA sv e.2.2 (by omega) hm hr he hme hI (close_none hok) (has_st hok)
          · rw [hd]
            exact step_spanA sv e.2.2 (by omega) hm hr he hme hI hc
        · rw [if_neg h1] at hg ⊢
          obtain ⟨hnn, st', hst, _⟩ := hg
          obtain ⟨qs, i, rfl, _⟩ := names_last hst
          exact step_stop hnn sv hm hr he hI
    obtain ⟨S, h1, h2, h3, h4⟩ := hgo
    exact ⟨S, h1, h2, h3, (hend S h4).1, (hend S h4).2⟩
theorem fragment_ev (T : ByteArray) (hT : T.size <= 4096) (ev : List Ev) (hl : ev.length < 1000) (hg : goodE ev []) (hj : T.data.toList = textEs ev) (w : World) (he : S4.Env w) : Calls Tryz.prog 8 #[.string T] w (FragA w T.data.toList) :=
  fragment_p QEv ev_step T hT w he ⟨ev, [(0, {})], [], start_eq, start_ok, xf_start, hg, hj, by simp; omega⟩
end Go.Proofs.YtfohijnkeefcfaaGreatDoor
namespace Go.Proofs.YtfohijnkeefcfaaGreatDoor
open Go.RowKit
open G5 (hide)
theorem shape_all : ∀ j, ShapeOk j
  | 0 => shape_zero
  | j + 1 => shape_step (shape_all j)
theorem ref_same {k j : Nat} (ts : List (G5.NT k)) (us : List (G5.NT j)) (h1 : ts.length <= 9223372036854775807) (h2 : us.length <= 9223372036854775807) (o1 : G5.OkTs ts) (o2 : G5.OkTs us) (B : Nat -> Prop) (va vb : Value) (w : World) (hB : ∀ k, B k -> k < w.heap.size) (hK : G5.IsK B w ts va) (hK2 : G5.IsK B w us vb) :
    Calls Tryz.prog 10 #[va, vb] w fun e w' => e = .returned (.bool (G5.eqTs ts us)) /\ Below w.heap.size w w' := by
  have H := hide (G5.sames_step2 ts us h1 h2 (fun i h3 h4 => G5.same_two _ _ (o1 _ (List.getElem_mem h3)) (o2 _ (List.getElem_mem h4))) B va vb w hB hK hK2)
  obtain ⟨a1, c1, rfl⟩ := G5.isK_form hK
  obtain ⟨a2, c2, rfl⟩ := G5.isK_form hK2
  generalize G5.eqTs ts us = R at *
  clear hK hK2 o1 o2 hB h1 h2
  go_enter Tryz.func10, Tryz.ntmps10
  go_wp2_with fail
  refine H.out.mono ?_
  rintro e x1 ⟨rfl, b1⟩
  go_wp2
  go_ret
  exact ⟨rfl, b1⟩
theorem env_below {w W : World} (h : S4.Env w) (hb : Below w.heap.size w W) : S4.Env W := by
  obtain ⟨ho, m, hm⟩ := h
  exact ⟨ho.below hb, m, (hb.cell (S4.cell_lt hm)).trans hm⟩
theorem attrs_size (aa : List (Bs × Bs)) : aa.length <= P9.sizeAs aa := by
  induction aa with
  | nil => exact Nat.le_refl _
  | cons x r ih =>
    have e : P9.sizeAs (x :: r) = P9.sizeA x + P9.sizeAs r := by unfold P9.sizeAs; rw [List.map_cons, List.sum_cons]
    rw [e, List.length_cons]
    unfold P9.sizeA
    omega
theorem ok_size : ∀ {k : Nat} (ts : List (G5.NT k)), P9.sizeTs ts <= 9223372036854775807 -> G5.OkTs ts
  | 0, ts, _ => fun t ht => t.none
  | k + 1, ts, h => by
    intro t ht
    obtain ⟨i, hi, rfl⟩ := List.mem_iff_getElem.1 ht
    have h1 := P9.sizeTs_mem ts i hi
    rw [P9.sizeT_mk] at h1
    have h2 := attrs_size ts[i].nd.attrs
    have h3 : ∀ {k : Nat} (l : List (G5.NT k)), l.length <= P9.sizeTs l := by
      intro k l
      induction l with
      | nil => exact Nat.le_refl _
      | cons t r ih =>
        cases k with
        | zero => exact t.none
        | succ k =>
          have e : P9.sizeTs (t :: r) = P9.sizeT t + P9.sizeTs r := by unfold P9.sizeTs; rw [List.map_cons, List.sum_cons]
          rw [e, P9.sizeT_mk, List.length_cons]
          omega
    have h4 := h3 ts[i].kids
    exact ⟨by omega, by omega, ok_size ts[i].kids (by omega)⟩
theorem isK_tight5 {w W : World} {k : Nat} {ts : List (S5.NT k)} {v : Value} (h : S5.IsK (fun k => w.heap.size <= k) W ts v) : G5.IsK (fun k => k < W.heap.size) W (ts.map cvT) v := isK_cv (isK_mono (C := fun k => k < W.heap.size) (fun _ h => h.2) (isK_tight h))
theorem nested_any (v : Value) (zs : List Int) (w : World) (he : S4.Env w) (hZ : S7.IsZ w v zs) (hl : zs.length <= 9223372036854775807) :
    Calls Tryz.prog 3 #[v] w fun e w' => e = .returned (.bool true) /\ Below w.heap.size w w' := by
  have HA := hide (fun (W : World) (hb : Below w.heap.size w W) => alive_p W (env_below he hb))
  have HE := hide (fun (W : World) (hb : Below w.heap.size w W) => env_below he hb)
  have HSH := hide (shape_all 30 v zs 0 0 w hZ (by omega) (by omega) hl)
  obtain ⟨a, c, rfl⟩ : ∃ a c, v = .slice a zs.length c := by
    rcases hZ with ⟨rfl, a, c, rfl⟩ | ⟨b, o, cap, rfl, _⟩
    · exact ⟨_, _, rfl⟩
    · exact ⟨_, _, rfl⟩
  generalize zs.length = N at *
  clear he hZ
  have HSH' : Hid (Calls Tryz.prog 7 #[.slice a N c, .int .i64 0, .int .i64 0] w (ShAns w 0 30)) := HSH
  clear HSH
  go_enter Tryz.func3, Tryz.ntmps3
  go_wp2_with fail
  refine HSH'.out.mono ?_
  rintro e w1 ⟨⟨S, kv, q, ts, rfl, hq0, hq8, hk1, hs1⟩, b1⟩
  have hpl : plainTs ts := (plain_iff ts).2 ⟨hs1.ap, hs1.ok⟩
  have hsz : P9.sizeTs ts <= 499 := by have := hs1.sz; omega
  have htl := tall_le ts
  obtain ⟨g1, g2, g3, g4⟩ := again_tree ts hpl hsz (by omega)
  have hSz : S.size <= 4096 := by have := hs1.size; omega
  have HBF := hide (fun (W : World) (hb : Below w.heap.size w W) => fragment_ev S hSz (evTs ts) g2 g1 (hs1.pr.trans (print_ev ts hpl)) W (HE.out W hb))
  rw [<- hs1.pr] at g3 g4
  have hal := alike_of _ _ g4
  have ho1 := ok_size ts (by omega)
  have hl1 : ts.length <= 9223372036854775807 := by have := hs1.len; omega
  have HG3 := hide g3
  have hl2 : ((S5.valueL (buildL S.data.toList).T 0).kids.map cvT).length <= 9223372036854775807 := by rw [<- hal.len]; exact hl1
  have HO := hide (And.intro ho1 (And.intro hl1 (And.intro (hal.ok ho1) hl2)))
  have HG4 := hide g4
  have HK1 := hide hk1
  have B1 := hide b1
  clear g1 g2 g3 g4 hal ho1 hl1 hl2 hk1 hs1 b1 hpl hsz htl HSH' hq0 hq8
  go_wp2_with fail
  refine (HBF.out _ B1.out).mono ?_
  rintro e w2 ⟨a2, n2, c2, rfl, _, hk2, b2⟩
  rw [HG3.out]
  have B2 := hide (B1.out.trans (b2.mono B1.out.size))
  have HK2 := hide (isK_down HK1.out b2)
  have HM2 := hide (isK_tight5 (hk2 HG3.out))
  clear hk2 b2 HBF
  go_wp2_with fail
  refine (HA.out _ B2.out).mono ?_
  rintro e w3 ⟨rfl, b3⟩
  have B3 := hide (B2.out.trans (b3.mono B2.out.size))
  have HSM := hide (ref_same ts _ HO.out.2.1 HO.out.2.2.2 HO.out.1 HO.out.2.2.1 (fun k => k < w3.heap.size) _ _ w3 (fun _ h => h) (isK_down HK2.out b3) (isK_down HM2.out b3))
  rw [HG4.out] at HSM
  clear b3
  go_wp2_with fail
  refine HSM.out.mono ?_
  rintro e w4 ⟨rfl, b4⟩
  go_wp2
  go_ret
  exact ⟨rfl, B3.out.trans (b4.mono B3.out.size)⟩
end Go.Proofs.YtfohijnkeefcfaaGreatDoor
