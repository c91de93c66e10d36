import Derived.Test.YtpppdfjdngmaoaaGreatDoorKc20
import Derived.Test.YtpppdfjdngmaoaaGreatDoorKc21
import Derived.Test.YtpppdfjdngmaoaaGreatDoorKc28
import Derived.Test.YtpppdfjdngmaoaaGreatDoorKc31
import Derived.Test.YtpppdfjdngmaoaaGreatDoorKc32
import Derived.Test.YtpppdfjdngmaoaaGreatDoorKc34
import Derived.Test.YtpppdfjdngmaoaaGreatDoorKc44
import Derived.Deep.RegionHeld2
set_option linter.unusedVariables false
set_option linter.unusedSimpArgs false
set_option maxRecDepth 100000
set_option maxHeartbeats 8000000
namespace Go.Proofs.YtpppdfjdngmaoaaGreatDoor
open Go.RowKit
open S5 (ButA andNew PT IsA cell_lt below_alloc hide below_drewN)
structure Smp (m : BS) : Prop where
  mo : m.mode = 0
  ru : m.rules = 0
  fo : m.fost = false
  sk : m.skip = false
  cu : (curB m).sp = 0
  idle : S7.renewL (ms m.mr) (m.op.map fun o => (o.id : Int)) = m.mr.length
  inv : Inv m
theorem Smp.renew {m : BS} (h : Smp m) : renewB m = m := by
  unfold renewB
  rw [h.idle]
  cases hl : m.mr.length with
  | zero => rfl
  | succ k =>
    rw [renewK]
    split
    · rfl
    · rw [List.getElem?_eq_none (by omega)]
theorem ids_rel {s : PB} {m : BS} (h : Rel0 s m) : idsP s = m.op.map fun o => (o.id : Int) := by
  unfold idsP
  rw [h.op]
  unfold vs
  rw [List.map_map]
  rfl
theorem Smp.renewP {s : PB} {m : BS} (h : Smp m) (hr : Rel0 s m) : renewP s = s := by
  unfold Go.Proofs.YtpppdfjdngmaoaaGreatDoor.renewP
  have hs : S7.renewL s.mr (idsP s) = s.mr.length := by
    rw [ids_rel hr, renew_sim hr.mr, h.idle]
    have := Sim.len hr.mr
    rw [this]
    simp [ms]
  rw [hs, Nat.sub_self]
  rfl
theorem Smp.take {m : BS} (h : Smp m) (t : S4.Tok) (h5 : t.kind ≠ 5) : takeB m t = bodyB m t := by
  have hs : ({ m with skip := false } : BS) = m := by rw [← h.sk]
  have ht : takeT m t = bodyB m t := by
    unfold takeT
    rw [if_neg h5, if_neg (by rw [h.mo]; decide), if_neg (by rw [h.cu]; simp)]
    unfold rulesB
    rw [show 3 * m.op.length + 20 = (3 * m.op.length + 19) + 1 from rfl, rulesK]
    have : stepB m t = (bodyB m t, none) := by
      unfold stepB
      rw [h.ru]
      simp
    rw [this]
  unfold takeB
  simp only [hs]
  split
  · rw [if_neg (by rw [h.sk]; simp)]
    exact ht
  · exact ht
theorem unsk_rel {s : PB} {m : BS} (h : Rel0 s m) (hm : Smp m) : Rel0 (unskP s) m := { T := h.T, op := h.op, mr := h.mr, ru := h.ru, mo := h.mo, nm := h.nm, fo := h.fo, sk := hm.sk.symm }
theorem PInv.unsk {c : Nat} {s : PB} (h : PInv c s) : PInv c (unskP s) := { hd := h.hd, opL := h.opL, wf := h.wf, t0 := h.t0, tL := h.tL, mrL := h.mrL, aaL := h.aaL, txL := h.txL, atL := h.atL }
theorem Smp.ne {m : BS} (h : Smp m) : m.op ≠ [] := List.ne_nil_of_length_pos (by have := h.inv.o.pos; omega)
theorem elemP_nm (s : PB) (sp : Int) (nm : ByteArray) (aa : S5.AttrL) : (elemP s sp nm aa).nm = s.nm := by
  unfold elemP
  split
  · unfold failP
    split <;> rfl
  · unfold elemR putP elemQ madeP failP
    split
    · split <;> rfl
    · rfl
theorem failP_nm (s : PB) (z : Int) : (failP s z).nm = s.nm := by
  unfold failP
  split <;> rfl
theorem madeP_nm (s : PB) (z : Int) : (madeP s z).nm = s.nm := by
  unfold madeP
  split
  · exact failP_nm s 4
  · rfl
theorem textP_nm (s : PB) (t : List UInt8) : (textP s t).nm = s.nm := by
  unfold textP
  split
  · rfl
  · unfold newT putP
    simp only
    rw [madeP_nm]
theorem take_way {n bb c : Nat} {s : PB} {m : BS} {t : TV} {S : PB} (hm : Smp m) (hr : Rel0 s m) (he : s.e = 0) (hI : PInv c s) (h5 : (t.k == 5) = false) (HS : BC 93 n bb t (unskP s) S) : BC 45 n bb t s S := by
  intro O1 y hB hT
  have hc := cur_rel hr hm.ne
  refine take_rules_p hB hI t hT h5 (hr.mo.trans hm.mo) (by rw [hc]; exact hm.cu) (hr.sk.trans hm.sk) S ?_
  intro O2 y2 hB2 hT2
  exact takeByRules_body_p hB2 hI.unsk t hT2 he (by show s.ru = 0; rw [hr.ru, hm.ru]; rfl) S HS
theorem step_text {n bb c : Nat} {s : PB} {m : BS} (sv : Value) (hm : Smp m) (hr : Rel0 s m) (he : s.e = 0) (hme : m.e = 0) (hI : PInv c s) (hc : c ≤ 250000000) (tt : Bs) (ht : tt.length ≤ 40000) :
    ∃ S, BC 45 n bb (tvOf { kind := 1, text := tt } sv) s S ∧ Rel S (takeB m { kind := 1, text := tt }) ∧ PInv (c + 50000) S ∧ S.nm = s.nm := by
  have hr2 := unsk_rel hr hm
  refine ⟨bodyTextP (unskP s) tt, take_way hm hr he hI rfl ?_, ?_, ?_, ?_⟩
  · intro O1 y hB hT
    have := body_text_p hB hI.unsk _ hT (by omega) rfl (by show (ByteArray.mk tt.toArray).size ≤ 300000000; rw [S5.size_list]; simp; omega)
    have e : (tvOf { kind := 1, text := tt } sv).tx.data.toList = tt := by simp [tvOf]
    rw [e] at this
    exact this
  · rw [hm.take _ (by simp)]
    have e : bodyB m { kind := 1, text := tt } = textB m tt := by
      unfold bodyB
      rw [if_pos rfl, hm.renew]
    rw [e]
    unfold bodyTextP
    rw [Smp.renewP hm hr2]
    exact text_rel hr2 he hme hm.inv tt
  · unfold bodyTextP
    rw [Smp.renewP hm hr2]
    exact (hI.unsk.text tt).up (by omega)
  · unfold bodyTextP
    rw [Smp.renewP hm hr2, textP_nm]
    rfl
def bN : Bs := [98]
theorem b_to (b : BS) (hr : renewB b = b) : bodyB b (startOf bN) = markedB b (startOf bN) := by
  have hset : ∀ k v, (setOf k bN = v) → setOf k (startOf bN).name = v := fun _ _ h => h
  have hcl : closesT (startOf bN) = false := by decide +kernel
  have hs : ∀ names : List Bs, S6.amongL names bN = false → startT (startOf bN) names = false := fun names h => by
    unfold startT startOf
    rw [h, Bool.and_false]
  unfold bodyB
  rw [if_neg (by simp [startOf]), if_neg (by simp [startOf]), if_pos (by simp [startOf])]
  unfold bodyStart
  rw [hset 12 false (by decide +kernel), hs _ (by decide +kernel), hs _ (by decide +kernel), hs _ (by decide +kernel), hs _ (by decide +kernel), hs _ (by decide +kernel), hs _ (by decide +kernel), hs _ (by decide +kernel), hs _ (by decide +kernel), hs _ (by decide +kernel), hcl]
  simp only [Bool.false_eq_true, if_false]
  have hpa : phraseA b (startOf bN) = b := by
    unfold phraseA
    rw [hs _ (by decide +kernel), hs _ (by decide +kernel), hs _ (by decide +kernel), hs _ (by decide +kernel)]
    simp
  unfold phraseB
  simp only [hpa, hr]
  rw [hset 5 true (by decide +kernel)]
  simp
theorem step_b {n bb c : Nat} {s : PB} {m : BS} (sv : Value) (hm : Smp m) (hr : Rel0 s m) (he : s.e = 0) (hme : m.e = 0) (hI : PInv c s) (hc : c ≤ 250000000) :
    ∃ S, BC 45 n bb (tvOf (startOf bN) sv) s S ∧ Rel S (takeB m (startOf bN)) ∧ PInv (c + 50000) S ∧ S.nm = s.nm := by
  have hr2 := unsk_rel hr hm
  have hrn := Smp.renewP hm hr2
  have hnm : (⟨bN.toArray⟩ : ByteArray).data.toList = bN := by simp
  refine ⟨markedP (unskP s) (tvOf (startOf bN) sv), take_way hm hr he hI rfl ?_, ?_, ?_, ?_⟩
  · intro O1 y hB hT
    refine body_start_p hB hI.unsk _ hT rfl _ ?_
    intro O2 y2 hB2 hT2
    refine bodyStart_format_p hB2 hI.unsk _ hT2 (show S6.isL 12 bN = false by decide +kernel) (show S6.isL 6 bN = false by decide +kernel) (show S6.isL 7 bN = false by decide +kernel) (show S6.isL 5 bN = true by decide +kernel) _ ?_
    intro O3 y3 hB3 hT3
    have := startFormat_o_p hB3 hI.unsk _ hT3 (by omega) (by rw [Lib.toList_data]; show (bN == [97]) = false; decide) (by rw [Lib.toList_data]; show (bN == [110, 111, 98, 114]) = false; decide)
    unfold fmtP at this
    rw [hrn] at this
    exact this
  · rw [hm.take _ (by simp [startOf]), b_to m hm.renew]
    obtain ⟨h1, h2, h3⟩ := elem_rel hr2 he hme hm.inv 0 ⟨bN.toArray⟩ []
    rw [hnm] at h1 h2 h3
    unfold markedB tagB
    show Rel (markedP (unskP s) (tvOf (startOf bN) sv)) (match insertB m 0 bN [] with
      | (b', some n) => { b' with mr := pushM b'.mr ⟨n, bN, []⟩ }
      | (b', none) => b')
    cases hq : insertB m 0 bN [] with
    | mk b' k =>
      rw [hq] at h1 h2 h3
      cases k with
      | none => exact Rel.err h1.1 (h3 rfl)
      | some k =>
        refine ⟨h1.1, fun h0 => ?_⟩
        have r := h1.2 h0
        exact { T := r.T, op := r.op, mr := isM_push r.mr _ ⟨k, bN, []⟩ (by
          show (elemZ (unskP s) 0 ⟨bN.toArray⟩ [], (⟨bN.toArray⟩ : ByteArray), ([] : S5.AttrL)) = _
          rw [h2 k rfl]
          rfl), ru := r.ru, mo := r.mo, nm := r.nm, fo := r.fo, sk := r.sk }
  · exact (hI.unsk.marked _ (by simp [tvOf, startOf])).up (by omega)
  · show (elemP (unskP s) 0 _ _).nm = s.nm
    rw [elemP_nm]
    rfl
end Go.Proofs.YtpppdfjdngmaoaaGreatDoor
namespace Go.Proofs.YtpppdfjdngmaoaaGreatDoor
open Go.RowKit
open S5 (ButA andNew PT IsA cell_lt below_alloc hide below_drewN)
theorem smp_st {F : FL} {ps : List (Nat × Bs)} (hi : Inv (stB F ps)) : Smp (stB F ps) := { mo := rfl, ru := rfl, fo := rfl, sk := rfl, cu := (cur_id F ps).2, idle := rfl, inv := hi }
theorem nxt_nil (m : BS) : (nxt m []).1.kind = 0 := by
  unfold nxt
  rw [S4.nextR_nil]
theorem start_mi : MI {} := by
  intro h
  rcases h with h | h <;> exact absurd h (by decide)
def liveL : Bs := [97, 60, 98, 62, 99]
def tok1 : S4.Tok := { kind := 1, text := [97] }
def tok3 : S4.Tok := { kind := 1, text := [99] }
def live1 : BS := takeB {} tok1
def live2 : BS := takeB live1 (startOf bN)
def QLive (m : BS) (r : Bs) : Prop := (m = {} ∧ r = [97, 60, 98, 62, 99]) ∨ (m = live1 ∧ r = [60, 98, 62, 99]) ∨ (m = live2 ∧ r = [99]) ∨ r = []
theorem live_n0 : nxt {} [97, 60, 98, 62, 99] = (tok1, [60, 98, 62, 99]) := by kernel_rfl
theorem live_n1 : nxt live1 [60, 98, 62, 99] = (startOf bN, [99]) := by kernel_rfl
theorem live_n2 : nxt live2 [99] = (tok3, []) := by kernel_rfl
theorem live_e1 : live1.e = 0 := by kernel_rfl
theorem live_e2 : live2.e = 0 := by kernel_rfl
theorem tok_b : TokOk (startOf bN) := by
  have := tok_next 0 [] false [60, 98, 62, 99]
  have e : (S4.nextR 0 [] false [60, 98, 62, 99]).1 = startOf bN := by kernel_rfl
  rw [e] at this
  exact this
theorem tok_1 : TokOk tok1 := by
  have := tok_next 0 [] false [97, 60, 98, 62, 99]
  have e : (S4.nextR 0 [] false [97, 60, 98, 62, 99]).1 = tok1 := by kernel_rfl
  rw [e] at this
  exact this
theorem live_s1 : SI live1 ∧ MI live1 := SI.takeB SI.start rfl start_mi tok_1 live_e1
theorem live_s2 : SI live2 ∧ MI live2 := SI.takeB live_s1.1 live_e1 live_s1.2 tok_b live_e2
theorem live_m1 : Smp live1 := { mo := by kernel_rfl, ru := by kernel_rfl, fo := by kernel_rfl, sk := by kernel_rfl, cu := by kernel_rfl, idle := by kernel_rfl, inv := live_s1.1.inv }
theorem live_m2 : Smp live2 := { mo := by kernel_rfl, ru := by kernel_rfl, fo := by kernel_rfl, sk := by kernel_rfl, cu := by kernel_rfl, idle := by kernel_rfl, inv := live_s2.1.inv }
theorem live_step : StepOk QLive := by
  intro m r s sv n bb c hQ hme hr he hnm hI hc hrl hk
  rcases hQ with ⟨rfl, rfl⟩ | ⟨rfl, rfl⟩ | ⟨rfl, rfl⟩ | rfl
  · rw [live_n0]
    have hm : Smp {} := smp_st (F := [(0, {})]) (ps := []) SI.start.inv
    obtain ⟨S, h1, h2, h3, h4⟩ := step_text (n := n) (bb := bb) sv hm hr he hme hI hc [97] (by decide)
    exact ⟨S, h1, h2, h3, by rw [h4]; exact hnm, fun _ => .inr (.inl ⟨rfl, rfl⟩)⟩
  · rw [live_n1]
    obtain ⟨S, h1, h2, h3, h4⟩ := step_b (n := n) (bb := bb) sv live_m1 hr he hme hI hc
    exact ⟨S, h1, h2, h3, by rw [h4]; exact hnm, fun _ => .inr (.inr (.inl ⟨rfl, rfl⟩))⟩
  · rw [live_n2]
    obtain ⟨S, h1, h2, h3, h4⟩ := step_text (n := n) (bb := bb) sv live_m2 hr he hme hI hc [99] (by decide)
    exact ⟨S, h1, h2, h3, by rw [h4]; exact hnm, fun _ => .inr (.inr (.inr rfl))⟩
  · exact absurd (nxt_nil _) hk
theorem fragment_live (w : World) (he : S4.Env w) : Calls Tryz.prog 18 #[.string ⟨#[97, 60, 98, 62, 99]⟩] w (FragA w liveL) :=
  fragment_p QLive live_step ⟨#[97, 60, 98, 62, 99]⟩ (by decide) w he (.inl ⟨rfl, rfl⟩)
theorem live_err : fragErr liveL = 0 := by kernel_rfl
end Go.Proofs.YtpppdfjdngmaoaaGreatDoor
namespace Go.Proofs.YtpppdfjdngmaoaaGreatDoor
open Go.RowKit
open S5 (NT IsK IsNs IsN isN_iff countTs countT maxG deepT cell_lt below_alloc hide below_drewN)
theorem manyTs_app {k : Nat} (a b : List (NT k)) : countTs (a ++ b) = countTs a + countTs b := by
  unfold countTs
  rw [List.map_append, List.sum_append]
theorem manyTs_take {k : Nat} (ks : List (NT (k + 1))) (i : Nat) (h : i < ks.length) : countTs (ks.take (i + 1)) = countTs (ks.take i) + 1 + countTs ks[i].kids := by
  rw [List.take_succ_eq_append_getElem h, manyTs_app, Nat.add_assoc]
  congr 1
theorem manyTs_le {k : Nat} (ks : List (NT k)) (i : Nat) : countTs (ks.take i) ≤ countTs ks := by
  have := manyTs_app (ks.take i) (ks.drop i)
  rw [List.take_append_drop] at this
  omega
theorem manyTs_len {k : Nat} : ∀ (ks : List (NT (k + 1))), ks.length ≤ countTs ks
  | [] => Nat.zero_le _
  | x :: r => by
    have h := manyTs_len r
    have : countTs (x :: r) = 1 + countTs x.kids + countTs r := rfl
    rw [List.length_cons, this]
    omega
theorem kid_cells {B : Nat → Prop} {w : World} {k : Nat} {ts : List (NT (k + 1))} {b o : Nat} (h : IsNs B w b o ts) (i : Nat) (hi : i < ts.length) : ∃ (a1 : Option Addr) (l1 c1 : Nat) (a : Option Addr) (c : Nat), w.cell? ⟨b, o + i * 6, none⟩ = some (.int .i64 ts[i].nd.kind) ∧ w.cell? ⟨b, o + i * 6 + 1, none⟩ = some (.int .i64 ts[i].nd.space) ∧ w.cell? ⟨b, o + i * 6 + 2, none⟩ = some (.string ⟨ts[i].nd.name.toArray⟩) ∧ w.cell? ⟨b, o + i * 6 + 3, none⟩ = some (.slice a1 l1 c1) ∧ w.cell? ⟨b, o + i * 6 + 4, none⟩ = some (.string ⟨ts[i].nd.text.toArray⟩) ∧ w.cell? ⟨b, o + i * 6 + 5, none⟩ = some (.slice a ts[i].kids.length c) ∧ S5.IsA w (.slice a1 l1 c1) ts[i].nd.attrs ∧ IsK B w ts[i].kids (.slice a ts[i].kids.length c) := by
  obtain ⟨vs, g, n⟩ := S5.IsNs.get o ts h i hi
  rw [ts[i].form, isN_iff] at n
  obtain ⟨av, kv, rfl, hA, hK⟩ := n
  obtain ⟨a1, c1, rfl⟩ := S5.isA_form hA.1
  obtain ⟨a, c, rfl⟩ : ∃ a c, kv = .slice a ts[i].kids.length c := by
    rcases hK with ⟨e, h0⟩ | ⟨b, o, cap, e, _⟩
    · have h0 : ts[i].kids = [] := h0
      rw [h0]
      exact ⟨_, _, e⟩
    · exact ⟨_, _, e⟩
  exact ⟨a1, _, c1, a, c, g 0 (by omega), g 1 (by omega), g 2 (by omega), g 3 (by omega), g 4 (by omega), g 5 (by omega), hA.1, hK⟩
theorem isK_len {B : Nat → Prop} {w : World} {k : Nat} {ks : List (NT k)} {kv : Value} (h : IsK B w ks kv) : ∃ a c, kv = .slice a ks.length c := by
  rcases h with ⟨rfl, rfl⟩ | ⟨b, o, cap, rfl, _⟩
  · exact ⟨_, _, rfl⟩
  · exact ⟨_, _, rfl⟩
def ManyP {k : Nat} (ts : List (NT k)) : Prop := ∀ (B : Nat → Prop) (va : Value) (w : World), (∀ k, B k → k < w.heap.size) → IsK B w ts va → Calls Tryz.prog 13 #[va] w fun e w' => e = .returned (.int .i64 (countTs ts : Int)) ∧ Below w.heap.size w w'
theorem manyP_step {k : Nat} (ts : List (NT (k + 1))) (hct : countTs ts ≤ 1000000) (ih : ∀ i (h : i < ts.length), ManyP ts[i].kids) : ManyP ts := by
  intro B va w hB h1
  have H1 := hide h1
  obtain ⟨a1, c1, rfl⟩ := isK_len h1
  have HBB := hide hB
  have HIH := hide ih
  have HTA := hide (manyTs_take ts)
  have HLE := hide (manyTs_le ts)
  have hln : ts.length ≤ 1000000 := Nat.le_trans (manyTs_len ts) hct
  clear h1 ih hB
  go_enter Tryz.func13, Tryz.ntmps13
  go_wp2
  go_loopw [3, 10] (fun v3 v4 wr => ∃ i m : Nat, v4 = .int .i64 (i : Int) ∧ i ≤ ts.length ∧ v3 = .int .i64 (m : Int) ∧ Hid (m + i = ts.length + countTs (ts.take i)) ∧ Hid (Below w.heap.size w wr)) (fun _ v4 _ => ts.length - (intOf v4).toNat)
  case atStart => exact ⟨0, ts.length, rfl, by omega, rfl, hide rfl, hide (Below.refl _ _)⟩
  case round =>
    obtain ⟨i, m, rfl, hi, rfl, HM, HBW⟩ := hrel
    have hle := HLE.out i
    have hm1 := HM.out
    by_cases hlt : i < ts.length
    · have hlt2 : (i : Int) < ts.length := by omega
      have k1 := H1.out.below HBB.out HBW.out
      rcases k1 with ⟨_, h0⟩ | ⟨b1, o1, cap1, e1, _, _, hn1⟩
      · rw [h0] at hlt; simp at hlt
      injection e1 with e1 _ e1c
      subst e1 e1c
      obtain ⟨xa, xl, xc, ka, kc, u0, u1, u2, u3, u4, u5, _, hk⟩ := kid_cells hn1 i hlt
      have hta := HTA.out i hlt
      have hle2 := HLE.out (i + 1)
      have hba := below_alloc wr (.cells #[.int .i64 ts[i].nd.kind, .int .i64 ts[i].nd.space, .string ⟨ts[i].nd.name.toArray⟩, .slice xa xl xc, .string ⟨ts[i].nd.text.toArray⟩, .slice ka ts[i].kids.length kc] 46)
      have hBr : ∀ j, B j → j < wr.heap.size := fun j hj => Nat.lt_of_lt_of_le (HBB.out j hj) HBW.out.size
      have HC := hide (HIH.out i hlt B _ (wr.alloc (.cells #[.int .i64 ts[i].nd.kind, .int .i64 ts[i].nd.space, .string ⟨ts[i].nd.name.toArray⟩, .slice xa xl xc, .string ⟨ts[i].nd.text.toArray⟩, .slice ka ts[i].kids.length kc] 46)) (fun j hj => Nat.lt_of_lt_of_le (hBr j hj) hba.size) (hk.below hBr hba))
      have HTT : Hid (m + countTs ts[i].kids + (i + 1) = ts.length + countTs (ts.take (i + 1))) := hide (by omega)
      have hb1 : m ≤ 2000000 := by omega
      have hb2 : countTs ts[i].kids ≤ 1000000 := by omega
      clear hn1 hta hle hle2 hk hm1 hba hBr HM
      generalize countTs ts[i].kids = ci at *
      generalize ts[i].kids.length = kl at *
      generalize ts[i].nd.kind = n0 at *
      generalize ts[i].nd.space = n1 at *
      generalize ts[i].nd.name.toArray = n2 at *
      generalize ts[i].nd.text.toArray = n3 at *
      go_wp2_with fail
      refine HC.out.mono ?_
      rintro e x1 ⟨rfl, b1⟩
      have HBN := hide (HBW.out.trans ((two_below b1).mono HBW.out.size))
      clear b1 u0 u1 u2 u3 u4 u5
      go_wp2
      exact ⟨⟨i + 1, m + ci, by go_num, by omega, by go_num, HTT, HBN⟩, by simp [intOf]; omega⟩
    · have hlt2 : ¬ (i : Int) < ts.length := by omega
      have hke : ts.take i = ts := List.take_of_length_le (by omega)
      have HF : Hid ((m : Int) = countTs ts) := hide (by rw [hke] at hm1; omega)
      clear hle hke hm1 HM
      go_wp2
      go_ret
      exact ⟨S5.ret_int HF.out, HBW.out⟩
theorem isK_zero {B : Nat → Prop} {w : World} {ts : List (NT 0)} {va : Value} (h : IsK B w ts va) : ts = [] ∧ IsK B w ([] : List (NT 1)) va := by
  have h0 : ts = [] := by
    cases ts with
    | nil => rfl
    | cons x r => exact x.none
  subst h0
  refine ⟨rfl, ?_⟩
  rcases h with ⟨h1, _⟩ | ⟨b, o, cap, e1, e2, _, _⟩
  · exact .inl ⟨h1, rfl⟩
  · exact .inr ⟨b, o, cap, e1, e2, .inl rfl, trivial⟩
theorem manyP_any : ∀ {k : Nat} (ts : List (NT k)), countTs ts ≤ 1000000 → ManyP ts
  | 0, ts, _ => by
    intro B va w hB h
    obtain ⟨rfl, h2⟩ := isK_zero h
    exact manyP_step ([] : List (NT 1)) (Nat.zero_le _) (fun i hi => by simp at hi) B va w hB h2
  | k + 1, ts, h => manyP_step ts h fun i hi => manyP_any _ (by
    have h1 := manyTs_take ts i hi
    have h2 := manyTs_le ts (i + 1)
    omega)
def deepTs {k : Nat} (ts : List (NT k)) : Nat := maxG (fun x => deepT x) ts
theorem deepTs_take {k : Nat} (ts : List (NT (k + 1))) (i : Nat) (h : i < ts.length) : deepTs (ts.take (i + 1)) = max (deepTs (ts.take i)) (deepTs ts[i].kids + (if ts[i].nd.kind = 1 then 1 else 0)) := S5.maxG_take _ ts i h
theorem deepTs_le {k : Nat} : ∀ (ts : List (NT k)), deepTs ts ≤ k
  | [] => Nat.zero_le _
  | x :: r => by
    have h1 := deepTs_le r
    have h2 := S5.deep_le x
    show max (deepT x) (deepTs r) ≤ k
    omega
def DeepP {k : Nat} (ts : List (NT k)) : Prop := ∀ (B : Nat → Prop) (va : Value) (w : World), (∀ k, B k → k < w.heap.size) → IsK B w ts va → Calls Tryz.prog 15 #[va] w fun e w' => e = .returned (.int .i64 (deepTs ts : Int)) ∧ Below w.heap.size w w'
theorem deepP_step {k : Nat} (ts : List (NT (k + 1))) (hl : ts.length ≤ 1000000) (hkk : k ≤ 1000000) (ih : ∀ i (h : i < ts.length), DeepP ts[i].kids) : DeepP ts := by
  intro B va w hB h1
  have H1 := hide h1
  obtain ⟨a1, c1, rfl⟩ := isK_len h1
  have HBB := hide hB
  have HIH := hide ih
  have HTA := hide (deepTs_take ts)
  have HLE : Hid (∀ i, deepTs (ts.take i) ≤ k + 1) := hide fun i => deepTs_le _
  have HLK : Hid (∀ i (h : i < ts.length), deepTs ts[i].kids ≤ k) := hide fun i h => deepTs_le _
  clear h1 ih hB
  go_enter Tryz.func15, Tryz.ntmps15
  go_wp2
  go_loopw [3, 9] (fun v3 v4 wr => ∃ i : Nat, v4 = .int .i64 (i : Int) ∧ i ≤ ts.length ∧ v3 = .int .i64 (deepTs (ts.take i) : Int) ∧ Hid (Below w.heap.size w wr)) (fun _ v4 _ => ts.length - (intOf v4).toNat)
  case atStart => exact ⟨0, rfl, by omega, rfl, hide (Below.refl _ _)⟩
  case round =>
    obtain ⟨i, rfl, hi, rfl, HBW⟩ := hrel
    have hle := HLE.out i
    by_cases hlt : i < ts.length
    · have hlt2 : (i : Int) < ts.length := by omega
      have k1 := H1.out.below HBB.out HBW.out
      rcases k1 with ⟨_, h0⟩ | ⟨b1, o1, cap1, e1, _, _, hn1⟩
      · rw [h0] at hlt; simp at hlt
      injection e1 with e1 _ e1c
      subst e1 e1c
      obtain ⟨xa, xl, xc, ka, kc, u0, u1, u2, u3, u4, u5, _, hk⟩ := kid_cells hn1 i hlt
      have hta := HTA.out i hlt
      have hlk := HLK.out i hlt
      have hba := below_alloc wr (.cells #[.int .i64 ts[i].nd.kind, .int .i64 ts[i].nd.space, .string ⟨ts[i].nd.name.toArray⟩, .slice xa xl xc, .string ⟨ts[i].nd.text.toArray⟩, .slice ka ts[i].kids.length kc] 46)
      have hBr : ∀ j, B j → j < wr.heap.size := fun j hj => Nat.lt_of_lt_of_le (HBB.out j hj) HBW.out.size
      have HC := hide (HIH.out i hlt B _ (wr.alloc (.cells #[.int .i64 ts[i].nd.kind, .int .i64 ts[i].nd.space, .string ⟨ts[i].nd.name.toArray⟩, .slice xa xl xc, .string ⟨ts[i].nd.text.toArray⟩, .slice ka ts[i].kids.length kc] 46)) (fun j hj => Nat.lt_of_lt_of_le (hBr j hj) hba.size) (hk.below hBr hba))
      have HBX : Hid (∀ x, Below (wr.alloc (.cells #[.int .i64 ts[i].nd.kind, .int .i64 ts[i].nd.space, .string ⟨ts[i].nd.name.toArray⟩, .slice xa xl xc, .string ⟨ts[i].nd.text.toArray⟩, .slice ka ts[i].kids.length kc] 46)).heap.size (wr.alloc (.cells #[.int .i64 ts[i].nd.kind, .int .i64 ts[i].nd.space, .string ⟨ts[i].nd.name.toArray⟩, .slice xa xl xc, .string ⟨ts[i].nd.text.toArray⟩, .slice ka ts[i].kids.length kc] 46)) x → x.cell? ⟨wr.heap.size, 0, none⟩ = some (.int .i64 ts[i].nd.kind)) := hide (fun x b => by
        rw [b.cell (by simp)]
        simp [go_sem])
      clear hn1 hk hba hBr
      generalize deepTs ts[i].kids = ci at *
      generalize ts[i].kids.length = kl at *
      generalize hkd : ts[i].nd.kind = n0 at *
      generalize ts[i].nd.space = n1 at *
      generalize ts[i].nd.name.toArray = n2 at *
      generalize ts[i].nd.text.toArray = n3 at *
      have HTA2 := hide hta
      generalize hds : deepTs (ts.take i) = ds at *
      clear hta hkd
      by_cases hk1 : n0 = 1
      · subst hk1
        have HTT : Hid (deepTs (ts.take (i + 1)) = max ds (ci + 1)) := hide (by rw [HTA2.out, if_pos rfl])
        clear HTA2
        go_wp2_with fail
        refine HC.out.mono ?_
        rintro e x1 ⟨rfl, b1⟩
        have q0 := HBX.out _ b1
        have HBN := hide (HBW.out.trans ((two_below b1).mono HBW.out.size))
        clear b1 u0 u1 u2 u3 u4 u5
        go_wp2
        all_goals exact ⟨⟨i + 1, by go_num, by omega, by rw [HTT.out]; congr 1; omega, HBN⟩, by simp [intOf]; omega⟩
      · have HTT : Hid (deepTs (ts.take (i + 1)) = max ds ci) := hide (by rw [HTA2.out, if_neg hk1, Nat.add_zero])
        clear HTA2
        go_wp2_with fail
        refine HC.out.mono ?_
        rintro e x1 ⟨rfl, b1⟩
        have q0 := HBX.out _ b1
        have HBN := hide (HBW.out.trans ((two_below b1).mono HBW.out.size))
        clear b1 u0 u1 u2 u3 u4 u5
        go_wp2
        all_goals exact ⟨⟨i + 1, by go_num, by omega, by rw [HTT.out]; congr 1; omega, HBN⟩, by simp [intOf]; omega⟩
    · have hlt2 : ¬ (i : Int) < ts.length := by omega
      have hke : ts.take i = ts := List.take_of_length_le (by omega)
      rw [hke]
      clear hle hke
      go_wp2
      go_ret
      exact ⟨rfl, HBW.out⟩
theorem deepP_any : ∀ {k : Nat} (ts : List (NT k)), countTs ts ≤ 1000000 → k ≤ 1000000 → DeepP ts
  | 0, ts, _, _ => by
    intro B va w hB h
    obtain ⟨rfl, h2⟩ := isK_zero h
    exact deepP_step ([] : List (NT 1)) (Nat.zero_le _) (Nat.zero_le _) (fun i hi => by simp at hi) B va w hB h2
  | k + 1, ts, h, hk => deepP_step ts (Nat.le_trans (manyTs_len ts) h) (by omega) fun i hi => deepP_any _ (by
    have h1 := manyTs_take ts i hi
    have h2 := manyTs_le ts (i + 1)
    omega) (by omega)
end Go.Proofs.YtpppdfjdngmaoaaGreatDoor
namespace Go.Proofs.YtpppdfjdngmaoaaGreatDoor
open Go.RowKit
open S5 (NT IsK IsNs IsN isN_iff countTs countT maxG deepT cell_lt below_alloc hide below_drewN)
def SameS {k : Nat} (ts : List (NT k)) : Prop := ∀ (B : Nat → Prop) (va : Value) (w : World), (∀ k, B k → k < w.heap.size) → IsK B w ts va → Calls Tryz.prog 11 #[va, va] w fun e w' => e = .returned (.bool true) ∧ Below w.heap.size w w'
theorem enters_same (a b : Value) (w : World) : (callFunc 26 #[a, b]).run Tryz.prog w = .ok (.enter 26 #[a, b]) w := by simp [go_sem]
theorem sameNode_self {k : Nat} (ks : List (NT k)) (ih : SameS ks) (kd sp : Int) (nm tx : ByteArray) (av kv : Value) (aa : S5.AttrL) (haa : aa.length ≤ 1000000) (B : Nat → Prop) (w : World) (hB : ∀ k, B k → k < w.heap.size) (hA : S5.IsA w av aa) (hK : IsK B w ks kv) :
    Calls Tryz.prog 26 #[.agg #[.int .i64 kd, .int .i64 sp, .string nm, av, .string tx, kv], .agg #[.int .i64 kd, .int .i64 sp, .string nm, av, .string tx, kv]] w fun e w' => e = .returned (.bool true) ∧ Below w.heap.size w w' := by
  have HE := hide (fun x (b : Below w.heap.size w x) => S7.equal_p av av aa aa (by omega) (by omega) x (isQ_of (hA.below b)) (isQ_of (hA.below b)))
  have HS := hide (fun x (b : Below w.heap.size w x) => ih B kv x (fun j hj => Nat.lt_of_lt_of_le (hB j hj) b.size) (hK.below hB b))
  obtain ⟨a1, c1, rfl⟩ := S5.isA_form hA
  obtain ⟨a2, c2, rfl⟩ := isK_len hK
  clear hA hK ih hB
  have e1 : decide (aa = aa) = true := by simp
  rw [e1] at HE
  generalize aa.length = al at *
  generalize ks.length = kl at *
  have HB : Hid (∀ x, Below ((w.alloc (.cells #[.int .i64 kd, .int .i64 sp, .string nm, .slice a1 al c1, .string tx, .slice a2 kl c2] 46)).alloc (.cells #[.int .i64 kd, .int .i64 sp, .string nm, .slice a1 al c1, .string tx, .slice a2 kl c2] 46)).heap.size ((w.alloc (.cells #[.int .i64 kd, .int .i64 sp, .string nm, .slice a1 al c1, .string tx, .slice a2 kl c2] 46)).alloc (.cells #[.int .i64 kd, .int .i64 sp, .string nm, .slice a1 al c1, .string tx, .slice a2 kl c2] 46)) x → x.cell? ⟨w.heap.size, 5, none⟩ = some (.slice a2 kl c2) ∧ x.cell? ⟨w.heap.size + 1, 5, none⟩ = some (.slice a2 kl c2) ∧ Below w.heap.size w x) := hide (fun x b => by
    refine ⟨?_, ?_, two_two b⟩
    · rw [b.cell (by simp; omega), (below_alloc _ _).cell (by simp)]
      simp [go_sem]
    · rw [b.cell (by simp)]
      have := World.cell?_alloc_mark (w.alloc (.cells #[.int .i64 kd, .int .i64 sp, .string nm, .slice a1 al c1, .string tx, .slice a2 kl c2] 46)) #[.int .i64 kd, .int .i64 sp, .string nm, .slice a1 al c1, .string tx, .slice a2 kl c2] 46 (0, 0) 5
      rw [World.size_alloc] at this
      exact this)
  go_enter Tryz.func26, Tryz.ntmps26
  go_wp2_with fail
  refine (HE.out _ (two_two (Below.refl _ _))).mono ?_
  rintro e x1 ⟨rfl, b1⟩
  obtain ⟨q1, q2, B1⟩ := HB.out _ b1
  have BB1 := hide B1
  clear b1 B1
  go_wp2_with fail
  refine (HS.out _ BB1.out).mono ?_
  rintro e x2 ⟨rfl, b2⟩
  have BB2 := hide (BB1.out.trans (b2.mono BB1.out.size))
  clear b2
  go_wp2
  go_ret
  exact ⟨rfl, BB2.out⟩
theorem equalFunc_self {k : Nat} (ts : List (NT (k + 1))) (hl : ts.length ≤ 1000000) (ha : ∀ t ∈ ts, t.nd.attrs.length ≤ 1000000) (ih : ∀ i (h : i < ts.length), SameS ts[i].kids) (B : Nat → Prop) (va : Value) (w : World) (hB : ∀ k, B k → k < w.heap.size) (h1 : IsK B w ts va) :
    Calls Tryz.prog 25 #[va, va, .func (.func 26) #[] #[]] w fun e w' => e = .returned (.bool true) ∧ Below w.heap.size w w' := by
  have H1 := hide h1
  obtain ⟨a1, c1, rfl⟩ := isK_len h1
  have HBB := hide hB
  have HIH := hide ih
  have HAL := hide ha
  have hent := enters_same
  clear h1 ih hB ha
  go_enter Tryz.func25, Tryz.ntmps25
  go_wp2
  go_loopw [17] (fun v4 wr => ∃ i : Nat, v4 = .int .i64 (i : Int) ∧ i ≤ ts.length ∧ Hid (Below w.heap.size w wr)) (fun v4 _ => ts.length - (intOf v4).toNat)
  case atStart => exact ⟨0, rfl, by omega, hide (Below.refl _ _)⟩
  case round =>
    obtain ⟨i, rfl, hi, HBW⟩ := hrel
    by_cases hlt : i < ts.length
    · have hlt2 : (i : Int) < ts.length := by omega
      have k1 := H1.out.below HBB.out HBW.out
      rcases k1 with ⟨_, h0⟩ | ⟨b1, o1, cap1, e1, _, _, hn1⟩
      · rw [h0] at hlt; simp at hlt
      injection e1 with e1 _ e1c
      subst e1 e1c
      obtain ⟨xa, xl, xc, ka, kc, u0, u1, u2, u3, u4, u5, hA, hk⟩ := kid_cells hn1 i hlt
      have hBr : ∀ j, B j → j < wr.heap.size := fun j hj => Nat.lt_of_lt_of_le (HBB.out j hj) HBW.out.size
      have HC := hide (fun x (b : Below wr.heap.size wr x) => sameNode_self ts[i].kids (HIH.out i hlt) ts[i].nd.kind ts[i].nd.space ⟨ts[i].nd.name.toArray⟩ ⟨ts[i].nd.text.toArray⟩ (.slice xa xl xc) (.slice ka ts[i].kids.length kc) ts[i].nd.attrs (HAL.out _ (List.getElem_mem hlt)) B x (fun j hj => Nat.lt_of_lt_of_le (hBr j hj) b.size) (hA.below b) (hk.below hBr b))
      clear hn1 hk hA hBr
      generalize ts[i].kids.length = kl at *
      generalize ts[i].nd.kind = n0 at *
      generalize ts[i].nd.space = n1 at *
      generalize ts[i].nd.name.toArray = n2 at *
      generalize ts[i].nd.text.toArray = n3 at *
      have hbl : b1 < wr.heap.size := cell_lt u0
      go_wp2_with fail
      refine (HC.out _ (two_two (Below.refl _ _))).mono ?_
      rintro e x1 ⟨rfl, b1⟩
      have HBN := hide (HBW.out.trans ((two_two b1).mono HBW.out.size))
      clear b1 u0 u1 u2 u3 u4 u5
      go_wp2
      exact ⟨⟨i + 1, by go_num, by omega, HBN⟩, by simp [intOf]; omega⟩
    · have hlt2 : ¬ (i : Int) < ts.length := by omega
      go_wp2
      go_ret
      exact ⟨rfl, HBW.out⟩
theorem sameS_step {k : Nat} (ts : List (NT (k + 1))) (hl : ts.length ≤ 1000000) (ha : ∀ t ∈ ts, t.nd.attrs.length ≤ 1000000) (ih : ∀ i (h : i < ts.length), SameS ts[i].kids) : SameS ts := by
  intro B va w hB h1
  have H := hide (equalFunc_self ts hl ha ih B va w hB h1)
  obtain ⟨a1, c1, rfl⟩ := isK_len h1
  clear h1 ih hB ha
  have hmf : ∀ (fn : Fn) (first cap : Array Value) (w : World), (Instr.makeFunc fn first cap).run Tryz.prog w = .ok (.func fn first cap) w := fun _ _ _ _ => rfl
  go_enter Tryz.func11, Tryz.ntmps11
  go_wp2_with fail
  refine H.out.mono ?_
  rintro e x1 ⟨rfl, b1⟩
  go_wp2
  go_ret
  exact ⟨rfl, b1⟩
def AttrsOk : {k : Nat} → List (NT k) → Prop
  | 0, _ => True
  | k + 1, ts => ∀ t ∈ ts, t.nd.attrs.length ≤ 1000000 ∧ t.kids.length ≤ 1000000 ∧ AttrsOk t.kids
theorem sameS_any : ∀ {k : Nat} (ts : List (NT k)), ts.length ≤ 1000000 → AttrsOk ts → SameS ts
  | 0, ts, _, _ => by
    intro B va w hB h
    obtain ⟨rfl, h2⟩ := isK_zero h
    exact sameS_step ([] : List (NT 1)) (Nat.zero_le _) (fun t ht => by simp at ht) (fun i hi => by simp at hi) B va w hB h2
  | k + 1, ts, h, ha => sameS_step ts h (fun t ht => (ha t ht).1) fun i hi => sameS_any _ (ha _ (List.getElem_mem hi)).2.1 (ha _ (List.getElem_mem hi)).2.2
end Go.Proofs.YtpppdfjdngmaoaaGreatDoor
namespace Go.Proofs.YtpppdfjdngmaoaaGreatDoor
open Go.RowKit
open S5 (NT IsK IsNs IsN isN_iff countTs countT maxG deepT cell_lt below_alloc hide below_drewN)
def liveT : S5.TR := [({}, [1, 2]), ({ kind := 2, text := [97] }, []), ({ kind := 1, name := [98] }, [3]), ({ kind := 2, text := [99] }, [])]
theorem live_T : (buildL liveL).T = liveT := by kernel_rfl
def liveV : List (NT 4) := [.mk { kind := 2, text := [97] } [], .mk { kind := 1, name := [98] } [.mk { kind := 2, text := [99] } []]]
theorem live_V {B : Nat → Prop} {w : World} {kv : Value} (h : IsK B w (S5.valueL (buildL liveL).T 0).kids kv) : IsK B w liveV kv := by
  rw [live_T] at h
  exact h
theorem live_count : countTs liveV = 3 := rfl
theorem live_deep : deepTs liveV = 1 := rfl
theorem live_attrs : AttrsOk liveV := by
  intro t ht
  simp only [liveV, List.mem_cons, List.not_mem_nil, or_false] at ht
  rcases ht with rfl | rfl
  · exact ⟨Nat.zero_le _, Nat.zero_le _, fun t ht => absurd ht List.not_mem_nil⟩
  · refine ⟨Nat.zero_le _, by show 1 ≤ 1000000; omega, fun t ht => ?_⟩
    have : t = .mk { kind := 2, text := [99] } [] := List.mem_singleton.1 ht
    subst this
    exact ⟨Nat.zero_le _, Nat.zero_le _, fun t ht => absurd ht List.not_mem_nil⟩
theorem isK_tight {B : Nat → Prop} {w : World} {k : Nat} {ks : List (NT k)} {kv : Value} (h : IsK B w ks kv) : IsK (fun k => B k ∧ k < w.heap.size) w ks kv := by
  have := S5.IsN.tight (.mk {} ks) (S5.nodeC {} (.slice none 0 0) kv) ((isN_iff B w {} ks _).2 ⟨_, _, rfl, ⟨.inl ⟨rfl, rfl⟩, .inl rfl⟩, h⟩)
  obtain ⟨av, kv', e, _, h2⟩ := (isN_iff _ w {} ks _).1 this
  have e2 : kv = kv' := by
    simp only [S5.nodeC, List.cons.injEq] at e
    exact e.2.2.2.2.2.1
  rw [e2]
  exact h2
theorem live_cells {w w' : World} {e : Ending} (h : FragA w liveL e w') : ∃ b o c, e = .returned (.tuple #[.slice (some ⟨b, o, none⟩) 2 c, .int .i64 0]) ∧ (IsK (fun k => w.heap.size ≤ k ∧ k < w'.heap.size) w' liveV (.slice (some ⟨b, o, none⟩) 2 c) ∧ w'.cell? ⟨b, o + 4, none⟩ = some (.string ⟨#[97]⟩) ∧ w'.cell? ⟨b, o + 8, none⟩ = some (.string ⟨#[98]⟩)) ∧ Below w.heap.size w w' := by
  obtain ⟨a, k, c, rfl, _, h2, b⟩ := h
  have hK := isK_tight (live_V (h2 live_err))
  rw [live_err]
  rcases hK with ⟨_, e0⟩ | ⟨b', o, cap, e1, e2, e3, e4⟩
  · exact absurd e0 (by simp [liveV])
  · injection e1 with e1 e5 e6
    subst e1 e5 e6
    refine ⟨b', o, c, rfl, ⟨.inr ⟨b', o, c, rfl, e2, e3, e4⟩, ?_, ?_⟩, b⟩
    · obtain ⟨xa, xl, xc, ka, kc, u0, u1, u2, u3, u4, u5, _, hk⟩ := kid_cells e4 0 (by decide)
      exact u4
    · obtain ⟨xa, xl, xc, ka, kc, u0, u1, u2, u3, u4, u5, _, hk⟩ := kid_cells e4 1 (by decide)
      exact u2
theorem alive_p (w : World) (he : S4.Env w) : Calls Tryz.prog 10 #[] w fun e w' => e = .returned (.bool true) ∧ Below w.heap.size w w' := by
  have HF := hide ((fragment_live w he).mono fun e w' h => live_cells h)
  clear he
  have HM := hide (manyP_any liveV (by decide))
  have HD := hide (deepP_any liveV (by decide) (by decide))
  have HS := hide (sameS_any liveV (by decide) live_attrs)
  go_enter Tryz.func10, Tryz.ntmps10
  go_wp2_with fail
  refine HF.out.mono ?_
  rintro e w1 ⟨b, o, c, rfl, ⟨hK, c1, c2⟩, b1⟩
  have HK := hide hK
  have B1 := hide b1
  clear hK b1 HF
  go_wp2_with fail
  refine (HM.out _ _ _ (fun k h => h.2) HK.out).mono ?_
  rw [live_count]
  rintro e w2 ⟨rfl, b2⟩
  have HK2 := hide (HK.out.below (fun k h => h.2) b2)
  have B2 := hide (B1.out.trans (b2.mono B1.out.size))
  have Z2 := hide (b2.size)
  clear b2
  go_wp2_with fail
  refine (HD.out _ _ _ (fun k h => Nat.lt_of_lt_of_le h.2 Z2.out) HK2.out).mono ?_
  rw [live_deep]
  rintro e w3 ⟨rfl, b3⟩
  have HK3 := hide (HK2.out.below (fun k h => Nat.lt_of_lt_of_le h.2 Z2.out) b3)
  have B3 := hide (B2.out.trans (b3.mono B2.out.size))
  have Z3 := hide (Nat.le_trans Z2.out b3.size)
  clear b3
  go_wp2_with fail
  refine (HS.out _ _ _ (fun k h => Nat.lt_of_lt_of_le h.2 Z3.out) HK3.out).mono ?_
  rintro e w4 ⟨rfl, b4⟩
  have B4 := hide (B3.out.trans (b4.mono B3.out.size))
  clear b4
  go_wp2
  go_ret
  exact ⟨rfl, B4.out⟩
end Go.Proofs.YtpppdfjdngmaoaaGreatDoor
