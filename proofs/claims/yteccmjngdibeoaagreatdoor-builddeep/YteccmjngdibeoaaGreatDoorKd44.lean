import Derived.Test.YteccmjngdibeoaaGreatDoorKd25
import Derived.Test.YteccmjngdibeoaaGreatDoorKd29
import Derived.Test.YteccmjngdibeoaaGreatDoorKd43
import Derived.Deep.RegionHeld2
set_option linter.unusedVariables false
set_option linter.unusedSimpArgs false
set_option maxRecDepth 4000
namespace Go.Proofs.YteccmjngdibeoaaGreatDoor
open Go.RowKit
open S5 (NT IsK IsNs IsN isN_iff countTs countT maxG deepT cell_lt below_alloc hide below_drewN)
def SameS {k : Nat} (ts : List (NT k)) : Prop := ∀ (B : Nat → Prop) (va : Value) (w : World), (∀ k, B k → k < w.heap.size) → IsK B w ts va → Calls Tryz.prog 14 #[va, va] w fun e w' => e = .returned (.bool true) ∧ Below w.heap.size w w'
theorem enters_same (a b : Value) (w : World) : (callFunc 31 #[a, b]).run Tryz.prog w = .ok (.enter 31 #[a, b]) w := by simp [go_sem]
set_option maxRecDepth 10000 in
set_option maxHeartbeats 4000000 in
theorem sameNode_self {k : Nat} (ks : List (NT k)) (ih : SameS ks) (kd sp : Int) (nm tx : ByteArray) (av kv : Value) (aa : S5.AttrL) (haa : aa.length ≤ 1000000) (B : Nat → Prop) (w : World) (hB : ∀ k, B k → k < w.heap.size) (hA : S5.IsA w av aa) (hK : IsK B w ks kv) :
    Calls Tryz.prog 31 #[.agg #[.int .i64 kd, .int .i64 sp, .string nm, av, .string tx, kv], .agg #[.int .i64 kd, .int .i64 sp, .string nm, av, .string tx, kv]] w fun e w' => e = .returned (.bool true) ∧ Below w.heap.size w w' := by
  have HE := hide (fun x (b : Below w.heap.size w x) => S7.equal_p av av aa aa (by omega) (by omega) x (isQ_of (hA.below b)) (isQ_of (hA.below b)))
  have HS := hide (fun x (b : Below w.heap.size w x) => ih B kv x (fun j hj => Nat.lt_of_lt_of_le (hB j hj) b.size) (hK.below hB b))
  obtain ⟨a1, c1, rfl⟩ := S5.isA_form hA
  obtain ⟨a2, c2, rfl⟩ := isK_len hK
  clear hA hK ih hB
  have e1 : decide (aa = aa) = true := by simp
  rw [e1] at HE
  generalize aa.length = al at *
  generalize ks.length = kl at *
  have HB : Hid (∀ x, Below ((w.alloc (.cells #[.int .i64 kd, .int .i64 sp, .string nm, .slice a1 al c1, .string tx, .slice a2 kl c2] 36)).alloc (.cells #[.int .i64 kd, .int .i64 sp, .string nm, .slice a1 al c1, .string tx, .slice a2 kl c2] 36)).heap.size ((w.alloc (.cells #[.int .i64 kd, .int .i64 sp, .string nm, .slice a1 al c1, .string tx, .slice a2 kl c2] 36)).alloc (.cells #[.int .i64 kd, .int .i64 sp, .string nm, .slice a1 al c1, .string tx, .slice a2 kl c2] 36)) x → x.cell? ⟨w.heap.size, 5, none⟩ = some (.slice a2 kl c2) ∧ x.cell? ⟨w.heap.size + 1, 5, none⟩ = some (.slice a2 kl c2) ∧ Below w.heap.size w x) := hide (fun x b => by
    refine ⟨?_, ?_, two_two b⟩
    · rw [b.cell (by simp; omega), (below_alloc _ _).cell (by simp)]
      simp [go_sem]
    · rw [b.cell (by simp)]
      have := World.cell?_alloc_mark (w.alloc (.cells #[.int .i64 kd, .int .i64 sp, .string nm, .slice a1 al c1, .string tx, .slice a2 kl c2] 36)) #[.int .i64 kd, .int .i64 sp, .string nm, .slice a1 al c1, .string tx, .slice a2 kl c2] 36 (0, 0) 5
      rw [World.size_alloc] at this
      exact this)
  go_enter Tryz.func31, Tryz.ntmps31
  go_wp2_with fail
  refine (HE.out _ (two_two (Below.refl _ _))).mono ?_
  rintro e x1 ⟨rfl, b1⟩
  obtain ⟨q1, q2, B1⟩ := HB.out _ b1
  have BB1 := hide B1
  clear b1 B1
  go_wp2_with fail
  refine (HS.out _ BB1.out).mono ?_
  rintro e x2 ⟨rfl, b2⟩
  have BB2 := hide (BB1.out.trans (b2.mono BB1.out.size))
  clear b2
  go_wp2
  go_ret
  exact ⟨rfl, BB2.out⟩
set_option maxRecDepth 10000 in
set_option maxHeartbeats 4000000 in
theorem equalFunc_self {k : Nat} (ts : List (NT (k + 1))) (hl : ts.length ≤ 1000000) (ha : ∀ t ∈ ts, t.nd.attrs.length ≤ 1000000) (ih : ∀ i (h : i < ts.length), SameS ts[i].kids) (B : Nat → Prop) (va : Value) (w : World) (hB : ∀ k, B k → k < w.heap.size) (h1 : IsK B w ts va) :
    Calls Tryz.prog 30 #[va, va, .func (.func 31) #[] #[]] w fun e w' => e = .returned (.bool true) ∧ Below w.heap.size w w' := by
  have H1 := hide h1
  obtain ⟨a1, c1, rfl⟩ := isK_len h1
  have HBB := hide hB
  have HIH := hide ih
  have HAL := hide ha
  have hent := enters_same
  clear h1 ih hB ha
  go_enter Tryz.func30, Tryz.ntmps30
  go_wp2
  go_loopw [17] (fun v4 wr => ∃ i : Nat, v4 = .int .i64 (i : Int) ∧ i ≤ ts.length ∧ Hid (Below w.heap.size w wr)) (fun v4 _ => ts.length - (intOf v4).toNat)
  case atStart => exact ⟨0, rfl, by omega, hide (Below.refl _ _)⟩
  case round =>
    obtain ⟨i, rfl, hi, HBW⟩ := hrel
    by_cases hlt : i < ts.length
    · have hlt2 : (i : Int) < ts.length := by omega
      have k1 := H1.out.below HBB.out HBW.out
      rcases k1 with ⟨_, h0⟩ | ⟨b1, o1, cap1, e1, _, _, hn1⟩
      · rw [h0] at hlt; simp at hlt
      injection e1 with e1 _ e1c
      subst e1 e1c
      obtain ⟨xa, xl, xc, ka, kc, u0, u1, u2, u3, u4, u5, hA, hk⟩ := kid_cells hn1 i hlt
      have hBr : ∀ j, B j → j < wr.heap.size := fun j hj => Nat.lt_of_lt_of_le (HBB.out j hj) HBW.out.size
      have HC := hide (fun x (b : Below wr.heap.size wr x) => sameNode_self ts[i].kids (HIH.out i hlt) ts[i].nd.kind ts[i].nd.space ⟨ts[i].nd.name.toArray⟩ ⟨ts[i].nd.text.toArray⟩ (.slice xa xl xc) (.slice ka ts[i].kids.length kc) ts[i].nd.attrs (HAL.out _ (List.getElem_mem hlt)) B x (fun j hj => Nat.lt_of_lt_of_le (hBr j hj) b.size) (hA.below b) (hk.below hBr b))
      clear hn1 hk hA hBr
      generalize ts[i].kids.length = kl at *
      generalize ts[i].nd.kind = n0 at *
      generalize ts[i].nd.space = n1 at *
      generalize ts[i].nd.name.toArray = n2 at *
      generalize ts[i].nd.text.toArray = n3 at *
      have hbl : b1 < wr.heap.size := cell_lt u0
      go_wp2_with fail
      refine (HC.out _ (two_two (Below.refl _ _))).mono ?_
      rintro e x1 ⟨rfl, b1⟩
      have HBN := hide (HBW.out.trans ((two_two b1).mono HBW.out.size))
      clear b1 u0 u1 u2 u3 u4 u5
      go_wp2
      exact ⟨⟨i + 1, by go_num, by omega, HBN⟩, by simp [intOf]; omega⟩
    · have hlt2 : ¬ (i : Int) < ts.length := by omega
      go_wp2
      go_ret
      exact ⟨rfl, HBW.out⟩
set_option maxHeartbeats 4000000 in
theorem sameS_step {k : Nat} (ts : List (NT (k + 1))) (hl : ts.length ≤ 1000000) (ha : ∀ t ∈ ts, t.nd.attrs.length ≤ 1000000) (ih : ∀ i (h : i < ts.length), SameS ts[i].kids) : SameS ts := by
  intro B va w hB h1
  have H := hide (equalFunc_self ts hl ha ih B va w hB h1)
  obtain ⟨a1, c1, rfl⟩ := isK_len h1
  clear h1 ih hB ha
  have hmf : ∀ (fn : Fn) (first cap : Array Value) (w : World), (Instr.makeFunc fn first cap).run Tryz.prog w = .ok (.func fn first cap) w := fun _ _ _ _ => rfl
  go_enter Tryz.func14, Tryz.ntmps14
  go_wp2_with fail
  refine H.out.mono ?_
  rintro e x1 ⟨rfl, b1⟩
  go_wp2
  go_ret
  exact ⟨rfl, b1⟩
def AttrsOk : {k : Nat} → List (NT k) → Prop
  | 0, _ => True
  | k + 1, ts => ∀ t ∈ ts, t.nd.attrs.length ≤ 1000000 ∧ t.kids.length ≤ 1000000 ∧ AttrsOk t.kids
theorem sameS_any : ∀ {k : Nat} (ts : List (NT k)), ts.length ≤ 1000000 → AttrsOk ts → SameS ts
  | 0, ts, _, _ => by
    intro B va w hB h
    obtain ⟨rfl, h2⟩ := isK_zero h
    exact sameS_step ([] : List (NT 1)) (Nat.zero_le _) (fun t ht => by simp at ht) (fun i hi => by simp at hi) B va w hB h2
  | k + 1, ts, h, ha => sameS_step ts h (fun t ht => (ha t ht).1) fun i hi => sameS_any _ (ha _ (List.getElem_mem hi)).2.1 (ha _ (List.getElem_mem hi)).2.2
end Go.Proofs.YteccmjngdibeoaaGreatDoor
set_option linter.unusedVariables false
set_option linter.unusedSimpArgs false
set_option maxRecDepth 4000
namespace Go.Proofs.YteccmjngdibeoaaGreatDoor
open Go.RowKit
open S5 (NT IsK IsNs IsN isN_iff countTs countT maxG deepT cell_lt below_alloc hide below_drewN)
def liveT : S5.TR := [({}, [1, 2]), ({ kind := 2, text := [97] }, []), ({ kind := 1, name := [98] }, [3]), ({ kind := 2, text := [99] }, [])]
theorem live_T : (buildL liveL).T = liveT := by kernel_rfl
def liveV : List (NT 4) := [.mk { kind := 2, text := [97] } [], .mk { kind := 1, name := [98] } [.mk { kind := 2, text := [99] } []]]
theorem live_V {B : Nat → Prop} {w : World} {kv : Value} (h : IsK B w (S5.valueL (buildL liveL).T 0).kids kv) : IsK B w liveV kv := by
  rw [live_T] at h
  exact h
theorem live_count : countTs liveV = 3 := rfl
theorem live_deep : deepTs liveV = 1 := rfl
theorem live_attrs : AttrsOk liveV := by
  intro t ht
  simp only [liveV, List.mem_cons, List.not_mem_nil, or_false] at ht
  rcases ht with rfl | rfl
  · exact ⟨Nat.zero_le _, Nat.zero_le _, fun t ht => absurd ht List.not_mem_nil⟩
  · refine ⟨Nat.zero_le _, by show 1 ≤ 1000000; omega, fun t ht => ?_⟩
    have : t = .mk { kind := 2, text := [99] } [] := List.mem_singleton.1 ht
    subst this
    exact ⟨Nat.zero_le _, Nat.zero_le _, fun t ht => absurd ht List.not_mem_nil⟩
theorem isK_tight {B : Nat → Prop} {w : World} {k : Nat} {ks : List (NT k)} {kv : Value} (h : IsK B w ks kv) : IsK (fun k => B k ∧ k < w.heap.size) w ks kv := by
  have := S5.IsN.tight (.mk {} ks) (S5.nodeC {} (.slice none 0 0) kv) ((isN_iff B w {} ks _).2 ⟨_, _, rfl, ⟨.inl ⟨rfl, rfl⟩, .inl rfl⟩, h⟩)
  obtain ⟨av, kv', e, _, h2⟩ := (isN_iff _ w {} ks _).1 this
  have e2 : kv = kv' := by
    simp only [S5.nodeC, List.cons.injEq] at e
    exact e.2.2.2.2.2.1
  rw [e2]
  exact h2
theorem live_cells {w w' : World} {e : Ending} (h : FragA w liveL e w') : ∃ b o c, e = .returned (.tuple #[.slice (some ⟨b, o, none⟩) 2 c, .int .i64 0]) ∧ (IsK (fun k => w.heap.size ≤ k ∧ k < w'.heap.size) w' liveV (.slice (some ⟨b, o, none⟩) 2 c) ∧ w'.cell? ⟨b, o + 4, none⟩ = some (.string ⟨#[97]⟩) ∧ w'.cell? ⟨b, o + 8, none⟩ = some (.string ⟨#[98]⟩)) ∧ Below w.heap.size w w' := by
  obtain ⟨a, k, c, rfl, _, h2, b⟩ := h
  have hK := isK_tight (live_V (h2 live_err))
  rw [live_err]
  rcases hK with ⟨_, e0⟩ | ⟨b', o, cap, e1, e2, e3, e4⟩
  · exact absurd e0 (by simp [liveV])
  · injection e1 with e1 e5 e6
    subst e1 e5 e6
    refine ⟨b', o, c, rfl, ⟨.inr ⟨b', o, c, rfl, e2, e3, e4⟩, ?_, ?_⟩, b⟩
    · obtain ⟨xa, xl, xc, ka, kc, u0, u1, u2, u3, u4, u5, _, hk⟩ := kid_cells e4 0 (by decide)
      exact u4
    · obtain ⟨xa, xl, xc, ka, kc, u0, u1, u2, u3, u4, u5, _, hk⟩ := kid_cells e4 1 (by decide)
      exact u2
set_option maxRecDepth 50000 in
set_option maxHeartbeats 8000000 in
theorem alive_p (w : World) (he : S4.Env w) : Calls Tryz.prog 9 #[] w fun e w' => e = .returned (.bool true) ∧ Below w.heap.size w w' := by
  have HF := hide ((fragment_live w he).mono fun e w' h => live_cells h)
  clear he
  have HM := hide (manyP_any liveV (by decide))
  have HD := hide (deepP_any liveV (by decide) (by decide))
  have HS := hide (sameS_any liveV (by decide) live_attrs)
  go_enter Tryz.func9, Tryz.ntmps9
  go_wp2_with fail
  refine HF.out.mono ?_
  rintro e w1 ⟨b, o, c, rfl, ⟨hK, c1, c2⟩, b1⟩
  have HK := hide hK
  have B1 := hide b1
  clear hK b1 HF
  go_wp2_with fail
  refine (HM.out _ _ _ (fun k h => h.2) HK.out).mono ?_
  rw [live_count]
  rintro e w2 ⟨rfl, b2⟩
  have HK2 := hide (HK.out.below (fun k h => h.2) b2)
  have B2 := hide (B1.out.trans (b2.mono B1.out.size))
  have Z2 := hide (b2.size)
  clear b2
  go_wp2_with fail
  refine (HD.out _ _ _ (fun k h => Nat.lt_of_lt_of_le h.2 Z2.out) HK2.out).mono ?_
  rw [live_deep]
  rintro e w3 ⟨rfl, b3⟩
  have HK3 := hide (HK2.out.below (fun k h => Nat.lt_of_lt_of_le h.2 Z2.out) b3)
  have B3 := hide (B2.out.trans (b3.mono B2.out.size))
  have Z3 := hide (Nat.le_trans Z2.out b3.size)
  clear b3
  go_wp2_with fail
  refine (HS.out _ _ _ (fun k h => Nat.lt_of_lt_of_le h.2 Z3.out) HK3.out).mono ?_
  rintro e w4 ⟨rfl, b4⟩
  have B4 := hide (B3.out.trans (b4.mono B3.out.size))
  clear b4
  go_wp2
  go_ret
  exact ⟨rfl, B4.out⟩
end Go.Proofs.YteccmjngdibeoaaGreatDoor
set_option linter.unusedVariables false
set_option linter.unusedSimpArgs false
set_option maxRecDepth 4000
namespace Go.Proofs.YteccmjngdibeoaaGreatDoor
open S5 (ND TR kidsAt nodeAt NT countTs countT maxG deepT valueK valueL)
theorem dep_chain : ∀ (n j : Nat), j ≤ n → depF (chainF n) j = j
  | 0, j, h => by
    have : j = 0 := by omega
    subst this
    rfl
  | n + 1, j, h => by
    unfold depF
    rw [chainF]
    by_cases hj : j ≤ n
    · rw [List.getElem?_append_left (by rw [chainF_len]; omega)]
      exact dep_chain n j hj
    · have : j = n + 1 := by omega
      subst this
      rw [List.getElem?_append_right (by rw [chainF_len]; exact Nat.le_refl _), chainF_len, Nat.sub_self]
      rfl
theorem nd_chain : ∀ (n j : Nat), 1 ≤ j → j ≤ n → ndF (chainF n) j = { kind := 1, name := divN }
  | 0, j, h1, h => by omega
  | n + 1, j, h1, h => by
    unfold ndF
    rw [chainF]
    by_cases hj : j ≤ n
    · rw [List.getElem?_append_left (by rw [chainF_len]; omega)]
      exact nd_chain n j h1 hj
    · have : j = n + 1 := by omega
      subst this
      rw [List.getElem?_append_right (by rw [chainF_len]; exact Nat.le_refl _), chainF_len, Nat.sub_self]
      rfl
theorem range_one (x : Nat) : ∀ m, (List.range m).filter (fun j => decide (j = x)) = if x < m then [x] else []
  | 0 => by simp
  | m + 1 => by
    rw [List.range_succ, List.filter_append, range_one x m]
    by_cases h : x < m
    · have h2 : ¬ m = x := by omega
      rw [if_pos h, if_pos (by omega)]
      simp [h2]
    · by_cases h3 : m = x
      · subst h3
        rw [if_neg h, if_pos (by omega)]
        simp
      · rw [if_neg h, if_neg (by omega)]
        simp [h3]
theorem kids_chain (n i : Nat) (hi : i ≤ n) : kidsF (chainF n) i = if i < n then [i + 1] else [] := by
  unfold kidsF
  have hc : (List.range (chainF n).length).filter (kidF (chainF n) i) = (List.range (chainF n).length).filter (fun j => decide (j = i + 1)) := by
    apply List.filter_congr
    intro j hj
    have hj2 : j ≤ n := by
      have := List.mem_range.1 hj
      rw [chainF_len] at this
      omega
    rw [Bool.eq_iff_iff, kidF_iff, decide_eq_true_eq, dep_chain n j hj2, dep_chain n i hi]
    constructor
    · rintro ⟨_, h, _⟩
      exact h
    · intro h
      refine ⟨by omega, h, fun k h1 h2 => by omega⟩
  rw [hc, range_one, chainF_len]
  by_cases h : i < n
  · rw [if_pos h, if_pos (by omega)]
  · rw [if_neg h, if_neg (by omega)]
theorem chain_value (n : Nat) : ∀ (d k i : Nat), 1 ≤ i → i + d = n → d ≤ k → countT (valueK k (layF (chainF n)) i) = d + 1 ∧ deepT (valueK k (layF (chainF n)) i) = d + 1
  | 0, 0, i, h1, h2, h3 => by
    constructor
    · rfl
    · show maxG _ [] + (if (nodeAt (layF (chainF n)) i).kind = 1 then 1 else 0) = _
      rw [node_lay, nd_chain n i h1 (by omega)]
      rfl
  | 0, k + 1, i, h1, h2, h3 => by
    have hk : kidsAt (layF (chainF n)) i = [] := by rw [kids_lay, kids_chain n i (by omega), if_neg (by omega)]
    constructor
    · show 1 + (((kidsAt (layF (chainF n)) i).map (valueK k (layF (chainF n)))).map fun x => countT x).sum = _
      rw [hk]
      rfl
    · show maxG (fun x => deepT x) ((kidsAt (layF (chainF n)) i).map (valueK k (layF (chainF n)))) + (if (nodeAt (layF (chainF n)) i).kind = 1 then 1 else 0) = _
      rw [hk, node_lay, nd_chain n i h1 (by omega)]
      rfl
  | d + 1, k + 1, i, h1, h2, h3 => by
    have hk : kidsAt (layF (chainF n)) i = [i + 1] := by rw [kids_lay, kids_chain n i (by omega), if_pos (by omega)]
    obtain ⟨q1, q2⟩ := chain_value n d k (i + 1) (by omega) (by omega) (by omega)
    constructor
    · show 1 + (((kidsAt (layF (chainF n)) i).map (valueK k (layF (chainF n)))).map fun x => countT x).sum = _
      rw [hk]
      show 1 + (countT (valueK k (layF (chainF n)) (i + 1)) + 0) = _
      omega
    · show maxG (fun x => deepT x) ((kidsAt (layF (chainF n)) i).map (valueK k (layF (chainF n)))) + (if (nodeAt (layF (chainF n)) i).kind = 1 then 1 else 0) = _
      rw [hk, node_lay, nd_chain n i h1 (by omega)]
      show max (deepT (valueK k (layF (chainF n)) (i + 1))) 0 + 1 = _
      rw [q2]
      omega
  | d + 1, 0, i, h1, h2, h3 => by omega
theorem chain_all (n : Nat) : ∀ L, L = n + 1 → countTs (valueK L (layF (chainF n)) 0).kids = n ∧ deepTs (valueK L (layF (chainF n)) 0).kids = n := by
  intro L hL
  subst hL
  show countTs ((kidsAt (layF (chainF n)) 0).map (valueK n (layF (chainF n)))) = n ∧ deepTs ((kidsAt (layF (chainF n)) 0).map (valueK n (layF (chainF n)))) = n
  rw [kids_lay, kids_chain n 0 (Nat.zero_le _)]
  by_cases h : 0 < n
  · rw [if_pos h]
    obtain ⟨m, rfl⟩ : ∃ m, n = m + 1 := ⟨n - 1, by omega⟩
    obtain ⟨q1, q2⟩ := chain_value (m + 1) m (m + 1) 1 (by omega) (by omega) (by omega)
    constructor
    · show countT (valueK (m + 1) (layF (chainF (m + 1))) 1) + 0 = _
      omega
    · show max (deepT (valueK (m + 1) (layF (chainF (m + 1))) 1)) 0 = _
      omega
  · rw [if_neg h]
    have : n = 0 := by omega
    subst this
    exact ⟨rfl, rfl⟩
theorem divs_count (n : Nat) (hn : n ≤ 60) : countTs (valueL (buildL (divs n)).T 0).kids = n ∧ deepTs (valueL (buildL (divs n)).T 0).kids = n ∧ (buildL (divs n)).T.length = n + 1 := by
  rw [build_divs n hn]
  obtain ⟨q1, q2⟩ := chain_all n (layF (chainF n)).length (by rw [lay_len, chainF_len])
  exact ⟨q1, q2, by show (layF (chainF n)).length = _; rw [lay_len, chainF_len]⟩
theorem divs_err (n : Nat) (hn : n ≤ 127) : fragErr (divs n) = if 60 < n then 5 else 0 := by
  unfold fragErr
  rw [if_neg (by rw [divs_len]; omega)]
  by_cases h : 60 < n
  · rw [if_pos h]; exact build_deep n h
  · rw [if_neg h, build_divs n (by omega)]; rfl
theorem divs_snoc : ∀ k, divs (k + 1) = divs k ++ openT divN
  | 0 => rfl
  | k + 1 => by
    have h := divs_snoc k
    have e : divs (k + 1 + 1) = openT divN ++ divs (k + 1) := rfl
    rw [e, h]
    have e2 : divs (k + 1) = openT divN ++ divs k := rfl
    rw [h] at e2
    rw [← List.append_assoc, ← e2]
end Go.Proofs.YteccmjngdibeoaaGreatDoor
set_option linter.unusedVariables false
namespace Go.Proofs.YteccmjngdibeoaaGreatDoor
theorem mask_small (x : Int) : ∃ K : Nat, K ≤ 127 ∧ IntKind.i64.wrap ((BitVec.ofInt IntKind.i64.bits x &&& BitVec.ofInt IntKind.i64.bits 127).toNat : Int) = (K : Int) := by
  refine ⟨(BitVec.ofInt IntKind.i64.bits x &&& BitVec.ofInt IntKind.i64.bits 127).toNat, ?_, ?_⟩
  · rw [BitVec.toNat_and]
    have h : (BitVec.ofInt IntKind.i64.bits 127).toNat = 127 := by decide
    rw [h]
    exact Nat.and_le_right
  · have h1 : (BitVec.ofInt IntKind.i64.bits x &&& BitVec.ofInt IntKind.i64.bits 127).toNat ≤ 127 := by
      rw [BitVec.toNat_and]
      have h : (BitVec.ofInt IntKind.i64.bits 127).toNat = 127 := by decide
      rw [h]
      exact Nat.and_le_right
    rw [IntKind.wrap_i64]
    omega
end Go.Proofs.YteccmjngdibeoaaGreatDoor
set_option linter.unusedVariables false
set_option linter.unusedSimpArgs false
set_option maxRecDepth 4000
namespace Go.Proofs.YteccmjngdibeoaaGreatDoor
open Go.RowKit
open S5 (NT IsK IsNs IsN isN_iff countTs countT maxG deepT cell_lt below_alloc hide below_drewN)
def DeepA (w : World) (K : Nat) (e : Ending) (w' : World) : Prop := Below w.heap.size w w' ∧ ((60 < K ∧ ∃ a c, e = .returned (.tuple #[.slice a 0 c, .int .i64 5])) ∨ (K ≤ 60 ∧ ∃ (a : Option Addr) (l c : Nat), e = .returned (.tuple #[.slice a l c, .int .i64 0]) ∧
  (∀ W, Below w'.heap.size w' W → Calls Tryz.prog 15 #[.slice a l c] W fun e W' => e = .returned (.int .i64 (K : Int)) ∧ Below W.heap.size W W') ∧
  (∀ W, Below w'.heap.size w' W → Calls Tryz.prog 17 #[.slice a l c] W fun e W' => e = .returned (.int .i64 (K : Int)) ∧ Below W.heap.size W W')))
theorem deep_A {w w' : World} {K : Nat} {e : Ending} (hK : K ≤ 127) (h : FragA w (divs K) e w') : DeepA w K e w' := by
  obtain ⟨a, k, c, rfl, h1, h2, b⟩ := h
  rw [divs_err K hK] at *
  refine ⟨b, ?_⟩
  by_cases h60 : 60 < K
  · rw [if_pos h60] at *
    have := h1 (by decide)
    subst this
    exact .inl ⟨h60, a, c, rfl⟩
  · rw [if_neg h60] at *
    have hk := isK_tight (h2 rfl)
    obtain ⟨q1, q2, q3⟩ := divs_count K (by omega)
    have c1 : countTs (S5.valueL (buildL (divs K)).T 0).kids ≤ 1000000 := by rw [q1]; omega
    refine .inr ⟨by omega, a, k, c, rfl, fun W hW => ?_, fun W hW => ?_⟩
    · have := manyP_any _ c1 _ _ W (fun k h => Nat.lt_of_lt_of_le h.2 hW.size) (hk.below (fun k h => h.2) hW)
      rw [q1] at this
      exact this
    · have := deepP_any _ c1 (by rw [q3]; omega) _ _ W (fun k h => Nat.lt_of_lt_of_le h.2 hW.size) (hk.below (fun k h => h.2) hW)
      rw [q2] at this
      exact this
theorem large_A {w w' : World} {T : ByteArray} {e : Ending} (hT : 4096 < T.size) (h : FragA w T.data.toList e w') : ∃ a c, e = .returned (.tuple #[.slice a 0 c, .int .i64 4]) ∧ Below w.heap.size w w' := by
  have he : fragErr T.data.toList = 4 := by unfold fragErr; rw [if_pos (by rw [← S5.size_list]; exact hT)]
  obtain ⟨a, k, c, rfl, h1, _, b⟩ := h
  rw [he] at *
  have := h1 (by decide)
  subst this
  exact ⟨a, c, rfl, b⟩
def strLen : Value → Nat
  | .string S => S.size
  | _ => 0
theorem str_append (a b : ByteArray) : (a ++ b).data.toList = a.data.toList ++ b.data.toList := by simp
set_option maxRecDepth 50000 in
set_option maxHeartbeats 8000000 in
theorem deep_any (n : Int) (hn : (Lit.int IntKind.i64 n).wf = true) (s : ByteArray) (w : World) (he : S4.Env w) : Calls Tryz.prog 5 #[.int .i64 n, .string s] w fun e w' => e = .returned (.bool true) ∧ Below w.heap.size w w' := by
  obtain ⟨K, hK, hmask0⟩ := mask_small n
  have hmask : bits BinOp.and IntKind.i64 n 127 = (K : Int) := hmask0
  clear hmask0
  have HA := hide (fun W (hb : Below w.heap.size w W) => alive_p W (he.below hb))
  have HF := hide (fun (T : ByteArray) (hT : T.data.toList = divs K) W (hb : Below w.heap.size w W) => (fragment_divs T (by rw [S5.size_list, hT, divs_len]; omega) K hT W (he.below hb)).mono fun e w' h => deep_A hK (by rw [hT] at h; exact h))
  have HL := hide (fun (T : ByteArray) (hT : 4096 < T.size) W => (fragment_large T hT W).mono fun e w' h => large_A hT h)
  clear he hn
  have hK2 : (K : Int) ≤ 127 := by omega
  go_enter Tryz.func5, Tryz.ntmps5
  go_wp2
  go_loopw [6, 7] (fun tt ti wr => ∃ (i : Nat) (S : ByteArray), ti = .int .i64 (i : Int) ∧ i ≤ K ∧ tt = .string S ∧ S.size = 5 * i ∧ Hid (S.data.toList = divs i) ∧ Hid (Below w.heap.size w wr)) (fun _ ti _ => K - (intOf ti).toNat)
  case atStart => exact ⟨0, ⟨#[]⟩, rfl, Nat.zero_le _, rfl, rfl, hide rfl, hide (Below.refl _ _)⟩
  case round =>
    obtain ⟨i, S, rfl, hi, rfl, hz, HS, HB⟩ := hrel
    have hz2 : (S.size : Int) ≤ 635 := by omega
    by_cases hlt : i < K
    · have hlt2 : (i : Int) < K := by omega
      have HS2 : Hid ((S ++ (⟨#[60, 100, 105, 118, 62]⟩ : ByteArray)).data.toList = divs (i + 1)) := hide (by rw [str_append, HS.out, divs_snoc]; rfl)
      have hz3 : (S ++ (⟨#[60, 100, 105, 118, 62]⟩ : ByteArray)).size = 5 * (i + 1) := by rw [S5.size_list, HS2.out, divs_len]
      clear hz
      go_wp2
      go_roundw
      case rel => exact ⟨i + 1, _, by go_num, by omega, rfl, hz3, HS2, HB⟩
      case measure => simp [intOf]; omega
    · have hlt2 : ¬ (i : Int) < K := by omega
      obtain rfl : i = K := by omega
      go_wp2_with fail
      refine (HF.out S HS.out _ HB.out).mono ?_
      rintro e w1 ⟨b1, (⟨h60, a, c, rfl⟩ | ⟨h60, a, l, c, rfl, HM, HD⟩)⟩
      · have h602 : (60 : Int) < i := by omega
        have B1 := hide (HB.out.trans (b1.mono HB.out.size))
        clear b1 HF
        by_cases hs0 : s.data.toList = []
        · have hse : (s.toList == (⟨#[]⟩ : ByteArray).toList) = true := by rw [Lib.toList_data, Lib.toList_data, hs0]; rfl
          have hs1 : s.toList = [] := by rw [Lib.toList_data]; exact hs0
          clear hs0
          go_wp2_with fail
          refine (HA.out _ B1.out).mono ?_
          rintro e x1 ⟨rfl, b2⟩
          go_wp2
          go_ret
          exact ⟨rfl, B1.out.trans (b2.mono B1.out.size)⟩
        · have hse : (s.toList == (⟨#[]⟩ : ByteArray).toList) = false := beq_eq_false_iff_ne.2 (fun h => hs0 (by
            rw [Lib.toList_data, Lib.toList_data] at h
            exact h))
          have hs1 : s.toList.isEmpty = false := by rw [Lib.toList_data, List.isEmpty_eq_false_iff]; exact hs0
          have hs3 : 1 ≤ s.size := by
            rw [S5.size_list]
            exact List.length_pos_iff.2 hs0
          clear hs0
          by_cases hs : 300 < s.size
          · have hs2 : (300 : Int) < s.size := by omega
            go_wp2_with fail
            refine (HA.out _ B1.out).mono ?_
            rintro e x1 ⟨rfl, b2⟩
            go_wp2
            go_ret
            exact ⟨rfl, B1.out.trans (b2.mono B1.out.size)⟩
          · have hs2 : (s.size : Int) ≤ 300 := by omega
            have hs4 : ¬ (300 : Int) < s.size := by omega
            go_wp2_with fail
            go_loopw [6] (fun tt wr2 => ∃ S2 : ByteArray, tt = .string S2 ∧ S2.size ≤ 4500 ∧ Hid (Below w.heap.size w wr2)) (fun tt _ => 5000 - strLen tt)
            case atStart => exact ⟨S, rfl, by omega, B1⟩
            case round =>
              obtain ⟨S2, rfl, hq, HB2⟩ := hrel
              have hq2 : (S2.size : Int) ≤ 4500 := by omega
              by_cases hle : S2.size ≤ 4096
              · have hle2 : (S2.size : Int) ≤ 4096 := by omega
                have hap : (S2 ++ s).size = S2.size + s.size := by rw [S5.size_list, str_append, List.length_append, ← S5.size_list, ← S5.size_list]
                have HAP := hide hap
                clear hap
                go_wp2
                go_roundw
                case rel => exact ⟨S2 ++ s, rfl, by rw [HAP.out]; omega, HB2⟩
                case measure => show 5000 - (S2 ++ s).size < 5000 - S2.size; rw [HAP.out]; omega
              · have hle2 : ¬ (S2.size : Int) ≤ 4096 := by omega
                go_wp2_with fail
                refine (HL.out S2 (by omega) _).mono ?_
                rintro e w5 ⟨a5, c5, rfl, b5⟩
                have B5 := hide (HB2.out.trans (b5.mono HB2.out.size))
                clear b5
                go_wp2_with fail
                refine (HA.out _ B5.out).mono ?_
                rintro e x1 ⟨rfl, b6⟩
                go_wp2
                go_ret
                exact ⟨rfl, B5.out.trans (b6.mono B5.out.size)⟩
      · have h602 : ¬ (60 : Int) < i := by omega
        have B1 := hide (HB.out.trans (b1.mono HB.out.size))
        have HM := hide HM
        have HD := hide HD
        clear b1 HF
        by_cases hs0 : s.data.toList = []
        · have hse : (s.toList == (⟨#[]⟩ : ByteArray).toList) = true := by rw [Lib.toList_data, Lib.toList_data, hs0]; rfl
          have hs1 : s.toList = [] := by rw [Lib.toList_data]; exact hs0
          clear hs0
          go_wp2_with fail
          refine (HD.out _ (Below.refl _ _)).mono ?_
          rintro e x2 ⟨rfl, b2⟩
          have B2 := hide (B1.out.trans (b2.mono B1.out.size))
          have C2 := hide b2
          clear b2
          go_wp2_with fail
          refine (HM.out _ C2.out).mono ?_
          rintro e x3 ⟨rfl, b3⟩
          have B3 := hide (B2.out.trans (b3.mono B2.out.size))
          clear b3
          go_wp2_with fail
          refine (HA.out _ B3.out).mono ?_
          rintro e x1 ⟨rfl, b2⟩
          go_wp2
          go_ret
          exact ⟨rfl, B3.out.trans (b2.mono B3.out.size)⟩
        · have hse : (s.toList == (⟨#[]⟩ : ByteArray).toList) = false := beq_eq_false_iff_ne.2 (fun h => hs0 (by
            rw [Lib.toList_data, Lib.toList_data] at h
            exact h))
          have hs1 : s.toList.isEmpty = false := by rw [Lib.toList_data, List.isEmpty_eq_false_iff]; exact hs0
          have hs3 : 1 ≤ s.size := by
            rw [S5.size_list]
            exact List.length_pos_iff.2 hs0
          clear hs0
          by_cases hs : 300 < s.size
          · have hs2 : (300 : Int) < s.size := by omega
            go_wp2_with fail
            refine (HD.out _ (Below.refl _ _)).mono ?_
            rintro e x2 ⟨rfl, b2⟩
            have B2 := hide (B1.out.trans (b2.mono B1.out.size))
            have C2 := hide b2
            clear b2
            go_wp2_with fail
            refine (HM.out _ C2.out).mono ?_
            rintro e x3 ⟨rfl, b3⟩
            have B3 := hide (B2.out.trans (b3.mono B2.out.size))
            clear b3
            go_wp2_with fail
            refine (HA.out _ B3.out).mono ?_
            rintro e x1 ⟨rfl, b2⟩
            go_wp2
            go_ret
            exact ⟨rfl, B3.out.trans (b2.mono B3.out.size)⟩
          · have hs2 : (s.size : Int) ≤ 300 := by omega
            have hs4 : ¬ (300 : Int) < s.size := by omega
            go_wp2_with fail
            refine (HD.out _ (Below.refl _ _)).mono ?_
            rintro e x2 ⟨rfl, b2⟩
            have B2 := hide (B1.out.trans (b2.mono B1.out.size))
            have C2 := hide b2
            clear b2
            go_wp2_with fail
            refine (HM.out _ C2.out).mono ?_
            rintro e x3 ⟨rfl, b3⟩
            have B3 := hide (B2.out.trans (b3.mono B2.out.size))
            clear b3
            go_wp2_with fail
            go_loopw [6] (fun tt wr2 => ∃ S2 : ByteArray, tt = .string S2 ∧ S2.size ≤ 4500 ∧ Hid (Below w.heap.size w wr2)) (fun tt _ => 5000 - strLen tt)
            case atStart => exact ⟨S, rfl, by omega, B3⟩
            case round =>
              obtain ⟨S2, rfl, hq, HB2⟩ := hrel
              have hq2 : (S2.size : Int) ≤ 4500 := by omega
              by_cases hle : S2.size ≤ 4096
              · have hle2 : (S2.size : Int) ≤ 4096 := by omega
                have hap : (S2 ++ s).size = S2.size + s.size := by rw [S5.size_list, str_append, List.length_append, ← S5.size_list, ← S5.size_list]
                have HAP := hide hap
                clear hap
                go_wp2
                go_roundw
                case rel => exact ⟨S2 ++ s, rfl, by rw [HAP.out]; omega, HB2⟩
                case measure => show 5000 - (S2 ++ s).size < 5000 - S2.size; rw [HAP.out]; omega
              · have hle2 : ¬ (S2.size : Int) ≤ 4096 := by omega
                go_wp2_with fail
                refine (HL.out S2 (by omega) _).mono ?_
                rintro e w5 ⟨a5, c5, rfl, b5⟩
                have B5 := hide (HB2.out.trans (b5.mono HB2.out.size))
                clear b5
                go_wp2_with fail
                refine (HA.out _ B5.out).mono ?_
                rintro e x1 ⟨rfl, b6⟩
                go_wp2
                go_ret
                exact ⟨rfl, B5.out.trans (b6.mono B5.out.size)⟩
end Go.Proofs.YteccmjngdibeoaaGreatDoor
