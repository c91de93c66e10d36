import Derived.Test.YteccmjngdibeoaaGreatDoorKp26
import Derived.Test.YteccmjngdibeoaaGreatDoorKp30
import Derived.Test.YteccmjngdibeoaaGreatDoorKp34
import Derived.Test.YteccmjngdibeoaaGreatDoorKp45
import Derived.Deep.RegionHeld2
set_option linter.unusedVariables false
set_option linter.unusedSimpArgs false
set_option maxRecDepth 4000
namespace Go.Proofs.YteccmjngdibeoaaGreatDoor
open Go.RowKit
open S5 (NT IsK IsNs IsN isN_iff countTs countT maxG deepT cell_lt below_alloc hide below_drewN)
def SameS {k : Nat} (ts : List (NT k)) : Prop := ∀ (B : Nat → Prop) (va : Value) (w : World), (∀ k, B k → k < w.heap.size) → IsK B w ts va → Calls Tryz.prog 14 #[va, va] w fun e w' => e = .returned (.bool true) ∧ Below w.heap.size w w'
theorem enters_same (a b : Value) (w : World) : (callFunc 31 #[a, b]).run Tryz.prog w = .ok (.enter 31 #[a, b]) w := by simp [go_sem]
set_option maxRecDepth 10000 in
set_option maxHeartbeats 4000000 in
theorem sameNode_self {k : Nat} (ks : List (NT k)) (ih : SameS ks) (kd sp : Int) (nm tx : ByteArray) (av kv : Value) (aa : S5.AttrL) (haa : aa.length ≤ 1000000) (B : Nat → Prop) (w : World) (hB : ∀ k, B k → k < w.heap.size) (hA : S5.IsA w av aa) (hK : IsK B w ks kv) :
    Calls Tryz.prog 31 #[.agg #[.int .i64 kd, .int .i64 sp, .string nm, av, .string tx, kv], .agg #[.int .i64 kd, .int .i64 sp, .string nm, av, .string tx, kv]] w fun e w' => e = .returned (.bool true) ∧ Below w.heap.size w w' := by
  have HE := hide (fun x (b : Below w.heap.size w x) => S7.equal_p av av aa aa (by omega) (by omega) x (isQ_of (hA.below b)) (isQ_of (hA.below b)))
  have HS := hide (fun x (b : Below w.heap.size w x) => ih B kv x (fun j hj => Nat.lt_of_lt_of_le (hB j hj) b.size) (hK.below hB b))
  obtain ⟨a1, c1, rfl⟩ := S5.isA_form hA
  obtain ⟨a2, c2, rfl⟩ := isK_len hK
  clear hA hK ih hB
  have e1 : decide (aa = aa) = true := by simp
  rw [e1] at HE
  generalize aa.length = al at *
  generalize ks.length = kl at *
  have HB : Hid (∀ x, Below ((w.alloc (.cells #[.int .i64 kd, .int .i64 sp, .string nm, .slice a1 al c1, .string tx, .slice a2 kl c2] 36)).alloc (.cells #[.int .i64 kd, .int .i64 sp, .string nm, .slice a1 al c1, .string tx, .slice a2 kl c2] 36)).heap.size ((w.alloc (.cells #[.int .i64 kd, .int .i64 sp, .string nm, .slice a1 al c1, .string tx, .slice a2 kl c2] 36)).alloc (.cells #[.int .i64 kd, .int .i64 sp, .string nm, .slice a1 al c1, .string tx, .slice a2 kl c2] 36)) x → x.cell? ⟨w.heap.size, 5, none⟩ = some (.slice a2 kl c2) ∧ x.cell? ⟨w.heap.size + 1, 5, none⟩ = some (.slice a2 kl c2) ∧ Below w.heap.size w x) := hide (fun x b => by
    refine ⟨?_, ?_, two_two b⟩
    · rw [b.cell (by simp; omega), (below_alloc _ _).cell (by simp)]
      simp [go_sem]
    · rw [b.cell (by simp)]
      have := World.cell?_alloc_mark (w.alloc (.cells #[.int .i64 kd, .int .i64 sp, .string nm, .slice a1 al c1, .string tx, .slice a2 kl c2] 36)) #[.int .i64 kd, .int .i64 sp, .string nm, .slice a1 al c1, .string tx, .slice a2 kl c2] 36 (0, 0) 5
      rw [World.size_alloc] at this
      exact this)
  go_enter Tryz.func31, Tryz.ntmps31
  go_wp2_with fail
  refine (HE.out _ (two_two (Below.refl _ _))).mono ?_
  rintro e x1 ⟨rfl, b1⟩
  obtain ⟨q1, q2, B1⟩ := HB.out _ b1
  have BB1 := hide B1
  clear b1 B1
  go_wp2_with fail
  refine (HS.out _ BB1.out).mono ?_
  rintro e x2 ⟨rfl, b2⟩
  have BB2 := hide (BB1.out.trans (b2.mono BB1.out.size))
  clear b2
  go_wp2
  go_ret
  exact ⟨rfl, BB2.out⟩
set_option maxRecDepth 10000 in
set_option maxHeartbeats 4000000 in
theorem equalFunc_self {k : Nat} (ts : List (NT (k + 1))) (hl : ts.length ≤ 1000000) (ha : ∀ t ∈ ts, t.nd.attrs.length ≤ 1000000) (ih : ∀ i (h : i < ts.length), SameS ts[i].kids) (B : Nat → Prop) (va : Value) (w : World) (hB : ∀ k, B k → k < w.heap.size) (h1 : IsK B w ts va) :
    Calls Tryz.prog 30 #[va, va, .func (.func 31) #[] #[]] w fun e w' => e = .returned (.bool true) ∧ Below w.heap.size w w' := by
  have H1 := hide h1
  obtain ⟨a1, c1, rfl⟩ := isK_len h1
  have HBB := hide hB
  have HIH := hide ih
  have HAL := hide ha
  have hent := enters_same
  clear h1 ih hB ha
  go_enter Tryz.func30, Tryz.ntmps30
  go_wp2
  go_loopw [17] (fun v4 wr => ∃ i : Nat, v4 = .int .i64 (i : Int) ∧ i ≤ ts.length ∧ Hid (Below w.heap.size w wr)) (fun v4 _ => ts.length - (intOf v4).toNat)
  case atStart => exact ⟨0, rfl, by omega, hide (Below.refl _ _)⟩
  case round =>
    obtain ⟨i, rfl, hi, HBW⟩ := hrel
    by_cases hlt : i < ts.length
    · have hlt2 : (i : Int) < ts.length := by omega
      have k1 := H1.out.below HBB.out HBW.out
      rcases k1 with ⟨_, h0⟩ | ⟨b1, o1, cap1, e1, _, _, hn1⟩
      · rw [h0] at hlt; simp at hlt
      injection e1 with e1 _ e1c
      subst e1 e1c
      obtain ⟨xa, xl, xc, ka, kc, u0, u1, u2, u3, u4, u5, hA, hk⟩ := kid_cells hn1 i hlt
      have hBr : ∀ j, B j → j < wr.heap.size := fun j hj => Nat.lt_of_lt_of_le (HBB.out j hj) HBW.out.size
      have HC := hide (fun x (b : Below wr.heap.size wr x) => sameNode_self ts[i].kids (HIH.out i hlt) ts[i].nd.kind ts[i].nd.space ⟨ts[i].nd.name.toArray⟩ ⟨ts[i].nd.text.toArray⟩ (.slice xa xl xc) (.slice ka ts[i].kids.length kc) ts[i].nd.attrs (HAL.out _ (List.getElem_mem hlt)) B x (fun j hj => Nat.lt_of_lt_of_le (hBr j hj) b.size) (hA.below b) (hk.below hBr b))
      clear hn1 hk hA hBr
      generalize ts[i].kids.length = kl at *
      generalize ts[i].nd.kind = n0 at *
      generalize ts[i].nd.space = n1 at *
      generalize ts[i].nd.name.toArray = n2 at *
      generalize ts[i].nd.text.toArray = n3 at *
      have hbl : b1 < wr.heap.size := cell_lt u0
      go_wp2_with fail
      refine (HC.out _ (two_two (Below.refl _ _))).mono ?_
      rintro e x1 ⟨rfl, b1⟩
      have HBN := hide (HBW.out.trans ((two_two b1).mono HBW.out.size))
      clear b1 u0 u1 u2 u3 u4 u5
      go_wp2
      exact ⟨⟨i + 1, by go_num, by omega, HBN⟩, by simp [intOf]; omega⟩
    · have hlt2 : ¬ (i : Int) < ts.length := by omega
      go_wp2
      go_ret
      exact ⟨rfl, HBW.out⟩
set_option maxHeartbeats 4000000 in
theorem sameS_step {k : Nat} (ts : List (NT (k + 1))) (hl : ts.length ≤ 1000000) (ha : ∀ t ∈ ts, t.nd.attrs.length ≤ 1000000) (ih : ∀ i (h : i < ts.length), SameS ts[i].kids) : SameS ts := by
  intro B va w hB h1
  have H := hide (equalFunc_self ts hl ha ih B va w hB h1)
  obtain ⟨a1, c1, rfl⟩ := isK_len h1
  clear h1 ih hB ha
  have hmf : ∀ (fn : Fn) (first cap : Array Value) (w : World), (Instr.makeFunc fn first cap).run Tryz.prog w = .ok (.func fn first cap) w := fun _ _ _ _ => rfl
  go_enter Tryz.func14, Tryz.ntmps14
  go_wp2_with fail
  refine H.out.mono ?_
  rintro e x1 ⟨rfl, b1⟩
  go_wp2
  go_ret
  exact ⟨rfl, b1⟩
def AttrsOk : {k : Nat} → List (NT k) → Prop
  | 0, _ => True
  | k + 1, ts => ∀ t ∈ ts, t.nd.attrs.length ≤ 1000000 ∧ t.kids.length ≤ 1000000 ∧ AttrsOk t.kids
theorem sameS_any : ∀ {k : Nat} (ts : List (NT k)), ts.length ≤ 1000000 → AttrsOk ts → SameS ts
  | 0, ts, _, _ => by
    intro B va w hB h
    obtain ⟨rfl, h2⟩ := isK_zero h
    exact sameS_step ([] : List (NT 1)) (Nat.zero_le _) (fun t ht => by simp at ht) (fun i hi => by simp at hi) B va w hB h2
  | k + 1, ts, h, ha => sameS_step ts h (fun t ht => (ha t ht).1) fun i hi => sameS_any _ (ha _ (List.getElem_mem hi)).2.1 (ha _ (List.getElem_mem hi)).2.2
end Go.Proofs.YteccmjngdibeoaaGreatDoor
set_option linter.unusedVariables false
set_option linter.unusedSimpArgs false
set_option maxRecDepth 4000
namespace Go.Proofs.YteccmjngdibeoaaGreatDoor
open Go.RowKit
open S5 (NT IsK IsNs IsN isN_iff countTs countT maxG deepT cell_lt below_alloc hide below_drewN)
def liveT : S5.TR := [({}, [1, 2]), ({ kind := 2, text := [97] }, []), ({ kind := 1, name := [98] }, [3]), ({ kind := 2, text := [99] }, [])]
theorem live_T : (buildL liveL).T = liveT := by kernel_rfl
def liveV : List (NT 4) := [.mk { kind := 2, text := [97] } [], .mk { kind := 1, name := [98] } [.mk { kind := 2, text := [99] } []]]
theorem live_V {B : Nat → Prop} {w : World} {kv : Value} (h : IsK B w (S5.valueL (buildL liveL).T 0).kids kv) : IsK B w liveV kv := by
  rw [live_T] at h
  exact h
theorem live_count : countTs liveV = 3 := rfl
theorem live_deep : deepTs liveV = 1 := rfl
theorem live_attrs : AttrsOk liveV := by
  intro t ht
  simp only [liveV, List.mem_cons, List.not_mem_nil, or_false] at ht
  rcases ht with rfl | rfl
  · exact ⟨Nat.zero_le _, Nat.zero_le _, fun t ht => absurd ht List.not_mem_nil⟩
  · refine ⟨Nat.zero_le _, by show 1 ≤ 1000000; omega, fun t ht => ?_⟩
    have : t = .mk { kind := 2, text := [99] } [] := List.mem_singleton.1 ht
    subst this
    exact ⟨Nat.zero_le _, Nat.zero_le _, fun t ht => absurd ht List.not_mem_nil⟩
theorem isK_tight {B : Nat → Prop} {w : World} {k : Nat} {ks : List (NT k)} {kv : Value} (h : IsK B w ks kv) : IsK (fun k => B k ∧ k < w.heap.size) w ks kv := by
  have := S5.IsN.tight (.mk {} ks) (S5.nodeC {} (.slice none 0 0) kv) ((isN_iff B w {} ks _).2 ⟨_, _, rfl, ⟨.inl ⟨rfl, rfl⟩, .inl rfl⟩, h⟩)
  obtain ⟨av, kv', e, _, h2⟩ := (isN_iff _ w {} ks _).1 this
  have e2 : kv = kv' := by
    simp only [S5.nodeC, List.cons.injEq] at e
    exact e.2.2.2.2.2.1
  rw [e2]
  exact h2
theorem live_cells {w w' : World} {e : Ending} (h : FragA w liveL e w') : ∃ b o c, e = .returned (.tuple #[.slice (some ⟨b, o, none⟩) 2 c, .int .i64 0]) ∧ (IsK (fun k => w.heap.size ≤ k ∧ k < w'.heap.size) w' liveV (.slice (some ⟨b, o, none⟩) 2 c) ∧ w'.cell? ⟨b, o + 4, none⟩ = some (.string ⟨#[97]⟩) ∧ w'.cell? ⟨b, o + 8, none⟩ = some (.string ⟨#[98]⟩)) ∧ Below w.heap.size w w' := by
  obtain ⟨a, k, c, rfl, _, h2, b⟩ := h
  have hK := isK_tight (live_V (h2 live_err))
  rw [live_err]
  rcases hK with ⟨_, e0⟩ | ⟨b', o, cap, e1, e2, e3, e4⟩
  · exact absurd e0 (by simp [liveV])
  · injection e1 with e1 e5 e6
    subst e1 e5 e6
    refine ⟨b', o, c, rfl, ⟨.inr ⟨b', o, c, rfl, e2, e3, e4⟩, ?_, ?_⟩, b⟩
    · obtain ⟨xa, xl, xc, ka, kc, u0, u1, u2, u3, u4, u5, _, hk⟩ := kid_cells e4 0 (by decide)
      exact u4
    · obtain ⟨xa, xl, xc, ka, kc, u0, u1, u2, u3, u4, u5, _, hk⟩ := kid_cells e4 1 (by decide)
      exact u2
set_option maxRecDepth 50000 in
set_option maxHeartbeats 8000000 in
theorem alive_p (w : World) (he : S4.Env w) : Calls Tryz.prog 9 #[] w fun e w' => e = .returned (.bool true) ∧ Below w.heap.size w w' := by
  have HF := hide ((fragment_live w he).mono fun e w' h => live_cells h)
  clear he
  have HM := hide (manyP_any liveV (by decide))
  have HD := hide (deepP_any liveV (by decide) (by decide))
  have HS := hide (sameS_any liveV (by decide) live_attrs)
  go_enter Tryz.func9, Tryz.ntmps9
  go_wp2_with fail
  refine HF.out.mono ?_
  rintro e w1 ⟨b, o, c, rfl, ⟨hK, c1, c2⟩, b1⟩
  have HK := hide hK
  have B1 := hide b1
  clear hK b1 HF
  go_wp2_with fail
  refine (HM.out _ _ _ (fun k h => h.2) HK.out).mono ?_
  rw [live_count]
  rintro e w2 ⟨rfl, b2⟩
  have HK2 := hide (HK.out.below (fun k h => h.2) b2)
  have B2 := hide (B1.out.trans (b2.mono B1.out.size))
  have Z2 := hide (b2.size)
  clear b2
  go_wp2_with fail
  refine (HD.out _ _ _ (fun k h => Nat.lt_of_lt_of_le h.2 Z2.out) HK2.out).mono ?_
  rw [live_deep]
  rintro e w3 ⟨rfl, b3⟩
  have HK3 := hide (HK2.out.below (fun k h => Nat.lt_of_lt_of_le h.2 Z2.out) b3)
  have B3 := hide (B2.out.trans (b3.mono B2.out.size))
  have Z3 := hide (Nat.le_trans Z2.out b3.size)
  clear b3
  go_wp2_with fail
  refine (HS.out _ _ _ (fun k h => Nat.lt_of_lt_of_le h.2 Z3.out) HK3.out).mono ?_
  rintro e w4 ⟨rfl, b4⟩
  have B4 := hide (B3.out.trans (b4.mono B3.out.size))
  clear b4
  go_wp2
  go_ret
  exact ⟨rfl, B4.out⟩
end Go.Proofs.YteccmjngdibeoaaGreatDoor
set_option linter.unusedVariables false
set_option linter.unusedSimpArgs false
set_option maxRecDepth 4000
namespace Go.Proofs.YteccmjngdibeoaaGreatDoor
open Go.RowKit
open S5 (NT IsK IsNs IsN isN_iff countTs countT maxG deepT cell_lt below_alloc hide below_drewN)
theorem plain_V (s : Bs) (h60 : ∀ c ∈ s, c ≠ 60) (h0 : s ≠ []) {B : Nat → Prop} {w : World} {kv : Value} (h : IsK B w (S5.valueL (buildL s).T 0).kids kv) : IsK B w ([.mk { kind := 2, text := S4.decL false s } []] : List (NT 2)) kv := by
  rw [build_plain s h60, if_neg h0] at h
  exact h
theorem plain_N {B : Nat → Prop} {w : World} {kv : Value} (h : IsK B w (S5.valueL (buildL []).T 0).kids kv) : IsK B w ([] : List (NT 1)) kv := h
theorem plain_err (s : Bs) (h60 : ∀ c ∈ s, c ≠ 60) (hl : s.length ≤ 4096) : fragErr s = 0 := by
  unfold fragErr
  rw [if_neg (by omega), build_plain s h60]
  by_cases h : s = []
  · rw [if_pos h]; rfl
  · rw [if_neg h]; rfl
def PlainA (w : World) (s : Bs) (e : Ending) (w' : World) : Prop := (∃ a c, s = [] ∧ e = .returned (.tuple #[.slice a 0 c, .int .i64 0]) ∧ Below w.heap.size w w') ∨ ∃ b o c, s ≠ [] ∧ e = .returned (.tuple #[.slice (some ⟨b, o, none⟩) 1 c, .int .i64 0]) ∧ IsK (fun k => k < w'.heap.size) w' ([.mk { kind := 2, text := S4.decL false s } []] : List (NT 2)) (.slice (some ⟨b, o, none⟩) 1 c) ∧ Below w.heap.size w w'
theorem plain_A {w w' : World} {s : Bs} {e : Ending} (h60 : ∀ c ∈ s, c ≠ 60) (hl : s.length ≤ 4096) (h : FragA w s e w') : PlainA w s e w' := by
  obtain ⟨a, k, c, rfl, _, h2, b⟩ := h
  have h3 := isK_tight (h2 (plain_err s h60 hl))
  rw [plain_err s h60 hl]
  by_cases h0 : s = []
  · subst h0
    obtain ⟨a', c', e⟩ := isK_len (plain_N h3)
    injection e with e1 e2 e3
    subst e1 e2 e3
    exact .inl ⟨_, _, rfl, rfl, b⟩
  · rcases plain_V s h60 h0 h3 with ⟨_, e0⟩ | ⟨b', o, cap, e1, e2, e3, e4⟩
    · exact absurd e0 (by simp)
    · injection e1 with e1 e5 e6
      subst e1 e5 e6
      refine .inr ⟨b', o, c, h0, rfl, ?_, b⟩
      have := plain_V s h60 h0 h3
      have h9 := isK_tight this
      have key := S5.IsN.keep (C := fun k => k < w'.heap.size) (W := w') (fun k _ => rfl) (fun k hk => hk.2) (.mk {} [.mk { kind := 2, text := S4.decL false s } []] : NT 3) (S5.nodeC {} (.slice none 0 0) (.slice (some ⟨b', o, none⟩) 1 c)) ((isN_iff _ w' {} ([.mk { kind := 2, text := S4.decL false s } []] : List (NT 2)) _).2 ⟨_, _, rfl, ⟨.inl ⟨rfl, rfl⟩, .inl rfl⟩, h9⟩)
      obtain ⟨av, kv', e, _, q⟩ := (isN_iff _ w' {} ([.mk { kind := 2, text := S4.decL false s } []] : List (NT 2)) _).1 key
      simp only [S5.nodeC, List.cons.injEq] at e
      rw [e.2.2.2.2.2.1]
      exact q
set_option maxRecDepth 50000 in
set_option maxHeartbeats 8000000 in
theorem plain_any (s : ByteArray) (w : World) (he : S4.Env w) : Calls Tryz.prog 6 #[.string s] w fun e w' => e = .returned (.bool true) ∧ Below w.heap.size w w' := by
  have HA := hide (fun W (hb : Below w.heap.size w W) => alive_p W (he.below hb))
  by_cases hs : s.size ≤ 300
  · have HF := hide (fun (h60 : ∀ c ∈ s.data.toList, c ≠ 60) W (hb : Below w.heap.size w W) => (fragment_plain s (by omega) h60 W (he.below hb)).mono fun e w' h => plain_A h60 (by rw [← S5.size_list]; omega) h)
    have HD := hide (fun W (hb : Below w.heap.size w W) => S4.decode_any s (by omega) false W (he.below hb).1)
    have HE : Hid (s = ⟨#[]⟩ ↔ s.data.toList = []) := hide ⟨fun h => by rw [h], fun h => by
      apply ByteArray.ext
      apply Array.ext'
      exact h⟩
    clear he
    have hs2 : ¬ (300 : Int) < s.size := by omega
    have hs3 : (s.size : Int) ≤ 300 := by omega
    go_enter Tryz.func6, Tryz.ntmps6
    go_wp2
    go_loopw [3] (fun ti wr => ∃ k : Nat, k ≤ s.size ∧ ti = .int .i64 (k : Int) ∧ Hid (∀ j (hj : j < s.size), j < k → s[j] ≠ 60) ∧ Hid (Below w.heap.size w wr)) (fun ti _ => s.size - (intOf ti).toNat)
    case atStart => exact ⟨0, Nat.zero_le _, rfl, hide (fun j _ h => absurd h (Nat.not_lt_zero j)), hide (Below.refl _ _)⟩
    case round =>
      obtain ⟨k, hk, rfl, HP, HB⟩ := hrel
      by_cases hlt : k < s.size
      · have hlt2 : (k : Int) < s.size := by omega
        by_cases hc : s[k] = 60
        · have heq : ((s[k].toNat : Int) == 60) = true := by rw [hc]; rfl
          clear hc
          go_wp2_with fail
          refine (HA.out _ HB.out).mono ?_
          rintro e x1 ⟨rfl, b1⟩
          go_wp2
          go_ret
          exact ⟨rfl, HB.out.trans (b1.mono HB.out.size)⟩
        · have heq : ((s[k].toNat : Int) == 60) = false := beq_eq_false_iff_ne.2 (fun e => hc (UInt8.toNat_inj.1 (by simp; omega)))
          have HP2 : Hid (∀ j (hj : j < s.size), j < k + 1 → s[j] ≠ 60) := hide (fun j hj h => by
            by_cases hij : j = k
            · subst hij; exact hc
            · exact HP.out j hj (by omega))
          clear hc HP
          go_wp2
          go_roundw
          case rel => exact ⟨k + 1, by omega, by go_num, HP2, HB⟩
          case measure => simp [intOf]; omega
      · have hlt2 : ¬ (k : Int) < s.size := by omega
        have HQ : Hid (∀ c ∈ s.data.toList, c ≠ 60) := hide (fun c hc => by
          obtain ⟨j, hj, rfl⟩ := List.mem_iff_getElem.1 hc
          have hj2 : j < s.size := by rw [S5.size_list]; exact hj
          exact HP.out j hj2 (by omega))
        clear HP
        go_wp2_with fail
        refine (HF.out HQ.out _ HB.out).mono ?_
        clear HF HQ
        rintro e w1 (⟨a, c, h0, rfl, b1⟩ | ⟨b, o, c, h0, rfl, hK, b1⟩)
        · have hse : (s.toList == (⟨#[]⟩ : ByteArray).toList) = true := by rw [HE.out.2 h0]; exact beq_self_eq_true _
          have hs1 : s.toList = [] := by rw [Lib.toList_data]; exact h0
          have B1 := hide (HB.out.trans (b1.mono HB.out.size))
          clear b1 HE h0
          go_wp2_with fail
          have hud : undef = Value.tuple #[] := rfl
          first | (go_region_with (first | (go_at_call 9; refine (HA.out _ B1.out.drew).mono ?_; rintro e x1 ⟨rfl, b2⟩; have B2 := hide (B1.out.drew.trans (b2.mono B1.out.drew.size)); clear b2))) | fail
          all_goals (go_wp2; go_ret; exact ⟨rfl, B2.out⟩)
        · have hse : (s.toList == (⟨#[]⟩ : ByteArray).toList) = false := beq_eq_false_iff_ne.2 (fun h => h0 (by
            rw [Lib.toList_data, Lib.toList_data] at h
            exact h))
          have hs1 : s.toList.isEmpty = false := by rw [Lib.toList_data, List.isEmpty_eq_false_iff]; exact h0
          have hdd : ((⟨(S4.decL false s.data.toList).toArray⟩ : ByteArray).toList == (⟨(S4.decL false s.data.toList).toArray⟩ : ByteArray).toList) = true := beq_self_eq_true _
          have B1 := hide (HB.out.trans (b1.mono HB.out.size))
          have HK := hide hK
          have HC : Hid (∀ W, Below w1.heap.size w1 W → W.cell? ⟨b, o, none⟩ = some (.int .i64 2) ∧ W.cell? ⟨b, o + 4, none⟩ = some (.string ⟨(S4.decL false s.data.toList).toArray⟩) ∧ ∃ ka kc, W.cell? ⟨b, o + 5, none⟩ = some (.slice ka 0 kc)) := hide (fun W b2 => by
            have hK2 := HK.out.below (fun k h => h) b2
            rcases hK2 with ⟨e1, _⟩ | ⟨b1, o1, cap1, e1, _, _, hn1⟩
            · exact absurd e1 (by simp)
            injection e1 with e1 _ e1c
            injection e1 with e1
            injection e1 with e1 e2
            subst e1 e2 e1c
            obtain ⟨xa, xl, xc, ka, kc, u0, u1, u2, u3, u4, u5, _, hk⟩ := kid_cells hn1 0 (by simp)
            exact ⟨u0, u4, ka, kc, u5⟩)
          obtain ⟨ka, kc, v5⟩ := (HC.out _ (Below.refl _ _)).2.2
          have HC2 : Hid (∀ W, Below w1.heap.size w1 W → W.cell? ⟨b, o, none⟩ = some (.int .i64 2) ∧ W.cell? ⟨b, o + 4, none⟩ = some (.string ⟨(S4.decL false s.data.toList).toArray⟩) ∧ W.cell? ⟨b, o + 5, none⟩ = some (.slice ka 0 kc)) := hide (fun W b2 => ⟨(HC.out W b2).1, (HC.out W b2).2.1, (b2.cell (cell_lt v5)).trans v5⟩)
          have HBD : Hid (Below w1.heap.size w1 w1.drew) := hide (Below.refl _ _).drew
          clear b1 HE h0 hK HK HC v5
          go_wp2_with fail
          go_region_held2 (fun W' => W'.cell? ⟨b, o, none⟩ = some (.int .i64 2) ∧ W'.cell? ⟨b, o + 4, none⟩ = some (.string ⟨(S4.decL false s.data.toList).toArray⟩) ∧ W'.cell? ⟨b, o + 5, none⟩ = some (.slice ka 0 kc)) (first | with_reducible exact HC2.out _ HBD.out | with_reducible exact HC2.out _ HB1.out | with_reducible exact HC2.out _ HB2.out) (first | (go_at_call 9; refine (HA.out _ (B1.out.trans (HBD.out.mono B1.out.size))).mono ?_; rintro e z1 ⟨rfl, b1⟩; have HB1 := hide (HBD.out.trans (b1.mono HBD.out.size)); clear b1) | (go_at_call 19; refine (HD.out _ (B1.out.trans (HB1.out.mono B1.out.size))).mono ?_; rintro e z2 ⟨rfl, b2⟩; have HB2 := hide (HB1.out.trans (b2.mono HB1.out.size)); clear b2))
          all_goals (go_wp2; go_ret; exact ⟨rfl, B1.out.trans (HB2.out.mono B1.out.size)⟩)
  · have hs2 : (300 : Int) < s.size := by omega
    go_enter Tryz.func6, Tryz.ntmps6
    go_wp2_with fail
    refine (HA.out _ (Below.refl _ _)).mono ?_
    rintro e x1 ⟨rfl, b1⟩
    go_wp2
    go_ret
    exact ⟨rfl, b1⟩
end Go.Proofs.YteccmjngdibeoaaGreatDoor
