import Derived.Test.YtfohijnkeefcfaaGreatDoorKn19
import Derived.Test.YtfohijnkeefcfaaGreatDoorKn28
import Derived.Test.YtfohijnkeefcfaaGreatDoorKn38
import Derived.Deep.RegionHeld2
set_option linter.unusedVariables false
set_option linter.unusedSimpArgs false
set_option maxRecDepth 100000
set_option maxHeartbeats 8000000
namespace Go.Proofs.YtfohijnkeefcfaaGreatDoor
open Go.RowKit
open S5 (NT IsK IsNs IsN isN_iff countTs countT maxG deepT cell_lt below_alloc hide below_drewN)
theorem manyTs_app {k : Nat} (a b : List (NT k)) : countTs (a ++ b) = countTs a + countTs b := by
  unfold countTs
  rw [List.map_append, List.sum_append]
theorem manyTs_take {k : Nat} (ks : List (NT (k + 1))) (i : Nat) (h : i < ks.length) : countTs (ks.take (i + 1)) = countTs (ks.take i) + 1 + countTs ks[i].kids := by
  rw [List.take_succ_eq_append_getElem h, manyTs_app, Nat.add_assoc]
  congr 1
theorem manyTs_le {k : Nat} (ks : List (NT k)) (i : Nat) : countTs (ks.take i) <= countTs ks := by
  have := manyTs_app (ks.take i) (ks.drop i)
  rw [List.take_append_drop] at this
  omega
theorem manyTs_len {k : Nat} : ∀ (ks : List (NT (k + 1))), ks.length <= countTs ks
  | [] => Nat.zero_le _
  | x :: r => by
    have h := manyTs_len r
    have : countTs (x :: r) = 1 + countTs x.kids + countTs r := rfl
    rw [List.length_cons, this]
    omega
theorem kid_cells {B : Nat -> Prop} {w : World} {k : Nat} {ts : List (NT (k + 1))} {b o : Nat} (h : IsNs B w b o ts) (i : Nat) (hi : i < ts.length) : ∃ (a1 : Option Addr) (l1 c1 : Nat) (a : Option Addr) (c : Nat), w.cell? ⟨b, o + i * 6, none⟩ = some (.int .i64 ts[i].nd.kind) /\ w.cell? ⟨b, o + i * 6 + 1, none⟩ = some (.int .i64 ts[i].nd.space) /\ w.cell? ⟨b, o + i * 6 + 2, none⟩ = some (.string ⟨ts[i].nd.name.toArray⟩) /\ w.cell? ⟨b, o + i * 6 + 3, none⟩ = some (.slice a1 l1 c1) /\ w.cell? ⟨b, o + i * 6 + 4, none⟩ = some (.string ⟨ts[i].nd.text.toArray⟩) /\ w.cell? ⟨b, o + i * 6 + 5, none⟩ = some (.slice a ts[i].kids.length c) /\ S5.IsA w (.slice a1 l1 c1) ts[i].nd.attrs /\ IsK B w ts[i].kids (.slice a ts[i].kids.length c) := by
  obtain ⟨vs, g, n⟩ := S5.IsNs.get o ts h i hi
  rw [ts[i].form, isN_iff] at n
  obtain ⟨av, kv, rfl, hA, hK⟩ := n
  obtain ⟨a1, c1, rfl⟩ := S5.isA_form hA.1
  obtain ⟨a, c, rfl⟩ : ∃ a c, kv = .slice a ts[i].kids.length c := by
    rcases hK with ⟨e, h0⟩ | ⟨b, o, cap, e, _⟩
    · have h0 : ts[i].kids = [] := h0
      rw [h0]
      exact ⟨_, _, e⟩
    · exact ⟨_, _, e⟩
  exact ⟨a1, _, c1, a, c, g 0 (by omega), g 1 (by omega), g 2 (by omega), g 3 (by omega), g 4 (by omega), g 5 (by omega), hA.1, hK⟩
theorem isK_len {B : Nat -> Prop} {w : World} {k : Nat} {ks : List (NT k)} {kv : Value} (h : IsK B w ks kv) : ∃ a c, kv = .slice a ks.length c := by
  rcases h with ⟨rfl, rfl⟩ | ⟨b, o, cap, rfl, _⟩
  · exact ⟨_, _, rfl⟩
  · exact ⟨_, _, rfl⟩
def ManyP {k : Nat} (ts : List (NT k)) : Prop := ∀ (B : Nat -> Prop) (va : Value) (w : World), (∀ k, B k -> k < w.heap.size) -> IsK B w ts va -> Calls Tryz.prog 12 #[va] w fun e w' => e = .returned (.int .i64 (countTs ts : Int)) /\ Below w.heap.size w w'
theorem manyP_step {k : Nat} (ts : List (NT (k + 1))) (hct : countTs ts <= 1000000) (ih : ∀ i (h : i < ts.length), ManyP ts[i].kids) : ManyP ts := by
  intro B va w hB h1
  have H1 := hide h1
  obtain ⟨a1, c1, rfl⟩ := isK_len h1
  have HBB := hide hB
  have HIH := hide ih
  have HTA := hide (manyTs_take ts)
  have HLE := hide (manyTs_le ts)
  have hln : ts.length <= 1000000 := Nat.le_trans (manyTs_len ts) hct
  clear h1 ih hB
  go_enter Tryz.func12, Tryz.ntmps12
  go_wp2
  go_loopw [3, 10] (fun v3 v4 wr => ∃ i m : Nat, v4 = .int .i64 (i : Int) /\ i <= ts.length /\ v3 = .int .i64 (m : Int) /\ Hid (m + i = ts.length + countTs (ts.take i)) /\ Hid (Below w.heap.size w wr)) (fun _ v4 _ => ts.length - (intOf v4).toNat)
  case atStart => exact ⟨0, ts.length, rfl, by omega, rfl, hide rfl, hide (Below.refl _ _)⟩
  case round =>
    obtain ⟨i, m, rfl, hi, rfl, HM, HBW⟩ := hrel
    have hle := HLE.out i
    have hm1 := HM.out
    by_cases hlt : i < ts.length
    · have hlt2 : (i : Int) < ts.length := by omega
      have k1 := H1.out.below HBB.out HBW.out
      rcases k1 with ⟨_, h0⟩ | ⟨b1, o1, cap1, e1, _, _, hn1⟩
      · rw [h0] at hlt; simp at hlt
      injection e1 with e1 _ e1c
      subst e1 e1c
      obtain ⟨xa, xl, xc, ka, kc, u0, u1, u2, u3, u4, u5, _, hk⟩ := kid_cells hn1 i hlt
      have hta := HTA.out i hlt
      have hle2 := HLE.out (i + 1)
      have hba := below_alloc wr (.cells #[.int .i64 ts[i].nd.kind, .int .i64 ts[i].nd.space, .string ⟨ts[i].nd.name.toArray⟩, .slice xa xl xc, .string ⟨ts[i].nd.text.toArray⟩, .slice ka ts[i].kids.length kc] 45)
      have hBr : ∀ j, B j -> j < wr.heap.size := fun j hj => Nat.lt_of_lt_of_le (HBB.out j hj) HBW.out.size
      have HC := hide (HIH.out i hlt B _ (wr.alloc (.cells #[.int .i64 ts[i].nd.kind, .int .i64 ts[i].nd.space, .string ⟨ts[i].nd.name.toArray⟩, .slice xa xl xc, .string ⟨ts[i].nd.text.toArray⟩, .slice ka ts[i].kids.length kc] 45)) (fun j hj => Nat.lt_of_lt_of_le (hBr j hj) hba.size) (hk.below hBr hba))
      have HTT : Hid (m + countTs ts[i].kids + (i + 1) = ts.length + countTs (ts.take (i + 1))) := hide (by omega)
      have hb1 : m <= 2000000 := by omega
      have hb2 : countTs ts[i].kids <= 1000000 := by omega
      clear hn1 hta hle hle2 hk hm1 hba hBr HM
      generalize countTs ts[i].kids = ci at *
      generalize ts[i].kids.length = kl at *
      generalize ts[i].nd.kind = n0 at *
      generalize ts[i].nd.space = n1 at *
      generalize ts[i].nd.name.toArray = n2 at *
      generalize ts[i].nd.text.toArray = n3 at *
      go_wp2_with fail
      refine HC.out.mono ?_
      rintro e x1 ⟨rfl, b1⟩
      have HBN := hide (HBW.out.trans ((two_below b1).mono HBW.out.size))
      clear b1 u0 u1 u2 u3 u4 u5
      go_wp2
      exact ⟨⟨i + 1, m + ci, by go_num, by omega, by go_num, HTT, HBN⟩, by simp [intOf]; omega⟩
    · have hlt2 : ¬ (i : Int) < ts.length := by omega
      have hke : ts.take i = ts := List.take_of_length_le (by omega)
      have HF : Hid ((m : Int) = countTs ts) := hide (by rw [hke] at hm1; omega)
      clear hle hke hm1 HM
      go_wp2
      go_ret
      exact ⟨S5.ret_int HF.out, HBW.out⟩
theorem isK_zero {B : Nat -> Prop} {w : World} {ts : List (NT 0)} {va : Value} (h : IsK B w ts va) : ts = [] /\ IsK B w ([] : List (NT 1)) va := by
  have h0 : ts = [] := by
    cases ts with
    | nil => rfl
    | cons x r => exact x.none
  subst h0
  refine ⟨rfl, ?_⟩
  rcases h with ⟨h1, _⟩ | ⟨b, o, cap, e1, e2, _, _⟩
  · exact .inl ⟨h1, rfl⟩
  · exact .inr ⟨b, o, cap, e1, e2, .inl rfl, trivial⟩
theorem manyP_any : ∀ {k : Nat} (ts : List (NT k)), countTs ts <= 1000000 -> ManyP ts
  | 0, ts, _ => by
    intro B va w hB h
    obtain ⟨rfl, h2⟩ := isK_zero h
    exact manyP_step ([] : List (NT 1)) (Nat.zero_le _) (fun i hi => by simp at hi) B va w hB h2
  | k + 1, ts, h => manyP_step ts h fun i hi => manyP_any _ (by
    have h1 := manyTs_take ts i hi
    have h2 := manyTs_le ts (i + 1)
    omega)
def deepTs {k : Nat} (ts : List (NT k)) : Nat := maxG (fun x => deepT x) ts
theorem deepTs_take {k : Nat} (ts : List (NT (k + 1))) (i : Nat) (h : i < ts.length) : deepTs (ts.take (i + 1)) = max (deepTs (ts.take i)) (deepTs ts[i].kids + (if ts[i].nd.kind = 1 then 1 else 0)) := S5.maxG_take _ ts i h
theorem deepTs_le {k : Nat} : ∀ (ts : List (NT k)), deepTs ts <= k
  | [] => Nat.zero_le _
  | x :: r => by
    have h1 := deepTs_le r
    have h2 := S5.deep_le x
    show max (deepT x) (deepTs r) <= k
    omega
def DeepP {k : Nat} (ts : List (NT k)) : Prop := ∀ (B : Nat -> Prop) (va : Value) (w : World), (∀ k, B k -> k < w.heap.size) -> IsK B w ts va -> Calls Tryz.prog 20 #[va] w fun e w' => e = .returned (.int .i64 (deepTs ts : Int)) /\ Below w.heap.size w w'
theorem deepP_step {k : Nat} (ts : List (NT (k + 1))) (hl : ts.length <= 1000000) (hkk : k <= 1000000) (ih : ∀ i (h : i < ts.length), DeepP ts[i].kids) : DeepP ts := by
  intro B va w hB h1
  have H1 := hide h1
  obtain ⟨a1, c1, rfl⟩ := isK_len h1
  have HBB := hide hB
  have HIH := hide ih
  have HTA := hide (deepTs_take ts)
  have HLE : Hid (∀ i, deepTs (ts.take i) <= k + 1) := hide fun i => deepTs_le _
  have HLK : Hid (∀ i (h : i < ts.length), deepTs ts[i].kids <= k) := hide fun i h => deepTs_le _
  clear h1 ih hB
  go_enter Tryz.func20, Tryz.ntmps20
  go_wp2
  go_loopw [3, 9] (fun v3 v4 wr => ∃ i : Nat, v4 = .int .i64 (i : Int) /\ i <= ts.length /\ v3 = .int .i64 (deepTs (ts.take i) : Int) /\ Hid (Below w.heap.size w wr)) (fun _ v4 _ => ts.length - (intOf v4).toNat)
  case atStart => exact ⟨0, rfl, by omega, rfl, hide (Below.refl _ _)⟩
  case round =>
    obtain ⟨i, rfl, hi, rfl, HBW⟩ := hrel
    have hle := HLE.out i
    by_cases hlt : i < ts.length
    · have hlt2 : (i : Int) < ts.length := by omega
      have k1 := H1.out.below HBB.out HBW.out
      rcases k1 with ⟨_, h0⟩ | ⟨b1, o1, cap1, e1, _, _, hn1⟩
      · rw [h0] at hlt; simp at hlt
      injection e1 with e1 _ e1c
      subst e1 e1c
      obtain ⟨xa, xl, xc, ka, kc, u0, u1, u2, u3, u4, u5, _, hk⟩ := kid_cells hn1 i hlt
      have hta := HTA.out i hlt
      have hlk := HLK.out i hlt
      have hba := below_alloc wr (.cells #[.int .i64 ts[i].nd.kind, .int .i64 ts[i].nd.space, .string ⟨ts[i].nd.name.toArray⟩, .slice xa xl xc, .string ⟨ts[i].nd.text.toArray⟩, .slice ka ts[i].kids.length kc] 45)
      have hBr : ∀ j, B j -> j < wr.heap.size := fun j hj => Nat.lt_of_lt_of_le (HBB.out j hj) HBW.out.size
      have HC := hide (HIH.out i hlt B _ (wr.alloc (.cells #[.int .i64 ts[i].nd.kind, .int .i64 ts[i].nd.space, .string ⟨ts[i].nd.name.toArray⟩, .slice xa xl xc, .string ⟨ts[i].nd.text.toArray⟩, .slice ka ts[i].kids.length kc] 45)) (fun j hj => Nat.lt_of_lt_of_le (hBr j hj) hba.size) (hk.below hBr hba))
      have HBX : Hid (∀ x, Below (wr.alloc (.cells #[.int .i64 ts[i].nd.kind, .int .i64 ts[i].nd.space, .string ⟨ts[i].nd.name.toArray⟩, .slice xa xl xc, .string ⟨ts[i].nd.text.toArray⟩, .slice ka ts[i].kids.length kc] 45)).heap.size (wr.alloc (.cells #[.int .i64 ts[i].nd.kind, .int .i64 ts[i].nd.space, .string ⟨ts[i].nd.name.toArray⟩, .slice xa xl xc, .string ⟨ts[i].nd.text.toArray⟩, .slice ka ts[i].kids.length kc] 45)) x -> x.cell? ⟨wr.heap.size, 0, none⟩ = some (.int .i64 ts[i].nd.kind)) := hide (fun x b => by
        rw [b.cell (by simp)]
        simp [go_sem])
      clear hn1 hk hba hBr
      generalize deepTs ts[i].kids = ci at *
      generalize ts[i].kids.length = kl at *
      generalize hkd : ts[i].nd.kind = n0 at *
      generalize ts[i].nd.space = n1 at *
      generalize ts[i].nd.name.toArray = n2 at *
      generalize ts[i].nd.text.toArray = n3 at *
      have HTA2 := hide hta
      generalize hds : deepTs (ts.take i) = ds at *
      clear hta hkd
      by_cases hk1 : n0 = 1
      · subst hk1
        have HTT : Hid (deepTs (ts.take (i + 1)) = max ds (ci + 1)) := hide (by rw [HTA2.out, if_pos rfl])
        clear HTA2
        go_wp2_with fail
        refine HC.out.mono ?_
        rintro e x1 ⟨rfl, b1⟩
        have q0 := HBX.out _ b1
        have HBN := hide (HBW.out.trans ((two_below b1).mono HBW.out.size))
        clear b1 u0 u1 u2 u3 u4 u5
        go_wp2
        all_goals exact ⟨⟨i + 1, by go_num, by omega, by rw [HTT.out]; congr 1; omega, HBN⟩, by simp [intOf]; omega⟩
      · have HTT : Hid (deepTs (ts.take (i + 1)) = max ds ci) := hide (by rw [HTA2.out, if_neg hk1, Nat.add_zero])
        clear HTA2
        go_wp2_with fail
        refine HC.out.mono ?_
        rintro e x1 ⟨rfl, b1⟩
        have q0 := HBX.out _ b1
        have HBN := hide (HBW.out.trans ((two_below b1).mono HBW.out.size))
        clear b1 u0 u1 u2 u3 u4 u5
        go_wp2
        all_goals exact ⟨⟨i + 1, by go_num, by omega, by rw [HTT.out]; congr 1; omega, HBN⟩, by simp [intOf]; omega⟩
    · have hlt2 : ¬ (i : Int) < ts.length := by omega
      have hke : ts.take i = ts := List.take_of_length_le (by omega)
      rw [hke]
      clear hle hke
      go_wp2
      go_ret
      exact ⟨rfl, HBW.out⟩
theorem deepP_any : ∀ {k : Nat} (ts : List (NT k)), countTs ts <= 1000000 -> k <= 1000000 -> DeepP ts
  | 0, ts, _, _ => by
    intro B va w hB h
    obtain ⟨rfl, h2⟩ := isK_zero h
    exact deepP_step ([] : List (NT 1)) (Nat.zero_le _) (Nat.zero_le _) (fun i hi => by simp at hi) B va w hB h2
  | k + 1, ts, h, hk => deepP_step ts (Nat.le_trans (manyTs_len ts) h) (by omega) fun i hi => deepP_any _ (by
    have h1 := manyTs_take ts i hi
    have h2 := manyTs_le ts (i + 1)
    omega) (by omega)
end Go.Proofs.YtfohijnkeefcfaaGreatDoor
namespace Go.Proofs.YtfohijnkeefcfaaGreatDoor
open Go.RowKit
open S5 (NT IsK IsNs IsN isN_iff countTs countT maxG deepT cell_lt below_alloc hide below_drewN)
def SameS {k : Nat} (ts : List (NT k)) : Prop := ∀ (B : Nat -> Prop) (va : Value) (w : World), (∀ k, B k -> k < w.heap.size) -> IsK B w ts va -> Calls Tryz.prog 21 #[va, va] w fun e w' => e = .returned (.bool true) /\ Below w.heap.size w w'
theorem enters_same (a b : Value) (w : World) : (callFunc 37 #[a, b]).run Tryz.prog w = .ok (.enter 37 #[a, b]) w := by simp [go_sem]
theorem sameNode_self {k : Nat} (ks : List (NT k)) (ih : SameS ks) (kd sp : Int) (nm tx : ByteArray) (av kv : Value) (aa : S5.AttrL) (haa : aa.length <= 1000000) (B : Nat -> Prop) (w : World) (hB : ∀ k, B k -> k < w.heap.size) (hA : S5.IsA w av aa) (hK : IsK B w ks kv) :
    Calls Tryz.prog 37 #[.agg #[.int .i64 kd, .int .i64 sp, .string nm, av, .string tx, kv], .agg #[.int .i64 kd, .int .i64 sp, .string nm, av, .string tx, kv]] w fun e w' => e = .returned (.bool true) /\ Below w.heap.size w w' := by
  have HE := hide (fun x (b : Below w.heap.size w x) => S7.equal_p av av aa aa (by omega) (by omega) x (isQ_of (hA.below b)) (isQ_of (hA.below b)))
  have HS := hide (fun x (b : Below w.heap.size w x) => ih B kv x (fun j hj => Nat.lt_of_lt_of_le (hB j hj) b.size) (hK.below hB b))
  obtain ⟨a1, c1, rfl⟩ := S5.isA_form hA
  obtain ⟨a2, c2, rfl⟩ := isK_len hK
  clear hA hK ih hB
  have e1 : decide (aa = aa) = true := by simp
  rw [e1] at HE
  generalize aa.length = al at *
  generalize ks.length = kl at *
  have HB : Hid (∀ x, Below ((w.alloc (.cells #[.int .i64 kd, .int .i64 sp, .string nm, .slice a1 al c1, .string tx, .slice a2 kl c2] 45)).alloc (.cells #[.int .i64 kd, .int .i64 sp, .string nm, .slice a1 al c1, .string tx, .slice a2 kl c2] 45)).heap.size ((w.alloc (.cells #[.int .i64 kd, .int .i64 sp, .string nm, .slice a1 al c1, .string tx, .slice a2 kl c2] 45)).alloc (.cells #[.int .i64 kd, .int .i64 sp, .string nm, .slice a1 al c1, .string tx, .slice a2 kl c2] 45)) x -> x.cell? ⟨w.heap.size, 5, none⟩ = some (.slice a2 kl c2) /\ x.cell? ⟨w.heap.size + 1, 5, none⟩ = some (.slice a2 kl c2) /\ Below w.heap.size w x) := hide (fun x b => by
    refine ⟨?_, ?_, two_two b⟩
    · rw [b.cell (by simp; omega), (below_alloc _ _).cell (by simp)]
      simp [go_sem]
    · rw [b.cell (by simp)]
      have := World.cell?_alloc_mark (w.alloc (.cells #[.int .i64 kd, .int .i64 sp, .string nm, .slice a1 al c1, .string tx, .slice a2 kl c2] 45)) #[.int .i64 kd, .int .i64 sp, .string nm, .slice a1 al c1, .string tx, .slice a2 kl c2] 45 (0, 0) 5
      rw [World.size_alloc] at this
      exact this)
  go_enter Tryz.func37, Tryz.ntmps37
  go_wp2_with fail
  refine (HE.out _ (two_two (Below.refl _ _))).mono ?_
  rintro e x1 ⟨rfl, b1⟩
  obtain ⟨q1, q2, B1⟩ := HB.out _ b1
  have BB1 := hide B1
  clear b1 B1
  go_wp2_with fail
  refine (HS.out _ BB1.out).mono ?_
  rintro e x2 ⟨rfl, b2⟩
  have BB2 := hide (BB1.out.trans (b2.mono BB1.out.size))
  clear b2
  go_wp2
  go_ret
  exact ⟨rfl, BB2.out⟩
theorem equalFunc_self {k : Nat} (ts : List (NT (k + 1))) (hl : ts.length <= 1000000) (ha : ∀ t ∈ ts, t.nd.attrs.length <= 1000000) (ih : ∀ i (h : i < ts.length), SameS ts[i].kids) (B : Nat -> Prop) (va : Value) (w : World) (hB : ∀ k, B k -> k < w.heap.size) (h1 : IsK B w ts va) :
    Calls Tryz.prog 36 #[va, va, .func (.func 37) #[] #[]] w fun e w' => e = .returned (.bool true) /\ Below w.heap.size w w' := by
  have H1 := hide h1
  obtain ⟨a1, c1, rfl⟩ := isK_len h1
  have HBB := hide hB
  have HIH := hide ih
  have HAL := hide ha
  have hent := enters_same
  clear h1 ih hB ha
  go_enter Tryz.func36, Tryz.ntmps36
  go_wp2
  go_loopw [17] (fun v4 wr => ∃ i : Nat, v4 = .int .i64 (i : Int) /\ i <= ts.length /\ Hid (Below w.heap.size w wr)) (fun v4 _ => ts.length - (intOf v4).toNat)
  case atStart => exact ⟨0, rfl, by omega, hide (Below.refl _ _)⟩
  case round =>
    obtain ⟨i, rfl, hi, HBW⟩ := hrel
    by_cases hlt : i < ts.length
    · have hlt2 : (i : Int) < ts.length := by omega
      have k1 := H1.out.below HBB.out HBW.out
      rcases k1 with ⟨_, h0⟩ | ⟨b1, o1, cap1, e1, _, _, hn1⟩
      · rw [h0] at hlt; simp at hlt
      injection e1 with e1 _ e1c
      subst e1 e1c
      obtain ⟨xa, xl, xc, ka, kc, u0, u1, u2, u3, u4, u5, hA, hk⟩ := kid_cells hn1 i hlt
      have hBr : ∀ j, B j -> j < wr.heap.size := fun j hj => Nat.lt_of_lt_of_le (HBB.out j hj) HBW.out.size
      have HC := hide (fun x (b : Below wr.heap.size wr x) => sameNode_self ts[i].kids (HIH.out i hlt) ts[i].nd.kind ts[i].nd.space ⟨ts[i].nd.name.toArray⟩ ⟨ts[i].nd.text.toArray⟩ (.slice xa xl xc) (.slice ka ts[i].kids.length kc) ts[i].nd.attrs (HAL.out _ (List.getElem_mem hlt)) B x (fun j hj => Nat.lt_of_lt_of_le (hBr j hj) b.size) (hA.below b) (hk.below hBr b))
      clear hn1 hk hA hBr
      generalize ts[i].kids.length = kl at *
      generalize ts[i].nd.kind = n0 at *
      generalize ts[i].nd.space = n1 at *
      generalize ts[i].nd.name.toArray = n2 at *
      generalize ts[i].nd.text.toArray = n3 at *
      have hbl : b1 < wr.heap.size := cell_lt u0
      go_wp2_with fail
      refine (HC.out _ (two_two (Below.refl _ _))).mono ?_
      rintro e x1 ⟨rfl, b1⟩
      have HBN := hide (HBW.out.trans ((two_two b1).mono HBW.out.size))
      clear b1 u0 u1 u2 u3 u4 u5
      go_wp2
      exact ⟨⟨i + 1, by go_num, by omega, HBN⟩, by simp [intOf]; omega⟩
    · have hlt2 : ¬ (i : Int) < ts.length := by omega
      go_wp2
      go_ret
      exact ⟨rfl, HBW.out⟩
theorem sameS_step {k : Nat} (ts : List (NT (k + 1))) (hl : ts.length <= 1000000) (ha : ∀ t ∈ ts, t.nd.attrs.length <= 1000000) (ih : ∀ i (h : i < ts.length), SameS ts[i].kids) : SameS ts := by
  intro B va w hB h1
  have H := hide (equalFunc_self ts hl ha ih B va w hB h1)
  obtain ⟨a1, c1, rfl⟩ := isK_len h1
  clear h1 ih hB ha
  have hmf : ∀ (fn : Fn) (first cap : Array Value) (w : World), (Instr.makeFunc fn first cap).run Tryz.prog w = .ok (.func fn first cap) w := fun _ _ _ _ => rfl
  go_enter Tryz.func21, Tryz.ntmps21
  go_wp2_with fail
  refine H.out.mono ?_
  rintro e x1 ⟨rfl, b1⟩
  go_wp2
  go_ret
  exact ⟨rfl, b1⟩
def AttrsOk : {k : Nat} -> List (NT k) -> Prop
  | 0, _ => True
  | k + 1, ts => ∀ t ∈ ts, t.nd.attrs.length <= 1000000 /\ t.kids.length <= 1000000 /\ AttrsOk t.kids
theorem sameS_any : ∀ {k : Nat} (ts : List (NT k)), ts.length <= 1000000 -> AttrsOk ts -> SameS ts
  | 0, ts, _, _ => by
    intro B va w hB h
    obtain ⟨rfl, h2⟩ := isK_zero h
    exact sameS_step ([] : List (NT 1)) (Nat.zero_le _) (fun t ht => by simp at ht) (fun i hi => by simp at hi) B va w hB h2
  | k + 1, ts, h, ha => sameS_step ts h (fun t ht => (ha t ht).1) fun i hi => sameS_any _ (ha _ (List.getElem_mem hi)).2.1 (ha _ (List.getElem_mem hi)).2.2
end Go.Proofs.YtfohijnkeefcfaaGreatDoor
namespace Go.Proofs.YtfohijnkeefcfaaGreatDoor
open Go.RowKit
open S5 (NT IsK IsNs IsN isN_iff countTs countT maxG deepT cell_lt below_alloc hide below_drewN)
def liveT : S5.TR := [({}, [1, 2]), ({ kind := 2, text := [97] }, []), ({ kind := 1, name := [98] }, [3]), ({ kind := 2, text := [99] }, [])]
theorem live_T : (buildL liveL).T = liveT := by kernel_rfl
def liveV : List (NT 4) := [.mk { kind := 2, text := [97] } [], .mk { kind := 1, name := [98] } [.mk { kind := 2, text := [99] } []]]
theorem live_V {B : Nat -> Prop} {w : World} {kv : Value} (h : IsK B w (S5.valueL (buildL liveL).T 0).kids kv) : IsK B w liveV kv := by
  rw [live_T] at h
  exact h
theorem live_count : countTs liveV = 3 := rfl
theorem live_deep : deepTs liveV = 1 := rfl
theorem live_attrs : AttrsOk liveV := by
  intro t ht
  simp only [liveV, List.mem_cons, List.not_mem_nil, or_false] at ht
  rcases ht with rfl | rfl
  · exact ⟨Nat.zero_le _, Nat.zero_le _, fun t ht => absurd ht List.not_mem_nil⟩
  · refine ⟨Nat.zero_le _, by show 1 <= 1000000; omega, fun t ht => ?_⟩
    have : t = .mk { kind := 2, text := [99] } [] := List.mem_singleton.1 ht
    subst this
    exact ⟨Nat.zero_le _, Nat.zero_le _, fun t ht => absurd ht List.not_mem_nil⟩
theorem isK_tight {B : Nat -> Prop} {w : World} {k : Nat} {ks : List (NT k)} {kv : Value} (h : IsK B w ks kv) : IsK (fun k => B k /\ k < w.heap.size) w ks kv := by
  have := S5.IsN.tight (.mk {} ks) (S5.nodeC {} (.slice none 0 0) kv) ((isN_iff B w {} ks _).2 ⟨_, _, rfl, ⟨.inl ⟨rfl, rfl⟩, .inl rfl⟩, h⟩)
  obtain ⟨av, kv', e, _, h2⟩ := (isN_iff _ w {} ks _).1 this
  have e2 : kv = kv' := by
    simp only [S5.nodeC, List.cons.injEq] at e
    exact e.2.2.2.2.2.1
  rw [e2]
  exact h2
theorem live_cells {w w' : World} {e : Ending} (h : FragA w liveL e w') : ∃ b o c, e = .returned (.tuple #[.slice (some ⟨b, o, none⟩) 2 c, .int .i64 0]) /\ (IsK (fun k => w.heap.size <= k /\ k < w'.heap.size) w' liveV (.slice (some ⟨b, o, none⟩) 2 c) /\ w'.cell? ⟨b, o + 4, none⟩ = some (.string ⟨#[97]⟩) /\ w'.cell? ⟨b, o + 8, none⟩ = some (.string ⟨#[98]⟩)) /\ Below w.heap.size w w' := by
  obtain ⟨a, k, c, rfl, _, h2, b⟩ := h
  have hK := isK_tight (live_V (h2 live_err))
  rw [live_err]
  rcases hK with ⟨_, e0⟩ | ⟨b', o, cap, e1, e2, e3, e4⟩
  · exact absurd e0 (by simp [liveV])
  · injection e1 with e1 e5 e6
    subst e1 e5 e6
    refine ⟨b', o, c, rfl, ⟨.inr ⟨b', o, c, rfl, e2, e3, e4⟩, ?_, ?_⟩, b⟩
    · obtain ⟨xa, xl, xc, ka, kc, u0, u1, u2, u3, u4, u5, _, hk⟩ := kid_cells e4 0 (by decide)
      exact u4
    · obtain ⟨xa, xl, xc, ka, kc, u0, u1, u2, u3, u4, u5, _, hk⟩ := kid_cells e4 1 (by decide)
      exact u2
theorem alive_p (w : World) (he : S4.Env w) : Calls Tryz.prog 9 #[] w fun e w' => e = .returned (.bool true) /\ Below w.heap.size w w' := by
  have HF := hide ((fragment_live w he).mono fun e w' h => live_cells h)
  clear he
  have HM := hide (manyP_any liveV (by decide))
  have HD := hide (deepP_any liveV (by decide) (by decide))
  have HS := hide (sameS_any liveV (by decide) live_attrs)
  go_enter Tryz.func9, Tryz.ntmps9
  go_wp2_with fail
  refine HF.out.mono ?_
  rintro e w1 ⟨b, o, c, rfl, ⟨hK, c1, c2⟩, b1⟩
  have HK := hide hK
  have B1 := hide b1
  clear hK b1 HF
  go_wp2_with fail
  refine (HM.out _ _ _ (fun k h => h.2) HK.out).mono ?_
  rw [live_count]
  rintro e w2 ⟨rfl, b2⟩
  have HK2 := hide (HK.out.below (fun k h => h.2) b2)
  have B2 := hide (B1.out.trans (b2.mono B1.out.size))
  have Z2 := hide (b2.size)
  clear b2
  go_wp2_with fail
  refine (HD.out _ _ _ (fun k h => Nat.lt_of_lt_of_le h.2 Z2.out) HK2.out).mono ?_
  rw [live_deep]
  rintro e w3 ⟨rfl, b3⟩
  have HK3 := hide (HK2.out.below (fun k h => Nat.lt_of_lt_of_le h.2 Z2.out) b3)
  have B3 := hide (B2.out.trans (b3.mono B2.out.size))
  have Z3 := hide (Nat.le_trans Z2.out b3.size)
  clear b3
  go_wp2_with fail
  refine (HS.out _ _ _ (fun k h => Nat.lt_of_lt_of_le h.2 Z3.out) HK3.out).mono ?_
  rintro e w4 ⟨rfl, b4⟩
  have B4 := hide (B3.out.trans (b4.mono B3.out.size))
  clear b4
  go_wp2
  go_ret
  exact ⟨rfl, B4.out⟩
end Go.Proofs.YtfohijnkeefcfaaGreatDoor
