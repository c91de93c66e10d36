/- What the program's marker, last, Last, Find and Renew answer, of whatever list; nothing that was there is written. -/
import Derived.Test.YtihpjalbdkiecaaRC7
import Derived.Test.YtihpjalbdkiecaaLA7
set_option linter.unusedVariables false
set_option linter.unusedSimpArgs false
namespace Go.Proofs.Ytihpjalbdkiecaa
open Go.RowKit

def SmallM (l : List MV) : Prop := l.length ≤ 1000 ∧ ∀ x ∈ l, x.aa.length ≤ 1000
theorem one_cell (w : World) (v : Value) (t : TypeId) : (w.alloc (.cells #[v] t)).cell? ⟨w.heap.size, 0, none⟩ = some v := by simp [go_sem]
def boxW (w : World) (id : Int) (nm : ByteArray) (av : Value) : World := w.alloc (.cells #[.int .i64 id, .string nm, av] 27)
theorem boxW_cells (w : World) (id : Int) (nm : ByteArray) (av : Value) {w1 : World} (b : Below (boxW w id nm av).heap.size (boxW w id nm av) w1) :
    w1.cell? ⟨w.heap.size, 0, none⟩ = some (.int .i64 id) ∧ w1.cell? ⟨w.heap.size, 1, none⟩ = some (.string nm) ∧ w1.cell? ⟨w.heap.size, 2, none⟩ = some av := by
  unfold boxW at b
  rw [b.cell (by simp), b.cell (by simp), b.cell (by simp)]
  simp [go_sem]
theorem behind_last (p : MV → Bool) (l : List MV) : ∀ k, (behindG p l k : Int) = placeZ (lastG p l k) + 1 := by
  intro k
  induction k with
  | zero => rfl
  | succ k ih =>
    rw [behindG, lastG]
    split
    · simp [placeZ]
    · exact ih
theorem lastZ_eq (l : List MV) (n : ByteArray) : lastZ l n = if placeZ (lastG (nameM n) l l.length) ≤ placeZ (lastG markerM l l.length) then -1 else placeZ (lastG (nameM n) l l.length) := by
  have h := behind_last markerM l l.length
  unfold lastZ behindL
  generalize placeZ (lastG markerM l l.length) = Y at *
  cases hN : lastG (nameM n) l l.length with
  | none =>
    simp only [lastOf, show placeZ none = -1 from rfl, ite_self]
  | some j =>
    simp only [lastOf, show placeZ (some j) = (j : Int) from rfl]
    by_cases hc : behindG markerM l l.length ≤ j
    · rw [if_pos hc, if_neg (by omega)]
    · rw [if_neg hc, if_pos (by omega)]
theorem place_range (p : MV → Bool) (l : List MV) : -1 ≤ placeZ (lastG p l l.length) ∧ placeZ (lastG p l l.length) < l.length + 0 ∨ placeZ (lastG p l l.length) = -1 := by
  cases hN : lastG p l l.length with
  | none => right; rfl
  | some j =>
    left
    have := last_lt p l _ _ hN
    simp only [placeZ]
    omega

set_option maxHeartbeats 1000000 in
theorem marker_p (m : MV) (a : Option Addr) (n c : Nat) (hm : m.av = .slice a n c) (w : World) :
    Calls Try.prog 40 #[.agg #[.int .i64 m.id, .string m.nm, m.av]] w fun e w' => e = .returned (.bool (markerM m)) ∧ Below w.heap.size w w' := by
  obtain ⟨id, nm, aa, av⟩ := m
  simp only [] at hm
  subst hm
  simp only [markerM]
  go_enter Try.func40, Try.ntmps40
  go_wp2
  go_ret
  exact ⟨rfl, below_alloc w _⟩

set_option maxHeartbeats 1000000 in
theorem last_any (F : Nat) (caps : List Value) (p : MV → Bool) (l : List MV) (hl : l.length ≤ 1000000) (v : Value) (w : World) (hM : RowM w v l) (hOk : OkM w l) (hen : ∀ (args : Array Value) (w : World), (callFunc F args).run Try.prog w = .ok (.enter F args) w)
    (hf : ∀ (o : MV) (a : Option Addr) (n c : Nat) (w1 : World), o.av = .slice a n c → Below w.heap.size w w1 → Calls Try.prog F (.agg #[.int .i64 o.id, .string o.nm, o.av] :: caps).toArray w1 fun e w' => e = .returned (.bool (p o)) ∧ Below w1.heap.size w1 w') :
    Calls Try.prog 39 #[v, .func (.func F) #[] caps.toArray] w fun e w' => e = .returned (.int .i64 (placeZ (lastG p l l.length))) ∧ Below w.heap.size w w' := by
  obtain ⟨a, c, rfl⟩ := rowM_form hM
  have HO := hide hM
  have HF := hide hf
  have HK := hide hOk
  clear hM hf hOk
  generalize hV : lastG p l l.length = V
  have HV := hide hV
  clear hV
  go_enter Try.func39, Try.ntmps39
  go_wp2
  go_loopw [5] (fun i wr => ∃ k : Nat, k ≤ l.length ∧ i = .int .i64 ((k : Int) - 1) ∧ Below w.heap.size w wr ∧ Hid (lastG p l k = V)) (fun i _ => (intOf i + 1).toNat)
  case atStart => exact ⟨l.length, Nat.le_refl _, by go_num, Below.refl _ w, HV⟩
  case round =>
    obtain ⟨k, hk, rfl, bw, HR⟩ := hrel
    cases k with
    | zero =>
      have HV2 : Hid (placeZ V = -1) := hide (by rw [← HR.out]; rfl)
      clear HR
      go_wp2
      go_ret
      exact ⟨ret_int HV2.out.symm, bw⟩
    | succ j =>
      have hj : j < l.length := by omega
      obtain ⟨b, o, rfl, c0, c1, c2⟩ := (HO.out.below bw).get j hj
      obtain ⟨qa, qc, hq⟩ := isQ_form (HK.out.at_ j hj)
      have HQ := hide (HF.out l[j] qa _ qc wr hq bw)
      have hh := last_hit p l j hj
      have hm := last_miss p l j hj
      rw [hq] at c2 HQ
      generalize hP : p l[j] = P at *
      generalize l[j].aa.length = qn at *
      generalize hE : l[j] = el at *
      obtain ⟨id, nm, aa, av⟩ := el
      simp only [] at c0 c1 c2 HQ hq
      have e1 : ((j + 1 : Nat) : Int) - 1 = (j : Int) := by omega
      rw [e1]
      have hlt : (j : Int) < l.length := by omega
      have HH := hide hh
      have HM := hide hm
      clear hh hm hP hE e1 hq
      go_wp2_with fail
      refine HQ.out.mono ?_
      rintro e w1 ⟨rfl, b1⟩
      have b2 := bw.trans (b1.mono bw.size)
      clear c0 c1 c2
      cases P with
      | true =>
        have HV2 : Hid (placeZ V = (j : Int)) := hide (by rw [← HR.out, HH.out rfl]; rfl)
        clear HH HM HR
        go_wp2
        go_ret
        exact ⟨ret_int HV2.out.symm, b2⟩
      | false =>
        have HR2 : Hid (lastG p l j = V) := hide (by rw [← HR.out, HM.out rfl])
        clear HH HM HR
        go_wp2
        go_roundw
        case rel => exact ⟨j, by omega, by go_num, b2, HR2⟩
        case measure => simp [intOf]

theorem enters_marker : ∀ (args : Array Value) (w : World), (callFunc 40 args).run Try.prog w = .ok (.enter 40 args) w := by intro args w; simp [go_sem]
theorem enters_last1 : ∀ (args : Array Value) (w : World), (callFunc 42 args).run Try.prog w = .ok (.enter 42 args) w := by intro args w; simp [go_sem]
theorem enters_find1 : ∀ (args : Array Value) (w : World), (callFunc 44 args).run Try.prog w = .ok (.enter 44 args) w := by intro args w; simp [go_sem]
theorem enters_renew1 : ∀ (args : Array Value) (w : World), (callFunc 45 args).run Try.prog w = .ok (.enter 45 args) w := by intro args w; simp [go_sem]

theorem lastMarker_p (l : List MV) (hl : l.length ≤ 1000000) (v : Value) (w : World) (hM : RowM w v l) (hOk : OkM w l) :
    Calls Try.prog 39 #[v, .func (.func 40) #[] #[]] w fun e w' => e = .returned (.int .i64 (placeZ (lastG markerM l l.length))) ∧ Below w.heap.size w w' :=
  last_any 40 [] markerM l hl v w hM hOk enters_marker (fun o a n c w1 hq _ => marker_p o a n c hq w1)

set_option maxHeartbeats 1000000 in
theorem lastC_p (m : MV) (a : Option Addr) (n c : Nat) (hm : m.av = .slice a n c) (nm0 : ByteArray) (nb : Nat) (w : World) (hn : w.cell? ⟨nb, 0, none⟩ = some (.string nm0)) :
    Calls Try.prog 42 #[.agg #[.int .i64 m.id, .string m.nm, m.av], .pointer (some ⟨nb, 0, none⟩)] w fun e w' => e = .returned (.bool (nameM nm0 m)) ∧ Below w.heap.size w w' := by
  obtain ⟨id, nm, aa, av⟩ := m
  simp only [] at hm
  subst hm
  have he : (nm.toList == nm0.toList) = (nm.data.toList == nm0.data.toList) := by rw [Lib.toList_data, Lib.toList_data]
  simp only [nameM, ← he]
  have hn2 : (w.alloc (.cells #[.int .i64 id, .string nm, .slice a n c] 27)).cell? ⟨nb, 0, none⟩ = some (.string nm0) := by
    rw [(below_alloc w _).cell (cell_lt hn)]; exact hn
  clear hn he
  go_enter Try.func42, Try.ntmps42
  go_wp2
  go_ret
  exact ⟨rfl, below_alloc w _⟩
set_option maxHeartbeats 1000000 in
theorem findC_p (m : MV) (a : Option Addr) (n c : Nat) (hm : m.av = .slice a n c) (z : Int) (nb : Nat) (w : World) (hn : w.cell? ⟨nb, 0, none⟩ = some (.int .i64 z)) :
    Calls Try.prog 44 #[.agg #[.int .i64 m.id, .string m.nm, m.av], .pointer (some ⟨nb, 0, none⟩)] w fun e w' => e = .returned (.bool (idM z m)) ∧ Below w.heap.size w w' := by
  obtain ⟨id, nm, aa, av⟩ := m
  simp only [] at hm
  subst hm
  simp only [idM]
  have hn2 : (w.alloc (.cells #[.int .i64 id, .string nm, .slice a n c] 27)).cell? ⟨nb, 0, none⟩ = some (.int .i64 z) := by
    rw [(below_alloc w _).cell (cell_lt hn)]; exact hn
  clear hn
  go_enter Try.func44, Try.ntmps44
  go_wp2
  go_ret
  exact ⟨rfl, below_alloc w _⟩

set_option maxHeartbeats 1000000 in
theorem last_p (v : Value) (l : List MV) (hs : SmallM l) (n : ByteArray) (w : World) (hM : RowM w v l) (hOk : OkM w l) :
    Calls Try.prog 24 #[v, .string n] w fun e w' => e = .returned (.int .i64 (lastZ l n)) ∧ Below w.heap.size w w' := by
  have hmf : ∀ (fn : Fn) (first cap : Array Value) (w : World), (Instr.makeFunc fn first cap).run Try.prog w = .ok (.func fn first cap) w := fun _ _ _ _ => rfl
  have hl : l.length ≤ 1000000 := by have := hs.1; omega
  have bA := below_alloc w (.cells #[.string n] 9)
  have H := hide (last_any 42 [.pointer (some ⟨w.heap.size, 0, none⟩)] (nameM n) l hl v (w.alloc (.cells #[.string n] 9)) (hM.below bA) (hOk.below bA) enters_last1
    (fun o a n1 c w1 hq b1 => lastC_p o a n1 c hq n w.heap.size w1 (by rw [b1.cell (by simp)]; exact one_cell w _ _)))
  have H2 := hide (fun w1 (b : Below w.heap.size w w1) => lastMarker_p l hl v w1 (hM.below b) (hOk.below b))
  obtain ⟨a, c, rfl⟩ := rowM_form hM
  rw [lastZ_eq]
  generalize placeZ (lastG (nameM n) l l.length) = Z at *
  generalize placeZ (lastG markerM l l.length) = Y at *
  clear hM hOk hs
  have BA := hide bA
  clear bA
  by_cases hc : Z ≤ Y
  · rw [if_pos hc]
    go_enter Try.func24, Try.ntmps24
    go_wp2_with fail
    refine H.out.mono ?_
    rintro e w1 ⟨rfl, b1⟩
    have B1 := hide (BA.out.trans (b1.mono BA.out.size))
    clear b1
    go_wp2_with fail
    refine (H2.out w1 B1.out).mono ?_
    rintro e w2 ⟨rfl, b2⟩
    go_wp2
    go_ret
    exact ⟨rfl, B1.out.trans (b2.mono B1.out.size)⟩
  · rw [if_neg hc]
    go_enter Try.func24, Try.ntmps24
    go_wp2_with fail
    refine H.out.mono ?_
    rintro e w1 ⟨rfl, b1⟩
    have B1 := hide (BA.out.trans (b1.mono BA.out.size))
    clear b1
    go_wp2_with fail
    refine (H2.out w1 B1.out).mono ?_
    rintro e w2 ⟨rfl, b2⟩
    go_wp2
    go_ret
    exact ⟨rfl, B1.out.trans (b2.mono B1.out.size)⟩

set_option maxHeartbeats 1000000 in
theorem indexFunc_any (F : Nat) (caps : List Value) (p : MV → Bool) (l : List MV) (hl : l.length ≤ 1000000) (v : Value) (w : World) (hM : RowM w v l) (hOk : OkM w l) (hen : ∀ (args : Array Value) (w : World), (callFunc F args).run Try.prog w = .ok (.enter F args) w)
    (hf : ∀ (o : MV) (a : Option Addr) (n c : Nat) (w1 : World), o.av = .slice a n c → Below w.heap.size w w1 → Calls Try.prog F (.agg #[.int .i64 o.id, .string o.nm, o.av] :: caps).toArray w1 fun e w' => e = .returned (.bool (p o)) ∧ Below w1.heap.size w1 w') :
    Calls Try.prog 43 #[v, .func (.func F) #[] caps.toArray] w fun e w' => e = .returned (.int .i64 (placeZ (firstO p l))) ∧ Below w.heap.size w w' := by
  obtain ⟨a, c, rfl⟩ := rowM_form hM
  have HO := hide hM
  have HF := hide hf
  have HK := hide hOk
  clear hM hf hOk
  generalize hV : firstO p l = V
  have HV := hide hV
  clear hV
  go_enter Try.func43, Try.ntmps43
  go_wp2
  go_loopw [8] (fun i wr => ∃ k : Nat, k ≤ l.length ∧ i = .int .i64 (k : Int) ∧ Below w.heap.size w wr ∧ Hid ((firstO p (l.drop k)).map (· + k) = V)) (fun i _ => l.length - (intOf i).toNat)
  case atStart => exact ⟨0, Nat.zero_le _, rfl, Below.refl _ w, hide (by rw [List.drop_zero, HV.out]; simp)⟩
  case round =>
    obtain ⟨k, hk, rfl, bw, HR⟩ := hrel
    by_cases hj : k < l.length
    · obtain ⟨b, o, rfl, c0, c1, c2⟩ := (HO.out.below bw).get k hj
      obtain ⟨qa, qc, hq⟩ := isQ_form (HK.out.at_ k hj)
      have HQ := hide (HF.out l[k] qa _ qc wr hq bw)
      have hh := first_hit p l k hj
      have hm := first_miss p l k hj
      rw [hq] at c2 HQ
      generalize hP : p l[k] = P at *
      generalize l[k].aa.length = qn at *
      generalize hE : l[k] = el at *
      obtain ⟨id, nm, aa, av⟩ := el
      simp only [] at c0 c1 c2 HQ hq
      have hlt : (k : Int) < l.length := by omega
      have HH := hide hh
      have HM := hide hm
      clear hh hm hP hE hq hj
      go_wp2_with fail
      refine HQ.out.mono ?_
      rintro e w1 ⟨rfl, b1⟩
      have b2 := bw.trans (b1.mono bw.size)
      clear c0 c1 c2
      cases P with
      | true =>
        have HV2 : Hid (placeZ V = (k : Int)) := hide (by rw [← HR.out, HH.out rfl]; simp [placeZ])
        clear HH HM HR
        go_wp2
        go_ret
        exact ⟨ret_int HV2.out.symm, b2⟩
      | false =>
        have HR2 : Hid ((firstO p (l.drop (k + 1))).map (· + (k + 1)) = V) := hide (by rw [← HR.out, HM.out rfl, findZ_first l 0])
        clear HH HM HR
        go_wp2
        go_roundw
        case rel => exact ⟨k + 1, by omega, by go_num, b2, HR2⟩
        case measure => simp [intOf]; omega
    · have HV2 : Hid (placeZ V = -1) := hide (by rw [← HR.out, first_end p l k (by omega)]; rfl)
      have hlt : ¬ (k : Int) < l.length := by omega
      clear HR hj
      go_wp2
      go_ret
      exact ⟨ret_int HV2.out.symm, bw⟩

set_option maxHeartbeats 1000000 in
theorem find_p (v : Value) (l : List MV) (hs : SmallM l) (z : Int) (w : World) (hM : RowM w v l) (hOk : OkM w l) :
    Calls Try.prog 26 #[v, .int .i64 z] w fun e w' => e = .returned (.int .i64 (findZ l z)) ∧ Below w.heap.size w w' := by
  have hmf : ∀ (fn : Fn) (first cap : Array Value) (w : World), (Instr.makeFunc fn first cap).run Try.prog w = .ok (.func fn first cap) w := fun _ _ _ _ => rfl
  have hl : l.length ≤ 1000000 := by have := hs.1; omega
  have bA := below_alloc w (.cells #[.int .i64 z] 3)
  have H := hide (indexFunc_any 44 [.pointer (some ⟨w.heap.size, 0, none⟩)] (idM z) l hl v (w.alloc (.cells #[.int .i64 z] 3)) (hM.below bA) (hOk.below bA) enters_find1
    (fun o a n1 c w1 hq b1 => findC_p o a n1 c hq z w.heap.size w1 (by rw [b1.cell (by simp)]; exact one_cell w _ _)))
  obtain ⟨a, c, rfl⟩ := rowM_form hM
  unfold findZ
  generalize placeZ (firstO (idM z) l) = Z at *
  clear hM hOk hs
  have BA := hide bA
  clear bA
  go_enter Try.func26, Try.ntmps26
  go_wp2_with fail
  refine H.out.mono ?_
  rintro e w1 ⟨rfl, b1⟩
  go_wp2
  go_ret
  exact ⟨rfl, BA.out.trans (b1.mono BA.out.size)⟩
end Go.Proofs.Ytihpjalbdkiecaa
