/- What the document's own texts, Small and Texts answer; nothing that was there is written. -/
import Derived.Test.YthopnliaikkhbaaGreatDoorRb11
set_option linter.unusedVariables false
set_option linter.unusedSimpArgs false
set_option maxRecDepth 4000
namespace Go.Proofs.YthopnliaikkhbaaGreatDoor
open Go.RowKit

/-- Is a list such as may be asked about? -/
def textsL (l : List Bs) : Bool := decide (l.length ≤ 60) && l.all fun x => decide (x.length ≤ 60)
def smallP (p : PO) : Bool := decide (p.ru.length ≤ 60) && textsL p.li && textsL p.sc && textsL p.dr && p.ru.all fun r => decide (r.nm.length ≤ 60) && textsL r.at_
theorem all_stepT (l : List Bs) (k : Nat) (h : k < l.length) : ((l.drop k).all fun x => decide (x.length ≤ 60)) = (decide (l[k].length ≤ 60) && (l.drop (k + 1)).all fun x => decide (x.length ≤ 60)) := by
  rw [List.drop_eq_getElem_cons h]; rfl
set_option maxHeartbeats 1000000 in
theorem rtexts_any (l : List Bs) (hl : l.length ≤ 9223372036854775807) (v : Value) (w : World) (hW : IsW w v l) :
    Calls Tryz.prog 21 #[v] w fun e w' => e = .returned (.bool (textsL l)) ∧ w' = w := by
  obtain ⟨a, c, rfl⟩ := hW.form
  have HC : Hid (∀ k (hk : k < l.length), ∃ b o, a = some ⟨b, o, none⟩ ∧ w.cell? ⟨b, o + k, none⟩ = some (.string ⟨(l[k]).toArray⟩)) := hide (fun k hk => by
    rcases hW with ⟨rfl, _⟩ | ⟨b, o, cap, e, hcc⟩
    · simp at hk
    · injection e with e1
      exact ⟨b, o, e1, hcc k hk⟩)
  clear hW
  unfold textsL
  by_cases h60 : l.length ≤ 60
  · have h60i : ¬ (60 : Int) < l.length := by omega
    rw [decide_eq_true h60, Bool.true_and]
    generalize hV : (l.all fun x => decide (x.length ≤ 60)) = V
    have HV := hide hV
    clear hV
    go_enter Tryz.func21, Tryz.ntmps21
    go_wp2
    go_loop [3] (fun i => ∃ k : Nat, k ≤ l.length ∧ i = .int .i64 k ∧ Hid (((l.drop k).all fun x => decide (x.length ≤ 60)) = V)) (fun i => l.length - (intOf i).toNat)
    case atStart => exact ⟨0, Nat.zero_le _, rfl, hide (by rw [List.drop_zero]; exact HV.out)⟩
    case round =>
      obtain ⟨k, hk, rfl, HR⟩ := hrel
      by_cases hlt : k < l.length
      · have hlt2 : (k : Int) < l.length := by omega
        obtain ⟨b, o, rfl, hcell⟩ := HC.out k hlt
        have hst := all_stepT l k hlt
        rw [HR.out] at hst
        have hz : (⟨(l[k]).toArray⟩ : ByteArray).size = l[k].length := by rw [size_list, str_data]
        by_cases hx : l[k].length ≤ 60
        · rw [decide_eq_true hx, Bool.true_and] at hst
          have HR2 := hide hst.symm
          rw [← hz] at hx
          clear hst HR hz
          generalize (⟨(l[k]).toArray⟩ : ByteArray) = y at *
          have hxi : ¬ (60 : Int) < y.size := by omega
          clear hx
          go_wp2
          go_round
          case rel => exact ⟨k + 1, by omega, by go_num, HR2⟩
          case measure => simp [intOf]; omega
        · rw [decide_eq_false hx, Bool.false_and] at hst
          have HR2 := hide hst
          rw [← hz] at hx
          clear hst HR hz
          generalize (⟨(l[k]).toArray⟩ : ByteArray) = y at *
          have hxi : (60 : Int) < y.size := by omega
          clear hx
          go_wp2
          go_ret
          exact ⟨ret_bool HR2.out.symm, rfl⟩
      · have hlt2 : ¬ (k : Int) < l.length := by omega
        have hst := HR.out
        rw [List.drop_eq_nil_of_le (by omega)] at hst
        have HR2 := hide hst
        clear hst HR hlt
        go_wp2
        go_ret
        exact ⟨ret_bool HR2.out, rfl⟩
  · have h60i : (60 : Int) < l.length := by omega
    rw [decide_eq_false h60, Bool.false_and]
    clear h60
    go_enter Tryz.func21, Tryz.ntmps21
    go_wp2
    go_ret
    exact ⟨rfl, rfl⟩
def textsEq (a b : List Bs) : Bool := a == b
theorem eq_step (a b : List Bs) (k : Nat) (ha : k < a.length) (hb : k < b.length) : (a.drop k == b.drop k) = (a[k] == b[k] && a.drop (k + 1) == b.drop (k + 1)) := by
  rw [List.drop_eq_getElem_cons ha, List.drop_eq_getElem_cons hb]; rfl
set_option maxHeartbeats 1000000 in
theorem rTexts_any (l m : List Bs) (hl : l.length ≤ 9223372036854775807) (hm : m.length ≤ 9223372036854775807) (v u : Value) (w : World) (hW : IsW w v l) (hU : IsW w u m) :
    Calls Tryz.prog 20 #[v, u] w fun e w' => e = .returned (.bool (l == m)) ∧ Below w.heap.size w w' := by
  obtain ⟨a, c, rfl⟩ := hW.form
  obtain ⟨a2, c2, rfl⟩ := hU.form
  have HC := hide (fun k x (hk : l[k]? = some x) => hW.at_ k x hk)
  have HD := hide (fun k x (hk : m[k]? = some x) => hU.at_ k x hk)
  clear hW hU
  by_cases hle : l.length = m.length
  · generalize hV : (l == m) = V
    have HV := hide hV
    have HST := hide (fun k ha hb => eq_step l m k ha hb)
    have HEN : Hid (∀ k, l.length ≤ k → (l.drop k == m.drop k) = true) := hide (fun k hk => by rw [List.drop_eq_nil_of_le hk, List.drop_eq_nil_of_le (by omega)]; rfl)
    obtain ⟨N, hN⟩ : ∃ N, l.length = N := ⟨_, rfl⟩
    have hM : m.length = N := by omega
    rw [hN] at hl
    have HN := hide hN
    have HM := hide hM
    rw [hN, hM]
    clear hV hN hM hle hm
    go_enter Tryz.func20, Tryz.ntmps20
    go_wp2
    go_loopw [5] (fun i wr => ∃ k : Nat, k ≤ N ∧ i = .int .i64 k ∧ Hid ((l.drop k == m.drop k) = V) ∧ Hid (Below w.heap.size w wr)) (fun i _ => N - (intOf i).toNat)
    case atStart => exact ⟨0, Nat.zero_le _, rfl, hide (by rw [List.drop_zero, List.drop_zero]; exact HV.out), hide (Below.refl _ w)⟩
    case round =>
      obtain ⟨k, hk, rfl, HR, HB⟩ := hrel
      by_cases hlt : k < N
      · have hlt2 : (k : Int) < N := by omega
        have hkl : k < l.length := by rw [HN.out]; exact hlt
        have hkm : k < m.length := by rw [HM.out]; exact hlt
        have hst := HST.out k hkl hkm
        rw [HR.out] at hst
        obtain ⟨b, o, rfl, q1⟩ := HC.out k _ (List.getElem?_eq_getElem hkl)
        obtain ⟨b2, o2, rfl, q2⟩ := HD.out k _ (List.getElem?_eq_getElem hkm)
        have d1 := q1 _ HB.out
        have d2 := q2 _ HB.out
        have he := two_eq l[k] ⟨(m[k]).toArray⟩
        rw [str_data] at he
        have HB2 := hide HB.out.drew
        generalize (l[k] == m[k]) = E at *
        generalize (⟨(l[k]).toArray⟩ : ByteArray) = y at *
        generalize (⟨(m[k]).toArray⟩ : ByteArray) = z at *
        clear q1 q2
        cases E
        · have HR2 : Hid (V = false) := hide (by rw [hst]; rfl)
          have hne : (y.toList != z.toList) = true := by rw [bne, he]; rfl
          clear hst HR hkl hkm
          go_wp2_with fail
          go_region
          all_goals go_wp2
          all_goals go_ret
          all_goals exact ⟨ret_bool HR2.out.symm, HB2.out⟩
        · have HR2 : Hid ((l.drop (k + 1) == m.drop (k + 1)) = V) := hide (by rw [hst]; rfl)
          have hne : (y.toList != z.toList) = false := by rw [bne, he]; rfl
          clear hst HR hkl hkm
          go_wp2_with fail
          go_region
          all_goals go_wp2
          go_roundw
          case rel => exact ⟨k + 1, by omega, by go_num, HR2, HB2⟩
          case measure => simp [intOf]; omega
      · have hlt2 : ¬ (k : Int) < N := by omega
        have hst := HEN.out k (by rw [HN.out]; omega)
        rw [HR.out] at hst
        have HR2 := hide hst
        clear hst HR hlt
        go_wp2
        go_ret
        exact ⟨ret_bool HR2.out.symm, HB.out⟩
  · have hf : (l == m) = false := by
      rw [beq_eq_false_iff_ne]
      intro e
      exact hle (by rw [e])
    rw [hf]
    have hne : ((l.length : Int) != (m.length : Int)) = true := by rw [bne_iff_ne]; omega
    clear HC HD
    generalize l.length = N at *
    generalize m.length = M at *
    clear hle hf
    go_enter Tryz.func20, Tryz.ntmps20
    go_wp2
    go_ret
    exact ⟨rfl, Below.refl _ _⟩
end Go.Proofs.YthopnliaikkhbaaGreatDoor
