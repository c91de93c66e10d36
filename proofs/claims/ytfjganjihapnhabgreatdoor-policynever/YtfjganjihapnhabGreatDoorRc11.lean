/- What the document's own texts, Small and Texts answer; nothing that was there is written. -/
import Derived.Test.YtfjganjihapnhabGreatDoorRb11
set_option linter.unusedVariables false
set_option linter.unusedSimpArgs false
set_option maxRecDepth 4000
namespace Go.Proofs.YtfjganjihapnhabGreatDoor
open Go.RowKit

/-- Is a list such as may be asked about? -/
def textsL (l : List Bs) : Bool := decide (l.length ≤ 60) && l.all fun x => decide (x.length ≤ 60)
def smallP (p : PO) : Bool := decide (p.ru.length ≤ 60) && textsL p.li && textsL p.sc && textsL p.dr && p.ru.all fun r => decide (r.nm.length ≤ 60) && textsL r.at_
theorem all_stepT (l : List Bs) (k : Nat) (h : k < l.length) : ((l.drop k).all fun x => decide (x.length ≤ 60)) = (decide (l[k].length ≤ 60) && (l.drop (k + 1)).all fun x => decide (x.length ≤ 60)) := by
  rw [List.drop_eq_getElem_cons h]; rfl
set_option maxHeartbeats 1000000 in
theorem rtexts_any (l : List Bs) (hl : l.length ≤ 9223372036854775807) (v : Value) (w : World) (hW : IsW w v l) :
    Calls Tryz.prog 14 #[v] w fun e w' => e = .returned (.bool (textsL l)) ∧ w' = w := by
  obtain ⟨a, c, rfl⟩ := hW.form
  have HC : Hid (∀ k (hk : k < l.length), ∃ b o, a = some ⟨b, o, none⟩ ∧ w.cell? ⟨b, o + k, none⟩ = some (.string ⟨(l[k]).toArray⟩)) := hide (fun k hk => by
    rcases hW with ⟨rfl, _⟩ | ⟨b, o, cap, e, hcc⟩
    · simp at hk
    · injection e with e1
      exact ⟨b, o, e1, hcc k hk⟩)
  clear hW
  unfold textsL
  by_cases h60 : l.length ≤ 60
  · have h60i : ¬ (60 : Int) < l.length := by omega
    rw [decide_eq_true h60, Bool.true_and]
    generalize hV : (l.all fun x => decide (x.length ≤ 60)) = V
    have HV := hide hV
    clear hV
    go_enter Tryz.func14, Tryz.ntmps14
    go_wp2
    go_loop [3] (fun i => ∃ k : Nat, k ≤ l.length ∧ i = .int .i64 k ∧ Hid (((l.drop k).all fun x => decide (x.length ≤ 60)) = V)) (fun i => l.length - (intOf i).toNat)
    case atStart => exact ⟨0, Nat.zero_le _, rfl, hide (by rw [List.drop_zero]; exact HV.out)⟩
    case round =>
      obtain ⟨k, hk, rfl, HR⟩ := hrel
      by_cases hlt : k < l.length
      · have hlt2 : (k : Int) < l.length := by omega
        obtain ⟨b, o, rfl, hcell⟩ := HC.out k hlt
        have hst := all_stepT l k hlt
        rw [HR.out] at hst
        have hz : (⟨(l[k]).toArray⟩ : ByteArray).size = l[k].length := by rw [size_list, str_data]
        by_cases hx : l[k].length ≤ 60
        · rw [decide_eq_true hx, Bool.true_and] at hst
          have HR2 := hide hst.symm
          rw [← hz] at hx
          clear hst HR hz
          generalize (⟨(l[k]).toArray⟩ : ByteArray) = y at *
          have hxi : ¬ (60 : Int) < y.size := by omega
          clear hx
          go_wp2
          go_round
          case rel => exact ⟨k + 1, by omega, by go_num, HR2⟩
          case measure => simp [intOf]; omega
        · rw [decide_eq_false hx, Bool.false_and] at hst
          have HR2 := hide hst
          rw [← hz] at hx
          clear hst HR hz
          generalize (⟨(l[k]).toArray⟩ : ByteArray) = y at *
          have hxi : (60 : Int) < y.size := by omega
          clear hx
          go_wp2
          go_ret
          exact ⟨ret_bool HR2.out.symm, rfl⟩
      · have hlt2 : ¬ (k : Int) < l.length := by omega
        have hst := HR.out
        rw [List.drop_eq_nil_of_le (by omega)] at hst
        have HR2 := hide hst
        clear hst HR hlt
        go_wp2
        go_ret
        exact ⟨ret_bool HR2.out, rfl⟩
  · have h60i : (60 : Int) < l.length := by omega
    rw [decide_eq_false h60, Bool.false_and]
    clear h60
    go_enter Tryz.func14, Tryz.ntmps14
    go_wp2
    go_ret
    exact ⟨rfl, rfl⟩
def textsEq (a b : List Bs) : Bool := a == b
theorem eq_step (a b : List Bs) (k : Nat) (ha : k < a.length) (hb : k < b.length) : (a.drop k == b.drop k) = (a[k] == b[k] && a.drop (k + 1) == b.drop (k + 1)) := by
  rw [List.drop_eq_getElem_cons ha, List.drop_eq_getElem_cons hb]; rfl
end Go.Proofs.YtfjganjihapnhabGreatDoor
