/- What the document's own Check answers; nothing that was there is written. -/
import Derived.Test.YthopnliaikkhbaaGreatDoorRd11
set_option linter.unusedVariables false
set_option linter.unusedSimpArgs false
set_option maxRecDepth 4000
namespace Go.Proofs.YthopnliaikkhbaaGreatDoor
open Go.RowKit

theorem any_stepR (l : List RV) (k : Nat) (r : RV) (h : l[k]? = some r) : ((l.drop k).any fun r => decide (20 < r.at_.length)) = (decide (20 < r.at_.length) || (l.drop (k + 1)).any fun r => decide (20 < r.at_.length)) := by
  obtain ⟨hlt, rfl⟩ := List.getElem?_eq_some_iff.1 h
  rw [List.drop_eq_getElem_cons hlt]; rfl
theorem rules_step (dr : List Bs) (rs : List RV) (k : Nat) (r : RV) (h : rs[k]? = some r) : rulesK dr ((nsL rs).take k) ((rs.map RV.ru).drop k) = (!amongL (((nsL rs).take k).drop 0) r.nm.data.toList && (ruleL r.ru && !amongL dr r.nm.data.toList && rulesK dr ((nsL rs).take (k + 1)) ((rs.map RV.ru).drop (k + 1)))) := by
  obtain ⟨hlt, rfl⟩ := List.getElem?_eq_some_iff.1 h
  have h1 : k < (rs.map RV.ru).length := by rw [List.length_map]; exact hlt
  have h2 : k < (nsL rs).length := by unfold nsL; rw [List.length_map]; exact hlt
  rw [List.drop_eq_getElem_cons h1, rulesK, List.drop_zero, List.getElem_map]
  have e : (nsL rs).take (k + 1) = (nsL rs).take k ++ [rs[k].nm.data.toList] := by
    rw [List.take_add_one, List.getElem?_eq_getElem h2]
    simp [nsL]
  rw [e]
  show (!amongL ((nsL rs).take k) rs[k].nm.data.toList && ruleL rs[k].ru && !amongL dr rs[k].nm.data.toList && _) = _
  simp only [Bool.and_assoc]
  rfl
theorem rules_end (dr : List Bs) (rs : List RV) (k : Nat) (h : rs.length ≤ k) : rulesK dr ((nsL rs).take k) ((rs.map RV.ru).drop k) = true := by
  rw [List.drop_eq_nil_of_le (by rw [List.length_map]; exact h), rulesK]
theorem before_step (rs : List RV) (k j : Nat) (r : RV) (x : Bs) (hj : j < k) (hk : k ≤ rs.length) (h : rs[j]? = some r) : amongL (((nsL rs).take k).drop j) x = (r.nm.data.toList == x || amongL (((nsL rs).take k).drop (j + 1)) x) := by
  obtain ⟨hlt, rfl⟩ := List.getElem?_eq_some_iff.1 h
  have h2 : j < ((nsL rs).take k).length := by unfold nsL; rw [List.length_take, List.length_map]; omega
  rw [among_step2 _ x j h2]
  simp [nsL]
theorem before_end (rs : List RV) (k j : Nat) (x : Bs) (hj : k ≤ j) : amongL (((nsL rs).take k).drop j) x = false := by
  rw [List.drop_eq_nil_of_le (by rw [List.length_take]; omega)]
  rfl
theorem ok_po (p : PV) : okP p.po = ((decide (1 ≤ p.de) && decide (p.de ≤ 60) && namesL p.li && namesL p.sc && namesL p.dr) && rulesK p.dr ((nsL p.rs).take 0) ((p.rs.map RV.ru).drop 0) && !(amongL p.sc dataN || amongL p.sc jsN || amongL p.sc vbN)) := rfl
end Go.Proofs.YthopnliaikkhbaaGreatDoor
