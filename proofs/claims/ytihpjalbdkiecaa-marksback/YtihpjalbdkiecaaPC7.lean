/- What slices.Clone, slices.Equal and slices.Compact of attributes, distinct and Alike answer; nothing that was there is written. -/
import Derived.Test.YtihpjalbdkiecaaPS7
import Derived.Test.YtihpjalbdkiecaaRB7
import Derived.Lib.SliceRun
set_option linter.unusedVariables false
set_option linter.unusedSimpArgs false
namespace Go.Proofs.Ytihpjalbdkiecaa
open Go.RowKit Go.Sort

def attrCells : AttrL → List Value
  | [] => []
  | x :: r => encA x ++ attrCells r
theorem attrCells_len : ∀ l : AttrL, (attrCells l).length = l.length * 2
  | [] => rfl
  | p :: r => by
    simp only [attrCells, encA, List.length_append, List.length_cons, List.length_nil, attrCells_len r]
    omega
theorem attrCells_get : ∀ (l : AttrL) (j : Nat) (hj : j < l.length) (o : Nat) (ho : o < 2), (attrCells l)[j * 2 + o]? = (encA l[j])[o]?
  | p :: r, 0, _, o, ho => by
    simp only [attrCells, Nat.zero_mul, Nat.zero_add, List.getElem_cons_zero]
    rw [List.getElem?_append_left (by simpa [encA] using ho)]
  | p :: r, j + 1, hj, o, ho => by
    have h := attrCells_get r j (by simpa using hj) o ho
    simp only [attrCells, List.getElem_cons_succ]
    rw [List.getElem?_append_right (by simp [encA]; omega), show (j + 1) * 2 + o - (encA p).length = j * 2 + o by simp [encA]; omega]
    exact h
theorem attrCells_1c : ∀ (l : AttrL), ∀ u ∈ attrCells l, u.oneCell' = true
  | [], u, hu => by simp [attrCells] at hu
  | p :: r, u, hu => by
    rcases List.mem_append.1 hu with hu | hu
    · simp only [encA, List.mem_cons, List.not_mem_nil, or_false] at hu
      rcases hu with rfl | rfl <;> rfl
    · exact attrCells_1c r u hu
theorem q_cells {w : World} {a : Option Addr} {n c : Nat} {l : AttrL} (h : IsQ w (.slice a n c) l) (h0 : 0 < l.length) : ∃ b o, a = some ⟨b, o, none⟩ ∧ ∀ j u, (attrCells l)[j]? = some u → w.cell? ⟨b, o + j, none⟩ = some u := by
  obtain ⟨b, o, rfl, -⟩ := h.get 0 h0
  refine ⟨b, o, rfl, fun j u hu => ?_⟩
  have hj : j < (attrCells l).length := (List.getElem?_eq_some_iff.1 hu).1
  rw [attrCells_len] at hj
  have hq : j / 2 < l.length := by omega
  have hgt := attrCells_get l (j / 2) hq (j % 2) (by omega)
  rw [show j / 2 * 2 + j % 2 = j by omega, hu] at hgt
  obtain ⟨b', o', e, c0, c1⟩ := h.get (j / 2) hq
  simp only [Option.some.injEq, Addr.mk.injEq, and_true] at e
  obtain ⟨rfl, rfl⟩ := e
  rcases (by omega : j % 2 = 0 ∨ j % 2 = 1) with h | h
  · rw [h] at hgt
    rw [show o + j = o + j / 2 * 2 by omega, c0, hgt]; rfl
  · rw [h] at hgt
    rw [show o + j = o + j / 2 * 2 + 1 by omega, c1, hgt]; rfl
theorem owns_rowA {w : World} {B : Nat} {v : Value} {l : AttrL} (h : w.ownsRow B 43 2 v l.length (attrCells l)) (h0 : 0 < l.length) : ∃ g c, v = .slice (some ⟨g, 0, none⟩) l.length c ∧ l.length ≤ c ∧ B ≤ g ∧ g < w.heap.size ∧ RowA w g l := by
  rcases h.2 with ⟨rfl, h1⟩ | ⟨g, cap, cur, rfl, hbg, hg, hnc, hcm, hcs, htake⟩
  · omega
  · refine ⟨g, cap, rfl, hnc, hbg, (Array.getElem?_eq_some_iff.1 hg).1, fun j hj => ?_⟩
    have hc : ∀ i, i < 2 → ∀ u, (encA l[j])[i]? = some u → w.cell? ⟨g, j * 2 + i, none⟩ = some u := by
      intro i hi u hu
      have hr := attrCells_get l j hj i hi
      rw [hu] at hr
      have hc := h.cells (g := g) rfl _ _ hr
      rw [addr_add, Nat.zero_add] at hc
      exact hc
    have hf : ∀ k, w.frozen? ⟨g, k, none⟩ = false := fun k => by
      unfold World.frozen?
      simp [hg]
    exact ⟨⟨hc 0 (by omega) _ rfl, hc 1 (by omega) _ rfl⟩, hf _, hf _⟩

set_option maxHeartbeats 1000000 in
theorem clone_p (v : Value) (l : AttrL) (hl : l.length ≤ 100000) (w : World) (hQ : IsQ w v l) :
    Calls Try.prog 47 #[v] w fun e w' => (∃ a c, e = .returned (.slice a l.length c) ∧ (0 < l.length → ∃ g, a = some ⟨g, 0, none⟩ ∧ l.length ≤ c ∧ w.heap.size ≤ g ∧ g < w'.heap.size ∧ RowA w' g l)) ∧ Below w.heap.size w w' := by
  obtain ⟨a, c, rfl⟩ := isQ_form hQ
  cases a with
  | none =>
    have h0 : l.length = 0 := by
      rcases Nat.eq_zero_or_pos l.length with h | h
      · exact h
      · obtain ⟨b, o, e, -⟩ := hQ.get 0 h
        cases e
    rw [h0]
    have hE := fun w => Lib.run_eql_slice_nil (P := Try.prog) w 22 43 none 0 c 0 0 Try.underlying22
    simp only [Option.isNone_none] at hE
    clear hQ
    go_enter Try.func47, Try.ntmps47
    go_wp2
    go_ret
    exact ⟨⟨_, _, rfl, fun h => by omega⟩, Below.refl _ _⟩
  | some x =>
    have b1 := below_alloc w (.cells #[] 43)
    have hown : (w.alloc (.cells #[] 43)).ownsRow w.heap.size 43 2 (.slice (some ⟨w.heap.size, 0, none⟩) 0 0) 0 [] := World.ownsRow_made w #[] 0 (Nat.le_refl _) (by unfold maxLen; omega) (by simp)
    obtain ⟨v', w2, hr, hN, hb⟩ : ∃ v' w', (Builtin.append_ #[22, 22] 22 #[.slice (some ⟨w.heap.size, 0, none⟩) 0 0, .slice (some x) l.length c]).run Try.prog (w.alloc (.cells #[] 43)) = .ok v' w' ∧ (∃ a c, v' = .slice a l.length c ∧ (0 < l.length → ∃ g, a = some ⟨g, 0, none⟩ ∧ l.length ≤ c ∧ w.heap.size ≤ g ∧ g < w'.heap.size ∧ RowA w' g l)) ∧ Below w.heap.size w w' := by
      by_cases h0 : l.length = 0
      · obtain rfl := List.eq_nil_of_length_eq_zero h0
        have hr := run_append_room_src (P := Try.prog) (w.alloc (.cells #[] 43)) 22 22 22 43 Try.t43 Try.underlying22 (by kernel_rfl) w.heap.size 0 0 0 (.slice (some x) 0 c) 0 [] (Src.ofSlice _ Try.underlying22 x 0 c [] (by simp) (by simp) (by simp)) (by omega) (by simp) (by simp)
        exact ⟨_, _, hr, ⟨_, _, rfl, fun h => by simp at h⟩, b1⟩
      · obtain ⟨b, o, e, hcs⟩ := q_cells (hQ.below b1) (by omega)
        obtain rfl : x = ⟨b, o, none⟩ := by simpa using e
        obtain ⟨v', w', hr, ho, hg, _⟩ := run_append_own (P := Try.prog) (w.alloc (.cells #[] 43)) w.heap.size 22 22 43 Try.t43 _ 2 32 Try.underlying22 (by kernel_rfl) rfl (by kernel_rfl) (by kernel_rfl) (by kernel_rfl) (by omega)
          (.slice (some ⟨w.heap.size, 0, none⟩) 0 0) 0 [] hown ⟨b, o, none⟩ l.length c (attrCells l) (attrCells_len l) (fun j u hu => by rw [addr_add]; exact hcs j u hu) (attrCells_1c l) (by unfold maxLen; omega) (by omega) b1.size
        rw [Nat.zero_add] at ho
        obtain ⟨g, c', rfl, h1, h2, h3, h4⟩ := owns_rowA ho (by omega)
        exact ⟨_, w', hr, ⟨_, _, rfl, fun _ => ⟨g, rfl, h1, h2, h3, h4⟩⟩, b1.grown hg b1.size (owns_own hown)⟩
    obtain ⟨a4, c4, rfl, h4⟩ := hN
    have HN := hide h4
    have HR := hide hr
    have BB := hide hb
    clear hQ b1 hown hr hb h4
    generalize l.length = N at *
    have hE := fun w => Lib.run_eql_slice_nil (P := Try.prog) w 22 43 (some x) N c 0 0 Try.underlying22
    simp only [Option.isNone_some] at hE
    go_enter Try.func47, Try.ntmps47
    go_wp2_with (with_reducible refine wpList_append_run rfl _ _ 22 rfl (.slice (some ⟨w.heap.size, 0, none⟩) 0 0) (.slice (some x) N c) _ w2 rfl rfl HR.out ?_)
    go_ret
    exact ⟨⟨_, _, rfl, HN.out⟩, BB.out⟩

theorem drop_eq_step (l r : AttrL) (k : Nat) (h1 : k < l.length) (h2 : k < r.length) : decide (l.drop k = r.drop k) = ((l[k].1 == r[k].1 && l[k].2 == r[k].2) && decide (l.drop (k + 1) = r.drop (k + 1))) := by
  have e0 : (l[k].1 == r[k].1 && l[k].2 == r[k].2) = decide (l[k] = r[k]) := by
    by_cases e : l[k] = r[k]
    · rw [decide_eq_true e, e]; simp
    · rw [decide_eq_false e, ← Bool.not_eq_true, Bool.and_eq_true, beq_iff_eq, beq_iff_eq]
      exact fun h => e (Prod.ext h.1 h.2)
  rw [e0, List.drop_eq_getElem_cons h1, List.drop_eq_getElem_cons h2]
  rw [decide_eq_decide.2 (show (l[k] :: l.drop (k + 1) = r[k] :: r.drop (k + 1)) ↔ (l[k] = r[k] ∧ l.drop (k + 1) = r.drop (k + 1)) from ⟨fun h => by injection h with h1 h2; exact ⟨h1, h2⟩, fun h => by rw [h.1, h.2]⟩), Bool.decide_and]

set_option maxHeartbeats 1000000 in
theorem equal_p (va vb : Value) (l r : AttrL) (hl : l.length ≤ 1000000) (hr : r.length ≤ 1000000) (w : World) (hA : IsQ w va l) (hB : IsQ w vb r) :
    Calls Try.prog 30 #[va, vb] w fun e w' => e = .returned (.bool (decide (l = r))) ∧ Below w.heap.size w w' := by
  obtain ⟨a1, c1, rfl⟩ := isQ_form hA
  obtain ⟨a2, c2, rfl⟩ := isQ_form hB
  by_cases hlr : l.length = r.length
  · generalize hV : decide (l = r) = V
    have HV := hide hV
    have HA := hide hA
    have HB := hide hB
    have HE := hide (fun k (h1 : k < l.length) (h2 : k < r.length) => drop_eq_step l r k h1 h2)
    have HS := hide (fun k (h1 : k < l.length) (h2 : k < r.length) => And.intro (str_beq l[k].1 r[k].1) (str_beq l[k].2 r[k].2))
    clear hV hA hB
    rw [hlr] at HA ⊢
    obtain ⟨N, hN⟩ : ∃ N, N = r.length := ⟨_, rfl⟩
    rw [← hN] at HA HB hr ⊢
    have HNL : Hid (N = l.length) := hide (by rw [hlr, hN])
    have HNR := hide hN
    clear hN hlr hl
    go_enter Try.func30, Try.ntmps30
    go_wp2
    go_loopw [13] (fun i wr => ∃ k : Nat, k ≤ N ∧ i = .int .i64 k ∧ Hid (Below w.heap.size w wr) ∧ Hid (decide (l.drop k = r.drop k) = V)) (fun i _ => N - (intOf i).toNat)
    case atStart => exact ⟨0, Nat.zero_le _, rfl, hide (Below.refl _ _), hide (by rw [List.drop_zero, List.drop_zero]; exact HV.out)⟩
    case round =>
      obtain ⟨k, hk, rfl, BW, HR⟩ := hrel
      by_cases hltN : k < N
      · have h1 : k < l.length := by rw [← HNL.out]; exact hltN
        have h2 : k < r.length := by rw [← HNR.out]; exact hltN
        obtain ⟨b, o, rfl, x0, x1⟩ := (HA.out.below BW.out).get k h1
        obtain ⟨b', o', rfl, y0, y1⟩ := (HB.out.below BW.out).get k h2
        obtain ⟨s1, s2⟩ := HS.out k h1 h2
        have hst := HE.out k h1 h2
        rw [HR.out] at hst
        generalize (⟨l[k].1.toArray⟩ : ByteArray) = X at *
        generalize (⟨l[k].2.toArray⟩ : ByteArray) = Y at *
        generalize (⟨r[k].1.toArray⟩ : ByteArray) = P at *
        generalize (⟨r[k].2.toArray⟩ : ByteArray) = Q at *
        rw [← s1, ← s2] at hst
        have hlt2 : (k : Int) < N := by omega
        clear h1 h2 hltN s1 s2 HR
        by_cases e1 : (X.toList == P.toList) = true
        · by_cases e2 : (Y.toList == Q.toList) = true
          · have HR2 : Hid (decide (l.drop (k + 1) = r.drop (k + 1)) = V) := hide (by rw [hst, e1, e2]; rfl)
            clear hst
            go_wp2_with fail
            go_region
            all_goals (try go_wp2)
            all_goals go_roundw
            case rel => exact ⟨k + 1, by omega, by go_num, hide BW.out.drew, HR2⟩
            case measure => simp [intOf]; omega
          · have e2 := Bool.eq_false_iff.2 e2
            have HR2 : Hid (V = false) := hide (by rw [hst, e1, e2]; rfl)
            clear hst
            go_wp2_with fail
            go_region
            all_goals (try go_wp2)
            all_goals go_ret
            all_goals exact ⟨ret_bool HR2.out.symm, BW.out.drew⟩
        · have e1 := Bool.eq_false_iff.2 e1
          have HR2 : Hid (V = false) := hide (by rw [hst, e1]; rfl)
          clear hst
          go_wp2_with fail
          go_region
          all_goals (try go_wp2)
          all_goals go_ret
          all_goals exact ⟨ret_bool HR2.out.symm, BW.out.drew⟩
      · have HV2 : Hid (V = true) := hide (by
          rw [← HR.out, List.drop_eq_nil_of_le (by rw [← HNL.out]; omega), List.drop_eq_nil_of_le (by rw [← HNR.out]; omega)]
          exact decide_eq_true rfl)
        have hlt2 : ¬ (k : Int) < N := by omega
        clear hltN HR
        go_wp2
        go_ret
        exact ⟨ret_bool HV2.out.symm, BW.out⟩
  · rw [decide_eq_false (fun h => hlr (by rw [h]))]
    have h2 : ¬ (l.length : Int) = r.length := by omega
    have h3 := ne_int _ _ h2
    clear hA hB
    generalize l.length = N at *
    generalize r.length = M at *
    go_enter Try.func30, Try.ntmps30
    go_wp2
    go_ret
    exact ⟨rfl, Below.refl _ _⟩
end Go.Proofs.Ytihpjalbdkiecaa
