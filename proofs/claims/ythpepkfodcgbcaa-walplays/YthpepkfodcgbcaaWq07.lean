import Derived.Test.YthpepkfodcgbcaaWq06
import Derived.Laws.BytesArg
import Derived.Deep.RegionHeld2
/- What the document's Same answers of two cells. -/
set_option linter.unusedVariables false
set_option linter.unusedSimpArgs false
set_option maxRecDepth 40000
namespace Go.Proofs.Ythpepkfodcgbcaa
open Go.RowKit

theorem conv_zeroC (w : World) (a : Option Addr) (c : Nat) : (convert 43 9 (.slice a 0 c)).run Try.prog w = .ok (.string ⟨#[]⟩) w := by
  cases a with
  | none => exact run_convert_bytes_nil _ 43 5 Try.underlying43 Try.underlying5 0 c 9 Try.underlying9
  | some x => exact run_convert_bytes_back w 43 9 5 x c [] Try.underlying43 Try.underlying5 Try.underlying9 (fun j hj => absurd hj (Nat.not_lt_zero j))
theorem conv_isYC {w : World} {v : Value} {l : Bs} (h : IsY w v l) : (convert 43 9 v).run Try.prog w = .ok (.string ⟨l.toArray⟩) w := by
  rcases h with ⟨rfl, a, c, rfl⟩ | ⟨b, o, cap, rfl, _, hc⟩
  · exact conv_zeroC w a c
  · exact run_convert_bytes_back w 43 9 5 ⟨b, o, none⟩ cap l Try.underlying43 Try.underlying5 Try.underlying9 (fun j hj => by rw [addr_addo]; exact hc j hj)
set_option maxHeartbeats 4000000 in
theorem rsame_any (a b : CL) (av bv : Value) (w : World) (hA : IsC w a av) (hB : IsC w b bv) : Calls Try.prog 81 #[clA a av, clA b bv] w fun e w' => e = .returned (.bool (sameC a b)) ∧ Below w.heap.size w w' := by
  have BB := hide (fun o1 o2 => below_two w o1 o2)
  have hca : ∀ o1 o2, (convert 43 9 av).run Try.prog ((w.alloc o1).alloc o2) = .ok (.string ⟨a.data.toArray⟩) ((w.alloc o1).alloc o2) := fun o1 o2 => conv_isYC (hA.d.below (below_two w o1 o2))
  have hcb : ∀ o1 o2, (convert 43 9 bv).run Try.prog ((w.alloc o1).alloc o2) = .ok (.string ⟨b.data.toArray⟩) ((w.alloc o1).alloc o2) := fun o1 o2 => conv_isYC (hB.d.below (below_two w o1 o2))
  obtain ⟨aa, ac, rfl⟩ := hA.d.form
  obtain ⟨ba, bc, rfl⟩ := hB.d.form
  clear hA hB
  obtain ⟨e1, l1, p1, o1, d1⟩ := a
  obtain ⟨e2, l2, p2, o2, d2⟩ := b
  unfold sameC
  simp only [] at *
  by_cases h5 : d1 = d2
  · subst h5
    rw [decide_eq_true (rfl : d1 = d1), Bool.and_true]
    generalize hs : (⟨d1.toArray⟩ : ByteArray) = S at *
    clear hs
    generalize d1.length = m at *
    by_cases he : e1 = e2
    · subst he
      rw [decide_eq_true (rfl : e1 = e1), Bool.true_and]
      by_cases hl : l1 = l2
      · subst hl
        rw [decide_eq_true (rfl : l1 = l1), Bool.true_and]
        by_cases hp : p1 = p2
        · subst hp
          rw [decide_eq_true (rfl : p1 = p1), Bool.true_and]
          by_cases ho : o1 = o2
          · subst ho
            rw [decide_eq_true (rfl : o1 = o1)]
            go_enter Try.func81, Try.ntmps81
            go_wp2
            go_ret
            exact ⟨by first | rfl | exact congrArg (fun k => Ending.returned (.bool k)) hsn, BB.out _ _⟩
          · have ho2 : (o1 == o2) = false := by rw [beq_eq_false_iff_ne]; omega
            have ho3 : ¬ o1 = o2 := by omega
            rw [decide_eq_false ho]
            clear ho
            go_enter Try.func81, Try.ntmps81
            go_wp2
            go_ret
            exact ⟨by first | rfl | exact congrArg (fun k => Ending.returned (.bool k)) hsn, BB.out _ _⟩
        · have hp2 : (p1 == p2) = false := by rw [beq_eq_false_iff_ne]; omega
          have hp3 : ¬ p1 = p2 := by omega
          rw [decide_eq_false hp, Bool.false_and]
          clear hp
          go_enter Try.func81, Try.ntmps81
          go_wp2
          go_ret
          exact ⟨by first | rfl | exact congrArg (fun k => Ending.returned (.bool k)) hsn, BB.out _ _⟩
      · have hl2 : ((l1 : Int) == (l2 : Int)) = false := by rw [beq_eq_false_iff_ne]; omega
        have hl3 : ¬ (l1 : Int) = (l2 : Int) := by omega
        rw [decide_eq_false hl, Bool.false_and]
        clear hl
        go_enter Try.func81, Try.ntmps81
        go_wp2
        go_ret
        exact ⟨by first | rfl | exact congrArg (fun k => Ending.returned (.bool k)) hsn, BB.out _ _⟩
    · have he2 : ((e1 : Int) == (e2 : Int)) = false := by rw [beq_eq_false_iff_ne]; omega
      have he3 : ¬ (e1 : Int) = (e2 : Int) := by omega
      rw [decide_eq_false he, Bool.false_and]
      clear he
      go_enter Try.func81, Try.ntmps81
      go_wp2
      go_ret
      exact ⟨by first | rfl | exact congrArg (fun k => Ending.returned (.bool k)) hsn, BB.out _ _⟩
  · rw [decide_eq_false h5, Bool.and_false, Bool.and_false, Bool.and_false, Bool.and_false]
    have hsn : ((⟨d1.toArray⟩ : ByteArray).data.toList == (⟨d2.toArray⟩ : ByteArray).data.toList) = false := by rw [str_data, str_data, beq_eq_false_iff_ne]; exact h5
    rw [← Lib.toList_data, ← Lib.toList_data] at hsn
    clear h5
    generalize (⟨d1.toArray⟩ : ByteArray) = S1 at *
    generalize (⟨d2.toArray⟩ : ByteArray) = S2 at *
    generalize d1.length = m1 at *
    generalize d2.length = m2 at *
    by_cases he : e1 = e2
    · subst he
      by_cases hl : l1 = l2
      · subst hl
        by_cases hp : p1 = p2
        · subst hp
          by_cases ho : o1 = o2
          · subst ho
            go_enter Try.func81, Try.ntmps81
            go_wp2
            go_ret
            exact ⟨by first | rfl | exact congrArg (fun k => Ending.returned (.bool k)) hsn, BB.out _ _⟩
          · have ho2 : (o1 == o2) = false := by rw [beq_eq_false_iff_ne]; omega
            have ho3 : ¬ o1 = o2 := by omega
            clear ho
            go_enter Try.func81, Try.ntmps81
            go_wp2
            go_ret
            exact ⟨by first | rfl | exact congrArg (fun k => Ending.returned (.bool k)) hsn, BB.out _ _⟩
        · have hp2 : (p1 == p2) = false := by rw [beq_eq_false_iff_ne]; omega
          have hp3 : ¬ p1 = p2 := by omega
          clear hp
          go_enter Try.func81, Try.ntmps81
          go_wp2
          go_ret
          exact ⟨by first | rfl | exact congrArg (fun k => Ending.returned (.bool k)) hsn, BB.out _ _⟩
      · have hl2 : ((l1 : Int) == (l2 : Int)) = false := by rw [beq_eq_false_iff_ne]; omega
        have hl3 : ¬ (l1 : Int) = (l2 : Int) := by omega
        clear hl
        go_enter Try.func81, Try.ntmps81
        go_wp2
        go_ret
        exact ⟨by first | rfl | exact congrArg (fun k => Ending.returned (.bool k)) hsn, BB.out _ _⟩
    · have he2 : ((e1 : Int) == (e2 : Int)) = false := by rw [beq_eq_false_iff_ne]; omega
      have he3 : ¬ (e1 : Int) = (e2 : Int) := by omega
      clear he
      go_enter Try.func81, Try.ntmps81
      go_wp2
      go_ret
      exact ⟨by first | rfl | exact congrArg (fun k => Ending.returned (.bool k)) hsn, BB.out _ _⟩
end Go.Proofs.Ythpepkfodcgbcaa
/- Lists of cells, and what the document's Sames answers. -/
set_option linter.unusedVariables false
set_option linter.unusedSimpArgs false
set_option maxRecDepth 40000
namespace Go.Proofs.Ythpepkfodcgbcaa
open Go.RowKit

/-- A list of cells lies there; each with where its bytes lie. -/
def IsL (w : World) (v : Value) (l : List (CL × Value)) : Prop := ((l = [] ∧ ∃ a c, v = .slice a 0 c) ∨ ∃ b o cap, v = .slice (some ⟨b, o, none⟩) l.length cap ∧ ∀ j (hj : j < l.length), w.cell? ⟨b, o + j * 5, none⟩ = some (.int .u64 (l[j].1.ep : Int)) ∧ w.cell? ⟨b, o + j * 5 + 1, none⟩ = some (.int .u64 (l[j].1.li : Int)) ∧ w.cell? ⟨b, o + j * 5 + 2, none⟩ = some (.int .i64 l[j].1.part) ∧ w.cell? ⟨b, o + j * 5 + 3, none⟩ = some (.int .i64 l[j].1.of) ∧ w.cell? ⟨b, o + j * 5 + 4, none⟩ = some l[j].2) ∧ ∀ x ∈ l, IsC w x.1 x.2
theorem IsL.form {w : World} {v : Value} {l : List (CL × Value)} (h : IsL w v l) : ∃ a c, v = .slice a l.length c := by
  rcases h.1 with ⟨rfl, a, c, rfl⟩ | ⟨b, o, cap, rfl, _⟩
  · exact ⟨_, _, rfl⟩
  · exact ⟨_, _, rfl⟩
theorem IsL.below {w W : World} {v : Value} {l : List (CL × Value)} (h : IsL w v l) (hb : Below w.heap.size w W) : IsL W v l := by
  refine ⟨?_, fun x hx => (h.2 x hx).below hb⟩
  rcases h.1 with h | ⟨b, o, cap, e, hc⟩
  · exact .inl h
  · refine .inr ⟨b, o, cap, e, fun j hj => ?_⟩
    obtain ⟨h1, h2, h3, h4, h5⟩ := hc j hj
    exact ⟨(hb.cell (cell_lt h1)).trans h1, (hb.cell (cell_lt h2)).trans h2, (hb.cell (cell_lt h3)).trans h3, (hb.cell (cell_lt h4)).trans h4, (hb.cell (cell_lt h5)).trans h5⟩
theorem IsL.at_ {w : World} {a : Option Addr} {n c : Nat} {l : List (CL × Value)} (h : IsL w (.slice a n c) l) (i : Nat) (hi : i < l.length) :
    ∃ b o, a = some ⟨b, o, none⟩ ∧ (∀ x, Below w.heap.size w x → x.cell? ⟨b, o + i * 5, none⟩ = some (.int .u64 (l[i].1.ep : Int)) ∧ x.cell? ⟨b, o + i * 5 + 1, none⟩ = some (.int .u64 (l[i].1.li : Int)) ∧ x.cell? ⟨b, o + i * 5 + 2, none⟩ = some (.int .i64 l[i].1.part) ∧ x.cell? ⟨b, o + i * 5 + 3, none⟩ = some (.int .i64 l[i].1.of) ∧ x.cell? ⟨b, o + i * 5 + 4, none⟩ = some l[i].2) ∧ IsC w l[i].1 l[i].2 := by
  have hm := h.2 _ (List.getElem_mem hi)
  rcases h.1 with ⟨rfl, _⟩ | ⟨b, o, cap, e, hc⟩
  · simp at hi
  · injection e with e1
    obtain ⟨h1, h2, h3, h4, h5⟩ := hc i hi
    exact ⟨b, o, e1, fun x hb => ⟨(hb.cell (cell_lt h1)).trans h1, (hb.cell (cell_lt h2)).trans h2, (hb.cell (cell_lt h3)).trans h3, (hb.cell (cell_lt h4)).trans h4, (hb.cell (cell_lt h5)).trans h5⟩, hm⟩
theorem sames_len {l m : List CL} (h : ¬ l.length = m.length) : samesC l m = false := by
  rw [Bool.eq_false_iff]
  intro e
  exact h (congrArg List.length (samesC_iff.1 e))
theorem sames_drop (l m : List CL) (i : Nat) (h1 : i < l.length) (h2 : i < m.length) : samesC (l.drop i) (m.drop i) = (sameC l[i] m[i] && samesC (l.drop (i + 1)) (m.drop (i + 1))) := by
  rw [List.drop_eq_getElem_cons h1, List.drop_eq_getElem_cons h2]
  rfl
set_option maxHeartbeats 4000000 in
theorem rsames_any (l m : List (CL × Value)) (lv mv : Value) (w : World) (hL : IsL w lv l) (hM : IsL w mv m) (hl : l.length ≤ 1000000000) (hm : m.length ≤ 1000000000) : Calls Try.prog 76 #[lv, mv] w fun e w' => e = .returned (.bool (samesC (l.map Prod.fst) (m.map Prod.fst))) ∧ Below w.heap.size w w' := by
  obtain ⟨la, lc, rfl⟩ := hL.form
  obtain ⟨ma, mc, rfl⟩ := hM.form
  by_cases hlen : l.length = m.length
  · have HD : Hid (∀ i, i < l.length → ∃ b1 o1 b2 o2, la = some ⟨b1, o1, none⟩ ∧ ma = some ⟨b2, o2, none⟩ ∧ ∃ x y : CL, ∃ xa xn xc ya yn yc, (∀ W, Below w.heap.size w W → (W.cell? ⟨b1, o1 + i * 5, none⟩ = some (.int .u64 (x.ep : Int)) ∧ W.cell? ⟨b1, o1 + i * 5 + 1, none⟩ = some (.int .u64 (x.li : Int)) ∧ W.cell? ⟨b1, o1 + i * 5 + 2, none⟩ = some (.int .i64 x.part) ∧ W.cell? ⟨b1, o1 + i * 5 + 3, none⟩ = some (.int .i64 x.of) ∧ W.cell? ⟨b1, o1 + i * 5 + 4, none⟩ = some (.slice xa xn xc)) ∧ (W.cell? ⟨b2, o2 + i * 5, none⟩ = some (.int .u64 (y.ep : Int)) ∧ W.cell? ⟨b2, o2 + i * 5 + 1, none⟩ = some (.int .u64 (y.li : Int)) ∧ W.cell? ⟨b2, o2 + i * 5 + 2, none⟩ = some (.int .i64 y.part) ∧ W.cell? ⟨b2, o2 + i * 5 + 3, none⟩ = some (.int .i64 y.of) ∧ W.cell? ⟨b2, o2 + i * 5 + 4, none⟩ = some (.slice ya yn yc)) ∧ Calls Try.prog 81 #[clA x (.slice xa xn xc), clA y (.slice ya yn yc)] W fun e w' => e = .returned (.bool (sameC x y)) ∧ Hid (Below W.heap.size W w')) ∧ samesC ((l.map Prod.fst).drop i) ((m.map Prod.fst).drop i) = (sameC x y && samesC ((l.map Prod.fst).drop (i + 1)) ((m.map Prod.fst).drop (i + 1)))) := hide (fun i hi => by
      obtain ⟨b1, o1, e1, c1, i1⟩ := hL.at_ i hi
      obtain ⟨b2, o2, e2, c2, i2⟩ := hM.at_ i (by omega)
      have hs := sames_drop (l.map Prod.fst) (m.map Prod.fst) i (by simpa using hi) (by simp; omega)
      rw [List.getElem_map, List.getElem_map] at hs
      obtain ⟨xa, xc, ex⟩ := i1.d.form
      obtain ⟨ya, yc, ey⟩ := i2.d.form
      refine ⟨b1, o1, b2, o2, e1, e2, l[i].1, (m[i]'(by omega)).1, xa, l[i].1.data.length, xc, ya, (m[i]'(by omega)).1.data.length, yc, fun W hb => ⟨?_, ?_, ?_⟩, hs⟩
      · rw [← ex]; exact c1 W hb
      · rw [← ey]; exact c2 W hb
      · rw [← ex, ← ey]
        exact (rsame_any _ _ _ _ W (i1.below hb) (i2.below hb)).mono fun e w' hh => ⟨hh.1, hide hh.2⟩)
    have HS0 : Hid (samesC ((l.map Prod.fst).drop 0) ((m.map Prod.fst).drop 0) = samesC (l.map Prod.fst) (m.map Prod.fst)) := hide rfl
    have HE : Hid (samesC ((l.map Prod.fst).drop l.length) ((m.map Prod.fst).drop l.length) = true) := hide (by
      rw [List.drop_of_length_le (by simp), List.drop_of_length_le (by simp; omega)]
      rfl)
    rw [← hlen]
    generalize samesC (l.map Prod.fst) (m.map Prod.fst) = V at *
    generalize hF : (fun i => samesC ((l.map Prod.fst).drop i) ((m.map Prod.fst).drop i)) = F at *
    have HF : Hid (∀ i, samesC ((l.map Prod.fst).drop i) ((m.map Prod.fst).drop i) = F i) := hide (fun i => by rw [← hF])
    clear hF hL hM hlen hm
    generalize hn : l.length = n at *
    clear hn
    go_enter Try.func76, Try.ntmps76
    go_wp2
    go_loopw [5] (fun vi wr => ∃ i : Nat, vi = .int .i64 (i : Int) ∧ i ≤ n ∧ Hid (F i = V) ∧ Hid (Below w.heap.size w wr)) (fun vi _ => n - (intOf vi).toNat)
    case atStart => exact ⟨0, rfl, Nat.zero_le _, hide ((HF.out 0).symm.trans HS0.out), hide (Below.refl _ _)⟩
    case round =>
      clear HS0
      obtain ⟨i, rfl, hi, HV, HB⟩ := hrel
      by_cases hlt : i < n
      · have hlt2 : (i : Int) < n := by omega
        obtain ⟨b1, o1, b2, o2, rfl, rfl, x, y, xa, xn, xc, ya, yn, yc, hW, hst⟩ := HD.out i hlt
        have HW := hide hW
        have HST : Hid (F i = (sameC x y && F (i + 1))) := hide (by rw [← HF.out i, ← HF.out (i + 1)]; exact hst)
        clear hW hst HD HE HF
        generalize sameC x y = SB at *
        go_wp2_with fail
        refine wp_region_held_drew (S := fun W' => Below w.heap.size w W') (by kernel_rfl) HB.out.drew (fun hHeld => ?_)
        refine wpAnyH_take (i := 0) (v := ?_) rfl (by kernel_rfl) (by kernel_rfl) (by kernel_rfl) (fun _ _ _ h => h) (Or.inl ⟨by kernel_rfl, ?_⟩) hHeld ?_
        rotate_left
        · intro W hSw
          clear hSw
          go_simp <;> with_reducible rfl
        simp only [Act.put, List.getElem_toArray, List.getElem_cons_zero, List.getElem_cons_succ, List.setIfInBounds_toArray, List.set_cons_zero, List.set_cons_succ]
        refine wpAnyH_take (i := 1) (v := ?_) rfl (by kernel_rfl) (by kernel_rfl) (by kernel_rfl) (fun _ _ _ h => h) (Or.inl ⟨by kernel_rfl, ?_⟩) hHeld ?_
        rotate_left
        · intro W hSw
          clear hSw
          go_simp <;> with_reducible rfl
        simp only [Act.put, List.getElem_toArray, List.getElem_cons_zero, List.getElem_cons_succ, List.setIfInBounds_toArray, List.set_cons_zero, List.set_cons_succ]
        refine wpAnyH_take (i := 2) (v := ?_) rfl (by kernel_rfl) (by kernel_rfl) (by kernel_rfl) (fun _ _ _ h => h) (Or.inl ⟨by kernel_rfl, ?_⟩) hHeld ?_
        rotate_left
        · intro W hSw
          clear hSw
          go_simp <;> with_reducible rfl
        simp only [Act.put, List.getElem_toArray, List.getElem_cons_zero, List.getElem_cons_succ, List.setIfInBounds_toArray, List.set_cons_zero, List.set_cons_succ]
        refine wpAnyH_take (i := 3) (v := ?_) rfl (by kernel_rfl) (by kernel_rfl) (by kernel_rfl) (fun _ _ _ h => h) (Or.inl ⟨by kernel_rfl, ?_⟩) hHeld ?_
        rotate_left
        · intro W hSw
          obtain ⟨p0, p1, p2, p3, p4⟩ := (HW.out _ hSw).1
          clear hSw
          go_simp <;> with_reducible rfl
        simp only [Act.put, List.getElem_toArray, List.getElem_cons_zero, List.getElem_cons_succ, List.setIfInBounds_toArray, List.set_cons_zero, List.set_cons_succ]
        refine wpAnyH_take (i := 4) (v := ?_) rfl (by kernel_rfl) (by kernel_rfl) (by kernel_rfl) (fun _ _ _ h => h) (Or.inl ⟨by kernel_rfl, ?_⟩) hHeld ?_
        rotate_left
        · intro W hSw
          clear hSw
          go_simp <;> with_reducible rfl
        simp only [Act.put, List.getElem_toArray, List.getElem_cons_zero, List.getElem_cons_succ, List.setIfInBounds_toArray, List.set_cons_zero, List.set_cons_succ]
        refine wpAnyH_take (i := 5) (v := ?_) rfl (by kernel_rfl) (by kernel_rfl) (by kernel_rfl) (fun _ _ _ h => h) (Or.inl ⟨by kernel_rfl, ?_⟩) hHeld ?_
        rotate_left
        · intro W hSw
          clear hSw
          go_simp <;> with_reducible rfl
        simp only [Act.put, List.getElem_toArray, List.getElem_cons_zero, List.getElem_cons_succ, List.setIfInBounds_toArray, List.set_cons_zero, List.set_cons_succ]
        refine wpAnyH_take (i := 6) (v := ?_) rfl (by kernel_rfl) (by kernel_rfl) (by kernel_rfl) (fun _ _ _ h => h) (Or.inl ⟨by kernel_rfl, ?_⟩) hHeld ?_
        rotate_left
        · intro W hSw
          clear hSw
          go_simp <;> with_reducible rfl
        simp only [Act.put, List.getElem_toArray, List.getElem_cons_zero, List.getElem_cons_succ, List.setIfInBounds_toArray, List.set_cons_zero, List.set_cons_succ]
        refine wpAnyH_take (i := 7) (v := ?_) rfl (by kernel_rfl) (by kernel_rfl) (by kernel_rfl) (fun _ _ _ h => h) (Or.inl ⟨by kernel_rfl, ?_⟩) hHeld ?_
        rotate_left
        · intro W hSw
          obtain ⟨q0, q1, q2, q3, q4⟩ := (HW.out _ hSw).2.1
          clear hSw
          go_simp <;> with_reducible rfl
        simp only [Act.put, List.getElem_toArray, List.getElem_cons_zero, List.getElem_cons_succ, List.setIfInBounds_toArray, List.set_cons_zero, List.set_cons_succ]
        have HC := hide (HW.out _ hHeld).2.2
        refine wpAnyH_ready (rs := [8]) (by kernel_rfl) (by simp) ?_
        refine AllReadyH.cons rfl (fun K hK => ?_) AllReadyH.nil
        go_simp
        go_wp2_with (first | (go_at_call 81; refine HC.out.mono ?_; rintro e w1 ⟨rfl, bb⟩))
        refine hK.out _ _ ?_ (fun hHeld => ?_)
        · exact Below.trans hHeld (bb.out.mono hHeld.size)
        clear hK K
        try simp only [Act.put, List.getElem_toArray, List.getElem_cons_zero, List.getElem_cons_succ, List.setIfInBounds_toArray, List.set_cons_zero, List.set_cons_succ]
        clear HC bb
        cases SB
        · have HV2 : Hid (V = false) := hide (by rw [← HV.out, HST.out]; rfl)
          clear HST HV
          refine wpAnyH_take (i := 9) (v := .bool true) rfl (by kernel_rfl) (by kernel_rfl) (by kernel_rfl) (fun _ _ _ h => h) (Or.inl ⟨by kernel_rfl, fun _ _ => by go_simp⟩) hHeld ?_
          simp only [Act.put, List.getElem_toArray, List.getElem_cons_zero, List.getElem_cons_succ, List.setIfInBounds_toArray, List.set_cons_zero, List.set_cons_succ]
          refine wpAnyH_done (by kernel_rfl) ?_ _
          have HB2 := hide hHeld
          clear hHeld
          go_wp2
          go_ret
          exact ⟨by rw [HV2.out]; rfl, HB2.out⟩
        · have HV2 : Hid (F (i + 1) = V) := hide (by rw [← HV.out, HST.out]; rfl)
          clear HST HV
          refine wpAnyH_take (i := 9) (v := .bool false) rfl (by kernel_rfl) (by kernel_rfl) (by kernel_rfl) (fun _ _ _ h => h) (Or.inl ⟨by kernel_rfl, fun _ _ => by go_simp⟩) hHeld ?_
          simp only [Act.put, List.getElem_toArray, List.getElem_cons_zero, List.getElem_cons_succ, List.setIfInBounds_toArray, List.set_cons_zero, List.set_cons_succ]
          refine wpAnyH_done (by kernel_rfl) ?_ _
          have HB2 := hide hHeld
          clear hHeld
          go_wp2
          go_roundw
          case rel => exact ⟨i + 1, by go_num, by omega, HV2, HB2⟩
          case measure => simp [intOf]; omega
      · have hlt2 : ¬ (i : Int) < n := by omega
        obtain rfl : i = n := by omega
        have HV2 : Hid (V = true) := hide (by rw [← HV.out, ← HF.out]; exact HE.out)
        clear HV HE HF HD
        go_wp2
        go_ret
        exact ⟨by rw [HV2.out]; rfl, HB.out⟩
  · rw [sames_len (by simpa using hlen)]
    have h1 : ((l.length : Int) != (m.length : Int)) = true := by rw [bne_iff_ne]; omega
    have HB := hide (Below.refl w.heap.size w)
    clear hL hM hlen hl hm
    generalize l.length = n1 at *
    generalize m.length = n2 at *
    go_enter Try.func76, Try.ntmps76
    go_wp2
    go_ret
    exact ⟨rfl, HB.out⟩
end Go.Proofs.Ythpepkfodcgbcaa
/- Rows of cells of the call's own; a part of bytes; a copy of bytes. -/
set_option linter.unusedVariables false
set_option linter.unusedSimpArgs false
set_option maxRecDepth 4000
namespace Go.Proofs.Ythpepkfodcgbcaa
open Go.RowKit

def cellsV : List (CL × Value) → List Value
  | [] => []
  | x :: r => .int .u64 (x.1.ep : Int) :: .int .u64 (x.1.li : Int) :: .int .i64 x.1.part :: .int .i64 x.1.of :: x.2 :: cellsV r
theorem cellsV_len : ∀ l, (cellsV l).length = l.length * 5
  | [] => rfl
  | x :: r => by
    show (cellsV r).length + 5 = _
    rw [cellsV_len r, List.length_cons]
    omega
theorem cellsV_app : ∀ a b, cellsV (a ++ b) = cellsV a ++ cellsV b
  | [], b => rfl
  | x :: r, b => by
    show _ :: _ :: _ :: _ :: _ :: cellsV (r ++ b) = _
    rw [cellsV_app r b]
    rfl
theorem cellsV_get : ∀ (l : List (CL × Value)) (j : Nat) (hj : j < l.length), (cellsV l)[j * 5]? = some (.int .u64 (l[j].1.ep : Int)) ∧ (cellsV l)[j * 5 + 1]? = some (.int .u64 (l[j].1.li : Int)) ∧ (cellsV l)[j * 5 + 2]? = some (.int .i64 l[j].1.part) ∧ (cellsV l)[j * 5 + 3]? = some (.int .i64 l[j].1.of) ∧ (cellsV l)[j * 5 + 4]? = some l[j].2
  | x :: r, 0, _ => ⟨rfl, rfl, rfl, rfl, rfl⟩
  | x :: r, j + 1, hj => by
    have h := cellsV_get r j (by simpa using hj)
    rw [show (j + 1) * 5 = j * 5 + 5 by omega]
    exact h
theorem owns_isL {w : World} {B n : Nat} {v : Value} {l : List (CL × Value)} (h : w.ownsRow B 90 5 v n (cellsV l)) (hc : ∀ x ∈ l, IsC w x.1 x.2) : IsL w v l := by
  refine ⟨?_, hc⟩
  have hn : l.length = n := by have := h.1; rw [cellsV_len] at this; omega
  subst hn
  rcases h.2 with ⟨rfl, h0⟩ | ⟨g, cap, cur, rfl, hb, hg, h1, h2, h3, h4⟩
  · exact .inl ⟨List.eq_nil_of_length_eq_zero h0, _, _, rfl⟩
  · refine .inr ⟨g, 0, cap, rfl, fun j hj => ?_⟩
    have hcell : ∀ k u, k < l.length * 5 → (cellsV l)[k]? = some u → w.cell? ⟨g, 0 + k, none⟩ = some u := fun k u hk hu => by
      have h5 := h.cells (g := g) rfl k u hu
      rw [addr_add] at h5
      rw [Nat.zero_add]
      exact h5
    obtain ⟨p0, p1, p2, p3, p4⟩ := cellsV_get l j hj
    exact ⟨hcell _ _ (by omega) p0, by rw [Nat.add_assoc]; exact hcell _ _ (by omega) p1, by rw [Nat.add_assoc]; exact hcell _ _ (by omega) p2, by rw [Nat.add_assoc]; exact hcell _ _ (by omega) p3, by rw [Nat.add_assoc]; exact hcell _ _ (by omega) p4⟩
theorem own_noL (w : World) (B : Nat) (hB : B ≤ w.heap.size) : (w.alloc (.cells #[] 90)).ownsRow B 90 5 (.slice (some ⟨w.heap.size, 0, none⟩) 0 0) 0 (cellsV []) := ⟨rfl, .inr ⟨w.heap.size, 0, #[], rfl, hB, alloc_newC w _, Nat.le_refl _, by decide, rfl, rfl⟩⟩
theorem owns_keepC {w W : World} {B n : Nat} {e : TypeId} {z : Nat} {v : Value} {xs : List Value} (h : w.ownsRow B e z v n xs) (hb : Below w.heap.size w W) : W.ownsRow B e z v n xs := by
  refine ⟨h.1, ?_⟩
  rcases h.2 with h | ⟨g, cap, cur, h1, h2, h3, h4⟩
  · exact .inl h
  · exact .inr ⟨g, cap, cur, h1, h2, (hb.block g (Array.getElem?_eq_some_iff.1 h3).1).trans h3, h4⟩
/-- append(v, c), v a row of cells of the call's own, c just built. -/
theorem append_cell (W : World) (B n : Nat) (v : Value) (l : List (CL × Value)) (c : CL) (a : Option Addr) (k cap : Nat) (hown : W.ownsRow B 90 5 v n (cellsV l)) (hl : n ≤ 1000000) (hB : B ≤ W.heap.size) :
    ∃ a' c' w', (Builtin.append_ #[69, 69] 69 #[v, .slice (some ⟨W.heap.size, 0, none⟩) 1 1]).run Try.prog (W.alloc (.cells (clC c (.slice a k cap)) 90)) = .ok (.slice a' (n + 1) c') w' ∧ w'.ownsRow B 90 5 (.slice a' (n + 1) c') (n + 1) (cellsV (l ++ [(c, .slice a k cap)])) ∧ (W.alloc (.cells (clC c (.slice a k cap)) 90)).grownBy w' v.ownBlock ∧ ((Value.slice a' (n + 1) c').ownBlock = v.ownBlock ∨ (Value.slice a' (n + 1) c').ownBlock = some (W.heap.size + 1)) := by
  have hb := below_alloc W (.cells (clC c (.slice a k cap)) 90)
  obtain ⟨v', w', hr, ho, hg, _, hat⟩ := run_append_own_at (P := Try.prog) (W.alloc (.cells (clC c (.slice a k cap)) 90)) B 69 69 90 Try.t90 (.agg #[.int .u64 0, .int .u64 0, .int .i64 0, .int .i64 0, .slice none 0 0]) 5 56 Try.underlying69 (by kernel_rfl) (by kernel_rfl) (by kernel_rfl) (by kernel_rfl) (by kernel_rfl) (by omega)
      v n (cellsV l) (owns_keepC hown hb) ⟨W.heap.size, 0, none⟩ 1 1 (cellsV [(c, .slice a k cap)]) rfl
      (by
        intro j u hu
        rw [addr_add]
        have hj : j < 5 := (List.getElem?_eq_some_iff.1 hu).1
        have hc : (W.alloc (.cells (clC c (.slice a k cap)) 90)).cell? ⟨W.heap.size, j, none⟩ = (clC c (.slice a k cap))[j]? := World.cell?_alloc_mark W _ _ _ j
        rw [hc]
        rcases (by omega : j = 0 ∨ j = 1 ∨ j = 2 ∨ j = 3 ∨ j = 4) with rfl | rfl | rfl | rfl | rfl <;> exact hu)
      (by
        intro u hu
        have : u = .int .u64 (c.ep : Int) ∨ u = .int .u64 (c.li : Int) ∨ u = .int .i64 c.part ∨ u = .int .i64 c.of ∨ u = .slice a k cap := by simpa [cellsV] using hu
        rcases this with rfl | rfl | rfl | rfl | rfl <;> rfl) (by unfold maxLen; omega) (by omega) (Nat.le_trans hB hb.size)
  obtain ⟨a', c', rfl⟩ : ∃ a' c', v' = .slice a' (n + 1) c' := by
    rcases ho.2 with ⟨_, h⟩ | ⟨g, cp, cur, e, _⟩
    · omega
    · exact ⟨_, _, e⟩
  rw [← cellsV_app] at ho
  exact ⟨a', c', w', hr, ho, hg, by simpa using hat⟩
/-- A part of bytes. -/
theorem sub_isY {w : World} {a : Option Addr} {n c : Nat} {b : Bs} (h : IsY w (.slice a n c) b) (i j : Nat) (hij : i ≤ j) (hj : j ≤ b.length) : ∃ u, (∀ W, (Instr.slice 43 (.slice a n c) (some (.int .i64 (i : Int))) (some (.int .i64 (j : Int))) none).run Try.prog W = .ok u W) ∧ IsY w u ((b.drop i).take (j - i)) := by
  have hlen : ((b.drop i).take (j - i)).length = j - i := by rw [List.length_take, List.length_drop]; omega
  have h2 : ¬ (j : Int) < i := by omega
  rcases h with ⟨rfl, a', c', e⟩ | ⟨g, o, cap, e, hc, hh⟩
  · injection e with e1 e2 e3
    subst e1 e2 e3
    simp only [List.length_nil, Nat.le_zero] at hj
    subst hj
    obtain rfl : i = 0 := by omega
    refine ⟨.slice a 0 c, fun W => ?_, .inl ⟨rfl, _, _, rfl⟩⟩
    cases a with
    | none => simp [Instr.slice, run_underlying Try.underlying43, Instr.sliceBounds, Instr.sliceBound, asIntOf, Try.sizeOf5, addr_addo]
    | some x =>
      have hx : x.add 0 = x := by
        unfold Addr.add
        split <;> simp_all
      simp [Instr.slice, run_underlying Try.underlying43, Instr.sliceBounds, Instr.sliceBound, asIntOf, Try.sizeOf5, hx]
  · injection e with e1 e2 e3
    subst e1 e2 e3
    by_cases hi : i = c
    · subst hi
      obtain rfl : j = i := by omega
      refine ⟨.slice (some ⟨g, o, none⟩) 0 0, fun W => ?_, .inl ⟨by rw [Nat.sub_self, List.take_zero], _, _, rfl⟩⟩
      have h4 : (j : Int) ≤ j := by omega
      simp [Instr.slice, run_underlying Try.underlying43, Instr.sliceBounds, Instr.sliceBound, asIntOf, Try.sizeOf5, addr_addo]
    · refine ⟨.slice (some ⟨g, o + i, none⟩) (j - i) (c - i), fun W => ?_, .inr ⟨g, o + i, c - i, by rw [hlen], by rw [hlen]; omega, fun k hk => ?_⟩⟩
      · have h4 : (j : Int) ≤ c := by omega
        have h5 : j ≤ c := by omega
        have h6 : ¬ c = i := fun e => hi e.symm
        simp [Instr.slice, run_underlying Try.underlying43, Instr.sliceBounds, Instr.sliceBound, asIntOf, Try.sizeOf5, addr_addo, h4, h5, h6, hij]
      · rw [hlen] at hk
        have h7 := hh (i + k) (by omega)
        rw [← Nat.add_assoc] at h7
        rw [h7]
        congr 3
        rw [List.getElem_take, List.getElem_drop]
/-- append([]byte{}, u...). -/
theorem copyC (w : World) (u : Value) (l : Bs) (hU : IsY w u l) (hl : l.length ≤ 1000000) :
    ∃ a c w1, (Builtin.append_ #[43, 43] 43 #[.slice (some ⟨w.heap.size, 0, none⟩) 0 0, u]).run Try.prog (w.alloc (.cells #[] 5)) = .ok (.slice a l.length c) w1 ∧ w1.ownsRow w.heap.size 5 1 (.slice a l.length c) l.length (Lib.byteCells l) ∧ Below w.heap.size w w1 := by
  have hb := below_alloc w (.cells #[] 5)
  have h0 : (w.alloc (.cells #[] 5)).ownsRow w.heap.size 5 1 (.slice (some ⟨w.heap.size, 0, none⟩) 0 0) 0 (Lib.byteCells []) := ⟨rfl, .inr ⟨w.heap.size, 0, #[], rfl, Nat.le_refl _, alloc_newC w _, Nat.le_refl _, by decide, rfl, rfl⟩⟩
  rcases hU with ⟨rfl, a, c, rfl⟩ | ⟨b, o, cap, rfl, _, hc⟩
  · exact ⟨_, _, _, append_nothingY _ w.heap.size 0 0 a c (Nat.le_refl _) (by decide), h0, hb⟩
  · obtain ⟨v', w', hr, ho, hg, _, hat⟩ := run_append_own_at (P := Try.prog) (w.alloc (.cells #[] 5)) w.heap.size 43 43 5 Try.t5 (.int .u8 0) 1 1 Try.underlying43 (by kernel_rfl) (by kernel_rfl) (by kernel_rfl) (by kernel_rfl) (by kernel_rfl) (by omega)
      (.slice (some ⟨w.heap.size, 0, none⟩) 0 0) 0 (Lib.byteCells []) h0 ⟨b, o, none⟩ l.length cap (Lib.byteCells l) (by rw [byteCells_len, Nat.mul_one])
      (by
        intro j u hu
        have hj : j < l.length := by rw [← byteCells_len]; exact (List.getElem?_eq_some_iff.1 hu).1
        rw [addr_addo, (hb.cell (cell_lt (hc j hj))).trans (hc j hj)]
        rw [byteCells_get l j hj] at hu
        exact hu) (byteCells_one l) (by unfold maxLen; omega) (by omega) hb.size
    rw [Nat.zero_add, show Lib.byteCells [] = [] from rfl, List.nil_append] at ho
    obtain ⟨a, c, rfl⟩ := owns_formY ho
    exact ⟨a, c, w', hr, ho, hb.trans ((Below.refl _ _).grown hg hb.size (owns_blkY h0))⟩
end Go.Proofs.Ythpepkfodcgbcaa
/- What the document's Cut answers. -/
set_option linter.unusedVariables false
set_option linter.unusedSimpArgs false
set_option maxRecDepth 40000
namespace Go.Proofs.Ythpepkfodcgbcaa
open Go.RowKit

theorem isY_keepC {w W : World} {v : Value} {l : Bs} (h : IsY w v l) (hk : ∀ k, v.ownBlock = some k → W.heap[k]? = w.heap[k]?) : IsY W v l := by
  rcases h with h | ⟨b, o, cap, rfl, hc, hh⟩
  · exact .inl h
  · have hb := hk b rfl
    exact .inr ⟨b, o, cap, rfl, hc, fun j hj => by rw [← hh j hj]; simp [World.cell?, hb]⟩
theorem step_append_run {P : Program} {ops : Array Oper} {o : Oper} {a : Act} {w : World} {K : Act → World → Prop} {Q : Exit → Act → World → Prop} {E : Prop} (hgd : o.guard = none) (s x : Operand) (t : TypeId)
    (ho : o.op = .call { callee := .builtin .append, args := #[s, x], argTypes := #[t, t] }) (v1 v2 v' : Value) (w' : World) (hs : a.eval s = v1) (hx : a.eval x = v2)
    (hr : (Builtin.append_ #[t, t] o.type #[v1, v2]).run P w = .ok v' w') (hK : K (a.put o.dst v') w') : if Region.wanted o (yielded ops a.tmps) = true then Oper.wp P o a w K Q else E := by
  have hw : Region.wanted o (yielded ops a.tmps) = true := by simp [Region.wanted, hgd]
  rw [if_pos hw]
  unfold Oper.wp execOp
  simp only [ho, resolve, invoke, builtin, Sem.run_bind, Sem.run_pure, Result.andThen_ok, List.map_toArray, List.map_cons, List.map_nil, hs, hx, hr]
  exact hK
/-- Cells that are being cut. -/
structure CutS (w : World) (vs : List (CL × Value)) (v : Value) (x : World) : Prop where
  o : x.ownsRow w.heap.size 90 5 v vs.length (cellsV vs)
  c : ∀ y ∈ vs, IsC x y.1 y.2
  s : ∀ k, v.ownBlock = some k → ∀ y ∈ vs, y.2.ownBlock ≠ some k
  l : ∀ y ∈ vs, ∀ k, y.2.ownBlock = some k → k < x.heap.size
  b : Below w.heap.size w x
theorem CutS.below {w x y : World} {vs : List (CL × Value)} {v : Value} (h : CutS w vs v x) (hb : Below x.heap.size x y) : CutS w vs v y :=
  ⟨owns_keepC h.o hb, fun z hz => (h.c z hz).below hb, h.s, fun z hz k hk => Nat.lt_of_lt_of_le (h.l z hz k hk) hb.size, h.b.trans (hb.mono h.b.size)⟩
theorem CutS.step {w x : World} {vs : List (CL × Value)} {v u : Value} {d : Bs} (h : CutS w vs v x) (hu : IsY x u d) (hd : d.length ≤ 1000000) (hn : vs.length ≤ 1000000) (c : CL) (hc : c.data = d) (hep : c.ep < 18446744073709551616) (hli : c.li < 18446744073709551616) (hp : -9223372036854775808 ≤ c.part ∧ c.part ≤ 9223372036854775807) (hof : -9223372036854775808 ≤ c.of ∧ c.of ≤ 9223372036854775807) :
    ∃ a1 c1 w1 a' c' w', (Builtin.append_ #[43, 43] 43 #[.slice (some ⟨x.heap.size, 0, none⟩) 0 0, u]).run Try.prog (x.alloc (.cells #[] 5)) = .ok (.slice a1 d.length c1) w1 ∧ (Builtin.append_ #[69, 69] 69 #[v, .slice (some ⟨w1.heap.size, 0, none⟩) 1 1]).run Try.prog (w1.alloc (.cells (clC c (.slice a1 d.length c1)) 90)) = .ok (.slice a' (vs.length + 1) c') w' ∧ CutS w (vs ++ [(c, .slice a1 d.length c1)]) (.slice a' (vs.length + 1) c') w' := by
  obtain ⟨a1, c1, w1, r1, o1, b1⟩ := copyC x u d hu hd
  have h1 := h.below b1
  obtain ⟨a', c', w', r2, o2, hg, hat⟩ := append_cell w1 w.heap.size vs.length v vs c a1 d.length c1 h1.o hn h1.b.size
  have hal := below_alloc w1 (.cells (clC c (.slice a1 d.length c1)) 90)
  have h2 := h1.below hal
  have hblk : ∀ k, (Value.slice a1 d.length c1).ownBlock = some k → x.heap.size ≤ k ∧ k < w1.heap.size := fun k hk => o1.lt k hk
  have hvl : ∀ k, v.ownBlock = some k → k < x.heap.size := fun k hk => (h.o.lt k hk).2
  have hkeep : ∀ k, k < w1.heap.size → v.ownBlock ≠ some k → w'.heap[k]? = w1.heap[k]? := fun k hk hne => (hg.block k (Nat.lt_of_lt_of_le hk hal.size) (fun e => hne e.symm)).trans (hal.block k hk)
  have hbw : Below w.heap.size w w' := h1.b.trans ⟨hg.os, hg.tape, hg.output, Nat.le_trans hal.size hg.size, fun k hk => hkeep k (Nat.lt_of_lt_of_le hk h1.b.size) (fun e => by have := (h1.o.lt k e).1; omega)⟩
  have hsz : w1.heap.size ≤ w'.heap.size := Nat.le_trans hal.size hg.size
  have hnew : IsC w' c (.slice a1 d.length c1) := ⟨hep, hli, hp, hof, by
    rw [hc]
    exact isY_keepC (owns_isYB o1) fun k hk => hkeep k (hblk k hk).2 (fun e => by have := hvl k e; have := (hblk k hk).1; omega)⟩
  refine ⟨a1, c1, w1, a', c', w', r1, r2, ⟨by rw [List.length_append]; exact o2, fun y hy => ?_, fun k hk y hy => ?_, fun y hy k hk => ?_, hbw⟩⟩
  · rcases List.mem_append.1 hy with hy | hy
    · have hh := h1.c y hy
      exact ⟨hh.ep, hh.li, hh.part, hh.of, isY_keepC hh.d fun k hk => hkeep k (h1.l y hy k hk) (fun e => h1.s k e y hy hk)⟩
    · obtain rfl := List.mem_singleton.1 hy
      exact hnew
  · rcases hat with e | e
    · have hk2 := e.symm.trans hk
      rcases List.mem_append.1 hy with hy | hy
      · exact h1.s k hk2 y hy
      · obtain rfl := List.mem_singleton.1 hy
        intro e2
        have := (hblk k e2).1
        have := hvl k hk2
        omega
    · rw [e] at hk
      cases hk
      rcases List.mem_append.1 hy with hy | hy
      · intro e2
        have := h1.l y hy _ e2
        omega
      · obtain rfl := List.mem_singleton.1 hy
        intro e2
        have := (hblk _ e2).2
        omega
  · rcases List.mem_append.1 hy with hy | hy
    · exact Nat.lt_of_lt_of_le (h1.l y hy k hk) hsz
    · obtain rfl := List.mem_singleton.1 hy
      exact Nat.lt_of_lt_of_le (hblk k hk).2 hsz
/-- What is left to be cut. -/
def restC (b : Bs) (e l : Nat) (k : Nat) : List CL := cellsF e l ((b.length + 38) / 39 : Nat) k (piecesF (b.length - 39 * k) (b.drop (39 * k)))
theorem pieces_more : ∀ (k m : Nat) (b : Bs), b.length ≤ k → k ≤ m → piecesF m b = piecesF k b
  | 0, m, [], _, _ => by cases m <;> rfl
  | 0, m, c :: b, h, _ => by simp at h
  | k + 1, 0, b, h, hm => by omega
  | k + 1, m + 1, [], h, hm => rfl
  | k + 1, m + 1, c :: b, h, hm => by
    rw [piecesF, piecesF, pieces_more k m _ (by rw [List.length_drop]; simp only [List.length_cons] at h ⊢; omega) (by omega)]
theorem rest_step (b : Bs) (e l k : Nat) (h : 39 * k < b.length) : restC b e l k = ⟨e, l, k, ((b.length + 38) / 39 : Nat), (b.drop (39 * k)).take (min (39 * k + 39) b.length - 39 * k)⟩ :: restC b e l (k + 1) := by
  unfold restC
  obtain ⟨c, t, hb⟩ : ∃ c t, b.drop (39 * k) = c :: t := by
    cases hh : b.drop (39 * k) with
    | nil =>
      have := congrArg List.length hh
      rw [List.length_drop, List.length_nil] at this
      omega
    | cons c t => exact ⟨c, t, rfl⟩
  obtain ⟨m, hm⟩ : ∃ m, b.length - 39 * k = m + 1 := ⟨b.length - 39 * k - 1, by omega⟩
  have hl := congrArg List.length hb
  rw [List.length_drop] at hl
  rw [hm, hb, piecesF, cellsF]
  have ht : (c :: t).take (min (39 * k + 39) b.length - 39 * k) = (c :: t).take 39 := by
    by_cases h2 : 39 * k + 39 ≤ b.length
    · rw [Nat.min_eq_left h2]; congr 1; omega
    · rw [Nat.min_eq_right (by omega), List.take_of_length_le (by omega), List.take_of_length_le (by omega)]
  rw [ht, ← hb, List.drop_drop, show 39 * k + 39 = 39 * (k + 1) by omega]
  rw [pieces_more (b.length - 39 * (k + 1)) m _ (by rw [List.length_drop]; omega) (by omega)]
theorem rest_end (b : Bs) (e l k : Nat) (h : b.length ≤ 39 * k) : restC b e l k = [] := by
  unfold restC
  rw [show b.length - 39 * k = 0 by omega]
  rfl
theorem rest_all (b : Bs) (e l : Nat) (h : b.length ≤ 65535 * 39) : restC b e l 0 = cutC b e l := by
  unfold restC cutC
  rw [if_neg (by omega)]
  rfl
/-- A list of cells is told. -/
def CutR (w : World) (cs : List CL) (e : Ending) (x : World) : Prop := ∃ v vs, e = .returned v ∧ IsL x v vs ∧ vs.map Prod.fst = cs ∧ Below w.heap.size w x
set_option maxHeartbeats 1000000 in
theorem rcut_any (bv : Value) (b : Bs) (ep li : Nat) (w : World) (hY : IsY w bv b) (hl : b.length ≤ 1000000) (he : ep < 18446744073709551616) (hli : li < 18446744073709551616) :
    Calls Try.prog 48 #[bv, .int .u64 (ep : Int), .int .u64 (li : Int)] w fun e w' => CutR w (cutC b ep li) e w' := by
  obtain ⟨ba, bc, rfl⟩ := hY.form
  have hlB : ¬ (2555865 : Int) < b.length := by omega
  have HS0 : Hid (CutS w [] (.slice (some ⟨w.heap.size, 0, none⟩) 0 0) (w.alloc (.cells #[] 90))) := hide ⟨own_noL w w.heap.size (Nat.le_refl _), fun y hy => (by cases hy), fun k hk y hy => (by cases hy), fun y hy => (by cases hy), below_alloc w _⟩
  have HE0 : Hid (([] : List (CL × Value)).length = 0 ∧ ([] : List (CL × Value)).map Prod.fst ++ restC b ep li 0 = cutC b ep li) := hide ⟨rfl, by rw [rest_all b ep li (by omega)]; rfl⟩
  have HMA := hide (fun x => rmany_any b.length (by omega) x)
  have HSUB := hide (fun i j (h1 : i ≤ j) (h2 : j ≤ b.length) x (hx : Below w.heap.size w x) => sub_isY (hY.below hx) i j h1 h2)
  have HRS := hide (fun k h => rest_step b ep li k h)
  have HRE := hide (fun k h => rest_end b ep li k h)
  have HIS : Hid (∀ (e : Ending) (v : Value) (vs : List (CL × Value)) (x : World), e = .returned v → CutS w vs v x → vs.map Prod.fst = cutC b ep li → CutR w (cutC b ep li) e x) := hide (fun e v vs x h1 h2 h3 => ⟨v, vs, h1, owns_isL h2.o h2.c, h3, h2.b⟩)
  generalize hCC : cutC b ep li = CC at *
  obtain ⟨n, hn⟩ : ∃ n, b.length = n := ⟨_, rfl⟩
  have HN := hide hn
  rw [hn] at hl hlB HMA HSUB
  rw [hn]
  clear hCC hY hn
  go_enter Try.func48, Try.ntmps48
  go_wp2
  go_loopw [7, 8] (fun vl vi wr => ∃ (k : Nat) (vs : List (CL × Value)) (a : Option Addr) (c : Nat), vl = .slice a k c ∧ vi = .int .i64 ((39 * k : Nat) : Int) ∧ k ≤ 1000000 ∧ Hid (CutS w vs (.slice a k c) wr) ∧ Hid (vs.length = k ∧ vs.map Prod.fst ++ restC b ep li k = CC)) (fun _ vi _ => n + 39 - (intOf vi).toNat)
  case atStart => exact ⟨0, [], some ⟨w.heap.size, 0, none⟩, 0, rfl, rfl, Nat.zero_le _, HS0, HE0⟩
  case round =>
    clear HS0 HE0
    obtain ⟨k, vs, a, c, rfl, rfl, hk, HS, HE⟩ := hrel
    by_cases hlt : 39 * k < n
    · have hlt2 : ((39 * k : Nat) : Int) < n := by omega
      have hw1 : wrap64 (39 * (k : Int) + 39) = 39 * (k : Int) + 39 := by unfold wrap64; omega
      have hlt3 : 39 * (k : Int) < n := by omega
      obtain ⟨en, hen⟩ : ∃ en : Nat, en = min (39 * k + 39) n := ⟨_, rfl⟩
      have hmin : min (39 * (k : Int) + 39) (n : Int) = (en : Int) := by omega
      obtain ⟨u, hsl, hu⟩ := HSUB.out (39 * k) en (by omega) (by omega) wr.drew (HS.out.b.drew)
      have hdl : ((b.drop (39 * k)).take (en - 39 * k)).length ≤ 1000000 := by rw [List.length_take]; omega
      have hS := HS.out
      have hE := HE.out
      obtain ⟨a1, c1, w1, a', c', w', r1, r2, S2⟩ := (CutS.below hS (Below.refl _ wr).drew).step hu hdl (by rw [hE.1]; exact hk) ⟨ep, li, k, ((n + 38) / 39 : Nat), (b.drop (39 * k)).take (en - 39 * k)⟩ rfl he hli (by show -9223372036854775808 ≤ (k : Int) ∧ (k : Int) ≤ 9223372036854775807; omega) (by show -9223372036854775808 ≤ (((n + 38) / 39 : Nat) : Int) ∧ (((n + 38) / 39 : Nat) : Int) ≤ 9223372036854775807; omega)
      have hst := HRS.out k (by rw [HN.out]; exact hlt)
      rw [HN.out, ← hen] at hst
      rw [hE.1] at r2 S2
      obtain ⟨vs', hvs⟩ : ∃ vs', vs' = vs ++ [((⟨ep, li, k, ((n + 38) / 39 : Nat), (b.drop (39 * k)).take (en - 39 * k)⟩ : CL), Value.slice a1 ((b.drop (39 * k)).take (en - 39 * k)).length c1)] := ⟨_, rfl⟩
      have HE2 : Hid (vs'.length = k + 1 ∧ vs'.map Prod.fst ++ restC b ep li (k + 1) = CC) := hide (by
        rw [hvs, List.length_append, hE.1, List.map_append, List.append_assoc]
        refine ⟨rfl, ?_⟩
        rw [← hE.2, hst]
        rfl)
      rw [← hvs] at S2
      have HS2 := hide S2
      rw [show ((39 * k : Nat) : Int) = 39 * (k : Int) by omega] at hsl
      have HSL := hide hsl
      rw [show wr.drew.heap.size = wr.heap.size from rfl] at r1
      have HR1 := hide r1
      have HR2 := hide r2
      have hk6 : k + 1 ≤ 1000000 := by omega
      have hcase : ((39 * (k : Int) + 39 ≤ n) ∧ (en : Int) = 39 * (k : Int) + 39) ∨ (¬ (39 * (k : Int) + 39 ≤ n) ∧ (en : Int) = n) := by omega
      clear hlt2 hsl hu hS hE r1 r2 S2 hst hvs HE HS HSUB HRS HRE HIS hdl hen
      generalize ((b.drop (39 * k)).take (en - 39 * k)).length = dl at *
      clear hmin
      rcases hcase with ⟨g1, g2⟩ | ⟨g1, g2⟩
      all_goals
        rw [g2] at HSL
        clear g2
        go_wp2_with fail
        refine wp_region_held_drew (S := fun _ => True) (by kernel_rfl) trivial (fun hHeld => ?_)
        refine wpAnyH_take (i := 0) (v := ?_) rfl (by kernel_rfl) (by kernel_rfl) (by kernel_rfl) (fun _ _ _ h => h) (Or.inl ⟨by kernel_rfl, ?_⟩) hHeld ?_
        rotate_left
        · intro W hSw
          clear hSw
          go_simp <;> with_reducible rfl
        simp only [Act.put, List.getElem_toArray, List.getElem_cons_zero, List.getElem_cons_succ, List.setIfInBounds_toArray, List.set_cons_zero, List.set_cons_succ]
        refine wpAnyH_take (i := 1) (v := ?_) rfl (by kernel_rfl) (by kernel_rfl) (by kernel_rfl) (fun _ _ _ h => h) (Or.inl ⟨by kernel_rfl, ?_⟩) hHeld ?_
        rotate_left
        · intro W hSw
          clear hSw
          go_simp <;> with_reducible rfl
        simp only [Act.put, List.getElem_toArray, List.getElem_cons_zero, List.getElem_cons_succ, List.setIfInBounds_toArray, List.set_cons_zero, List.set_cons_succ]
        refine wpAnyH_take (i := 2) (v := ?_) rfl (by kernel_rfl) (by kernel_rfl) (by kernel_rfl) (fun _ _ _ h => h) (Or.inl ⟨by kernel_rfl, ?_⟩) hHeld ?_
        rotate_left
        · intro W hSw
          clear hSw
          go_simp <;> with_reducible rfl
        simp only [Act.put, List.getElem_toArray, List.getElem_cons_zero, List.getElem_cons_succ, List.setIfInBounds_toArray, List.set_cons_zero, List.set_cons_succ]
        refine wpAnyH_take (i := 3) (v := ?_) rfl (by kernel_rfl) (by kernel_rfl) (by kernel_rfl) (fun _ _ _ h => h) (Or.inl ⟨by kernel_rfl, ?_⟩) hHeld ?_
        rotate_left
        · intro W hSw
          clear hSw
          go_simp <;> with_reducible rfl
        simp only [Act.put, List.getElem_toArray, List.getElem_cons_zero, List.getElem_cons_succ, List.setIfInBounds_toArray, List.set_cons_zero, List.set_cons_succ]
        refine wpAnyH_take (i := 4) (v := ?_) rfl (by kernel_rfl) (by kernel_rfl) (by kernel_rfl) (fun _ _ _ h => h) (Or.inl ⟨by kernel_rfl, ?_⟩) hHeld ?_
        rotate_left
        · intro W hSw
          clear hSw
          go_simp <;> with_reducible rfl
        simp only [Act.put, List.getElem_toArray, List.getElem_cons_zero, List.getElem_cons_succ, List.setIfInBounds_toArray, List.set_cons_zero, List.set_cons_succ]
        refine wpAnyH_take (i := 5) (v := ?_) rfl (by kernel_rfl) (by kernel_rfl) (by kernel_rfl) (fun _ _ _ h => h) (Or.inl ⟨by kernel_rfl, ?_⟩) hHeld ?_
        rotate_left
        · intro W hSw
          clear hSw
          go_simp <;> with_reducible rfl
        simp only [Act.put, List.getElem_toArray, List.getElem_cons_zero, List.getElem_cons_succ, List.setIfInBounds_toArray, List.set_cons_zero, List.set_cons_succ]
        refine wpAnyH_take (i := 6) (v := ?_) rfl (by kernel_rfl) (by kernel_rfl) (by kernel_rfl) (fun _ _ _ h => h) (Or.inl ⟨by kernel_rfl, ?_⟩) hHeld ?_
        rotate_left
        · intro W hSw
          clear hSw
          go_simp <;> with_reducible rfl
        simp only [Act.put, List.getElem_toArray, List.getElem_cons_zero, List.getElem_cons_succ, List.setIfInBounds_toArray, List.set_cons_zero, List.set_cons_succ]
        refine wpAnyH_take (i := 9) (v := ?_) rfl (by kernel_rfl) (by kernel_rfl) (by kernel_rfl) (fun _ _ _ h => h) (Or.inl ⟨by kernel_rfl, ?_⟩) hHeld ?_
        rotate_left
        · intro W hSw
          clear hSw
          go_simp <;> with_reducible rfl
        simp only [Act.put, List.getElem_toArray, List.getElem_cons_zero, List.getElem_cons_succ, List.setIfInBounds_toArray, List.set_cons_zero, List.set_cons_succ]
        refine wpAnyH_take (i := 10) (v := ?_) rfl (by kernel_rfl) (by kernel_rfl) (by kernel_rfl) (fun _ _ _ h => h) (Or.inl ⟨by kernel_rfl, ?_⟩) hHeld ?_
        rotate_left
        · intro W hSw
          clear hSw
          go_simp <;> with_reducible rfl
        simp only [Act.put, List.getElem_toArray, List.getElem_cons_zero, List.getElem_cons_succ, List.setIfInBounds_toArray, List.set_cons_zero, List.set_cons_succ]
        refine wpAnyH_take (i := 11) (v := ?_) rfl (by kernel_rfl) (by kernel_rfl) (by kernel_rfl) (fun _ _ _ h => h) (Or.inl ⟨by kernel_rfl, ?_⟩) hHeld ?_
        rotate_left
        · intro W hSw
          clear hSw
          go_simp <;> with_reducible rfl
        simp only [Act.put, List.getElem_toArray, List.getElem_cons_zero, List.getElem_cons_succ, List.setIfInBounds_toArray, List.set_cons_zero, List.set_cons_succ]
        refine wpAnyH_take (i := 12) (v := ?_) rfl (by kernel_rfl) (by kernel_rfl) (by kernel_rfl) (fun _ _ _ h => h) (Or.inl ⟨by kernel_rfl, ?_⟩) hHeld ?_
        rotate_left
        · intro W hSw
          have hsl := HSL.out
          clear hSw
          go_simp <;> with_reducible rfl
        simp only [Act.put, List.getElem_toArray, List.getElem_cons_zero, List.getElem_cons_succ, List.setIfInBounds_toArray, List.set_cons_zero, List.set_cons_succ]
        refine wpAnyH_ready (rs := [7, 8]) (by kernel_rfl) (by simp) ?_
        refine AllReadyH.cons rfl (fun K hK => ?_) (AllReadyH.cons rfl (fun K hK => ?_) AllReadyH.nil)
        · go_simp
          go_wp2_with (first | (go_at_call 66; refine (HMA.out _).mono ?_; rintro e y5 ⟨rfl, rfl⟩))
          refine hK.out _ _ ?_ (fun hHeld => ?_)
          · trivial
          clear hK K
          try simp only [Act.put, List.getElem_toArray, List.getElem_cons_zero, List.getElem_cons_succ, List.setIfInBounds_toArray, List.set_cons_zero, List.set_cons_succ]
          refine wpAnyH_ready (rs := [8]) (by kernel_rfl) (by simp) ?_
          refine AllReadyH.cons rfl (fun K hK => ?_) AllReadyH.nil
          go_simp
          refine hK.out _ _ ?_ (fun hHeld => ?_)
          · trivial
          clear hK K
          try simp only [Act.put, List.getElem_toArray, List.getElem_cons_zero, List.getElem_cons_succ, List.setIfInBounds_toArray, List.set_cons_zero, List.set_cons_succ]
          refine wpAnyH_ready (rs := [13]) (by kernel_rfl) (by simp) ?_
          refine AllReadyH.cons rfl (fun K hK => ?_) AllReadyH.nil
          refine step_append_run rfl (.tmp 33) (.tmp 37) 43 rfl (.slice (some ⟨wr.heap.size, 0, none⟩) 0 0) u _ _ rfl rfl HR1.out ?_
          refine hK.out _ _ ?_ (fun hHeld => ?_)
          · trivial
          clear hK K
          try simp only [Act.put, List.getElem_toArray, List.getElem_cons_zero, List.getElem_cons_succ, List.setIfInBounds_toArray, List.set_cons_zero, List.set_cons_succ]
          refine wpAnyH_take (i := 14) (v := ?_) rfl (by kernel_rfl) (by kernel_rfl) (by kernel_rfl) (fun _ _ _ h => h) (Or.inl ⟨by kernel_rfl, ?_⟩) hHeld ?_
          rotate_left
          · intro W hSw
            clear hSw
            go_simp <;> with_reducible rfl
          simp only [Act.put, List.getElem_toArray, List.getElem_cons_zero, List.getElem_cons_succ, List.setIfInBounds_toArray, List.set_cons_zero, List.set_cons_succ]
          refine wpAnyH_ready (rs := [15]) (by kernel_rfl) (by simp) ?_
          refine AllReadyH.cons rfl (fun K hK => ?_) AllReadyH.nil
          go_simp
          refine hK.out _ _ ?_ (fun hHeld => ?_)
          · trivial
          clear hK K
          try simp only [Act.put, List.getElem_toArray, List.getElem_cons_zero, List.getElem_cons_succ, List.setIfInBounds_toArray, List.set_cons_zero, List.set_cons_succ]
          refine wpAnyH_ready (rs := [16]) (by kernel_rfl) (by simp) ?_
          refine AllReadyH.cons rfl (fun K hK => ?_) AllReadyH.nil
          refine step_append_run rfl (.tmp 25) (.tmp 40) 69 rfl (.slice a k c) (.slice (some ⟨w1.heap.size, 0, none⟩) 1 1) _ _ rfl rfl HR2.out ?_
          refine hK.out _ _ ?_ (fun hHeld => ?_)
          · trivial
          clear hK K
          try simp only [Act.put, List.getElem_toArray, List.getElem_cons_zero, List.getElem_cons_succ, List.setIfInBounds_toArray, List.set_cons_zero, List.set_cons_succ]
          refine wpAnyH_take (i := 17) (v := ?_) rfl (by kernel_rfl) (by kernel_rfl) (by kernel_rfl) (fun _ _ _ h => h) (Or.inl ⟨by kernel_rfl, ?_⟩) hHeld ?_
          rotate_left
          · intro W hSw
            clear hSw
            go_simp <;> with_reducible rfl
          simp only [Act.put, List.getElem_toArray, List.getElem_cons_zero, List.getElem_cons_succ, List.setIfInBounds_toArray, List.set_cons_zero, List.set_cons_succ]
          refine wpAnyH_done (by kernel_rfl) ?_ _
          clear hHeld
          go_wp2
          go_roundw
          case rel => exact ⟨k + 1, vs', a', c', rfl, by go_num, by omega, HS2, HE2⟩
          case measure => simp [intOf]; omega
        · go_simp
          refine hK.out _ _ ?_ (fun hHeld => ?_)
          · trivial
          clear hK K
          try simp only [Act.put, List.getElem_toArray, List.getElem_cons_zero, List.getElem_cons_succ, List.setIfInBounds_toArray, List.set_cons_zero, List.set_cons_succ]
          refine wpAnyH_ready (rs := [7]) (by kernel_rfl) (by simp) ?_
          refine AllReadyH.cons rfl (fun K hK => ?_) AllReadyH.nil
          go_simp
          go_wp2_with (first | (go_at_call 66; refine (HMA.out _).mono ?_; rintro e y5 ⟨rfl, rfl⟩))
          refine hK.out _ _ ?_ (fun hHeld => ?_)
          · trivial
          clear hK K
          try simp only [Act.put, List.getElem_toArray, List.getElem_cons_zero, List.getElem_cons_succ, List.setIfInBounds_toArray, List.set_cons_zero, List.set_cons_succ]
          refine wpAnyH_ready (rs := [13]) (by kernel_rfl) (by simp) ?_
          refine AllReadyH.cons rfl (fun K hK => ?_) AllReadyH.nil
          refine step_append_run rfl (.tmp 33) (.tmp 37) 43 rfl (.slice (some ⟨wr.heap.size, 0, none⟩) 0 0) u _ _ rfl rfl HR1.out ?_
          refine hK.out _ _ ?_ (fun hHeld => ?_)
          · trivial
          clear hK K
          try simp only [Act.put, List.getElem_toArray, List.getElem_cons_zero, List.getElem_cons_succ, List.setIfInBounds_toArray, List.set_cons_zero, List.set_cons_succ]
          refine wpAnyH_take (i := 14) (v := ?_) rfl (by kernel_rfl) (by kernel_rfl) (by kernel_rfl) (fun _ _ _ h => h) (Or.inl ⟨by kernel_rfl, ?_⟩) hHeld ?_
          rotate_left
          · intro W hSw
            clear hSw
            go_simp <;> with_reducible rfl
          simp only [Act.put, List.getElem_toArray, List.getElem_cons_zero, List.getElem_cons_succ, List.setIfInBounds_toArray, List.set_cons_zero, List.set_cons_succ]
          refine wpAnyH_ready (rs := [15]) (by kernel_rfl) (by simp) ?_
          refine AllReadyH.cons rfl (fun K hK => ?_) AllReadyH.nil
          go_simp
          refine hK.out _ _ ?_ (fun hHeld => ?_)
          · trivial
          clear hK K
          try simp only [Act.put, List.getElem_toArray, List.getElem_cons_zero, List.getElem_cons_succ, List.setIfInBounds_toArray, List.set_cons_zero, List.set_cons_succ]
          refine wpAnyH_ready (rs := [16]) (by kernel_rfl) (by simp) ?_
          refine AllReadyH.cons rfl (fun K hK => ?_) AllReadyH.nil
          refine step_append_run rfl (.tmp 25) (.tmp 40) 69 rfl (.slice a k c) (.slice (some ⟨w1.heap.size, 0, none⟩) 1 1) _ _ rfl rfl HR2.out ?_
          refine hK.out _ _ ?_ (fun hHeld => ?_)
          · trivial
          clear hK K
          try simp only [Act.put, List.getElem_toArray, List.getElem_cons_zero, List.getElem_cons_succ, List.setIfInBounds_toArray, List.set_cons_zero, List.set_cons_succ]
          refine wpAnyH_take (i := 17) (v := ?_) rfl (by kernel_rfl) (by kernel_rfl) (by kernel_rfl) (fun _ _ _ h => h) (Or.inl ⟨by kernel_rfl, ?_⟩) hHeld ?_
          rotate_left
          · intro W hSw
            clear hSw
            go_simp <;> with_reducible rfl
          simp only [Act.put, List.getElem_toArray, List.getElem_cons_zero, List.getElem_cons_succ, List.setIfInBounds_toArray, List.set_cons_zero, List.set_cons_succ]
          refine wpAnyH_done (by kernel_rfl) ?_ _
          clear hHeld
          go_wp2
          go_roundw
          case rel => exact ⟨k + 1, vs', a', c', rfl, by go_num, by omega, HS2, HE2⟩
          case measure => simp [intOf]; omega
    · have hlt2 : ¬ 39 * (k : Int) < n := by omega
      have hre := HRE.out k (by rw [HN.out]; omega)
      have HF : Hid (∀ e, e = Ending.returned (.slice a k c) → CutR w CC e wr) := hide (fun e h => HIS.out e _ vs wr h HS.out (by have := HE.out.2; rw [hre, List.append_nil] at this; exact this))
      clear hre HIS HE HS HRE HRS HSUB HMA
      go_wp2
      go_ret
      exact HF.out _ rfl
end Go.Proofs.Ythpepkfodcgbcaa
/- What the document's Decode answers. -/
set_option linter.unusedVariables false
set_option linter.unusedSimpArgs false
set_option maxRecDepth 40000
namespace Go.Proofs.Ythpepkfodcgbcaa
open Go.RowKit

abbrev zeroC : CL := ⟨0, 0, 0, 0, []⟩
def DecR (w : World) (b : Bs) (e : Ending) (w' : World) : Prop := Below w.heap.size w w' ∧ ((decC b = none ∧ e = .returned (.tuple #[clA zeroC (.slice none 0 0), .int .i64 8])) ∨ ∃ c dv, decC b = some c ∧ e = .returned (.tuple #[clA c dv, .int .i64 0]) ∧ w'.ownsRow w.heap.size 5 1 dv c.data.length (Lib.byteCells c.data))
theorem num_one (x : UInt8) : numB [x] = x.toNat := by
  show 0 * 256 + x.toNat = x.toNat
  omega
theorem at_twenty (b : Bs) (h : b.length = 64) : numB ((b.drop 20).take 1) = (b[20]'(by omega)).toNat := by
  have e : (b.drop 20).take 1 = [b[20]'(by omega)] := by
    rw [List.drop_eq_getElem_cons (by omega)]
    rfl
  rw [e, num_one]
theorem dec_short {b : Bs} (h : b.length ≠ 64) : decC b = none := by
  rw [decC, if_neg (fun hh => h hh.1)]
theorem dec_long {b : Bs} (h : b.length = 64) (h2 : 39 < (b[20]'(by omega)).toNat) : decC b = none := by
  rw [decC, if_neg (fun hh => by have := hh.2.1; rw [at_twenty b h] at this; omega)]
set_option maxHeartbeats 4000000 in
theorem rdec_short (bv : Value) (b : Bs) (w : World) (hY : IsY w bv b) (hl : b.length ≤ 1000000) (h : b.length ≠ 64) : Calls Try.prog 43 #[bv] w (DecR w b) := by
  have HF : Hid (∀ x, Below w.heap.size w x → DecR w b (.returned (.tuple #[clA zeroC (.slice none 0 0), .int .i64 8])) x) := hide (fun x hb => ⟨hb, .inl ⟨dec_short h, rfl⟩⟩)
  have BB := hide (below_alloc w)
  obtain ⟨a, c, rfl⟩ := hY.form
  have h2 : ¬ (b.length : Int) = 64 := by omega
  clear hY h
  generalize b.length = n at *
  go_enter Try.func43, Try.ntmps43
  go_wp2
  refine bodyPost_ret (v := .tuple #[clA zeroC (.slice none 0 0), .int .i64 8]) ?_ rfl (HF.out _ (BB.out _))
  simp [results, Try.results43, go_sem]
set_option maxHeartbeats 4000000 in
theorem rdec_long (bv : Value) (b : Bs) (w : World) (hY : IsY w bv b) (h : b.length = 64) (h3 : 39 < (b[20]'(by omega)).toNat) : Calls Try.prog 43 #[bv] w (DecR w b) := by
  have HF : Hid (∀ x, Below w.heap.size w x → DecR w b (.returned (.tuple #[clA zeroC (.slice none 0 0), .int .i64 8])) x) := hide (fun x hb => ⟨hb, .inl ⟨dec_long h h3, rfl⟩⟩)
  have BB := hide (below_alloc w)
  rcases hY with ⟨e, _⟩ | ⟨bb, bo, cap, rfl, hcap, hh⟩
  · rw [e] at h; cases h
  have hc := hh 20 (by omega)
  have hc1 : ∀ o, (w.alloc o).cell? ⟨bb, bo + 20, none⟩ = some (.int .u8 ((b[20]'(by omega)).toNat : Int)) := fun o => ((below_alloc w o).cell (cell_lt hc)).trans hc
  rw [h] at *
  clear hh hc
  generalize (b[20]'(by omega)).toNat = x at *
  have h4 : (39 : Int) < (x : Int) := by omega
  go_enter Try.func43, Try.ntmps43
  go_wp2
  refine bodyPost_ret (v := .tuple #[clA zeroC (.slice none 0 0), .int .i64 8]) ?_ rfl (HF.out _ (BB.out _))
  simp [results, Try.results43, go_sem]
end Go.Proofs.Ythpepkfodcgbcaa
