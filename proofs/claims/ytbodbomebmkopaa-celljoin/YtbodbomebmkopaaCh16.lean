/- Lists of cells, and what the document's Sames answers. -/
import Derived.Test.YtbodbomebmkopaaCg16
import Derived.Deep.RegionHeld2
set_option linter.unusedVariables false
set_option linter.unusedSimpArgs false
set_option maxRecDepth 40000
namespace Go.Proofs.Ytbodbomebmkopaa
open Go.RowKit

/-- A list of cells lies there; each with where its bytes lie. -/
def IsL (w : World) (v : Value) (l : List (CL × Value)) : Prop := ((l = [] ∧ ∃ a c, v = .slice a 0 c) ∨ ∃ b o cap, v = .slice (some ⟨b, o, none⟩) l.length cap ∧ ∀ j (hj : j < l.length), w.cell? ⟨b, o + j * 5, none⟩ = some (.int .u64 (l[j].1.ep : Int)) ∧ w.cell? ⟨b, o + j * 5 + 1, none⟩ = some (.int .u64 (l[j].1.li : Int)) ∧ w.cell? ⟨b, o + j * 5 + 2, none⟩ = some (.int .i64 l[j].1.part) ∧ w.cell? ⟨b, o + j * 5 + 3, none⟩ = some (.int .i64 l[j].1.of) ∧ w.cell? ⟨b, o + j * 5 + 4, none⟩ = some l[j].2) ∧ ∀ x ∈ l, IsC w x.1 x.2
theorem IsL.form {w : World} {v : Value} {l : List (CL × Value)} (h : IsL w v l) : ∃ a c, v = .slice a l.length c := by
  rcases h.1 with ⟨rfl, a, c, rfl⟩ | ⟨b, o, cap, rfl, _⟩
  · exact ⟨_, _, rfl⟩
  · exact ⟨_, _, rfl⟩
theorem IsL.below {w W : World} {v : Value} {l : List (CL × Value)} (h : IsL w v l) (hb : Below w.heap.size w W) : IsL W v l := by
  refine ⟨?_, fun x hx => (h.2 x hx).below hb⟩
  rcases h.1 with h | ⟨b, o, cap, e, hc⟩
  · exact .inl h
  · refine .inr ⟨b, o, cap, e, fun j hj => ?_⟩
    obtain ⟨h1, h2, h3, h4, h5⟩ := hc j hj
    exact ⟨(hb.cell (cell_lt h1)).trans h1, (hb.cell (cell_lt h2)).trans h2, (hb.cell (cell_lt h3)).trans h3, (hb.cell (cell_lt h4)).trans h4, (hb.cell (cell_lt h5)).trans h5⟩
theorem IsL.at_ {w : World} {a : Option Addr} {n c : Nat} {l : List (CL × Value)} (h : IsL w (.slice a n c) l) (i : Nat) (hi : i < l.length) :
    ∃ b o, a = some ⟨b, o, none⟩ ∧ (∀ x, Below w.heap.size w x → x.cell? ⟨b, o + i * 5, none⟩ = some (.int .u64 (l[i].1.ep : Int)) ∧ x.cell? ⟨b, o + i * 5 + 1, none⟩ = some (.int .u64 (l[i].1.li : Int)) ∧ x.cell? ⟨b, o + i * 5 + 2, none⟩ = some (.int .i64 l[i].1.part) ∧ x.cell? ⟨b, o + i * 5 + 3, none⟩ = some (.int .i64 l[i].1.of) ∧ x.cell? ⟨b, o + i * 5 + 4, none⟩ = some l[i].2) ∧ IsC w l[i].1 l[i].2 := by
  have hm := h.2 _ (List.getElem_mem hi)
  rcases h.1 with ⟨rfl, _⟩ | ⟨b, o, cap, e, hc⟩
  · simp at hi
  · injection e with e1
    obtain ⟨h1, h2, h3, h4, h5⟩ := hc i hi
    exact ⟨b, o, e1, fun x hb => ⟨(hb.cell (cell_lt h1)).trans h1, (hb.cell (cell_lt h2)).trans h2, (hb.cell (cell_lt h3)).trans h3, (hb.cell (cell_lt h4)).trans h4, (hb.cell (cell_lt h5)).trans h5⟩, hm⟩
theorem sames_len {l m : List CL} (h : ¬ l.length = m.length) : samesC l m = false := by
  rw [Bool.eq_false_iff]
  intro e
  exact h (congrArg List.length (samesC_iff.1 e))
theorem sames_drop (l m : List CL) (i : Nat) (h1 : i < l.length) (h2 : i < m.length) : samesC (l.drop i) (m.drop i) = (sameC l[i] m[i] && samesC (l.drop (i + 1)) (m.drop (i + 1))) := by
  rw [List.drop_eq_getElem_cons h1, List.drop_eq_getElem_cons h2]
  rfl
set_option maxHeartbeats 4000000 in
theorem rsames_any (l m : List (CL × Value)) (lv mv : Value) (w : World) (hL : IsL w lv l) (hM : IsL w mv m) (hl : l.length ≤ 1000000000) (hm : m.length ≤ 1000000000) : Calls Try.prog 15 #[lv, mv] w fun e w' => e = .returned (.bool (samesC (l.map Prod.fst) (m.map Prod.fst))) ∧ Below w.heap.size w w' := by
  obtain ⟨la, lc, rfl⟩ := hL.form
  obtain ⟨ma, mc, rfl⟩ := hM.form
  by_cases hlen : l.length = m.length
  · have HD : Hid (∀ i, i < l.length → ∃ b1 o1 b2 o2, la = some ⟨b1, o1, none⟩ ∧ ma = some ⟨b2, o2, none⟩ ∧ ∃ x y : CL, ∃ xa xn xc ya yn yc, (∀ W, Below w.heap.size w W → (W.cell? ⟨b1, o1 + i * 5, none⟩ = some (.int .u64 (x.ep : Int)) ∧ W.cell? ⟨b1, o1 + i * 5 + 1, none⟩ = some (.int .u64 (x.li : Int)) ∧ W.cell? ⟨b1, o1 + i * 5 + 2, none⟩ = some (.int .i64 x.part) ∧ W.cell? ⟨b1, o1 + i * 5 + 3, none⟩ = some (.int .i64 x.of) ∧ W.cell? ⟨b1, o1 + i * 5 + 4, none⟩ = some (.slice xa xn xc)) ∧ (W.cell? ⟨b2, o2 + i * 5, none⟩ = some (.int .u64 (y.ep : Int)) ∧ W.cell? ⟨b2, o2 + i * 5 + 1, none⟩ = some (.int .u64 (y.li : Int)) ∧ W.cell? ⟨b2, o2 + i * 5 + 2, none⟩ = some (.int .i64 y.part) ∧ W.cell? ⟨b2, o2 + i * 5 + 3, none⟩ = some (.int .i64 y.of) ∧ W.cell? ⟨b2, o2 + i * 5 + 4, none⟩ = some (.slice ya yn yc)) ∧ Calls Try.prog 12 #[clA x (.slice xa xn xc), clA y (.slice ya yn yc)] W fun e w' => e = .returned (.bool (sameC x y)) ∧ Hid (Below W.heap.size W w')) ∧ samesC ((l.map Prod.fst).drop i) ((m.map Prod.fst).drop i) = (sameC x y && samesC ((l.map Prod.fst).drop (i + 1)) ((m.map Prod.fst).drop (i + 1)))) := hide (fun i hi => by
      obtain ⟨b1, o1, e1, c1, i1⟩ := hL.at_ i hi
      obtain ⟨b2, o2, e2, c2, i2⟩ := hM.at_ i (by omega)
      have hs := sames_drop (l.map Prod.fst) (m.map Prod.fst) i (by simpa using hi) (by simp; omega)
      rw [List.getElem_map, List.getElem_map] at hs
      obtain ⟨xa, xc, ex⟩ := i1.d.form
      obtain ⟨ya, yc, ey⟩ := i2.d.form
      refine ⟨b1, o1, b2, o2, e1, e2, l[i].1, (m[i]'(by omega)).1, xa, l[i].1.data.length, xc, ya, (m[i]'(by omega)).1.data.length, yc, fun W hb => ⟨?_, ?_, ?_⟩, hs⟩
      · rw [← ex]; exact c1 W hb
      · rw [← ey]; exact c2 W hb
      · rw [← ex, ← ey]
        exact (rsame_any _ _ _ _ W (i1.below hb) (i2.below hb)).mono fun e w' hh => ⟨hh.1, hide hh.2⟩)
    have HS0 : Hid (samesC ((l.map Prod.fst).drop 0) ((m.map Prod.fst).drop 0) = samesC (l.map Prod.fst) (m.map Prod.fst)) := hide rfl
    have HE : Hid (samesC ((l.map Prod.fst).drop l.length) ((m.map Prod.fst).drop l.length) = true) := hide (by
      rw [List.drop_of_length_le (by simp), List.drop_of_length_le (by simp; omega)]
      rfl)
    rw [← hlen]
    generalize samesC (l.map Prod.fst) (m.map Prod.fst) = V at *
    generalize hF : (fun i => samesC ((l.map Prod.fst).drop i) ((m.map Prod.fst).drop i)) = F at *
    have HF : Hid (∀ i, samesC ((l.map Prod.fst).drop i) ((m.map Prod.fst).drop i) = F i) := hide (fun i => by rw [← hF])
    clear hF hL hM hlen hm
    generalize hn : l.length = n at *
    clear hn
    go_enter Try.func15, Try.ntmps15
    go_wp2
    go_loopw [5] (fun vi wr => ∃ i : Nat, vi = .int .i64 (i : Int) ∧ i ≤ n ∧ Hid (F i = V) ∧ Hid (Below w.heap.size w wr)) (fun vi _ => n - (intOf vi).toNat)
    case atStart => exact ⟨0, rfl, Nat.zero_le _, hide ((HF.out 0).symm.trans HS0.out), hide (Below.refl _ _)⟩
    case round =>
      clear HS0
      obtain ⟨i, rfl, hi, HV, HB⟩ := hrel
      by_cases hlt : i < n
      · have hlt2 : (i : Int) < n := by omega
        obtain ⟨b1, o1, b2, o2, rfl, rfl, x, y, xa, xn, xc, ya, yn, yc, hW, hst⟩ := HD.out i hlt
        have HW := hide hW
        have HST : Hid (F i = (sameC x y && F (i + 1))) := hide (by rw [← HF.out i, ← HF.out (i + 1)]; exact hst)
        clear hW hst HD HE HF
        generalize sameC x y = SB at *
        go_wp2_with fail
        refine wp_region_held_drew (S := fun W' => Below w.heap.size w W') (by kernel_rfl) HB.out.drew (fun hHeld => ?_)
        refine wpAnyH_take (i := 0) (v := ?_) rfl (by kernel_rfl) (by kernel_rfl) (by kernel_rfl) (fun _ _ _ h => h) (Or.inl ⟨by kernel_rfl, ?_⟩) hHeld ?_
        rotate_left
        · intro W hSw
          clear hSw
          go_simp <;> with_reducible rfl
        simp only [Act.put, List.getElem_toArray, List.getElem_cons_zero, List.getElem_cons_succ, List.setIfInBounds_toArray, List.set_cons_zero, List.set_cons_succ]
        refine wpAnyH_take (i := 1) (v := ?_) rfl (by kernel_rfl) (by kernel_rfl) (by kernel_rfl) (fun _ _ _ h => h) (Or.inl ⟨by kernel_rfl, ?_⟩) hHeld ?_
        rotate_left
        · intro W hSw
          clear hSw
          go_simp <;> with_reducible rfl
        simp only [Act.put, List.getElem_toArray, List.getElem_cons_zero, List.getElem_cons_succ, List.setIfInBounds_toArray, List.set_cons_zero, List.set_cons_succ]
        refine wpAnyH_take (i := 2) (v := ?_) rfl (by kernel_rfl) (by kernel_rfl) (by kernel_rfl) (fun _ _ _ h => h) (Or.inl ⟨by kernel_rfl, ?_⟩) hHeld ?_
        rotate_left
        · intro W hSw
          clear hSw
          go_simp <;> with_reducible rfl
        simp only [Act.put, List.getElem_toArray, List.getElem_cons_zero, List.getElem_cons_succ, List.setIfInBounds_toArray, List.set_cons_zero, List.set_cons_succ]
        refine wpAnyH_take (i := 3) (v := ?_) rfl (by kernel_rfl) (by kernel_rfl) (by kernel_rfl) (fun _ _ _ h => h) (Or.inl ⟨by kernel_rfl, ?_⟩) hHeld ?_
        rotate_left
        · intro W hSw
          obtain ⟨p0, p1, p2, p3, p4⟩ := (HW.out _ hSw).1
          clear hSw
          go_simp <;> with_reducible rfl
        simp only [Act.put, List.getElem_toArray, List.getElem_cons_zero, List.getElem_cons_succ, List.setIfInBounds_toArray, List.set_cons_zero, List.set_cons_succ]
        refine wpAnyH_take (i := 4) (v := ?_) rfl (by kernel_rfl) (by kernel_rfl) (by kernel_rfl) (fun _ _ _ h => h) (Or.inl ⟨by kernel_rfl, ?_⟩) hHeld ?_
        rotate_left
        · intro W hSw
          clear hSw
          go_simp <;> with_reducible rfl
        simp only [Act.put, List.getElem_toArray, List.getElem_cons_zero, List.getElem_cons_succ, List.setIfInBounds_toArray, List.set_cons_zero, List.set_cons_succ]
        refine wpAnyH_take (i := 5) (v := ?_) rfl (by kernel_rfl) (by kernel_rfl) (by kernel_rfl) (fun _ _ _ h => h) (Or.inl ⟨by kernel_rfl, ?_⟩) hHeld ?_
        rotate_left
        · intro W hSw
          clear hSw
          go_simp <;> with_reducible rfl
        simp only [Act.put, List.getElem_toArray, List.getElem_cons_zero, List.getElem_cons_succ, List.setIfInBounds_toArray, List.set_cons_zero, List.set_cons_succ]
        refine wpAnyH_take (i := 6) (v := ?_) rfl (by kernel_rfl) (by kernel_rfl) (by kernel_rfl) (fun _ _ _ h => h) (Or.inl ⟨by kernel_rfl, ?_⟩) hHeld ?_
        rotate_left
        · intro W hSw
          clear hSw
          go_simp <;> with_reducible rfl
        simp only [Act.put, List.getElem_toArray, List.getElem_cons_zero, List.getElem_cons_succ, List.setIfInBounds_toArray, List.set_cons_zero, List.set_cons_succ]
        refine wpAnyH_take (i := 7) (v := ?_) rfl (by kernel_rfl) (by kernel_rfl) (by kernel_rfl) (fun _ _ _ h => h) (Or.inl ⟨by kernel_rfl, ?_⟩) hHeld ?_
        rotate_left
        · intro W hSw
          obtain ⟨q0, q1, q2, q3, q4⟩ := (HW.out _ hSw).2.1
          clear hSw
          go_simp <;> with_reducible rfl
        simp only [Act.put, List.getElem_toArray, List.getElem_cons_zero, List.getElem_cons_succ, List.setIfInBounds_toArray, List.set_cons_zero, List.set_cons_succ]
        have HC := hide (HW.out _ hHeld).2.2
        refine wpAnyH_ready (rs := [8]) (by kernel_rfl) (by simp) ?_
        refine AllReadyH.cons rfl (fun K hK => ?_) AllReadyH.nil
        go_simp
        go_wp2_with (first | (go_at_call 12; refine HC.out.mono ?_; rintro e w1 ⟨rfl, bb⟩))
        refine hK.out _ _ ?_ (fun hHeld => ?_)
        · exact Below.trans hHeld (bb.out.mono hHeld.size)
        clear hK K
        try simp only [Act.put, List.getElem_toArray, List.getElem_cons_zero, List.getElem_cons_succ, List.setIfInBounds_toArray, List.set_cons_zero, List.set_cons_succ]
        clear HC bb
        cases SB
        · have HV2 : Hid (V = false) := hide (by rw [← HV.out, HST.out]; rfl)
          clear HST HV
          refine wpAnyH_take (i := 9) (v := .bool true) rfl (by kernel_rfl) (by kernel_rfl) (by kernel_rfl) (fun _ _ _ h => h) (Or.inl ⟨by kernel_rfl, fun _ _ => by go_simp⟩) hHeld ?_
          simp only [Act.put, List.getElem_toArray, List.getElem_cons_zero, List.getElem_cons_succ, List.setIfInBounds_toArray, List.set_cons_zero, List.set_cons_succ]
          refine wpAnyH_done (by kernel_rfl) ?_ _
          have HB2 := hide hHeld
          clear hHeld
          go_wp2
          go_ret
          exact ⟨by rw [HV2.out]; rfl, HB2.out⟩
        · have HV2 : Hid (F (i + 1) = V) := hide (by rw [← HV.out, HST.out]; rfl)
          clear HST HV
          refine wpAnyH_take (i := 9) (v := .bool false) rfl (by kernel_rfl) (by kernel_rfl) (by kernel_rfl) (fun _ _ _ h => h) (Or.inl ⟨by kernel_rfl, fun _ _ => by go_simp⟩) hHeld ?_
          simp only [Act.put, List.getElem_toArray, List.getElem_cons_zero, List.getElem_cons_succ, List.setIfInBounds_toArray, List.set_cons_zero, List.set_cons_succ]
          refine wpAnyH_done (by kernel_rfl) ?_ _
          have HB2 := hide hHeld
          clear hHeld
          go_wp2
          go_roundw
          case rel => exact ⟨i + 1, by go_num, by omega, HV2, HB2⟩
          case measure => simp [intOf]; omega
      · have hlt2 : ¬ (i : Int) < n := by omega
        obtain rfl : i = n := by omega
        have HV2 : Hid (V = true) := hide (by rw [← HV.out, ← HF.out]; exact HE.out)
        clear HV HE HF HD
        go_wp2
        go_ret
        exact ⟨by rw [HV2.out]; rfl, HB.out⟩
  · rw [sames_len (by simpa using hlen)]
    have h1 : ((l.length : Int) != (m.length : Int)) = true := by rw [bne_iff_ne]; omega
    have HB := hide (Below.refl w.heap.size w)
    clear hL hM hlen hl hm
    generalize l.length = n1 at *
    generalize m.length = n2 at *
    go_enter Try.func15, Try.ntmps15
    go_wp2
    go_ret
    exact ⟨rfl, HB.out⟩
end Go.Proofs.Ytbodbomebmkopaa
