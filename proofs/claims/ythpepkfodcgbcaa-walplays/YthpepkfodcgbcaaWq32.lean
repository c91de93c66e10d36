import Derived.Test.YthpepkfodcgbcaaWq22
import Derived.Test.YthpepkfodcgbcaaWq31
import Derived.Test.YthpepkfodcgbcaaWq26
import Derived.Deep.RegionHeld2
/- What the program's cells answers. -/
set_option linter.unusedVariables false
set_option linter.unusedSimpArgs false
set_option maxRecDepth 40000
namespace Go.Proofs.Ythpepkfodcgbcaa
open Go.RowKit

theorem make_roomC (w : World) (n : Nat) (hn : n ≤ 1000000) : ∃ w1, (Instr.makeSlice 69 (.int .i64 0) (.int .i64 (n : Int))).run Try.prog w = .ok (.slice (some ⟨w.heap.size, 0, none⟩) 0 n) w1 ∧ CutN w [] (.slice (some ⟨w.heap.size, 0, none⟩) 0 n) w1 := by
  have hr := run_make (P := Try.prog) w 69 90 Try.t90 (.agg #[.int .u64 0, .int .u64 0, .int .i64 0, .int .i64 0, .slice none 0 0]) Try.underlying69 (by kernel_rfl) (by kernel_rfl) .i64 .i64 0 n (by omega) (by omega) (by rw [show Try.t90.bytes = 56 from by kernel_rfl]; omega) (by omega)
  simp only [Int.toNat_natCast, Int.toNat_zero] at hr
  refine ⟨_, hr, ⟨⟨rfl, .inr ⟨w.heap.size, n, _, rfl, Nat.le_refl _, alloc_newC w _, Nat.zero_le _, by unfold maxLen; omega, ?_, ?_⟩⟩, (fun y hy => by cases hy), (fun k hk y hy => by cases hy), (fun y hy => by cases hy), below_alloc w _⟩⟩
  · rw [size_madeCells]
    show n * Try.t90.size = n * 5
    rw [show Try.t90.size = 5 from by kernel_rfl]
  · simp [cellsV]
theorem cellsN_step {w x x' : World} {l : List (CL × Value)} {v : Value} (h : CutN w l v x) (hn : l.length ≤ 1000) {c : CL} {sa : Option Addr} {k cap : Nat} (hi : IsC x' c (.slice sa k cap)) (hnew : ∀ j, (Value.slice sa k cap).ownBlock = some j → x.heap.size ≤ j ∧ j < x'.heap.size) (hb : Below x.heap.size x x') :
    ∃ a' c' w', (Builtin.append_ #[69, 69] 69 #[v, .slice (some ⟨x'.heap.size + 1, 0, none⟩) 1 1]).run Try.prog ((x'.alloc (.cells (clC c (.slice sa k cap)) 90)).alloc (.cells (clC c (.slice sa k cap)) 90)) = .ok (.slice a' (l.length + 1) c') w' ∧ CutN w (l ++ [(c, .slice sa k cap)]) (.slice a' (l.length + 1) c') w' ∧ (∀ j, j < x.heap.size → v.ownBlock ≠ some j → w'.heap[j]? = x.heap[j]?) ∧ ((Value.slice a' (l.length + 1) c').ownBlock = v.ownBlock ∨ ∀ j, (Value.slice a' (l.length + 1) c').ownBlock = some j → x.heap.size ≤ j) ∧ x.heap.size ≤ w'.heap.size := by
  have hal := below_alloc x' (.cells (clC c (.slice sa k cap)) 90)
  have hs1 : (x'.alloc (.cells (clC c (.slice sa k cap)) 90)).heap.size = x'.heap.size + 1 := by simp
  have hs2 := hb.size
  have h1 := (h.below hb).below hal
  obtain ⟨a', c', w', r, q, q2, q3, q4⟩ := h1.push (by omega) c sa k cap (hi.below hal) (fun j hj => by
    have h2 := hnew j hj
    refine ⟨Nat.le_trans h.b.size h2.1, by rw [hs1]; omega, fun e => ?_⟩
    have h3 := (h.o.lt j e).2
    omega)
  rw [hs1] at r q2 q3 q4
  refine ⟨a', c', w', r, q, fun j hj hne => ?_, q3.imp id fun e j hj => ?_, by omega⟩
  · exact (q2 j (by omega) hne).trans ((hal.block j (by omega)).trans (hb.block j hj))
  · rw [e] at hj
    injection hj with hj
    omega
/-- The sector of a block that was read. -/
theorem sec_of {s : List Bs} (h : ∀ x ∈ s, x.length = 64) {first size n i : Nat} (hfit : (first + size) * 4 ≤ s.length) (hn : n < size) (hi : i < 4) : (regW s first size)[4 * n + i]? = some ((((s.drop ((first + n) * 4)).take 4).flatten.drop (64 * i)).take (64 * (i + 1) - 64 * i)) := by
  have hl : ((s.drop ((first + n) * 4)).take 4).length = 4 := by rw [List.length_take, List.length_drop]; omega
  have h64 : ∀ x ∈ (s.drop ((first + n) * 4)).take 4, x.length = 64 := fun x hx => h x (List.mem_of_mem_drop (List.mem_of_mem_take hx))
  have h1 := cut_flat ((s.drop ((first + n) * 4)).take 4) i h64 (by omega)
  unfold cutB at h1
  rw [show 64 * (i + 1) - 64 * i = 64 by omega, Nat.mul_comm 64 i, h1, reg_get _ _ _ _ (by omega), ← List.getElem?_eq_getElem, List.getElem?_take, if_pos hi, List.getElem?_drop]
  congr 1
  omega
def CellsR (w : World) (d : DM) (first size : Nat) (e : Ending) (w' : World) : Prop := Below w.heap.size w w' ∧ ((d.off = true ∧ e = .returned (.tuple #[.slice none 0 0, .int .i64 9])) ∨ (d.off = false ∧ ∃ la lc l, e = .returned (.tuple #[.slice la l.length lc, .int .i64 0]) ∧ l.map Prod.fst = (regW (nowD d) first size).map cellO ∧ CutN w l (.slice la l.length lc) w'))
def ReadX (x : World) (b : Bs) (e : Ending) (x' : World) : Prop := ∃ ua uc, e = .returned (.tuple #[.slice ua 256 uc, .int .i64 0]) ∧ Hid (IsY x' (.slice ua 256 uc) b ∧ ∀ j, (Value.slice ua 256 uc).ownBlock = some j → x.heap.size ≤ j ∧ j < x'.heap.size) ∧ Hid (Below x.heap.size x x')
def ReadN (x : World) (e : Ending) (x' : World) : Prop := ∃ ua un uc, e = .returned (.tuple #[.slice ua un uc, .int .i64 9]) ∧ Hid True ∧ Hid (Below x.heap.size x x')
theorem cells_fit {first n size : Nat} (h1 : first ≤ 10000) (h2 : n ≤ 10000) : wrap64 ((first : Int) + (n : Int)) = (first : Int) + (n : Int) ∧ IntKind.i64.wrap ((first : Int) + (n : Int)) = (first : Int) + (n : Int) := by
  rw [IntKind.wrap_i64]
  unfold wrap64
  omega
set_option maxHeartbeats 16000000 in
theorem pcells_on (B : Nat → Prop) (a : Nat) (dp : Addr) (d : DM) (first size : Nat) (w : World) (x0 : w.cell? ⟨a, 0, none⟩ = some (.pointer (some dp))) (x1 : w.cell? ⟨a, 1, none⟩ = some (.int .i64 (first : Int))) (x2 : w.cell? ⟨a, 2, none⟩ = some (.int .i64 (size : Int))) (hK : IsK B w (.pointer (some dp)) d) (hF : Fit d) (hfit : (first + size) * 4 ≤ d.safe.length) (hs : d.safe.length ≤ 800) (ho : d.off = false) :
    Calls Try.prog 39 #[.pointer (some ⟨a, 0, none⟩)] w (CellsR w d first size) := by
  have h64 := now_64' hF.ok
  have hnl := now_len d
  have HXX := hide (fun x (hx : Below w.heap.size w x) => And.intro ((hx.cell (cell_lt x0)).trans x0) (And.intro ((hx.cell (cell_lt x1)).trans x1) ((hx.cell (cell_lt x2)).trans x2)))
  have hsl : (regW (nowD d) first size).length = size * 4 := reg_len _ _ _ (by rw [hnl]; exact hfit)
  have HRDA : Hid (∀ (x : World) (n : Nat), Below w.heap.size w x → n < size → Calls Try.prog 60 #[.pointer (some dp), .int .i64 ((first : Int) + (n : Int))] x.drew (ReadX x (((nowD d).drop ((first + n) * 4)).take 4).flatten)) := hide (fun x n hx hn => by
    have h1 := pread_any B _ d ((first + n : Nat) : Int) x.drew (hK.below hx.drew) hF
    rw [read_blk (by omega) ho] at h1
    refine h1.mono ?_
    rintro e x' ⟨u, rfl, hu, hb⟩
    have hl : (((nowD d).drop ((first + n) * 4)).take 4).flatten.length = 256 := by
      rw [flat_64 _ (fun y hy => h64 y (List.mem_of_mem_drop (List.mem_of_mem_take hy))), List.length_take, List.length_drop]
      omega
    obtain ⟨ua, uc, rfl⟩ := hu.form
    rw [hl] at hu ⊢
    exact ⟨ua, uc, rfl, hide ⟨hu.isY, hu.blk⟩, hide ((Below.refl x.heap.size x).drew.trans hb)⟩)
  have HSEC : Hid (∀ n i, n < size → i < 4 → (regW (nowD d) first size)[4 * n + i]? = some (((((nowD d).drop ((first + n) * 4)).take 4).flatten.drop (64 * i)).take (64 * (i + 1) - 64 * i)) ∧ (((nowD d).drop ((first + n) * 4)).take 4).flatten.length = 256 ∧ (((((nowD d).drop ((first + n) * 4)).take 4).flatten.drop (64 * i)).take (64 * (i + 1) - 64 * i)).length ≤ 1000000) := hide (fun n i hn hi => by
    have hl : (((nowD d).drop ((first + n) * 4)).take 4).flatten.length = 256 := by
      rw [flat_64 _ (fun y hy => h64 y (List.mem_of_mem_drop (List.mem_of_mem_take hy))), List.length_take, List.length_drop]
      omega
    exact ⟨sec_of h64 (by rw [hnl]; exact hfit) hn hi, hl, by rw [List.length_take, List.length_drop]; omega⟩)
  have HTK : Hid (∀ j s, (regW (nowD d) first size)[j]? = some s → ((regW (nowD d) first size).take (j + 1)).map cellO = ((regW (nowD d) first size).take j).map cellO ++ [cellO s]) := hide (fun j s h => by
    obtain ⟨hj, rfl⟩ := List.getElem?_eq_some_iff.1 h
    rw [List.take_succ_eq_append_getElem hj, List.map_append]
    rfl)
  have HEND : Hid (∀ x la lc l k, l.length = k → l.map Prod.fst = ((regW (nowD d) first size).take (4 * size)).map cellO → CutN w l (.slice la k lc) x → CellsR w d first size (.returned (.tuple #[.slice la k lc, .int .i64 0])) x) := hide (fun x la lc l k hk h1 h2 => by
    subst hk
    rw [List.take_of_length_le (by omega)] at h1
    exact ⟨h2.b, .inr ⟨ho, la, lc, l, rfl, h1, h2⟩⟩)
  have hsz : size ≤ 200 := by omega
  have hfi : first ≤ 10000 := by omega
  have HWF := hide (fun n (h : n ≤ 10000) => cells_fit (size := size) hfi h)
  obtain ⟨w1, hmk, hcut⟩ := make_roomC w (4 * size) (by omega)
  have HC0 := hide hcut
  have hx1 := HXX.out w1 hcut.b
  obtain ⟨_, _, y2⟩ := hx1
  have hw4 : wrap64 (4 * (size : Int)) = 4 * (size : Int) := by unfold wrap64; omega
  rw [show ((4 * size : Nat) : Int) = 4 * (size : Int) by omega] at hmk
  clear h64 hnl hcut hK hF hfit hs hsl hfi
  generalize regW (nowD d) first size = SS at *
  go_enter Try.func39, Try.ntmps39
  go_wp2
  go_loopw [4, 21] (fun vo vi wr => ∃ (n k lc : Nat) (la : Option Addr) (l : List (CL × Value)), vi = .int .i64 (n : Int) ∧ n ≤ size ∧ vo = .slice la k lc ∧ Hid (l.length = k ∧ k = 4 * n) ∧ Hid (l.map Prod.fst = (SS.take (4 * n)).map cellO) ∧ Hid (CutN w l (.slice la k lc) wr)) (fun _ vi _ => size - (intOf vi).toNat)
  case atStart => exact ⟨0, 0, _, _, [], rfl, Nat.zero_le _, rfl, hide ⟨rfl, rfl⟩, hide rfl, HC0⟩
  case round =>
    clear HC0 hmk hw4 y2
    obtain ⟨n, k, lc, la, l, rfl, hn, rfl, HKL, HM, HC⟩ := hrel
    by_cases hlt : n < size
    · have hlt2 : (n : Int) < size := by omega
      obtain ⟨x0, x1, _⟩ := HXX.out wr HC.out.b
      have HRD := hide (HRDA.out wr n HC.out.b hlt)
      have HQ := hide (HWF.out n (by omega))
      have HBX := hide (fun (y : World) (hb : Below wr.heap.size wr y) => And.intro (HXX.out y (HC.out.b.trans (hb.mono HC.out.b.size))).1 (HXX.out y (HC.out.b.trans (hb.mono HC.out.b.size))).2.1)
      go_wp2_with fail
      refine wp_region_held_drew (S := fun W' => (fun W : World => W.cell? ⟨a, 0, none⟩ = some (.pointer (some dp)) ∧ W.cell? ⟨a, 1, none⟩ = some (.int .i64 (first : Int))) W') (by kernel_rfl) ⟨x0, x1⟩ (fun hHeld => ?_)
      refine wpAnyH_take (i := 0) (v := ?_) rfl (by kernel_rfl) (by kernel_rfl) (by kernel_rfl) (fun _ _ _ h => h) (Or.inl ⟨by kernel_rfl, ?_⟩) hHeld ?_
      rotate_left
      · intro W hSw
        clear hSw
        go_simp <;> with_reducible rfl
      simp only [Act.put, List.getElem_toArray, List.getElem_cons_zero, List.getElem_cons_succ, List.setIfInBounds_toArray, List.set_cons_zero, List.set_cons_succ]
      refine wpAnyH_take (i := 1) (v := ?_) rfl (by kernel_rfl) (by kernel_rfl) (by kernel_rfl) (fun _ _ _ h => h) (Or.inl ⟨by kernel_rfl, ?_⟩) hHeld ?_
      rotate_left
      · intro W hSw
        clear hSw
        go_simp <;> with_reducible rfl
      simp only [Act.put, List.getElem_toArray, List.getElem_cons_zero, List.getElem_cons_succ, List.setIfInBounds_toArray, List.set_cons_zero, List.set_cons_succ]
      refine wpAnyH_take (i := 2) (v := ?_) rfl (by kernel_rfl) (by kernel_rfl) (by kernel_rfl) (fun _ _ _ h => h) (Or.inl ⟨by kernel_rfl, ?_⟩) hHeld ?_
      rotate_left
      · intro W hSw
        clear hSw
        go_simp <;> with_reducible rfl
      simp only [Act.put, List.getElem_toArray, List.getElem_cons_zero, List.getElem_cons_succ, List.setIfInBounds_toArray, List.set_cons_zero, List.set_cons_succ]
      refine wpAnyH_take (i := 3) (v := ?_) rfl (by kernel_rfl) (by kernel_rfl) (by kernel_rfl) (fun _ _ _ h => h) (Or.inl ⟨by kernel_rfl, ?_⟩) hHeld ?_
      rotate_left
      · intro W hSw
        have hc := hSw.1
        clear hSw
        go_simp <;> with_reducible rfl
      simp only [Act.put, List.getElem_toArray, List.getElem_cons_zero, List.getElem_cons_succ, List.setIfInBounds_toArray, List.set_cons_zero, List.set_cons_succ]
      refine wpAnyH_take (i := 4) (v := ?_) rfl (by kernel_rfl) (by kernel_rfl) (by kernel_rfl) (fun _ _ _ h => h) (Or.inl ⟨by kernel_rfl, ?_⟩) hHeld ?_
      rotate_left
      · intro W hSw
        clear hSw
        go_simp <;> with_reducible rfl
      simp only [Act.put, List.getElem_toArray, List.getElem_cons_zero, List.getElem_cons_succ, List.setIfInBounds_toArray, List.set_cons_zero, List.set_cons_succ]
      refine wpAnyH_take (i := 5) (v := ?_) rfl (by kernel_rfl) (by kernel_rfl) (by kernel_rfl) (fun _ _ _ h => h) (Or.inl ⟨by kernel_rfl, ?_⟩) hHeld ?_
      rotate_left
      · intro W hSw
        clear hSw
        go_simp <;> with_reducible rfl
      simp only [Act.put, List.getElem_toArray, List.getElem_cons_zero, List.getElem_cons_succ, List.setIfInBounds_toArray, List.set_cons_zero, List.set_cons_succ]
      refine wpAnyH_take (i := 6) (v := ?_) rfl (by kernel_rfl) (by kernel_rfl) (by kernel_rfl) (fun _ _ _ h => h) (Or.inl ⟨by kernel_rfl, ?_⟩) hHeld ?_
      rotate_left
      · intro W hSw
        clear hSw
        go_simp <;> with_reducible rfl
      simp only [Act.put, List.getElem_toArray, List.getElem_cons_zero, List.getElem_cons_succ, List.setIfInBounds_toArray, List.set_cons_zero, List.set_cons_succ]
      refine wpAnyH_take (i := 7) (v := ?_) rfl (by kernel_rfl) (by kernel_rfl) (by kernel_rfl) (fun _ _ _ h => h) (Or.inl ⟨by kernel_rfl, ?_⟩) hHeld ?_
      rotate_left
      · intro W hSw
        have hc := hSw.2
        clear hSw
        go_simp <;> with_reducible rfl
      simp only [Act.put, List.getElem_toArray, List.getElem_cons_zero, List.getElem_cons_succ, List.setIfInBounds_toArray, List.set_cons_zero, List.set_cons_succ]
      refine wpAnyH_take (i := 8) (v := ?_) rfl (by kernel_rfl) (by kernel_rfl) (by kernel_rfl) (fun _ _ _ h => h) (Or.inl ⟨by kernel_rfl, ?_⟩) hHeld ?_
      rotate_left
      · intro W hSw
        clear hSw
        go_simp <;> with_reducible rfl
      simp only [Act.put, List.getElem_toArray, List.getElem_cons_zero, List.getElem_cons_succ, List.setIfInBounds_toArray, List.set_cons_zero, List.set_cons_succ]
      refine wpAnyH_take (i := 9) (v := ?_) rfl (by kernel_rfl) (by kernel_rfl) (by kernel_rfl) (fun _ _ _ h => h) (Or.inl ⟨by kernel_rfl, ?_⟩) hHeld ?_
      rotate_left
      · intro W hSw
        have h3 := HQ.out
        clear hSw
        go_simp <;> with_reducible rfl
      simp only [Act.put, List.getElem_toArray, List.getElem_cons_zero, List.getElem_cons_succ, List.setIfInBounds_toArray, List.set_cons_zero, List.set_cons_succ]
      refine wpAnyH_ready (rs := [10]) (by kernel_rfl) (by simp) ?_
      refine AllReadyH.cons rfl (fun K hK => ?_) AllReadyH.nil
      go_simp
      go_wp2_with (first | (go_at_call 60; refine HRD.out.mono ?_; rintro e y ⟨ua, uc, rfl, hu, hb⟩))
      refine hK.out _ _ ?_ (fun hHeld => ?_)
      · exact HBX.out y hb.out
      clear hK K
      try simp only [Act.put, List.getElem_toArray, List.getElem_cons_zero, List.getElem_cons_succ, List.setIfInBounds_toArray, List.set_cons_zero, List.set_cons_succ]
      refine wpAnyH_take (i := 11) (v := ?_) rfl (by kernel_rfl) (by kernel_rfl) (by kernel_rfl) (fun _ _ _ h => h) (Or.inl ⟨by kernel_rfl, ?_⟩) hHeld ?_
      rotate_left
      · intro W hSw
        clear hSw
        go_simp <;> with_reducible rfl
      simp only [Act.put, List.getElem_toArray, List.getElem_cons_zero, List.getElem_cons_succ, List.setIfInBounds_toArray, List.set_cons_zero, List.set_cons_succ]
      refine wpAnyH_take (i := 12) (v := ?_) rfl (by kernel_rfl) (by kernel_rfl) (by kernel_rfl) (fun _ _ _ h => h) (Or.inl ⟨by kernel_rfl, ?_⟩) hHeld ?_
      rotate_left
      · intro W hSw
        clear hSw
        go_simp <;> with_reducible rfl
      simp only [Act.put, List.getElem_toArray, List.getElem_cons_zero, List.getElem_cons_succ, List.setIfInBounds_toArray, List.set_cons_zero, List.set_cons_succ]
      refine wpAnyH_take (i := 13) (v := ?_) rfl (by kernel_rfl) (by kernel_rfl) (by kernel_rfl) (fun _ _ _ h => h) (Or.inl ⟨by kernel_rfl, ?_⟩) hHeld ?_
      rotate_left
      · intro W hSw
        clear hSw
        go_simp <;> with_reducible rfl
      simp only [Act.put, List.getElem_toArray, List.getElem_cons_zero, List.getElem_cons_succ, List.setIfInBounds_toArray, List.set_cons_zero, List.set_cons_succ]
      refine wpAnyH_take (i := 14) (v := ?_) rfl (by kernel_rfl) (by kernel_rfl) (by kernel_rfl) (fun _ _ _ h => h) (Or.inl ⟨by kernel_rfl, ?_⟩) hHeld ?_
      rotate_left
      · intro W hSw
        clear hSw
        go_simp <;> with_reducible rfl
      simp only [Act.put, List.getElem_toArray, List.getElem_cons_zero, List.getElem_cons_succ, List.setIfInBounds_toArray, List.set_cons_zero, List.set_cons_succ]
      refine wpAnyH_take (i := 15) (v := ?_) rfl (by kernel_rfl) (by kernel_rfl) (by kernel_rfl) (fun _ _ _ h => h) (Or.inl ⟨by kernel_rfl, ?_⟩) hHeld ?_
      rotate_left
      · intro W hSw
        clear hSw
        go_simp <;> with_reducible rfl
      simp only [Act.put, List.getElem_toArray, List.getElem_cons_zero, List.getElem_cons_succ, List.setIfInBounds_toArray, List.set_cons_zero, List.set_cons_succ]
      refine wpAnyH_done (by kernel_rfl) ?_ _
      have HI0 : Hid (CutN w l (.slice la k lc) y ∧ (IsY y (.slice ua 256 uc) (((nowD d).drop ((first + n) * 4)).take 4).flatten ∧ ∀ j, (Value.slice ua 256 uc).ownBlock = some j → j < y.heap.size ∧ (Value.slice la k lc).ownBlock ≠ some j)) := hide ⟨HC.out.below hb.out, hu.out.1, fun j hj => ⟨(hu.out.2 j hj).2, fun e => by
        have h1 := (hu.out.2 j hj).1
        have h2 := (HC.out.o.lt j e).2
        omega⟩⟩
      have HM0 : Hid (l.map Prod.fst = (SS.take (4 * n + 0)).map cellO) := HM
      have HK0 : Hid (l.length = k ∧ k = 4 * n + 0) := HKL
      have HSN := hide (fun i (hi : i < 4) => HSEC.out n i hlt hi)
      clear HRD HBX hu hb HC HQ x0 x1 HM HKL HSEC HRDA HWF HEND HXX
      generalize (((nowD d).drop ((first + n) * 4)).take 4).flatten = BK at *
      go_wp2
      go_loopw [4, 41] (fun vo vi wq => ∃ (i k lc : Nat) (la : Option Addr) (l : List (CL × Value)), vi = .int .i64 (i : Int) ∧ i ≤ 4 ∧ vo = .slice la k lc ∧ Hid (l.length = k ∧ k = 4 * n + i) ∧ Hid (l.map Prod.fst = (SS.take (4 * n + i)).map cellO) ∧ Hid (CutN w l (.slice la k lc) wq ∧ (IsY wq (.slice ua 256 uc) BK ∧ ∀ j, (Value.slice ua 256 uc).ownBlock = some j → j < wq.heap.size ∧ (Value.slice la k lc).ownBlock ≠ some j))) (fun _ vi _ => 4 - (intOf vi).toNat)
      case atStart => exact ⟨0, k, lc, la, l, rfl, by decide, rfl, HK0, HM0, HI0⟩
      case round =>
        clear HK0 HM0 HI0
        obtain ⟨i, k, lc, la, l, rfl, hi, rfl, HKL, HM, HI⟩ := hrel
        by_cases hil : i < 4
        · have hil2 : (i : Int) < 4 := by omega
          obtain ⟨s1, s2, s3⟩ := HSN.out i hil
          obtain ⟨u, hsl, hu⟩ := sub_isY HI.out.2.1 (64 * i) (64 * (i + 1)) (by omega) (by omega)
          obtain ⟨va, vc, rfl⟩ := hu.form
          have HDC := hide (pdec_o _ _ wr hu s3)
          have htk := HTK.out _ _ s1
          have HSTEP : Hid (∀ (sa : Option Addr) (kk : Nat) (x' : World), IsC x' (cellO ((BK.drop (64 * i)).take (64 * (i + 1) - 64 * i))) (.slice sa (cellO ((BK.drop (64 * i)).take (64 * (i + 1) - 64 * i))).data.length kk) → (∀ j, (Value.slice sa (cellO ((BK.drop (64 * i)).take (64 * (i + 1) - 64 * i))).data.length kk).ownBlock = some j → wr.heap.size ≤ j ∧ j < x'.heap.size) → Below wr.heap.size wr x' → ∃ a' c' w', (Builtin.append_ #[69, 69] 69 #[.slice la k lc, .slice (some ⟨x'.heap.size + 1, 0, none⟩) 1 1]).run Try.prog ((x'.alloc (.cells (clC (cellO ((BK.drop (64 * i)).take (64 * (i + 1) - 64 * i))) (.slice sa (cellO ((BK.drop (64 * i)).take (64 * (i + 1) - 64 * i))).data.length kk)) 90)).alloc (.cells (clC (cellO ((BK.drop (64 * i)).take (64 * (i + 1) - 64 * i))) (.slice sa (cellO ((BK.drop (64 * i)).take (64 * (i + 1) - 64 * i))).data.length kk)) 90)) = .ok (.slice a' (k + 1) c') w' ∧ ∃ l', Hid (l'.length = k + 1 ∧ k + 1 = 4 * n + (i + 1)) ∧ Hid (l'.map Prod.fst = (SS.take (4 * n + (i + 1))).map cellO) ∧ Hid (CutN w l' (.slice a' (k + 1) c') w' ∧ (IsY w' (.slice ua 256 uc) BK ∧ ∀ j, (Value.slice ua 256 uc).ownBlock = some j → j < w'.heap.size ∧ (Value.slice a' (k + 1) c').ownBlock ≠ some j))) := hide (fun sa kk x' q1 q2 q3 => by
            obtain ⟨e1, e2⟩ := HKL.out
            obtain ⟨a', c', w', r, r2, r3, r4, r5⟩ := cellsN_step HI.out.1 (by omega) q1 q2 q3
            rw [e1] at r r2 r4
            refine ⟨a', c', w', r, _, hide ⟨by rw [List.length_append, e1]; rfl, by omega⟩, hide ?_, hide ⟨r2, isY_keepC HI.out.2.1 fun j hj => r3 j (HI.out.2.2 j hj).1 (HI.out.2.2 j hj).2, fun j hj => ⟨Nat.lt_of_lt_of_le (HI.out.2.2 j hj).1 r5, fun e => ?_⟩⟩⟩
            · rw [List.map_append, HM.out, ← Nat.add_assoc, htk]
              rfl
            · rcases r4 with e4 | e4
              · exact (HI.out.2.2 j hj).2 (e4.symm.trans e)
              · have h1 := e4 j e
                have h2 := (HI.out.2.2 j hj).1
                omega)
          have hw1 : wrap64 ((i : Int) + 1) = (i : Int) + 1 := by unfold wrap64; omega
          have hw2 : wrap64 (64 * ((i : Int) + 1)) = 64 * ((i : Int) + 1) := by unfold wrap64; omega
          have hw3 : wrap64 (64 * (i : Int)) = 64 * (i : Int) := by unfold wrap64; omega
          rw [show ((64 * i : Nat) : Int) = 64 * (i : Int) by omega, show ((64 * (i + 1) : Nat) : Int) = 64 * ((i : Int) + 1) by omega] at hsl
          clear s1 s2 s3 hu htk HI HM HKL
          generalize ((BK.drop (64 * i)).take (64 * (i + 1) - 64 * i)) = ST at *
          generalize ST.length = stl at *
          have HSL := hide hsl
          go_wp2_with fail
          refine HDC.out.mono ?_
          unfold DecO
          generalize cellO ST = C at *
          obtain ⟨ep, li, pp, oo, dd⟩ := C
          rintro e x' ⟨sa, kk, E, rfl, q1, q2, q3⟩
          obtain ⟨a', c', w', hr, l', HK2, HM2, HI2⟩ := HSTEP.out sa kk x' q1.out q2.out q3.out
          simp only [] at hr ⊢
          have HR := hide hr
          clear HDC HSTEP q1 q2 q3 hsl HSL HSN hr
          generalize dd.length = dl at *
          go_wp2_with (at_builtin; refine wpList_append_run rfl (.tmp 55) (.tmp 57) 69 rfl _ _ _ _ rfl rfl HR.out ?_)
          go_roundw
          case rel => exact ⟨i + 1, k + 1, c', a', l', by go_num, by omega, rfl, HK2, HM2, HI2⟩
          case measure => simp [intOf]; omega
        · have hil2 : ¬ (i : Int) < 4 := by omega
          obtain rfl : i = 4 := by omega
          have HM2 : Hid (l.map Prod.fst = (SS.take (4 * (n + 1))).map cellO) := hide (by rw [show 4 * (n + 1) = 4 * n + 4 by omega]; exact HM.out)
          have HK2 : Hid (l.length = k ∧ k = 4 * (n + 1)) := hide (by have := HKL.out; omega)
          have HC2 := hide HI.out.1
          clear HI HM HKL HSN HTK
          go_wp2
          go_roundw
          case rel => exact ⟨n + 1, k, lc, la, l, by go_num, by omega, rfl, HK2, HM2, HC2⟩
          case measure => simp [intOf]; omega
    · have hlt2 : ¬ (n : Int) < size := by omega
      obtain rfl : n = size := by omega
      have HF := hide (HEND.out wr la lc l k HKL.out.1 HM.out HC.out)
      clear HEND HM HC HKL HXX HRDA HSEC HTK HWF
      go_wp2
      go_ret2
      exact HF.out
end Go.Proofs.Ythpepkfodcgbcaa
