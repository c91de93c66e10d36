import Derived.Test.YthpepkfodcgbcaaWq33
import Derived.Test.YthpepkfodcgbcaaWq28
/- What the program's Open answers. -/
set_option linter.unusedVariables false
set_option linter.unusedSimpArgs false
set_option maxRecDepth 40000
namespace Go.Proofs.Ythpepkfodcgbcaa
open Go.RowKit

set_option maxHeartbeats 8000000 in
theorem pcells_off (B : Nat → Prop) (a : Nat) (dp : Addr) (d : DM) (first size : Nat) (w : World) (x0 : w.cell? ⟨a, 0, none⟩ = some (.pointer (some dp))) (x1 : w.cell? ⟨a, 1, none⟩ = some (.int .i64 (first : Int))) (x2 : w.cell? ⟨a, 2, none⟩ = some (.int .i64 (size : Int))) (hK : IsK B w (.pointer (some dp)) d) (hF : Fit d) (hfit : (first + size) * 4 ≤ d.safe.length) (hs : d.safe.length ≤ 800) (h1 : 1 ≤ size) (ho : d.off = true) :
    Calls Try.prog 39 #[.pointer (some ⟨a, 0, none⟩)] w (CellsR w d first size) := by
  have HXX := hide (fun x (hx : Below w.heap.size w x) => And.intro ((hx.cell (cell_lt x0)).trans x0) (And.intro ((hx.cell (cell_lt x1)).trans x1) ((hx.cell (cell_lt x2)).trans x2)))
  have HRDA : Hid (∀ (x : World), Below w.heap.size w x → Calls Try.prog 60 #[.pointer (some dp), .int .i64 ((first : Int) + ((0 : Nat) : Int))] x.drew fun e y => ∃ (ua : Option Addr) (uc : Nat), e = .returned (.tuple #[.slice ua 0 uc, .int .i64 9]) ∧ Hid True ∧ Hid (Below x.heap.size x y)) := hide (fun x hx => by
    have h1 := pread_any B _ d ((first + 0 : Nat) : Int) x.drew (hK.below hx.drew) hF
    rw [read_down (by omega) ho] at h1
    refine h1.mono ?_
    rintro e x' ⟨u, rfl, hu, hb⟩
    obtain ⟨ua, uc, rfl⟩ := hu.form
    exact ⟨ua, uc, rfl, hide trivial, hide ((Below.refl x.heap.size x).drew.trans hb)⟩)
  have HEND : Hid (∀ x, Below w.heap.size w x → CellsR w d first size (.returned (.tuple #[.slice none 0 0, .int .i64 9])) x) := hide (fun x hx => ⟨hx, .inl ⟨ho, rfl⟩⟩)
  have hfi : first ≤ 10000 := by omega
  have hsz : size ≤ 200 := by omega
  have HWF := hide (cells_fit (n := 0) (size := size) hfi (by omega))
  obtain ⟨w1, hmk, hcut⟩ := make_roomC w (4 * size) (by omega)
  have HC0 := hide hcut.b
  have hx1 := HXX.out w1 hcut.b
  obtain ⟨_, _, y2⟩ := hx1
  have hw4 : wrap64 (4 * (size : Int)) = 4 * (size : Int) := by unfold wrap64; omega
  rw [show ((4 * size : Nat) : Int) = 4 * (size : Int) by omega] at hmk
  have hsz1 : (0 : Int) < (size : Int) := by omega
  clear hcut hK hF hfit hs hfi hsz h1
  go_enter Try.func39, Try.ntmps39
  go_wp2
  go_loopw [4, 21] (fun vo vi wr => ∃ (k : Nat) (lc : Nat) (la : Option Addr), vi = .int .i64 0 ∧ vo = .slice la k lc ∧ Hid (Below w.heap.size w wr)) (fun _ vi _ => size - (intOf vi).toNat)
  case atStart => exact ⟨0, _, _, rfl, rfl, HC0⟩
  case round =>
    clear HC0 hmk hw4 y2
    obtain ⟨k, lc, la, rfl, rfl, HC⟩ := hrel
    obtain ⟨x0, x1, _⟩ := HXX.out wr HC.out
    have hrd := HRDA.out wr HC.out
    have hq := HWF.out
    simp only [Int.natCast_zero, Int.add_zero] at hrd hq
    have HRD := hide hrd
    have HQ := hide hq
    have HBX := hide (fun (y : World) (hb : Below wr.heap.size wr y) => And.intro (HXX.out y (HC.out.trans (hb.mono HC.out.size))).1 (HXX.out y (HC.out.trans (hb.mono HC.out.size))).2.1)
    clear hrd hq
    go_wp2_with fail
    refine wp_region_held_drew (S := fun W' => (fun W : World => W.cell? ⟨a, 0, none⟩ = some (.pointer (some dp)) ∧ W.cell? ⟨a, 1, none⟩ = some (.int .i64 (first : Int))) W') (by kernel_rfl) ⟨x0, x1⟩ (fun hHeld => ?_)
    refine wpAnyH_take (i := 0) (v := ?_) rfl (by kernel_rfl) (by kernel_rfl) (by kernel_rfl) (fun _ _ _ h => h) (Or.inl ⟨by kernel_rfl, ?_⟩) hHeld ?_
    rotate_left
    · intro W hSw
      clear hSw
      go_simp <;> with_reducible rfl
    simp only [Act.put, List.getElem_toArray, List.getElem_cons_zero, List.getElem_cons_succ, List.setIfInBounds_toArray, List.set_cons_zero, List.set_cons_succ]
    refine wpAnyH_take (i := 1) (v := ?_) rfl (by kernel_rfl) (by kernel_rfl) (by kernel_rfl) (fun _ _ _ h => h) (Or.inl ⟨by kernel_rfl, ?_⟩) hHeld ?_
    rotate_left
    · intro W hSw
      clear hSw
      go_simp <;> with_reducible rfl
    simp only [Act.put, List.getElem_toArray, List.getElem_cons_zero, List.getElem_cons_succ, List.setIfInBounds_toArray, List.set_cons_zero, List.set_cons_succ]
    refine wpAnyH_take (i := 2) (v := ?_) rfl (by kernel_rfl) (by kernel_rfl) (by kernel_rfl) (fun _ _ _ h => h) (Or.inl ⟨by kernel_rfl, ?_⟩) hHeld ?_
    rotate_left
    · intro W hSw
      clear hSw
      go_simp <;> with_reducible rfl
    simp only [Act.put, List.getElem_toArray, List.getElem_cons_zero, List.getElem_cons_succ, List.setIfInBounds_toArray, List.set_cons_zero, List.set_cons_succ]
    refine wpAnyH_take (i := 3) (v := ?_) rfl (by kernel_rfl) (by kernel_rfl) (by kernel_rfl) (fun _ _ _ h => h) (Or.inl ⟨by kernel_rfl, ?_⟩) hHeld ?_
    rotate_left
    · intro W hSw
      have hc := hSw.1
      clear hSw
      go_simp <;> with_reducible rfl
    simp only [Act.put, List.getElem_toArray, List.getElem_cons_zero, List.getElem_cons_succ, List.setIfInBounds_toArray, List.set_cons_zero, List.set_cons_succ]
    refine wpAnyH_take (i := 4) (v := ?_) rfl (by kernel_rfl) (by kernel_rfl) (by kernel_rfl) (fun _ _ _ h => h) (Or.inl ⟨by kernel_rfl, ?_⟩) hHeld ?_
    rotate_left
    · intro W hSw
      clear hSw
      go_simp <;> with_reducible rfl
    simp only [Act.put, List.getElem_toArray, List.getElem_cons_zero, List.getElem_cons_succ, List.setIfInBounds_toArray, List.set_cons_zero, List.set_cons_succ]
    refine wpAnyH_take (i := 5) (v := ?_) rfl (by kernel_rfl) (by kernel_rfl) (by kernel_rfl) (fun _ _ _ h => h) (Or.inl ⟨by kernel_rfl, ?_⟩) hHeld ?_
    rotate_left
    · intro W hSw
      clear hSw
      go_simp <;> with_reducible rfl
    simp only [Act.put, List.getElem_toArray, List.getElem_cons_zero, List.getElem_cons_succ, List.setIfInBounds_toArray, List.set_cons_zero, List.set_cons_succ]
    refine wpAnyH_take (i := 6) (v := ?_) rfl (by kernel_rfl) (by kernel_rfl) (by kernel_rfl) (fun _ _ _ h => h) (Or.inl ⟨by kernel_rfl, ?_⟩) hHeld ?_
    rotate_left
    · intro W hSw
      clear hSw
      go_simp <;> with_reducible rfl
    simp only [Act.put, List.getElem_toArray, List.getElem_cons_zero, List.getElem_cons_succ, List.setIfInBounds_toArray, List.set_cons_zero, List.set_cons_succ]
    refine wpAnyH_take (i := 7) (v := ?_) rfl (by kernel_rfl) (by kernel_rfl) (by kernel_rfl) (fun _ _ _ h => h) (Or.inl ⟨by kernel_rfl, ?_⟩) hHeld ?_
    rotate_left
    · intro W hSw
      have hc := hSw.2
      clear hSw
      go_simp <;> with_reducible rfl
    simp only [Act.put, List.getElem_toArray, List.getElem_cons_zero, List.getElem_cons_succ, List.setIfInBounds_toArray, List.set_cons_zero, List.set_cons_succ]
    refine wpAnyH_take (i := 8) (v := ?_) rfl (by kernel_rfl) (by kernel_rfl) (by kernel_rfl) (fun _ _ _ h => h) (Or.inl ⟨by kernel_rfl, ?_⟩) hHeld ?_
    rotate_left
    · intro W hSw
      clear hSw
      go_simp <;> with_reducible rfl
    simp only [Act.put, List.getElem_toArray, List.getElem_cons_zero, List.getElem_cons_succ, List.setIfInBounds_toArray, List.set_cons_zero, List.set_cons_succ]
    refine wpAnyH_take (i := 9) (v := ?_) rfl (by kernel_rfl) (by kernel_rfl) (by kernel_rfl) (fun _ _ _ h => h) (Or.inl ⟨by kernel_rfl, ?_⟩) hHeld ?_
    rotate_left
    · intro W hSw
      have h3 := HQ.out
      clear hSw
      go_simp <;> with_reducible rfl
    simp only [Act.put, List.getElem_toArray, List.getElem_cons_zero, List.getElem_cons_succ, List.setIfInBounds_toArray, List.set_cons_zero, List.set_cons_succ]
    refine wpAnyH_ready (rs := [10]) (by kernel_rfl) (by simp) ?_
    refine AllReadyH.cons rfl (fun K hK => ?_) AllReadyH.nil
    go_simp
    go_wp2_with (first | (go_at_call 60; refine HRD.out.mono ?_; rintro e y ⟨ua, uc, rfl, hu, hb⟩))
    refine hK.out _ _ ?_ (fun hHeld => ?_)
    · exact HBX.out y hb.out
    clear hK K
    try simp only [Act.put, List.getElem_toArray, List.getElem_cons_zero, List.getElem_cons_succ, List.setIfInBounds_toArray, List.set_cons_zero, List.set_cons_succ]
    refine wpAnyH_take (i := 11) (v := ?_) rfl (by kernel_rfl) (by kernel_rfl) (by kernel_rfl) (fun _ _ _ h => h) (Or.inl ⟨by kernel_rfl, ?_⟩) hHeld ?_
    rotate_left
    · intro W hSw
      clear hSw
      go_simp <;> with_reducible rfl
    simp only [Act.put, List.getElem_toArray, List.getElem_cons_zero, List.getElem_cons_succ, List.setIfInBounds_toArray, List.set_cons_zero, List.set_cons_succ]
    refine wpAnyH_take (i := 12) (v := ?_) rfl (by kernel_rfl) (by kernel_rfl) (by kernel_rfl) (fun _ _ _ h => h) (Or.inl ⟨by kernel_rfl, ?_⟩) hHeld ?_
    rotate_left
    · intro W hSw
      clear hSw
      go_simp <;> with_reducible rfl
    simp only [Act.put, List.getElem_toArray, List.getElem_cons_zero, List.getElem_cons_succ, List.setIfInBounds_toArray, List.set_cons_zero, List.set_cons_succ]
    refine wpAnyH_take (i := 13) (v := ?_) rfl (by kernel_rfl) (by kernel_rfl) (by kernel_rfl) (fun _ _ _ h => h) (Or.inl ⟨by kernel_rfl, ?_⟩) hHeld ?_
    rotate_left
    · intro W hSw
      clear hSw
      go_simp <;> with_reducible rfl
    simp only [Act.put, List.getElem_toArray, List.getElem_cons_zero, List.getElem_cons_succ, List.setIfInBounds_toArray, List.set_cons_zero, List.set_cons_succ]
    refine wpAnyH_take (i := 14) (v := ?_) rfl (by kernel_rfl) (by kernel_rfl) (by kernel_rfl) (fun _ _ _ h => h) (Or.inl ⟨by kernel_rfl, ?_⟩) hHeld ?_
    rotate_left
    · intro W hSw
      clear hSw
      go_simp <;> with_reducible rfl
    simp only [Act.put, List.getElem_toArray, List.getElem_cons_zero, List.getElem_cons_succ, List.setIfInBounds_toArray, List.set_cons_zero, List.set_cons_succ]
    refine wpAnyH_take (i := 15) (v := ?_) rfl (by kernel_rfl) (by kernel_rfl) (by kernel_rfl) (fun _ _ _ h => h) (Or.inl ⟨by kernel_rfl, ?_⟩) hHeld ?_
    rotate_left
    · intro W hSw
      clear hSw
      go_simp <;> with_reducible rfl
    simp only [Act.put, List.getElem_toArray, List.getElem_cons_zero, List.getElem_cons_succ, List.setIfInBounds_toArray, List.set_cons_zero, List.set_cons_succ]
    refine wpAnyH_done (by kernel_rfl) ?_ _
    have HF := hide (HEND.out y (HC.out.trans (hb.out.mono HC.out.size)))
    clear HRD HBX hu hb HC HQ x0 x1 HEND HXX HRDA HWF
    go_wp2
    go_ret2
    exact HF.out
theorem CutN.cap {w x : World} {l : List (CL × Value)} {a : Option Addr} {c : Nat} (h : CutN w l (.slice a l.length c) x) : l.length ≤ c := by
  rcases h.o.2 with ⟨e, h0⟩ | ⟨g, cap, cur, e, _, _, hn, _⟩
  · omega
  · injection e with e1 e2 e3
    omega
def RdX (w : World) (dv : Value) (R : Option LM × Int) (a : Nat) (e : Ending) (x4 : World) : Prop := e = .returned (.tuple #[]) ∧ Hid (POpenR w dv R (.returned (.tuple #[.pointer (some ⟨a, 0, none⟩), .int .i64 0])) x4)
def GrX (w : World) (dv : Value) (R : Option LM × Int) (a : Nat) (v : Value) (e : Ending) (x2 : World) : Prop := ∃ last : Nat, e = .returned (.int .u64 (last : Int)) ∧ ((last = 18446744073709551615 ∧ Hid (POpenR w dv R (.returned (.tuple #[.pointer none, .int .i64 8])) x2)) ∨
  (((last : Int) == 18446744073709551615) = false ∧ ¬ (last : Int) = 18446744073709551615 ∧ IntKind.u64.wrap ((last : Int) + 1) = (last : Int) + 1 ∧ ((∃ old, x2.cell? ⟨a, 4, none⟩ = some old) ∧ x2.frozen? ⟨a, 4, none⟩ = false) ∧ Hid (Calls Try.prog 41 #[.pointer (some ⟨a, 0, none⟩), v] (x2.setCell ⟨a, 4, none⟩ (.int .u64 ((last : Int) + 1))) (RdX w dv R a))))
def ClX (w : World) (dv : Value) (R : Option LM × Int) (a : Nat) (e : Ending) (x1 : World) : Prop := ∃ (la : Option Addr) (n lc : Nat) (E : Int), e = .returned (.tuple #[.slice la n lc, .int .i64 E]) ∧ ((E = 9 ∧ Hid (POpenR w dv R (.returned (.tuple #[.pointer none, .int .i64 9])) x1)) ∨ (E = 0 ∧ Hid (Calls Try.prog 40 #[.slice la n lc] x1 (GrX w dv R a (.slice la n lc)))))
abbrev obxW (dp : Addr) (f z ep : Nat) : Obj := .cells #[.pointer (some dp), .int .i64 (f : Int), .int .i64 (z : Int), .int .u64 (ep : Int), .int .u64 0, .int .i64 0, .slice none 0 0, .slice none 0 0, .bool false] 83
theorem open_main {B : Nat → Prop} {dp : Addr} {d : DM} {f z ep : Nat} {w x : World} (hK : IsK B w (.pointer (some dp)) d) (hF : Fit d) (hs : d.safe.length ≤ 800) (hfit : (f + z) * 4 ≤ d.safe.length) (hz : 1 ≤ z) (he : ep < 18446744073709551616) (hx : Below w.heap.size w x) :
    Calls Try.prog 39 #[.pointer (some ⟨x.heap.size, 0, none⟩)] (x.alloc (obxW dp f z ep)) (ClX w (.pointer (some dp)) (openW d (f : Int) (z : Int) ep) x.heap.size) := by
  have hal := below_alloc x (obxW dp f z ep)
  have hb0 : Below w.heap.size w (x.alloc (obxW dp f z ep)) := hx.trans (hal.mono hx.size)
  have hsz0 : (x.alloc (obxW dp f z ep)).heap.size = x.heap.size + 1 := by simp
  have hbox : (x.alloc (obxW dp f z ep)).heap[x.heap.size]? = some (.cells (lpC (.pointer (some dp)) (.slice none 0 0) (.slice none 0 0) ⟨f, z, ep, 0, 0, [], false⟩) 83 (0, 0)) := heap_alloc_new x _
  have hL : IsLP (x.alloc (obxW dp f z ep)) x.heap.size (.pointer (some dp)) (.slice none 0 0) (.slice none 0 0) ⟨f, z, ep, 0, 0, [], false⟩ := ⟨hbox, RowI.nil _ _, RowI.nil _ _, Nat.zero_le _, Nat.zero_le _, Nat.zero_le _, fun r hr => (by cases hr), ⟨dp, rfl⟩⟩
  obtain ⟨x0, x1, x2, _⟩ := lp_cells hL.box
  have hreg : isReg d (f : Int) (z : Int) = true := by
    unfold isReg
    have h4 := hF.ok.four
    simp only [Bool.and_eq_true, decide_eq_true_eq]
    omega
  have hnl := now_len d
  generalize hW0 : x.alloc (obxW dp f z ep) = w0 at *
  cases ho : d.off
  · refine (pcells_on B x.heap.size dp d f z w0 x0 x1 x2 (hK.below hb0) hF hfit hs ho).mono ?_
    rintro e y1 ⟨hb1, ⟨h1, _⟩ | ⟨_, la, lc, l, rfl, hm, hc⟩⟩
    · rw [ho] at h1; cases h1
    have hop : openW d (f : Int) (z : Int) ep = if lifeW (regW (nowD d) f z) = 18446744073709551615 then (none, 8) else (some (logW (regW (nowD d) f z) f z ep), 0) := by
      unfold openW
      rw [if_pos hreg, ho, if_neg Bool.false_ne_true, Int.toNat_natCast, Int.toNat_natCast]
    have hsl : (regW (nowD d) f z).length = z * 4 := reg_len _ _ _ (by rw [hnl]; exact hfit)
    have hll : l.length = z * 4 := by
      have h9 := congrArg List.length hm
      rw [List.length_map, List.length_map, hsl] at h9
      exact h9
    have hlife : lifeC (l.map Prod.fst) = lifeW (regW (nowD d) f z) := by rw [hm, life_foldl]; rfl
    have hlt : lifeW (regW (nowD d) f z) < 18446744073709551616 := by
      rw [← hlife]
      refine lifeC_lt _ fun c hcm => ?_
      obtain ⟨y, hy, rfl⟩ := List.mem_map.1 hcm
      exact (hc.isL.2 y hy).li
    refine ⟨la, l.length, lc, 0, rfl, .inr ⟨rfl, hide ?_⟩⟩
    refine (pgreat_any _ l y1 hc.isL (by omega)).mono ?_
    rintro e y2 ⟨rfl, hb2⟩
    have hb02 : Below w0.heap.size w0 y2 := hb1.trans (hb2.mono hb1.size)
    have hbw2 : Below w.heap.size w y2 := hb0.trans (hb02.mono hb0.size)
    rw [hlife]
    refine ⟨_, rfl, ?_⟩
    rw [hop]
    by_cases hmax : lifeW (regW (nowD d) f z) = 18446744073709551615
    · rw [if_pos hmax]
      exact .inl ⟨hmax, hide ⟨hbw2, .inl ⟨8, rfl, rfl⟩⟩⟩
    · rw [if_neg hmax]
      have hL2 := hL.below hb02
      obtain ⟨_, _, _, _, y4, _, _, _, _, yf⟩ := lp_cells hL2.box
      have hne : ¬ ((lifeW (regW (nowD d) f z) : Nat) : Int) = 18446744073709551615 := by omega
      refine .inr ⟨beq_eq_false_iff_ne.2 hne, hne, ?_, ⟨⟨_, y4⟩, yf 4⟩, hide ?_⟩
      · show (((lifeW (regW (nowD d) f z) : Nat) : Int) + 1) % 18446744073709551616 = _
        omega
      · have hL3 : IsLP (y2.setCell ⟨x.heap.size, 4, none⟩ (.int .u64 (((lifeW (regW (nowD d) f z) : Nat) : Int) + 1))) x.heap.size (.pointer (some dp)) (.slice none 0 0) (.slice none 0 0) ⟨f, z, ep, lifeW (regW (nowD d) f z) + 1, 0, [], false⟩ := hL2.box_set (by rw [heap_box_set hL2.box 4 _]; rfl) (fun k hk => Below.heap_setCell _ _ _ _ hk) rfl rfl
        have hk3 : ∀ k, k ≠ x.heap.size → (y2.setCell ⟨x.heap.size, 4, none⟩ (.int .u64 (((lifeW (regW (nowD d) f z) : Nat) : Int) + 1))).heap[k]? = y2.heap[k]? := fun k hk => Below.heap_setCell _ _ _ _ hk
        have hs3 : (y2.setCell ⟨x.heap.size, 4, none⟩ (.int .u64 (((lifeW (regW (nowD d) f z) : Nat) : Int) + 1))).heap.size = y2.heap.size := by simp [World.setCell]
        have hbw3 : Below w.heap.size w (y2.setCell ⟨x.heap.size, 4, none⟩ (.int .u64 (((lifeW (regW (nowD d) f z) : Nat) : Int) + 1))) := hbw2.setCell (p := ⟨x.heap.size, 4, none⟩) hx.size _
        generalize y2.setCell ⟨x.heap.size, 4, none⟩ (.int .u64 (((lifeW (regW (nowD d) f z) : Nat) : Int) + 1)) = y3 at *
        refine (plog_read x.heap.size (.pointer (some dp)) (.slice none 0 0) (.slice none 0 0) ⟨f, z, ep, lifeW (regW (nowD d) f z) + 1, 0, [], false⟩ la lc l (regW (nowD d) f z) y3 hL3 rfl rfl hm (fun X hX => hc.keep fun k hk1 hk2 => ?_) hc.cap (by omega)).mono ?_
        · have hka : k ≠ x.heap.size := by omega
          have hk9 : ¬ lpA x.heap.size (.slice none 0 0) (.slice none 0 0) k := by
            rintro (h | h | h)
            · exact hka h
            · cases h
            · cases h
          have := hb2.size
          rw [hX.block k (by omega) hk9, hk3 k hka]
          exact hb2.block k hk2
        · rintro e y5 ⟨rfl, ⟨⟨tv, ev, q1, q2⟩, q3⟩⟩
          have hge : ∀ k, lpA x.heap.size (.slice none 0 0) (.slice none 0 0) k → w.heap.size ≤ k := by
            rintro k (rfl | h | h)
            · exact hx.size
            · cases h
            · cases h
          have hb5 : Below w.heap.size w y5 := hbw3.trans (q3.below hge hbw3.size)
          refine ⟨rfl, hide ⟨hb5, .inr ⟨_, ⟨x.heap.size, 0, none⟩, lpA x.heap.size tv ev, rfl, rfl, ⟨x.heap.size, tv, ev, rfl, rfl, q1⟩, fun k hk => ?_⟩⟩⟩
          rcases q2 k hk with h | h
          · exact hge k h
          · have := hbw3.size
            omega
  · refine (pcells_off B x.heap.size dp d f z w0 x0 x1 x2 (hK.below hb0) hF hfit hs hz ho).mono ?_
    rintro e y1 ⟨hb1, ⟨_, rfl⟩ | ⟨h1, _⟩⟩
    · have hop : openW d (f : Int) (z : Int) ep = (none, 9) := by
        unfold openW
        rw [if_pos hreg, ho, if_pos rfl]
      rw [hop]
      exact ⟨none, 0, 0, 9, rfl, .inl ⟨rfl, hide ⟨hb0.trans (hb1.mono hb0.size), .inl ⟨9, rfl, rfl⟩⟩⟩⟩
    · rw [ho] at h1; cases h1
theorem open_no {d : DM} {first size : Int} {ep : Nat} (h : isReg d first size = false) : openW d first size ep = (none, 1) := by
  unfold openW
  rw [h]
  rfl
set_option maxHeartbeats 8000000 in
theorem popen_any (B : Nat → Prop) (dv : Value) (d : DM) (first size : Int) (ep : Nat) (w : World) (hK : IsK B w dv d) (hF : Fit d) (hs : d.safe.length ≤ 800) (h1 : -9223372036854775808 ≤ first ∧ first ≤ 9223372036854775807) (h2 : -9223372036854775808 ≤ size ∧ size ≤ 9223372036854775807) (he : ep < 18446744073709551616) :
    Calls Try.prog 11 #[dv, .int .i64 first, .int .i64 size, .int .u64 (ep : Int)] w (POpenR w dv (openW d first size ep)) := by
  have HBK := hide (pblocks_any B dv d w hK hF)
  obtain ⟨dp, rfl⟩ := hK.ptr
  have HNO : Hid (∀ x, Below w.heap.size w x → isReg d first size = false → POpenR w (.pointer (some dp)) (openW d first size ep) (.returned (.tuple #[.pointer none, .int .i64 1])) x) := hide (fun x hx h => by
    rw [open_no h]
    exact ⟨hx, .inl ⟨1, rfl, rfl⟩⟩)
  have HRF := hide (Below.refl w.heap.size w)
  by_cases c1 : first < 0
  · have hr : isReg d first size = false := by unfold isReg; rw [decide_eq_false (by omega)]; rfl
    have HF := hide (HNO.out w HRF.out hr)
    clear HNO HBK hK hr
    generalize openW d first size ep = R at *
    go_enter Try.func11, Try.ntmps11
    go_wp2
    go_ret2
    exact HF.out
  · by_cases c2 : size < 1
    · have hr : isReg d first size = false := by unfold isReg; rw [decide_eq_false (show ¬ 1 ≤ size by omega), Bool.false_and, Bool.and_false]
      have HF := hide (HNO.out w HRF.out hr)
      clear HNO HBK hK hr
      generalize openW d first size ep = R at *
      go_enter Try.func11, Try.ntmps11
      go_wp2
      go_ret2
      exact HF.out
    · have hbl : ((d.safe.length / 4 : Nat) : Int) ≤ 200 := by omega
      have hws : wrap64 (((d.safe.length / 4 : Nat) : Int) - size) = ((d.safe.length / 4 : Nat) : Int) - size := by unfold wrap64; omega
      by_cases c3 : ((d.safe.length / 4 : Nat) : Int) - size < first
      · have hr : isReg d first size = false := by
          unfold isReg
          cases hq : (decide (first ≤ ((d.safe.length / 4 : Nat) : Int) - size))
          · rw [Bool.and_false, Bool.and_false, Bool.and_false]
          · rw [decide_eq_true_eq] at hq
            omega
        have HF := hide (fun x hx => HNO.out x hx hr)
        clear HNO hK hr
        generalize openW d first size ep = R at *
        generalize ((d.safe.length / 4 : Nat) : Int) = bl at *
        go_enter Try.func11, Try.ntmps11
        go_wp2_with fail
        refine HBK.out.mono ?_
        rintro e x ⟨rfl, hx⟩
        have HF2 := hide (HF.out x hx)
        clear HBK HF hx
        go_wp2
        go_ret2
        exact HF2.out
      · obtain ⟨f, rfl⟩ : ∃ f : Nat, first = (f : Int) := ⟨first.toNat, by omega⟩
        obtain ⟨z, rfl⟩ : ∃ z : Nat, size = (z : Int) := ⟨size.toNat, by omega⟩
        have HMAIN := hide (fun x (hx : Below w.heap.size w x) => open_main (x := x) (f := f) (z := z) (ep := ep) hK hF hs (by omega) (by omega) he hx)
        clear HNO hK hF hs
        generalize openW d (f : Int) (z : Int) ep = R at *
        have d3 : decide (((d.safe.length / 4 : Nat) : Int) - (z : Int) < (f : Int)) = false := decide_eq_false c3
        have d3c : (((d.safe.length / 4 : Nat) : Int) - (z : Int) < (f : Int)) = False := eq_false c3
        generalize ((d.safe.length / 4 : Nat) : Int) = bl at *
        go_enter Try.func11, Try.ntmps11
        go_wp2_with fail
        refine HBK.out.mono ?_
        rintro e x ⟨rfl, hx⟩
        have HCL := hide (HMAIN.out x hx)
        clear HBK HMAIN hx
        go_wp2_with fail
        refine HCL.out.mono ?_
        rintro e x1 ⟨la, n, lc, E, rfl, ⟨rfl, HF⟩ | ⟨rfl, HG⟩⟩
        · clear HCL
          go_wp2
          go_ret2
          exact HF.out
        · clear HCL
          go_wp2_with fail
          refine HG.out.mono ?_
          rintro e x2 ⟨last, rfl, ⟨rfl, HF⟩ | ⟨e1, e2, e3, ⟨⟨old, hold⟩, hfro⟩, HR⟩⟩
          · clear HG
            go_wp2
            go_ret2
            exact HF.out
          · clear HG
            go_wp2_with fail
            refine HR.out.mono ?_
            rintro e x4 ⟨rfl, HF⟩
            clear HR
            go_wp2
            go_ret2
            exact HF.out
set_option maxHeartbeats 4000000 in
theorem nil_open (first size ep : Int) (w : World) (h1 : -9223372036854775808 ≤ first ∧ first ≤ 9223372036854775807) (h2 : -9223372036854775808 ≤ size ∧ size ≤ 9223372036854775807) : Calls Try.prog 11 #[.pointer none, .int .i64 first, .int .i64 size, .int .u64 ep] w fun e w' => e = .returned (.tuple #[.pointer none, .int .i64 1]) ∧ Below w.heap.size w w' := by
  have HBK := hide (nil_blocks w)
  by_cases c1 : first < 0
  · go_enter Try.func11, Try.ntmps11
    go_wp2
    go_ret2
    exact ⟨rfl, Below.refl _ _⟩
  · by_cases c2 : size < 1
    · go_enter Try.func11, Try.ntmps11
      go_wp2
      go_ret2
      exact ⟨rfl, Below.refl _ _⟩
    · have hws : wrap64 (0 - size) = 0 - size := by unfold wrap64; omega
      have hws2 : wrap64 (-size) = -size := by unfold wrap64; omega
      have c3 : 0 - size < first := by omega
      have c4 : -size < first := by omega
      go_enter Try.func11, Try.ntmps11
      go_wp2_with fail
      refine HBK.out.mono ?_
      rintro e x ⟨rfl, hx⟩
      have HF := hide hx
      clear HBK hx
      go_wp2
      go_ret2
      exact ⟨rfl, HF.out⟩
end Go.Proofs.Ythpepkfodcgbcaa
