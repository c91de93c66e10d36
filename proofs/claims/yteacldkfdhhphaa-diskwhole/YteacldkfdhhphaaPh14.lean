/- What the program's redo does. -/
import Derived.Test.YteacldkfdhhphaaPg14
set_option linter.unusedVariables false
set_option linter.unusedSimpArgs false
set_option maxRecDepth 4000
namespace Go.Proofs.Yteacldkfdhhphaa
open Go.RowKit

theorem IsF.at_ {w : World} {a : Option Addr} {n c : Nat} {l : List Bool} (h : IsF w (.slice a n c) l) (i : Nat) (x : Bool) (hx : l[i]? = some x) : ∃ b o, a = some ⟨b, o, none⟩ ∧ w.cell? ⟨b, o + i, none⟩ = some (.bool x) := by
  obtain ⟨hi, rfl⟩ := List.getElem?_eq_some_iff.1 hx
  rcases h with ⟨rfl, _⟩ | ⟨b, o, cap, e, hh⟩
  · simp at hi
  · injection e with e1
    exact ⟨b, o, e1, hh i hi⟩
/-- What stands while redo goes on. -/
structure RedoP (w : World) (k : KD) (d : DM) (F0 : Bs) (kv : Value) (keep : List Bool) : Prop where
  u : UndoP w k
  r : PRel k.n F0 k.ws k.fu k.left k.off d
  ok : OkD d
  f : k.F = crashF d keep 0
  y : IsF w kv keep
  o : keep ≠ [] → ∀ b, kv.ownBlock = some b → b ≠ k.g
  b : keep.length ≤ 9223372036854775807
theorem redo_step {n : Nat} {F : Bs} {ws : List PW} {fu : Bool} {left : Int} {off : Bool} {d : DM} (h : PRel n F ws fu left off d) (hok : OkD d) (keep : List Bool) (i q r : Nat) (x : PW) (kb : Bool) (hi : keep[i]? = some kb) (hx : ws[q]? = some x) (hq : q = i / 4) (hr : r = i % 4) :
    crashF d keep (i + 1) = if kb then setB (crashF d keep i) (256 * x.at_ + 64 * r) (cutB x.laid r) else crashF d keep i := by
  subst hq hr
  obtain ⟨h1, rfl⟩ := List.getElem?_eq_some_iff.1 hi
  obtain ⟨h2, rfl⟩ := List.getElem?_eq_some_iff.1 hx
  exact h.crash_step hok keep i h1 h2
set_option maxHeartbeats 8000000 in
theorem kredo (k : KD) (d : DM) (F0 : Bs) (kv : Value) (keep : List Bool) (w : World) (h : RedoP w k d F0 kv keep) : Calls Try.prog 37 #[.pointer (some ⟨k.a, 0, none⟩), kv] w fun e w' => e = .returned (.tuple #[]) ∧ ∃ i, (keep.length ≤ i ∨ 4 * k.ws.length ≤ i) ∧ IsKD w' { k with F := crashF d keep i } ∧ ButA (fun j => j = k.g) w w' := by
  obtain ⟨x0, x1, x2, x3, x4, xf⟩ := kd_cells h.u.d.box
  obtain ⟨pa, pc, hp⟩ := h.u.d.pend.form
  obtain ⟨ka, kc, rfl⟩ := h.y.form
  rw [hp] at x1
  have hl := h.u.l
  have hn := h.u.n
  have hkl := h.b
  have HP := hide (kpending k w h.u.d hl)
  have HE : Hid (∀ x i, x.heap[k.g]? = some (.cells (bytesV (crashF d keep i)).toArray 69 (0, 0)) → ButA (fun j => j = k.g) w x → (keep.length ≤ i ∨ 4 * k.ws.length ≤ i) → ∃ i, (keep.length ≤ i ∨ 4 * k.ws.length ≤ i) ∧ IsKD x { k with F := crashF d keep i } ∧ ButA (fun j => j = k.g) w x) := hide (fun x i hx hb hi => ⟨i, hi, h.u.d.blkset _ hb hx, hb⟩)
  have H0 : Hid (∀ W, ButA (fun j => j = k.g) w W → W.cell? ⟨k.a, 0, none⟩ = some (.slice (some ⟨k.g, 0, none⟩) k.n k.n)) := hide (fun W hb => cell_but x0 hb h.u.d.ag)
  have H1 : Hid (∀ W, ButA (fun j => j = k.g) w W → W.cell? ⟨k.a, 1, none⟩ = some (.slice pa k.ws.length pc)) := hide (fun W hb => cell_but x1 hb h.u.d.ag)
  have HJ : Hid (∀ j x, k.ws[j]? = some x → (x.at_ < k.n ∧ x.laid.length = 256) ∧ ∃ b, pa = some ⟨b, 0, none⟩ ∧ b ≠ k.g ∧ ∀ W, ButA (fun j => j = k.g) w W → W.cell? ⟨b, j * 513, none⟩ = some (.int .i64 (x.at_ : Int)) ∧ W.rangeAt b (j * 513 + 257) (bytesV x.laid)) := hide (fun j x hx => by
    obtain ⟨hj, rfl⟩ := List.getElem?_eq_some_iff.1 hx
    obtain ⟨b, cap, e, q1, q2, q3⟩ := pend_at h.u.d.pend h.u.good j hj
    rw [hp] at e
    injection e with e1
    have hne : b ≠ k.g := (h.u.d.ap b (by rw [hp, e1]; rfl)).2
    exact ⟨⟨(h.u.ok _ (List.getElem_mem hj)).1, (h.u.ok _ (List.getElem_mem hj)).2.2⟩, b, e1, hne, fun W hb => ⟨cell_but q1 hb hne, rangeAt_but q3 hb hne⟩⟩)
  have HK : Hid (∀ i x, keep[i]? = some x → ∃ b o, ka = some ⟨b, o, none⟩ ∧ ∀ W, ButA (fun j => j = k.g) w W → W.cell? ⟨b, o + i, none⟩ = some (.bool x)) := hide (fun i x hx => by
    obtain ⟨b, o, e, hc⟩ := h.y.at_ i x hx
    have hne : b ≠ k.g := h.o (fun e0 => by rw [e0] at hx; cases hx) b (by rw [e]; rfl)
    exact ⟨b, o, e, fun W hb => cell_but hc hb hne⟩)
  have HST : Hid (∀ i q r x kb, keep[i]? = some kb → k.ws[q]? = some x → q = i / 4 → r = i % 4 → crashF d keep (i + 1) = if kb then setB (crashF d keep i) (256 * x.at_ + 64 * r) (cutB x.laid r) else crashF d keep i) := hide (fun i q r x kb h1 h2 h3 h4 => redo_step h.r h.ok keep i q r x kb h1 h2 h3 h4)
  have HLN : Hid (∀ i, (crashF d keep i).length = 256 * k.n) := hide (fun i => crashF_len h.r h.ok keep i)
  have HW : Hid (w.heap[k.g]? = some (.cells (bytesV (crashF d keep 0)).toArray 69 (0, 0))) := hide (by
    rw [← h.f]
    exact h.u.d.blk)
  have HB : Hid (ButA (fun j => j = k.g) w w) := hide (ButA.refl _ _)
  clear h x0 x1 x2 x3 x4 xf hp
  generalize hws : k.ws = ws at *
  generalize k.n = n at *
  generalize hg : k.g = g at *
  generalize ha : k.a = a at *
  have HWL : Hid (∀ q, q < ws.length → ∃ x, ws[q]? = some x) := hide (fun q hq => ⟨_, List.getElem?_eq_getElem hq⟩)
  have HKL : Hid (∀ q, q < keep.length → ∃ x, keep[q]? = some x) := hide (fun q hq => ⟨_, List.getElem?_eq_getElem hq⟩)
  generalize ws.length = L at *
  generalize keep.length = KL at *
  by_cases hmn : (KL : Int) ≤ 4 * (L : Int)
  · go_enter Try.func37, Try.ntmps37
    go_wp2_with fail
    refine HP.out.mono ?_
    rintro e w1 ⟨rfl, rfl⟩
    clear HP
    go_wp2
    go_loopw [10] (fun vi wr => ∃ i : Nat, vi = .int .i64 (i : Int) ∧ i ≤ KL ∧ Hid (wr.heap[g]? = some (.cells (bytesV (crashF d keep i)).toArray 69 (0, 0))) ∧ Hid (ButA (fun j => j = g) w1 wr)) (fun vi _ => KL - (intOf vi).toNat)
    case atStart => exact ⟨0, rfl, Nat.zero_le _, HW, HB⟩
    case round =>
      clear HW HB
      obtain ⟨i, rfl, hi, HW, HB⟩ := hrel
      by_cases hlt : i < KL
      · have hlt2 : (i : Int) < (KL : Int) := by omega
        have hik : i < KL := by omega
        have hik2 : (i : Int) < (KL : Int) := by omega
        obtain ⟨kb, hkb⟩ := HKL.out i hik
        obtain ⟨q, hq⟩ : ∃ q, q = i / 4 := ⟨_, rfl⟩
        obtain ⟨r, hr⟩ : ∃ r, r = i % 4 := ⟨_, rfl⟩
        have hql : q < L := by omega
        obtain ⟨x, hx⟩ := HWL.out q hql
        have hst := HST.out i q r x kb hkb hx hq hr
        obtain ⟨kbb, kbo, rfl, HKC⟩ := HK.out i kb hkb
        obtain ⟨⟨hm, hll⟩, b, rfl, hbg, HQ⟩ := HJ.out q x hx
        have hkc := HKC wr HB.out
        cases kb
        · have hst' : crashF d keep (i + 1) = crashF d keep i := hst
          have HW2 : Hid (wr.heap[g]? = some (.cells (bytesV (crashF d keep (i + 1))).toArray 69 (0, 0))) := hide (by rw [hst']; exact HW.out)
          clear hst hst' hx hkb HKC HQ hll hm hbg hq hr HW
          go_wp2
          go_roundw
          case rel => exact ⟨i + 1, by go_num, by omega, HW2, HB⟩
          case measure => simp [intOf]; omega
        · have hst' : crashF d keep (i + 1) = setB (crashF d keep i) (256 * x.at_ + 64 * r) (cutB x.laid r) := hst
          have hB1 := HB.out.drew'
          obtain ⟨q1, q2⟩ := HQ wr.drew hB1
          have HL := hide (klay wr.drew b g n (q * 513) x.at_ x.laid (crashF d keep i) r (by omega) hm hn hll (HLN.out i) hbg q1 q2 HW.out)
          have HB1 := hide hB1
          have HG2 : Hid (∀ y, LayR wr.drew g (crashF d keep i) (256 * x.at_ + 64 * r) (cutB x.laid r) (.returned (.tuple #[])) y → Hid (y.heap[g]? = some (.cells (bytesV (crashF d keep (i + 1))).toArray 69 (0, 0))) ∧ Hid (ButA (fun j => j = g) w1 y)) := hide (fun y hy => ⟨hide (by rw [hst']; exact hy.2.1), hide (hB1.trans hy.2.2 (fun j _ h => h))⟩)
          have hq1 : (i : Int).tdiv 4 = (q : Int) := by rw [Int.tdiv_eq_ediv_of_nonneg (by omega)]; omega
          have hr1 : (i : Int).tmod 4 = (r : Int) := by rw [Int.tmod_eq_emod_of_nonneg (by omega)]; omega
          have hq2 : (i : Int) / 4 = (q : Int) := by omega
          have hr2 : (i : Int) % 4 = (r : Int) := by omega
          have hq3 : (q : Int) < (L : Int) := by omega
          have hq4 : IntKind.i64.wrap (q : Int) = (q : Int) := by rw [IntKind.wrap_i64]; omega
          have hr4 : IntKind.i64.wrap (r : Int) = (r : Int) := by rw [IntKind.wrap_i64]; omega
          have hq5 : (0 : Int) ≤ (q : Int) := by omega
          clear hst hst' hx hkb HKC HQ hll hm hbg HW hB1 q1 q2
          have HQR := hide (And.intro hq hr)
          clear hq hr
          go_wp2_with fail
          refine wp_region_held_drew (S := fun W' => ButA (fun j => j = g) w1 W') (by kernel_rfl) HB1.out (fun hHeld => ?_)
          refine wpAnyH_take (i := 0) (v := ?_) rfl (by kernel_rfl) (by kernel_rfl) (by kernel_rfl) (fun _ _ _ h => h) (Or.inl ⟨by kernel_rfl, ?_⟩) hHeld ?_
          rotate_left
          · intro W hSw
            clear hSw
            go_simp <;> with_reducible rfl
          simp only [Act.put, List.getElem_toArray, List.getElem_cons_zero, List.getElem_cons_succ, List.setIfInBounds_toArray, List.set_cons_zero, List.set_cons_succ]
          refine wpAnyH_take (i := 1) (v := ?_) rfl (by kernel_rfl) (by kernel_rfl) (by kernel_rfl) (fun _ _ _ h => h) (Or.inl ⟨by kernel_rfl, ?_⟩) hHeld ?_
          rotate_left
          · intro W hSw
            clear hSw
            go_simp <;> with_reducible rfl
          simp only [Act.put, List.getElem_toArray, List.getElem_cons_zero, List.getElem_cons_succ, List.setIfInBounds_toArray, List.set_cons_zero, List.set_cons_succ]
          refine wpAnyH_take (i := 2) (v := ?_) rfl (by kernel_rfl) (by kernel_rfl) (by kernel_rfl) (fun _ _ _ h => h) (Or.inl ⟨by kernel_rfl, ?_⟩) hHeld ?_
          rotate_left
          · intro W hSw
            clear hSw
            go_simp <;> with_reducible rfl
          simp only [Act.put, List.getElem_toArray, List.getElem_cons_zero, List.getElem_cons_succ, List.setIfInBounds_toArray, List.set_cons_zero, List.set_cons_succ]
          refine wpAnyH_take (i := 3) (v := ?_) rfl (by kernel_rfl) (by kernel_rfl) (by kernel_rfl) (fun _ _ _ h => h) (Or.inl ⟨by kernel_rfl, ?_⟩) hHeld ?_
          rotate_left
          · intro W hSw
            have hc := H1.out W hSw
            clear hSw
            go_simp <;> with_reducible rfl
          simp only [Act.put, List.getElem_toArray, List.getElem_cons_zero, List.getElem_cons_succ, List.setIfInBounds_toArray, List.set_cons_zero, List.set_cons_succ]
          refine wpAnyH_take (i := 4) (v := ?_) rfl (by kernel_rfl) (by kernel_rfl) (by kernel_rfl) (fun _ _ _ h => h) (Or.inl ⟨by kernel_rfl, ?_⟩) hHeld ?_
          rotate_left
          · intro W hSw
            clear hSw
            go_simp <;> with_reducible rfl
          simp only [Act.put, List.getElem_toArray, List.getElem_cons_zero, List.getElem_cons_succ, List.setIfInBounds_toArray, List.set_cons_zero, List.set_cons_succ]
          refine wpAnyH_take (i := 5) (v := ?_) rfl (by kernel_rfl) (by kernel_rfl) (by kernel_rfl) (fun _ _ _ h => h) (Or.inl ⟨by kernel_rfl, ?_⟩) hHeld ?_
          rotate_left
          · intro W hSw
            clear hSw
            go_simp <;> with_reducible rfl
          simp only [Act.put, List.getElem_toArray, List.getElem_cons_zero, List.getElem_cons_succ, List.setIfInBounds_toArray, List.set_cons_zero, List.set_cons_succ]
          refine wpAnyH_take (i := 6) (v := ?_) rfl (by kernel_rfl) (by kernel_rfl) (by kernel_rfl) (fun _ _ _ h => h) (Or.inl ⟨by kernel_rfl, ?_⟩) hHeld ?_
          rotate_left
          · intro W hSw
            clear hSw
            go_simp <;> with_reducible rfl
          simp only [Act.put, List.getElem_toArray, List.getElem_cons_zero, List.getElem_cons_succ, List.setIfInBounds_toArray, List.set_cons_zero, List.set_cons_succ]
          refine wpAnyH_take (i := 7) (v := ?_) rfl (by kernel_rfl) (by kernel_rfl) (by kernel_rfl) (fun _ _ _ h => h) (Or.inl ⟨by kernel_rfl, ?_⟩) hHeld ?_
          rotate_left
          · intro W hSw
            clear hSw
            go_simp <;> with_reducible rfl
          simp only [Act.put, List.getElem_toArray, List.getElem_cons_zero, List.getElem_cons_succ, List.setIfInBounds_toArray, List.set_cons_zero, List.set_cons_succ]
          refine wpAnyH_take (i := 8) (v := ?_) rfl (by kernel_rfl) (by kernel_rfl) (by kernel_rfl) (fun _ _ _ h => h) (Or.inl ⟨by kernel_rfl, ?_⟩) hHeld ?_
          rotate_left
          · intro W hSw
            clear hSw
            go_simp <;> with_reducible rfl
          simp only [Act.put, List.getElem_toArray, List.getElem_cons_zero, List.getElem_cons_succ, List.setIfInBounds_toArray, List.set_cons_zero, List.set_cons_succ]
          refine wpAnyH_take (i := 9) (v := ?_) rfl (by kernel_rfl) (by kernel_rfl) (by kernel_rfl) (fun _ _ _ h => h) (Or.inl ⟨by kernel_rfl, ?_⟩) hHeld ?_
          rotate_left
          · intro W hSw
            clear hSw
            go_simp <;> with_reducible rfl
          simp only [Act.put, List.getElem_toArray, List.getElem_cons_zero, List.getElem_cons_succ, List.setIfInBounds_toArray, List.set_cons_zero, List.set_cons_succ]
          refine wpAnyH_take (i := 10) (v := ?_) rfl (by kernel_rfl) (by kernel_rfl) (by kernel_rfl) (fun _ _ _ h => h) (Or.inl ⟨by kernel_rfl, ?_⟩) hHeld ?_
          rotate_left
          · intro W hSw
            have hc := H0.out W hSw
            clear hSw
            go_simp <;> with_reducible rfl
          simp only [Act.put, List.getElem_toArray, List.getElem_cons_zero, List.getElem_cons_succ, List.setIfInBounds_toArray, List.set_cons_zero, List.set_cons_succ]
          refine wpAnyH_take (i := 11) (v := ?_) rfl (by kernel_rfl) (by kernel_rfl) (by kernel_rfl) (fun _ _ _ h => h) (Or.inl ⟨by kernel_rfl, ?_⟩) hHeld ?_
          rotate_left
          · intro W hSw
            clear hSw
            go_simp <;> with_reducible rfl
          simp only [Act.put, List.getElem_toArray, List.getElem_cons_zero, List.getElem_cons_succ, List.setIfInBounds_toArray, List.set_cons_zero, List.set_cons_succ]
          refine wpAnyH_take (i := 12) (v := ?_) rfl (by kernel_rfl) (by kernel_rfl) (by kernel_rfl) (fun _ _ _ h => h) (Or.inl ⟨by kernel_rfl, ?_⟩) hHeld ?_
          rotate_left
          · intro W hSw
            clear hSw
            go_simp <;> with_reducible rfl
          simp only [Act.put, List.getElem_toArray, List.getElem_cons_zero, List.getElem_cons_succ, List.setIfInBounds_toArray, List.set_cons_zero, List.set_cons_succ]
          refine wpAnyH_ready (rs := [13]) (by kernel_rfl) (by simp) ?_
          refine AllReadyH.cons rfl (fun K hK => ?_) AllReadyH.nil
          go_simp
          go_wp2_with (first | (go_at_call 40; refine HL.out.mono ?_; rintro e y ⟨rfl, hy1, hy2⟩))
          obtain ⟨HW2, HB2⟩ := HG2.out y ⟨rfl, hy1, hy2⟩
          clear hy1 hy2
          refine hK.out _ _ ?_ (fun hHeld => ?_)
          · exact HB2.out
          clear hK K
          try simp only [Act.put, List.getElem_toArray, List.getElem_cons_zero, List.getElem_cons_succ, List.setIfInBounds_toArray, List.set_cons_zero, List.set_cons_succ]
          refine wpAnyH_done (by kernel_rfl) ?_ _
          clear hHeld
          go_wp2
          go_roundw
          case rel => exact ⟨i + 1, by go_num, by omega, HW2, HB2⟩
          case measure => simp [intOf]; omega
      · have hlt2 : ¬ (i : Int) < (KL : Int) := by omega
        have HF := hide (HE.out wr i HW.out HB.out (by omega))
        clear HW HB
        go_wp2
        go_end0
        exact ⟨rfl, HF.out⟩
  · have hmn2 : 4 * (L : Int) < (KL : Int) := by omega
    go_enter Try.func37, Try.ntmps37
    go_wp2_with fail
    refine HP.out.mono ?_
    rintro e w1 ⟨rfl, rfl⟩
    clear HP
    go_wp2
    go_loopw [10] (fun vi wr => ∃ i : Nat, vi = .int .i64 (i : Int) ∧ i ≤ (4 * L) ∧ Hid (wr.heap[g]? = some (.cells (bytesV (crashF d keep i)).toArray 69 (0, 0))) ∧ Hid (ButA (fun j => j = g) w1 wr)) (fun vi _ => (4 * L) - (intOf vi).toNat)
    case atStart => exact ⟨0, rfl, Nat.zero_le _, HW, HB⟩
    case round =>
      clear HW HB
      obtain ⟨i, rfl, hi, HW, HB⟩ := hrel
      by_cases hlt : i < (4 * L)
      · have hlt2 : (i : Int) < 4 * (L : Int) := by omega
        have hik : i < KL := by omega
        have hik2 : (i : Int) < (KL : Int) := by omega
        obtain ⟨kb, hkb⟩ := HKL.out i hik
        obtain ⟨q, hq⟩ : ∃ q, q = i / 4 := ⟨_, rfl⟩
        obtain ⟨r, hr⟩ : ∃ r, r = i % 4 := ⟨_, rfl⟩
        have hql : q < L := by omega
        obtain ⟨x, hx⟩ := HWL.out q hql
        have hst := HST.out i q r x kb hkb hx hq hr
        obtain ⟨kbb, kbo, rfl, HKC⟩ := HK.out i kb hkb
        obtain ⟨⟨hm, hll⟩, b, rfl, hbg, HQ⟩ := HJ.out q x hx
        have hkc := HKC wr HB.out
        cases kb
        · have hst' : crashF d keep (i + 1) = crashF d keep i := hst
          have HW2 : Hid (wr.heap[g]? = some (.cells (bytesV (crashF d keep (i + 1))).toArray 69 (0, 0))) := hide (by rw [hst']; exact HW.out)
          clear hst hst' hx hkb HKC HQ hll hm hbg hq hr HW
          go_wp2
          go_roundw
          case rel => exact ⟨i + 1, by go_num, by omega, HW2, HB⟩
          case measure => simp [intOf]; omega
        · have hst' : crashF d keep (i + 1) = setB (crashF d keep i) (256 * x.at_ + 64 * r) (cutB x.laid r) := hst
          have hB1 := HB.out.drew'
          obtain ⟨q1, q2⟩ := HQ wr.drew hB1
          have HL := hide (klay wr.drew b g n (q * 513) x.at_ x.laid (crashF d keep i) r (by omega) hm hn hll (HLN.out i) hbg q1 q2 HW.out)
          have HB1 := hide hB1
          have HG2 : Hid (∀ y, LayR wr.drew g (crashF d keep i) (256 * x.at_ + 64 * r) (cutB x.laid r) (.returned (.tuple #[])) y → Hid (y.heap[g]? = some (.cells (bytesV (crashF d keep (i + 1))).toArray 69 (0, 0))) ∧ Hid (ButA (fun j => j = g) w1 y)) := hide (fun y hy => ⟨hide (by rw [hst']; exact hy.2.1), hide (hB1.trans hy.2.2 (fun j _ h => h))⟩)
          have hq1 : (i : Int).tdiv 4 = (q : Int) := by rw [Int.tdiv_eq_ediv_of_nonneg (by omega)]; omega
          have hr1 : (i : Int).tmod 4 = (r : Int) := by rw [Int.tmod_eq_emod_of_nonneg (by omega)]; omega
          have hq2 : (i : Int) / 4 = (q : Int) := by omega
          have hr2 : (i : Int) % 4 = (r : Int) := by omega
          have hq3 : (q : Int) < (L : Int) := by omega
          have hq4 : IntKind.i64.wrap (q : Int) = (q : Int) := by rw [IntKind.wrap_i64]; omega
          have hr4 : IntKind.i64.wrap (r : Int) = (r : Int) := by rw [IntKind.wrap_i64]; omega
          have hq5 : (0 : Int) ≤ (q : Int) := by omega
          clear hst hst' hx hkb HKC HQ hll hm hbg HW hB1 q1 q2
          have HQR := hide (And.intro hq hr)
          clear hq hr
          go_wp2_with fail
          refine wp_region_held_drew (S := fun W' => ButA (fun j => j = g) w1 W') (by kernel_rfl) HB1.out (fun hHeld => ?_)
          refine wpAnyH_take (i := 0) (v := ?_) rfl (by kernel_rfl) (by kernel_rfl) (by kernel_rfl) (fun _ _ _ h => h) (Or.inl ⟨by kernel_rfl, ?_⟩) hHeld ?_
          rotate_left
          · intro W hSw
            clear hSw
            go_simp <;> with_reducible rfl
          simp only [Act.put, List.getElem_toArray, List.getElem_cons_zero, List.getElem_cons_succ, List.setIfInBounds_toArray, List.set_cons_zero, List.set_cons_succ]
          refine wpAnyH_take (i := 1) (v := ?_) rfl (by kernel_rfl) (by kernel_rfl) (by kernel_rfl) (fun _ _ _ h => h) (Or.inl ⟨by kernel_rfl, ?_⟩) hHeld ?_
          rotate_left
          · intro W hSw
            clear hSw
            go_simp <;> with_reducible rfl
          simp only [Act.put, List.getElem_toArray, List.getElem_cons_zero, List.getElem_cons_succ, List.setIfInBounds_toArray, List.set_cons_zero, List.set_cons_succ]
          refine wpAnyH_take (i := 2) (v := ?_) rfl (by kernel_rfl) (by kernel_rfl) (by kernel_rfl) (fun _ _ _ h => h) (Or.inl ⟨by kernel_rfl, ?_⟩) hHeld ?_
          rotate_left
          · intro W hSw
            clear hSw
            go_simp <;> with_reducible rfl
          simp only [Act.put, List.getElem_toArray, List.getElem_cons_zero, List.getElem_cons_succ, List.setIfInBounds_toArray, List.set_cons_zero, List.set_cons_succ]
          refine wpAnyH_take (i := 3) (v := ?_) rfl (by kernel_rfl) (by kernel_rfl) (by kernel_rfl) (fun _ _ _ h => h) (Or.inl ⟨by kernel_rfl, ?_⟩) hHeld ?_
          rotate_left
          · intro W hSw
            have hc := H1.out W hSw
            clear hSw
            go_simp <;> with_reducible rfl
          simp only [Act.put, List.getElem_toArray, List.getElem_cons_zero, List.getElem_cons_succ, List.setIfInBounds_toArray, List.set_cons_zero, List.set_cons_succ]
          refine wpAnyH_take (i := 4) (v := ?_) rfl (by kernel_rfl) (by kernel_rfl) (by kernel_rfl) (fun _ _ _ h => h) (Or.inl ⟨by kernel_rfl, ?_⟩) hHeld ?_
          rotate_left
          · intro W hSw
            clear hSw
            go_simp <;> with_reducible rfl
          simp only [Act.put, List.getElem_toArray, List.getElem_cons_zero, List.getElem_cons_succ, List.setIfInBounds_toArray, List.set_cons_zero, List.set_cons_succ]
          refine wpAnyH_take (i := 5) (v := ?_) rfl (by kernel_rfl) (by kernel_rfl) (by kernel_rfl) (fun _ _ _ h => h) (Or.inl ⟨by kernel_rfl, ?_⟩) hHeld ?_
          rotate_left
          · intro W hSw
            clear hSw
            go_simp <;> with_reducible rfl
          simp only [Act.put, List.getElem_toArray, List.getElem_cons_zero, List.getElem_cons_succ, List.setIfInBounds_toArray, List.set_cons_zero, List.set_cons_succ]
          refine wpAnyH_take (i := 6) (v := ?_) rfl (by kernel_rfl) (by kernel_rfl) (by kernel_rfl) (fun _ _ _ h => h) (Or.inl ⟨by kernel_rfl, ?_⟩) hHeld ?_
          rotate_left
          · intro W hSw
            clear hSw
            go_simp <;> with_reducible rfl
          simp only [Act.put, List.getElem_toArray, List.getElem_cons_zero, List.getElem_cons_succ, List.setIfInBounds_toArray, List.set_cons_zero, List.set_cons_succ]
          refine wpAnyH_take (i := 7) (v := ?_) rfl (by kernel_rfl) (by kernel_rfl) (by kernel_rfl) (fun _ _ _ h => h) (Or.inl ⟨by kernel_rfl, ?_⟩) hHeld ?_
          rotate_left
          · intro W hSw
            clear hSw
            go_simp <;> with_reducible rfl
          simp only [Act.put, List.getElem_toArray, List.getElem_cons_zero, List.getElem_cons_succ, List.setIfInBounds_toArray, List.set_cons_zero, List.set_cons_succ]
          refine wpAnyH_take (i := 8) (v := ?_) rfl (by kernel_rfl) (by kernel_rfl) (by kernel_rfl) (fun _ _ _ h => h) (Or.inl ⟨by kernel_rfl, ?_⟩) hHeld ?_
          rotate_left
          · intro W hSw
            clear hSw
            go_simp <;> with_reducible rfl
          simp only [Act.put, List.getElem_toArray, List.getElem_cons_zero, List.getElem_cons_succ, List.setIfInBounds_toArray, List.set_cons_zero, List.set_cons_succ]
          refine wpAnyH_take (i := 9) (v := ?_) rfl (by kernel_rfl) (by kernel_rfl) (by kernel_rfl) (fun _ _ _ h => h) (Or.inl ⟨by kernel_rfl, ?_⟩) hHeld ?_
          rotate_left
          · intro W hSw
            clear hSw
            go_simp <;> with_reducible rfl
          simp only [Act.put, List.getElem_toArray, List.getElem_cons_zero, List.getElem_cons_succ, List.setIfInBounds_toArray, List.set_cons_zero, List.set_cons_succ]
          refine wpAnyH_take (i := 10) (v := ?_) rfl (by kernel_rfl) (by kernel_rfl) (by kernel_rfl) (fun _ _ _ h => h) (Or.inl ⟨by kernel_rfl, ?_⟩) hHeld ?_
          rotate_left
          · intro W hSw
            have hc := H0.out W hSw
            clear hSw
            go_simp <;> with_reducible rfl
          simp only [Act.put, List.getElem_toArray, List.getElem_cons_zero, List.getElem_cons_succ, List.setIfInBounds_toArray, List.set_cons_zero, List.set_cons_succ]
          refine wpAnyH_take (i := 11) (v := ?_) rfl (by kernel_rfl) (by kernel_rfl) (by kernel_rfl) (fun _ _ _ h => h) (Or.inl ⟨by kernel_rfl, ?_⟩) hHeld ?_
          rotate_left
          · intro W hSw
            clear hSw
            go_simp <;> with_reducible rfl
          simp only [Act.put, List.getElem_toArray, List.getElem_cons_zero, List.getElem_cons_succ, List.setIfInBounds_toArray, List.set_cons_zero, List.set_cons_succ]
          refine wpAnyH_take (i := 12) (v := ?_) rfl (by kernel_rfl) (by kernel_rfl) (by kernel_rfl) (fun _ _ _ h => h) (Or.inl ⟨by kernel_rfl, ?_⟩) hHeld ?_
          rotate_left
          · intro W hSw
            clear hSw
            go_simp <;> with_reducible rfl
          simp only [Act.put, List.getElem_toArray, List.getElem_cons_zero, List.getElem_cons_succ, List.setIfInBounds_toArray, List.set_cons_zero, List.set_cons_succ]
          refine wpAnyH_ready (rs := [13]) (by kernel_rfl) (by simp) ?_
          refine AllReadyH.cons rfl (fun K hK => ?_) AllReadyH.nil
          go_simp
          go_wp2_with (first | (go_at_call 40; refine HL.out.mono ?_; rintro e y ⟨rfl, hy1, hy2⟩))
          obtain ⟨HW2, HB2⟩ := HG2.out y ⟨rfl, hy1, hy2⟩
          clear hy1 hy2
          refine hK.out _ _ ?_ (fun hHeld => ?_)
          · exact HB2.out
          clear hK K
          try simp only [Act.put, List.getElem_toArray, List.getElem_cons_zero, List.getElem_cons_succ, List.setIfInBounds_toArray, List.set_cons_zero, List.set_cons_succ]
          refine wpAnyH_done (by kernel_rfl) ?_ _
          clear hHeld
          go_wp2
          go_roundw
          case rel => exact ⟨i + 1, by go_num, by omega, HW2, HB2⟩
          case measure => simp [intOf]; omega
      · have hlt2 : ¬ (i : Int) < 4 * (L : Int) := by omega
        have HF := hide (HE.out wr i HW.out HB.out (by omega))
        clear HW HB
        go_wp2
        go_end0
        exact ⟨rfl, HF.out⟩
end Go.Proofs.Yteacldkfdhhphaa
